import PyProof.Rows.All
import Wide.All
import OpenK.AllK
import Wide.FinOn
import Lean
import PyProof.EqAt
import PyProof.EqKinds
import PyProof.TupleCall
import KE.BitLaws
import KE.IntBitsLaws
import KE.KLam
import KE.KIntText
import PySem.Challenge.RW_overwise_k07_no_widths_no_words
set_option Elab.async false
set_option linter.all false
set_option maxRecDepth 100000
namespace L2
open PySem PySem.Spec PyProof.Rows
abbrev Key:=Sum Int Str
def keyIs:Key→Value→Bool
 | .inl k,v=>Value.isInt k v
 | .inr x,v=>Value.isStrOf x v
def keyH (w:World):Key→Int
 | .inl k=>hashInt k
 | .inr x=>hashStr w x
theorem keyIs_shape:∀ {k:Key} {v:Value},keyIs k v = true→(∃ i t,k = Sum.inl i∧v = Value.int i t)∨(∃ x t,k = Sum.inr x∧v = Value.str x t)
 | .inl i,v,h=>by
  obtain ⟨t,e⟩:=Value.isInt_shape (k:=i) (v:=v) h
  exact .inl ⟨i,t,rfl,e⟩
 | .inr x,v,h=>by
  obtain ⟨t,e⟩:=Value.isStrOf_shape (x:=x) (v:=v) h
  exact .inr ⟨x,t,rfl,e⟩
theorem keyIs_int (i:Int) (t:Tok):keyIs (.inl i) (.int i t) = true:=by simp [keyIs,Value.isInt]
theorem key_ll (a b:Int):decide ((Sum.inl a:Key) = Sum.inl b) = (a == b):=by
 by_cases e:a = b
 ·subst e; simp
 ·have h:¬ (Sum.inl a:Key) = Sum.inl b:=fun q=>e (Sum.inl.inj q)
  rw [decide_eq_false h]
  exact (beq_eq_false_iff_ne.mpr e).symm
theorem key_rr (a b:Str):decide ((Sum.inr a:Key) = Sum.inr b) = decide (a = b):=by
 by_cases e:a = b
 ·subst e; simp
 ·have h:¬ (Sum.inr a:Key) = Sum.inr b:=fun q=>e (Sum.inr.inj q)
  rw [decide_eq_false h,decide_eq_false e]
theorem key_lr (a:Int) (b:Str):decide ((Sum.inl a:Key) = Sum.inr b) = false:=decide_eq_false (fun q=>nomatch q)
theorem key_rl (a:Str) (b:Int):decide ((Sum.inr a:Key) = Sum.inl b) = false:=decide_eq_false (fun q=>nomatch q)
def mixKind (prog:Program) (w:World):PySem.KeyKind prog w Key where
 is:=keyIs
 hash:=keyH w
 inj:=fun v a b ha hb=>by
  rcases keyIs_shape ha with ⟨i,t,rfl,rfl⟩ | ⟨x,t,rfl,rfl⟩
  ·rcases keyIs_shape hb with ⟨j,u,rfl,e⟩ | ⟨y,u,rfl,e⟩
   ·injection e with e1 _; rw [e1]
   ·exact nomatch e
  ·rcases keyIs_shape hb with ⟨j,u,rfl,e⟩ | ⟨y,u,rfl,e⟩
   ·exact nomatch e
   ·injection e with e1 _; rw [e1]
 byValue:=fun k v h=>by
  rcases keyIs_shape h with ⟨i,t,rfl,rfl⟩ | ⟨x,t,rfl,rfl⟩ <;> rfl
 pyHash:=fun hv h=>by
  rcases keyIs_shape hv with ⟨i,t,rfl,rfl⟩ | ⟨x,t,rfl,rfl⟩
  ·exact wpAny_pyHash_int h
  ·exact wpAny_pyHash_str h
 eqBool:=fun hu hv h=>by
  rcases keyIs_shape hu with ⟨i,t,rfl,rfl⟩ | ⟨x,t,rfl,rfl⟩
  ·rcases keyIs_shape hv with ⟨j,u,rfl,rfl⟩ | ⟨y,u,rfl,rfl⟩
   ·rw [key_ll] at h; exact wpAny_eqBool_int h
   ·rw [key_lr] at h; exact SeqAt.EqAt.int_str i t y u _ _ _ _ h
  ·rcases keyIs_shape hv with ⟨j,u,rfl,rfl⟩ | ⟨y,u,rfl,rfl⟩
   ·rw [key_rl] at h; exact SeqAt.EqAt.str_int x t j u _ _ _ _ h
   ·rw [key_rr] at h; exact wpAny_eqBool_str h
 «strs»:=fun k x t v h=>by
  rcases keyIs_shape h with ⟨i,u,rfl,e⟩ | ⟨y,u,rfl,e⟩
  ·exact nomatch e
  ·injection e with e1 _
   subst e1
   cases v <;> rfl
theorem mixKind_int (prog:Program) (w:World) (i:Int) (t:Tok):(mixKind prog w).is (.inl i) (.int i t) = true:=keyIs_int i t
end L2
namespace L2
open PySem PySem.Spec PyProof.Rows
inductive V where
 | non | bl (b:Bool) | int (i:Int) | str (x:Str) | byt (b:Array UInt8) | flt (b:UInt64) | ref (a:Addr) | ty (n:String)
 deriving DecidableEq
def RelV:V→Value→Prop
 | .non,u=>u = Value.none
 | .bl b,u=>u = Value.bool b
 | .int i,u=>∃ t,u = Value.int i t
 | .str x,u=>∃ t,u = Value.str x t
 | .byt b,u=>∃ t,u = Value.bytes b t
 | .flt b,u=>∃ t,u = Value.float b t
 | .ref a,u=>u = Value.ref a
 | .ty n,u=>u = Value.type n
abbrev Vals:List V→List Value→Prop:=Paired RelV
theorem Vals.length {xs:List V} {us:List Value} (r:Vals xs us):xs.length = us.length:=Paired.length r
theorem Vals.get:∀ {xs:List V} {us:List Value} {i:Nat} {x:V},Vals xs us→xs[i]? = some x→∃ u,us[i]? = some u∧RelV x u
 | _,_,_,_,.nil,e=>by simp at e
 | _,_,0,_,.cons r _,e=>by simp at e; subst e; exact ⟨_,rfl,r⟩
 | _,_,i + 1,x,.cons _ t,e=>by
  obtain ⟨u,h1,h2⟩:=Vals.get (i:=i) (x:=x) t (by simpa using e)
  exact ⟨u,by simpa using h1,h2⟩
theorem Vals.set {x:V} {u:Value} (r:RelV x u):∀ {xs:List V} {us:List Value} (i:Nat),Vals xs us→Vals (xs.set i x) (us.set i u)
 | _,_,_,.nil=>.nil
 | _,_,0,.cons _ t=>.cons r t
 | _,_,i + 1,.cons q t=>.cons q (Vals.set r i t)
theorem Vals.append:∀ {xs ys:List V} {us ws:List Value},Vals xs us→Vals ys ws→Vals (xs ++ ys) (us ++ ws)
 | _,_,_,_,.nil,s=>s
 | _,_,_,_,.cons r t,s=>.cons r (Vals.append t s)
def RelO:Option V→Option Value→Prop
 | some v,some u=>RelV v u
 | none,none=>True
 | _,_=>False
def KV {κ:Type}:List (κ × V)→List (κ × Value)→Prop:=Paired fun (p:κ × V) (q:κ × Value)=>p.1 = q.1∧RelV p.2 q.2
def kV:Key→V
 | .inl i=>.int i
 | .inr x=>.str x
inductive HO where
 /-- a list -/
 | lst (xs:List V)
 /-- a tuple (never changes) -/
 | tup (xs:List V)
 /-- a dict whose keys are ints and texts; one whose keys are tuples of ints and texts (the empty one is both) -/
 | dK (kvs:List (Key × V)) | dT (kvs:List (List Key × V))
 /-- a set of ints: its members,its size -/
 | set (S:Int→Bool) (n:Nat)
 /-- an instance of the class at C,its dict at dx,its attributes -/
 | ins (C dx:Addr) (fs:List (Str × V))
 /-- the dict of the instance at x -/
 | own (x:Addr)
 /-- the dict of an exception -/
 | xd (fs:List (Str × V))
 /-- a bound method,f of x -/
 | met (f x:Addr)
 /-- a range object lo,lo + 1,.. below hi -/
 | rng (lo hi:Int)
 /-- a thing that is known to the object (the script; a dict while a loop walks it): read,never written while it is so -/
 | frz (o:Obj) (u:HO)
 /-- a code object's table -/
 | tbl (ps:Array Value)
 /-- any other thing,by what is true of its one object (a def of one's own: SetO a S n:=HO.ext fun h=>..) -/
 | ext (φ:Heap→Prop)
abbrev Hp:=Addr→Option HO
def upd (H:Hp) (a:Addr) (o:HO):Hp:=fun b=>if b = a then some o else H b
theorem upd_same {H:Hp} {a:Addr} {o:HO}:upd H a o a = some o:=by unfold upd; rw [if_pos rfl]
theorem upd_ne {H:Hp} {a b:Addr} {o:HO} (h:b ≠ a):upd H a o b = H b:=by unfold upd; rw [if_neg h]
theorem ne_of_none {H:Hp} {a b:Addr} {o:HO} (h:H a = some o) (h':H b = none):a ≠ b:=by
 intro e; subst e; rw [h] at h'; cases h'
section
variable (P:Program) (w:World)
def ObjOk (H:Hp) (h:Heap) (a:Addr):HO→Prop
 | .lst xs=>xs.length≤sizeLine∧∃ (its:List Value) (n:Nat),Vals xs its∧h.get? a = some { cls:=.type "list",data:=.seq its.toArray n }
 | .tup xs=>xs.length≤sizeLine∧∃ its:List Value,Vals xs its∧IsTup h a its.toArray
 | .dK kvs=>kvs.length≤sizeLine∧(a == sysModules) = false∧∃ vs,KV kvs vs∧h.DictOf (mixKind P w) a vs
 | .dT kvs=>kvs.length≤sizeLine∧(a == sysModules) = false∧∃ xs:List (List Key × Addr × Value),
   Paired (fun (p:List Key × V) (q:List Key × Addr × Value)=>p.1 = q.1∧H q.2.1 = some (.tup (p.1.map kV))∧RelV p.2 q.2.2) kvs xs ∧
   ∃ o es ep,h.get? a = some o∧o.ExactDict∧o.data = .dict es ep∧es.toList = xs.map (entryOfKey (tupleKind (mixKind P w)))∧(xs.map (·.1)).Nodup
 | .set S n=>h.SetOf (intKind P w) a S n
 | .ins C dx fs=>H dx = some (.own a)∧fs.length≤1000∧dx ≠ a∧h.get? a = some (PySem.W.instObj C dx) ∧
   ∃ mA,h.Ns1 dx mA∧(∀ f,RelO (fs.lookup f) (mA f))∧PySem.Within mA (fs.map (·.1))
 | .own _=>∃ o,h.get? a = some o
 | .xd fs=>∃ mA,h.Ns1 a mA∧∀ f,RelO (fs.lookup f) (mA f)
 | .rng lo hi=>∃ t u v,h.get? a = some { cls:=.type "range",data:=.fields #[.int lo t,.int hi u,.int 1 v] }
 | .frz o u=>h.get? a = some o∧ObjOk H h a u
 | .tbl ps=>h.get? a = some { cls:=.none,data:=.fields ps }
 | .met f x=>h.get? a = some (PySem.W.methodObj (.ref f) (.ref x))
 | .ext φ=>φ h∧(∃ o,h.get? a = some o)∧∀ h1 h2:Heap,φ h1→(∀ o,h1.get? a = some o→h2.get? a = some o)→φ h2
def HOk (H:Hp) (h:Heap):Prop:=∀ a o,H a = some o→ObjOk P w H h a o
end
section
variable {P:Program} {w:World} {H H':Hp} {h h':Heap} {a:Addr} {o:HO}
theorem ObjOk.lt (x:ObjOk P w H h a o):a < h.objs.size:=by
 cases o with
 | lst xs=>obtain ⟨_,_,_,_,e⟩:=x; exact Heap.lt_size e
 | tup xs=>obtain ⟨_,_,_,p⟩:=x; exact p.lt
 | dK kvs=>obtain ⟨_,_,_,_,o,_,_,e,_⟩:=x; exact Heap.lt_size e
 | dT kvs=>obtain ⟨_,_,_,_,o,_,_,e,_⟩:=x; exact Heap.lt_size e
 | set S n=>obtain ⟨o,_,_,_,e,_⟩:=x; exact Heap.lt_size e
 | ins C dx fs=>obtain ⟨_,_,_,e,_⟩:=x; exact Heap.lt_size e
 | own y=>obtain ⟨_,e⟩:=x; exact Heap.lt_size e
 | xd fs=>obtain ⟨_,⟨_,_,_,e,_⟩,_⟩:=x; exact Heap.lt_size e
 | rng lo hi=>obtain ⟨_,_,_,e⟩:=x; exact Heap.lt_size e
 | frz ob u=>obtain ⟨e,_⟩:=x; exact Heap.lt_size e
 | tbl ps=>exact Heap.lt_size (show h.get? a = some _ from x)
 | met f y=>exact Heap.lt_size (show h.get? a = some _ from x)
 | ext φ=>obtain ⟨_,⟨_,e⟩,_⟩:=x; exact Heap.lt_size e
theorem Paired.mapP {α β:Type} {F G:α→β→Prop}:∀ {l₁:List α} {l₂:List β},Paired F l₁ l₂→(∀ a b,F a b→G a b)→Paired G l₁ l₂
 | _,_,.nil,_=>.nil
 | _,_,.cons r t,f=>.cons (f _ _ r) (Paired.mapP t f)
theorem ObjOk.stay (x:ObjOk P w H h a o) (k:∀ b u,(b = a∨H b = some (.own a))→h.get? b = some u→h'.get? b = some u)
  (ho:∀ b,H b = some (.own a)→H' b = some (.own a)) (ht:∀ b xs,H b = some (.tup xs)→H' b = some (.tup xs)):ObjOk P w H' h' a o:=by
 induction o with
 | lst xs=>obtain ⟨z,its,n,r,e⟩:=x; exact ⟨z,its,n,r,k _ _ (.inl rfl) e⟩
 | tup xs=>obtain ⟨z,its,r,ob,e,c⟩:=x; exact ⟨z,its,r,ob,k _ _ (.inl rfl) e,c⟩
 | dK kvs=>obtain ⟨z,y,vs,r,ob,es,ep,e,c⟩:=x; exact ⟨z,y,vs,r,ob,es,ep,k _ _ (.inl rfl) e,c⟩
 | dT kvs =>
  obtain ⟨z,y,xs,r,ob,es,ep,e,c⟩:=x
  exact ⟨z,y,xs,Paired.mapP r fun p q z=>⟨z.1,ht _ _ z.2.1,z.2.2⟩,ob,es,ep,k _ _ (.inl rfl) e,c⟩
 | set S n=>obtain ⟨ob,es,ep,t,e,c⟩:=x; exact ⟨ob,es,ep,t,k _ _ (.inl rfl) e,c⟩
 | ins C dx fs =>
  obtain ⟨d,z,ne,e,mA,⟨od,es,ep,e2,c⟩,r⟩:=x
  exact ⟨ho _ d,z,ne,k _ _ (.inl rfl) e,mA,⟨od,es,ep,k _ _ (.inr d) e2,c⟩,r⟩
 | own y=>obtain ⟨ob,e⟩:=x; exact ⟨ob,k _ _ (.inl rfl) e⟩
 | xd fs=>obtain ⟨mA,⟨od,es,ep,e,c⟩,r⟩:=x; exact ⟨mA,⟨od,es,ep,k _ _ (.inl rfl) e,c⟩,r⟩
 | rng lo hi=>obtain ⟨t,u,v,e⟩:=x; exact ⟨t,u,v,k _ _ (.inl rfl) e⟩
 | frz ob u ih=>obtain ⟨e,q⟩:=x; exact ⟨k _ _ (.inl rfl) e,ih q⟩
 | tbl ps =>
  have e:h.get? a = some { cls:=.none,data:=.fields ps }:=x
  show h'.get? a = some { cls:=.none,data:=.fields ps }
  exact k a _ (.inl rfl) e
 | met f y =>
  have e:h.get? a = some (PySem.W.methodObj (.ref f) (.ref y)):=x
  show h'.get? a = some (PySem.W.methodObj (.ref f) (.ref y))
  exact k a _ (.inl rfl) e
 | ext φ=>obtain ⟨p,⟨o,e⟩,st⟩:=x; exact ⟨st _ _ p fun o q=>k _ _ (.inl rfl) q,⟨o,k _ _ (.inl rfl) e⟩,st⟩
theorem HOk.lt (x:HOk P w H h) (e:H a = some o):a < h.objs.size:=(x a o e).lt
theorem HOk.fresh (x:HOk P w H h) (e:h.objs.size≤a):H a = none:=by
 cases q:H a with
 | none=>rfl
 | some u=>exact absurd (Nat.lt_of_lt_of_le (x.lt q) e) (Nat.lt_irrefl _)
theorem HOk.kept (x:HOk P w H h) (k:∀ b u,h.get? b = some u→h'.get? b = some u):HOk P w H h':=fun a o e =>
 (x a o e).stay (fun b u _ q=>k b u q) (fun _ q=>q) fun _ _ q=>q
theorem HOk.laid (x:HOk P w H h) (k:∀ b u,h.get? b = some u→h'.get? b = some u) (hp:h.objs.size≤a) (new:ObjOk P w (upd H a o) h' a o):HOk P w (upd H a o) h':=fun b u e=>by
 have hn:=x.fresh hp
 by_cases hb:b = a
 ·subst hb; rw [upd_same] at e; cases e; exact new
 ·rw [upd_ne hb] at e
  exact (x b u e).stay (fun c v _ q=>k c v q) (fun c q=>by rw [upd_ne (ne_of_none q hn)]; exact q) fun c xs q=>by rw [upd_ne (ne_of_none q hn)]; exact q
end
def Rd (H:Hp) (a:Addr) (u:HO):Prop:=H a = some u∨∃ o,H a = some (.frz o u)
theorem Rd.ok {P:Program} {w:World} {H:Hp} {h:Heap} {a:Addr} {u:HO} (r:Rd H a u) (x:HOk P w H h):ObjOk P w H h a u:=by
 rcases r with r | ⟨o,r⟩
 ·exact x a u r
 ·obtain ⟨_,q⟩:=x a _ r
  exact q
def Mut:Option HO→Prop
 | some (.lst _)=>True
 | some (.dK _)=>True
 | some (.dT _)=>True
 | some (.set _ _)=>True
 | some (.ins _ _ _)=>True
 | some (.ext _)=>True
 | _=>False
section
variable {P:Program} {w:World} {H:Hp} {h h':Heap} {x e:Addr} {o':HO}
theorem HOk.write (ok:HOk P w H h) (mu:Mut (H x)) (he:e = x∨H e = some (.own x)) (k:∀ b u,b ≠ e→h.get? b = some u→h'.get? b = some u) (heo:∃ u,h'.get? e = some u)
  (new:ObjOk P w (upd H x o') h' x o'):HOk P w (upd H x o') h':=fun b u q=>by
 have nown:∀ c y,H c = some (.own y)→c ≠ x:=fun c y r z=>by subst z; rw [r] at mu; exact mu
 have ntup:∀ c xs,H c = some (.tup xs)→c ≠ x:=fun c xs r z=>by subst z; rw [r] at mu; exact mu
 by_cases hb:b = x
 ·subst hb; rw [upd_same] at q; cases q; exact new
 ·rw [upd_ne hb] at q
  by_cases hbe:b = e
  ·have q':H b = some (.own x):=by
    rcases he with z | z
    ·exact absurd (hbe.trans z) hb
    ·rw [hbe]; exact z
   rw [q] at q'; cases q'
   obtain ⟨v,hv⟩:=heo
   exact ⟨v,by rw [hbe]; exact hv⟩
  ·refine (ok b u q).stay (fun c v hc r=>k c v ?_ r) (fun c r=>by rw [upd_ne (nown c b r)]; exact r) fun c xs r=>by rw [upd_ne (ntup c xs r)]; exact r
   rcases hc with rfl | hc
   ·exact hbe
   ·rintro rfl
    rcases he with z | z
    ·exact nown c b hc z
    ·rw [hc] at z; cases z; exact hb rfl
end
structure Un (fs ex:List Addr) (H H':Hp) (h h':Heap):Prop where
 keep:∀ b o,h.get? b = some o→H b = none→b ∉ fs→b ∉ ex→h'.get? b = some o
 slot:∀ b o,h.get? b = some o→H b = none→b ∈ fs→b ∉ ex→∃ sl,h'.get? b = some { o with slots:=sl }
 free:∀ b o,h.get? b = some o→H b = none→b ∉ ex→H' b = none
 there:∀ b o,h.get? b = some o→b ∉ ex→∃ o',h'.get? b = some o'
 tups:∀ b xs,H b = some (.tup xs)→H' b = some (.tup xs)
 frzs:∀ b o u,H b = some (.frz o u)→H' b = some (.frz o u)
 tbls:∀ b ps,H b = some (.tbl ps)→∃ more,H' b = some (.tbl (ps ++ more))
section
variable {fs fs' ex ex':List Addr} {H H1 H2:Hp} {h h1 h2 h':Heap} {a x e:Addr} {o:HO}
theorem Un.any (u:Un fs ex H H1 h h1) {b:Addr} {ob:Obj} (q:h.get? b = some ob) (n:H b = none) (hx:b ∉ ex):∃ sl,h1.get? b = some { ob with slots:=sl }:=by
 by_cases hb:b ∈ fs
 ·exact u.slot b ob q n hb hx
 ·exact ⟨ob.slots,u.keep b ob q n hb hx⟩
theorem Un.kept (k:∀ b u,h.get? b = some u→h'.get? b = some u):Un fs ex H H h h' :=
 ⟨fun b ob q _ _ _=>k b ob q,fun b ob q _ _ _=>⟨ob.slots,k b ob q⟩,fun _ _ _ n _=>n,fun b ob q _=>⟨ob,k b ob q⟩,fun _ _ q=>q,fun _ _ _ q=>q,fun _ ps q=>⟨#[],by rw [q]; simp⟩⟩
theorem Un.refl:Un fs ex H H h h:=Un.kept fun _ _ q=>q
theorem Un.laid (k:∀ b u,h.get? b = some u→h'.get? b = some u) (hp:h.objs.size≤a) (hn:H a = none):Un fs ex H (upd H a o) h h' where
 keep:=fun b u q _ _ _=>k b u q
 slot:=fun b u q _ _ _=>⟨u.slots,k b u q⟩
 free:=fun b u q n _=>by rw [upd_ne (Nat.ne_of_lt (Nat.lt_of_lt_of_le (Heap.lt_size q) hp))]; exact n
 there:=fun b u q _=>⟨u,k b u q⟩
 tups:=fun b xs q=>by rw [upd_ne (ne_of_none q hn)]; exact q
 frzs:=fun b u xs q=>by rw [upd_ne (ne_of_none q hn)]; exact q
 tbls:=fun b ps q=>⟨#[],by rw [upd_ne (ne_of_none q hn),q]; simp⟩
theorem Un.write (mu:Mut (H x)) (he:e = x∨H e = some (.own x)) (k:∀ b u,b ≠ e→h.get? b = some u→h'.get? b = some u) (heo:∃ u,h'.get? e = some u):Un fs ex H (upd H x o) h h':=by
 have hx:∀ b,H b = none→b ≠ x:=fun b n z=>by subst z; rw [n] at mu; exact mu
 have hb:∀ b,H b = none→b ≠ e:=fun b n z=>by
  subst z
  rcases he with r | r
  ·exact hx b n r
  ·rw [n] at r; cases r
 have hm:∀ b u,H b = some u→¬ Mut (some u)→b ≠ x:=fun b u q nm z=>by subst z; rw [q] at mu; exact nm mu
 refine ⟨fun b u q n _ _=>k b u (hb b n) q,fun b u q n _ _=>⟨u.slots,k b u (hb b n) q⟩,fun b u q n _=>by rw [upd_ne (hx b n)]; exact n,fun b u q _=>?_,
  fun b xs q=>by rw [upd_ne (hm b _ q fun z=>z)]; exact q,fun b u xs q=>by rw [upd_ne (hm b _ q fun z=>z)]; exact q,fun b ps q=>⟨#[],by rw [upd_ne (hm b _ q fun z=>z),q]; simp⟩⟩
 by_cases hbe:b = e
 ·subst hbe; exact heo
 ·exact ⟨u,k b u hbe q⟩
end
def trk (h:Heap) (H:Hp):List Addr:=(List.range h.objs.size).filter fun a=>(H a).isSome
def hidT (h:Heap) (H:Hp):Heap:=PySem.W.hideAll h (trk h H)
theorem hidT_size (h:Heap) (H:Hp):(hidT h H).objs.size = h.objs.size:=PySem.W.hideAll_size _ _
theorem hidT_get {h:Heap} {H:Hp} {b:Addr} {o:Obj} (e:h.get? b = some o) (n:H b = none):(hidT h H).get? b = some o :=
 PySem.W.hideAll_get _ e fun hm=>by
  have q:(H b).isSome = true:=(List.mem_filter.mp hm).2
  rw [n] at q; simp at q
theorem of_hidT {h:Heap} {H:Hp} {b:Addr} {o:Obj} (e:(hidT h H).get? b = some o):h.get? b = some o∧H b = none:=by
 have e':h.get? b = some o:=PySem.W.of_hideAll (trk h H) e
 refine ⟨e',?_⟩
 cases q:H b with
 | none=>rfl
 | some x =>
  have hm:b ∈ trk h H:=List.mem_filter.mpr ⟨List.mem_range.mpr (Heap.lt_size e'),by simp [q]⟩
  have z:(hidT h H).get? b = none:=PySem.W.hideAll_none (trk h H) hm
  rw [z] at e; cases e
end L2
namespace L2
open PySem PySem.Spec PyProof.Rows
structure Mod (K:PySem.W.Frag) (mg:Str→Option Value) (base:Heap):Prop where
 kin:K.In base
 glob:base.Ns mainGlobals mg
 blt:∃ mb,base.Ns builtinsNs mb∧∀ x:Str,x ≠ "__name__"→mb x = bootBuiltins x
 nolimit:base.NoLimit
structure Cx where
 prog:Program
 w:World
 K:PySem.W.Frag
 mg:Str→Option Value
 base:Heap
 A:Around
 N:List Str
 s₀:Shared
 H₀:Hp
 env:Env
 outer:List Env
 stack:List Env
 ex:List Addr
 fn:Str→Bool
 calm:Bool
 pn:List (Addr × Obj)
 xe:Value→Shared→Prop
def frs (l:List Env):List Addr:=l.filterMap (·.frame)
abbrev Cx.fs (X:Cx):List Addr:=frs X.outer
def Vis (sc:Scope) (x:Str):Prop:=sc.names.lookup x = some .local∨sc.names.lookup x = some .cell∨sc.names.lookup x = some .free
def Loc (sc:Scope) (x:Str):Prop:=sc.names.lookup x = some .local∨sc.names.lookup x = some .cell
def Look (env:Env) (h:Heap) (m:Str→Option Value) (x:Str) (u:Value):Prop :=
 (env.kindOf x = some .local∧m x = some u)∨((env.kindOf x = some .cell∨env.kindOf x = some .free)∧∃ c,env.cells.lookup x = some c∧h.IsCell c (some u))
structure Cx.Ok (X:Cx):Prop where
 mod:Mod X.K X.mg X.base
 kind:X.env.scope.kind = .function
 glob:X.env.globals = mainGlobals
 blt:X.env.builtins = builtinsNs
 above:X.s₀.heap.objs.size≤X.env.locals
 inj:∀ x y c,X.env.cells.lookup x = some c→X.env.cells.lookup y = some c→x = y
 has:∀ x,(X.env.kindOf x = some .cell∨X.env.kindOf x = some .free)→∃ c,X.env.cells.lookup x = some c
 cab:∀ x c,X.fn x = true→X.env.cells.lookup x = some c→X.s₀.heap.objs.size≤c
 hd:X.calm = true→X.A.handled = none
 frames:X.A.frames = some X.stack
 stk:X.stack = X.outer∨(X.stack = X.env :: X.outer∧X.env.frame = some X.env.locals)
 exf:∀ b ∈ X.ex,b ≠ X.env.locals∧∀ x c,X.env.cells.lookup x = some c→c ≠ b
 bs:∀ b o,X.base.get? b = some o→X.s₀.heap.get? b = some o∧X.H₀ b = none
 bsz:X.base.objs.size≤X.s₀.heap.objs.size
 noex:∀ b o,X.base.get? b = some o→b ∉ X.ex
 exfs:∀ b ∈ X.ex,b ∉ X.fs
 funs:X.s₀.heap.FunFrames X.base X.outer
 frf:∀ b ∈ X.fs,X.H₀ b = none
structure Inv (X:Cx) (pins:List (Addr × Obj)) (σ:List (Option V)) (H:Hp) (s:Shared):Prop where
 ok:X.Ok
 os:s.os = X.s₀.os
 bare:AllBare s.gens
 base:Un X.fs X.ex X.H₀ H X.s₀.heap s.heap
 loc:∃ m,s.heap.Ns X.env.locals m∧∀ (i:Nat) (x:Str) (v:V),X.N[i]? = some x→σ[i]? = some (some v)→Vis X.env.scope x→∃ u,RelV v u∧Look X.env s.heap m x u
 cell:∀ x c,X.env.cells.lookup x = some c→∃ v,s.heap.IsCell c v
 free:H X.env.locals = none
 freeC:∀ x c,X.env.cells.lookup x = some c→H c = none
 pin:∀ p ∈ X.pn ++ pins,s.heap.get? p.1 = some p.2∧H p.1 = none∧p.1 ≠ X.env.locals∧p.1 ∉ X.fs∧∀ v,p.2.data ≠ .cell v
 hok:HOk X.prog X.w H s.heap
 len:σ.length = X.N.length
section
variable {X:Cx} {pins:List (Addr × Obj)} {σ:List (Option V)} {H H':Hp} {s:Shared} {h':Heap}
theorem Cx.Ok.nofr (ok:X.Ok) {b:Addr} {o:Obj} (e:X.base.get? b = some o):b ∉ X.fs:=fun hb=>by
 have:=(ok.funs.mem hb).1
 rw [e] at this; cases this
theorem Inv.bs (I:Inv X pins σ H s):∀ b o,X.base.get? b = some o→s.heap.get? b = some o∧H b = none:=fun b o e =>
 ⟨I.base.keep b o (I.ok.bs b o e).1 (I.ok.bs b o e).2 (I.ok.nofr e) (I.ok.noex b o e),I.base.free b o (I.ok.bs b o e).1 (I.ok.bs b o e).2 (I.ok.noex b o e)⟩
theorem Inv.bk (I:Inv X pins σ H s):∀ b o,X.base.get? b = some o→s.heap.get? b = some o:=fun b o e=>(I.bs b o e).1
theorem Inv.mod (I:Inv X pins σ H s):Mod X.K X.mg X.base:=I.ok.mod
theorem Inv.kIn (I:Inv X pins σ H s):X.K.In s.heap:=I.ok.mod.kin.keeps I.bk
theorem Inv.nolimit (I:Inv X pins σ H s):s.heap.NoLimit:=I.ok.mod.nolimit.keeps I.bk
theorem Inv.lt (I:Inv X pins σ H s):X.env.locals < s.heap.objs.size:=let ⟨_,hn,_⟩:=I.loc; hn.lt
theorem Inv.sz (I:Inv X pins σ H s):X.s₀.heap.objs.size≤s.heap.objs.size:=Nat.le_trans I.ok.above (Nat.le_of_lt I.lt)
theorem Inv.nofs (I:Inv X pins σ H s) {a:Addr} (h:s.heap.objs.size≤a):a ∉ X.fs:=fun hb=>by
 obtain ⟨_,o,ho,_⟩:=I.ok.funs.mem hb
 exact absurd (Nat.lt_of_lt_of_le (Heap.lt_size ho) (Nat.le_trans I.sz h)) (Nat.lt_irrefl _)
theorem Inv.cne (I:Inv X pins σ H s):∀ x c,X.env.cells.lookup x = some c→c ≠ X.env.locals:=fun x c e z=>by
 obtain ⟨v,o,ho,hd⟩:=I.cell x c e
 obtain ⟨m,⟨o',es,ep,ho',hd',_⟩,_⟩:=I.loc
 rw [z,ho'] at ho; cases ho; rw [hd'] at hd; cases hd
theorem Inv.funs (I:Inv X pins σ H s):s.heap.FunFrames X.base X.outer:=by
 have all:∀ (l:List Env),(∀ b ∈ frs l,b ∈ X.fs)→X.s₀.heap.FunFrames X.base l→s.heap.FunFrames X.base l:=by
  intro l
  induction l with
  | nil=>intro _ _; trivial
  | cons env r ih =>
   intro hs hl
   obtain ⟨hk,⟨L,o,hf,hn,ho,hd⟩,hr⟩:=hl
   have hL:L ∈ X.fs:=hs L (by unfold frs; rw [List.filterMap_cons,hf]; exact List.mem_cons_self)
   obtain ⟨sl,e⟩:=I.base.slot L o ho (I.ok.frf L hL) hL fun z=>I.ok.exfs L z hL
   exact ⟨hk,⟨L,_,hf,hn,e,hd⟩,ih (fun b hb=>hs b (by unfold frs; rw [List.filterMap_cons,hf]; exact List.mem_cons_of_mem _ hb)) hr⟩
 exact all X.outer (fun _ hb=>hb) I.ok.funs
theorem Inv.stack (I:Inv X pins σ H s):s.heap.FunFrames X.base X.stack:=by
 rcases I.ok.stk with e | ⟨e,hf⟩
 ·rw [e]; exact I.funs
 ·rw [e]
  obtain ⟨m,hn,_⟩:=I.loc
  refine .cons (by rw [I.ok.kind]; decide) hf hn ?_ I.funs
  exact Heap.get?_none_of_le (Nat.le_trans I.ok.bsz I.ok.above)
theorem Inv.stkSub (I:Inv X pins σ H s):∀ b ∈ frs X.stack,b ∈ X.env.locals :: X.fs:=fun b hb=>by
 rcases I.ok.stk with e | ⟨e,hf⟩
 ·rw [e] at hb; exact List.mem_cons_of_mem _ hb
 ·rw [e] at hb
  unfold frs at hb
  rw [List.filterMap_cons,hf] at hb
  exact hb
theorem Inv.stkFree (I:Inv X pins σ H s):∀ b ∈ frs X.stack,H b = none:=fun b hb=>by
 rcases List.mem_cons.mp (I.stkSub b hb) with e | hb
 ·rw [e]; exact I.free
 ·obtain ⟨_,o,ho,_⟩:=I.ok.funs.mem hb
  exact I.base.free b o ho (I.ok.frf b hb) fun z=>I.ok.exfs b z hb
theorem Inv.step {g':Array GenState} {t':Nat} {d':Drawn} {ch:List Addr} (I:Inv X pins σ H s)
  (hch:∀ b ∈ ch,(b ∈ X.ex∨X.s₀.heap.objs.size≤b)∧b ≠ X.env.locals∧(∀ x c,X.env.cells.lookup x = some c→c ≠ b)∧∀ p ∈ X.pn ++ pins,p.1 ≠ b)
  (keep:∀ b o,b ≠ X.env.locals→b ∉ X.fs→b ∉ ch→s.heap.get? b = some o→H b = none→h'.get? b = some o)
  (slot:∀ b o,b ≠ X.env.locals→b ∈ X.fs→b ∉ ch→s.heap.get? b = some o→H b = none→∃ sl,h'.get? b = some { o with slots:=sl }) (free:∀ b o,b ∉ ch→s.heap.get? b = some o→H b = none→H' b = none)
  (there:∀ b o,b ∉ ch→s.heap.get? b = some o→∃ o',h'.get? b = some o')
  (tups:∀ b xs,H b = some (.tup xs)→H' b = some (.tup xs)) (frzs:∀ b o u,H b = some (.frz o u)→H' b = some (.frz o u)) (tbls:∀ b ps,H b = some (.tbl ps)→∃ more,H' b = some (.tbl (ps ++ more)))
  (ns:∀ m,s.heap.Ns X.env.locals m→h'.Ns X.env.locals m) (hok:HOk X.prog X.w H' h') (hg:AllBare g') :
  Inv X pins σ H' { s with heap:=h',gens:=g',drawn:=d',toks:=t' }:=by
 have neL:∀ b o,X.s₀.heap.get? b = some o→b ≠ X.env.locals:=fun b o e=>Nat.ne_of_lt (Nat.lt_of_lt_of_le (Heap.lt_size e) I.ok.above)
 have neC:∀ b o,X.s₀.heap.get? b = some o→b ∉ X.ex→b ∉ ch:=fun b o e hx hb=>by
  rcases (hch b hb).1 with z | z
  ·exact hx z
  ·exact absurd (Nat.lt_of_lt_of_le (Heap.lt_size e) z) (Nat.lt_irrefl _)
 have cellK:∀ x c,X.env.cells.lookup x = some c→∀ v,s.heap.IsCell c v→h'.IsCell c v:=fun x c e v ⟨o,ho,hd⟩=>by
  have nch:c ∉ ch:=fun z=>(hch c z).2.2.1 x c e rfl
  by_cases hc:c ∈ X.fs
  ·obtain ⟨sl,q⟩:=slot c o (I.cne x c e) hc nch ho (I.freeC x c e)
   exact ⟨_,q,hd⟩
  ·exact ⟨o,keep c o (I.cne x c e) hc nch ho (I.freeC x c e),hd⟩
 refine ⟨I.ok,I.os,hg,⟨fun b o e n hb hx=>?_,fun b o e n hb hx=>?_,fun b o e n hx=>?_,fun b o e hx=>?_,fun b xs e=>tups b xs (I.base.tups b xs e),fun b o xs e=>frzs b o xs (I.base.frzs b o xs e),fun b ps e=>?_⟩,?_,fun x c e=>?_,?_,fun x c e=>?_,fun p hp=>?_,hok,I.len⟩
 ·exact keep b o (neL b o e) hb (neC b o e hx) (I.base.keep b o e n hb hx) (I.base.free b o e n hx)
 ·obtain ⟨sl,e1⟩:=I.base.slot b o e n hb hx
  obtain ⟨sl',e2⟩:=slot b _ (neL b o e) hb (neC b o e hx) e1 (I.base.free b o e n hx)
  exact ⟨sl',e2⟩
 ·obtain ⟨o',e1⟩:=I.base.there b o e hx
  exact free b o' (neC b o e hx) e1 (I.base.free b o e n hx)
 ·obtain ⟨o',e1⟩:=I.base.there b o e hx
  exact there b o' (neC b o e hx) e1
 ·obtain ⟨m1,e1⟩:=I.base.tbls b ps e
  obtain ⟨m2,e2⟩:=tbls b _ e1
  exact ⟨m1 ++ m2,by rw [e2,Array.append_assoc]⟩
 ·obtain ⟨m,hn,hl⟩:=I.loc
  refine ⟨m,ns m hn,fun i x v e1 e2 e3=>?_⟩
  obtain ⟨u,r,l⟩:=hl i x v e1 e2 e3
  refine ⟨u,r,?_⟩
  rcases l with l | ⟨k,c,e,z⟩
  ·exact .inl l
  ·exact .inr ⟨k,c,e,cellK x c e _ z⟩
 ·obtain ⟨v,z⟩:=I.cell x c e
  exact ⟨v,cellK x c e v z⟩
 ·obtain ⟨m,⟨o,_,_,ho,_⟩,_⟩:=I.loc
  exact free _ o (fun z=>(hch _ z).2.1 rfl) ho I.free
 ·obtain ⟨v,o,ho,hd⟩:=I.cell x c e
  exact free c o (fun z=>(hch c z).2.2.1 x c e rfl) ho (I.freeC x c e)
 ·obtain ⟨e,n,ne,nf,d⟩:=I.pin p hp
  have nch:p.1 ∉ ch:=fun z=>(hch p.1 z).2.2.2 p hp rfl
  exact ⟨keep p.1 p.2 ne nf nch e n,free p.1 p.2 nch e n,ne,nf,d⟩
theorem Inv.un {t':Nat} (I:Inv X pins σ H s) (u:Un X.fs [] H H' s.heap h') (hok:HOk X.prog X.w H' h'):Inv X pins σ H' { s with heap:=h',toks:=t' }:=by
 obtain ⟨m,⟨o,es,ep,ho,r⟩,_⟩:=id I.loc
 obtain ⟨sl,hL⟩:=u.any ho I.free (by simp)
 exact I.step (g':=s.gens) (d':=s.drawn) (ch:=[]) (fun _ z=>nomatch z) (fun b o _ hb _ e n=>u.keep b o e n hb (by simp)) (fun b o _ hb _ e n=>u.slot b o e n hb (by simp)) (fun b o _ e n=>u.free b o e n (by simp)) (fun b o _ e=>u.there b o e (by simp)) u.tups u.frzs u.tbls (fun m' hm=>by
  obtain ⟨o',es',ep',ho',r'⟩:=hm
  rw [ho] at ho'; cases ho'
  exact ⟨_,es',ep',hL,r'⟩) hok I.bare
theorem Inv.call {g':Array GenState} {t':Nat} {d':Drawn} {ch:List Addr} (I:Inv X pins σ H s) (u:Un (frs X.stack) ch H H' s.heap h') (hok:HOk X.prog X.w H' h') (hg:AllBare g')
  (hch:∀ b ∈ ch,(b ∈ X.ex∨X.s₀.heap.objs.size≤b)∧b ≠ X.env.locals∧(∀ x c,X.env.cells.lookup x = some c→c ≠ b)∧∀ p ∈ X.pn ++ pins,p.1 ≠ b) :
  Inv X pins σ H' { s with heap:=h',gens:=g',drawn:=d',toks:=t' }:=by
 obtain ⟨m,⟨o,es,ep,ho,r⟩,_⟩:=id I.loc
 obtain ⟨sl,hL⟩:=u.any ho I.free fun z=>(hch _ z).2.1 rfl
 exact I.step (ch:=ch) hch (fun b o hL hb hc e n=>u.keep b o e n (fun z=>(List.mem_cons.mp (I.stkSub b z)).elim hL hb) hc) (fun b o _ _ hc e n=>u.any e n hc) (fun b o hc e n=>u.free b o e n hc) (fun b o hc e=>u.there b o e hc) u.tups u.frzs u.tbls (fun m' hm=>by
  obtain ⟨o',es',ep',ho',r'⟩:=hm
  rw [ho] at ho'; cases ho'
  exact ⟨_,es',ep',hL,r'⟩) hok hg
theorem Inv.turned {t':Nat} {it:Addr} (I:Inv X pins σ H s) (k:∀ b o,b ≠ it→s.heap.get? b = some o→h'.get? b = some o) (hn:H it = none) (hL:it ≠ X.env.locals)
  (h1:it ∈ X.ex∨X.s₀.heap.objs.size≤it) (h2:∀ x c,X.env.cells.lookup x = some c→c ≠ it) (h3:∀ p ∈ X.pn ++ pins,p.1 ≠ it):Inv X pins σ H { s with heap:=h',toks:=t' }:=by
 have nit:∀ b u,H b = some u→b ≠ it:=fun b u e z=>by rw [z,hn] at e; cases e
 refine I.step (g':=s.gens) (d':=s.drawn) (ch:=[it]) (fun b hb=>?_) (fun b o _ _ hc e _=>k b o (fun z=>hc (by simp [z])) e) (fun b o _ _ hc e _=>⟨o.slots,k b o (fun z=>hc (by simp [z])) e⟩) (fun _ _ _ _ n=>n)
  (fun b o hc e=>⟨o,k b o (fun z=>hc (by simp [z])) e⟩) (fun _ _ e=>e) (fun _ _ _ e=>e) (fun b ps e=>⟨#[],by rw [e]; simp⟩) (fun m hm=>?_) (fun b u e=>?_) I.bare
 ·have e:b = it:=by simpa using hb
  subst e
  exact ⟨h1,hL,h2,h3⟩
 ·obtain ⟨o,es,ep,ho,r⟩:=hm
  exact ⟨o,es,ep,k _ o (Ne.symm hL) ho,r⟩
 ·refine (I.hok b u e).stay (fun c v hc q=>k c v ?_ q) (fun _ q=>q) fun _ _ q=>q
  rcases hc with z | z
  ·rw [z]; exact nit b u e
  ·exact nit c _ z
theorem Inv.tok (I:Inv X pins σ H s) (t:Nat):Inv X pins σ H { s with toks:=t }:=I.un (h':=s.heap) (t':=t) Un.refl I.hok
theorem Inv.kept {t':Nat} (I:Inv X pins σ H s) (k:∀ b u,s.heap.get? b = some u→h'.get? b = some u):Inv X pins σ H { s with heap:=h',toks:=t' }:=I.un (Un.kept k) (I.hok.kept k)
theorem Inv.laid {a:Addr} {o:HO} {t':Nat} (I:Inv X pins σ H s) (k:∀ b u,s.heap.get? b = some u→h'.get? b = some u) (hp:s.heap.objs.size≤a) (new:ObjOk X.prog X.w (upd H a o) h' a o) :
  Inv X pins σ (upd H a o) { s with heap:=h',toks:=t' }:=I.un (Un.laid k hp (I.hok.fresh hp)) (I.hok.laid k hp new)
theorem Inv.write {x e:Addr} {o:HO} {t':Nat} (I:Inv X pins σ H s) (mu:Mut (H x)) (he:e = x∨H e = some (.own x)) (k:∀ b u,b ≠ e→s.heap.get? b = some u→h'.get? b = some u) (heo:∃ u,h'.get? e = some u)
  (new:ObjOk X.prog X.w (upd H x o) h' x o):Inv X pins σ (upd H x o) { s with heap:=h',toks:=t' }:=I.un (Un.write mu he k heo) (I.hok.write mu he k heo new)
theorem Inv.pins_of {pins':List (Addr × Obj)} (I:Inv X pins σ H s) (h:∀ p ∈ pins',s.heap.get? p.1 = some p.2∧H p.1 = none∧p.1 ≠ X.env.locals∧p.1 ∉ X.fs∧∀ v,p.2.data ≠ .cell v):Inv X pins' σ H s :=
 ⟨I.ok,I.os,I.bare,I.base,I.loc,I.cell,I.free,I.freeC,fun p hp=>(List.mem_append.mp hp).elim (fun z=>I.pin p (List.mem_append_left _ z)) (h p),I.hok,I.len⟩
theorem nodup_ix {N:List Str} (hN:N.Nodup) {i j:Nat} {x:Str} (a:N[i]? = some x) (b:N[j]? = some x):i = j:=by
 obtain ⟨h1,e1⟩:=List.getElem?_eq_some_iff.mp a
 obtain ⟨h2,e2⟩:=List.getElem?_eq_some_iff.mp b
 exact (List.getElem_inj hN).mp (e1.trans e2.symm)
theorem store_ok2 {M:Model} {A:Around} {E:Value→Shared→Prop} {i:Nat} {x:Str} {v:V} {u:Value} {Q:Unit→Shared→Prop} (I:Inv X pins σ H s) (hN:X.N.Nodup) (hi:X.N[i]? = some x) (hx:Loc X.env.scope x) (r:RelV v u)
  (h:∀ s',Inv X pins (σ.set i (some v)) H s'→(∃ a,Heap.SameBut a s.heap s'.heap∧(a = X.env.locals∨X.env.cells.lookup x = some a))→Q () s') (hf:X.fn x = true∨X.env.scope.names.lookup x = some .local:=by first | exact .inl rfl | exact .inr rfl | assumption):wpAny M A (storeName X.env x u) Q E s:=by
 obtain ⟨m,hn,hl⟩:=id I.loc
 have hcls:(X.env.scope.kind == .class || (X.env.scope.kind == .module && X.env.locals != X.env.globals)) = false:=by rw [I.ok.kind]; rfl
 have hiσ:i < σ.length:=by rw [I.len]; exact (List.getElem?_eq_some_iff.mp hi).1
 have cne:=I.cne
 have tracked:∀ {a:Addr} {h':Heap},(∃ o,s.heap.get? a = some o∧H a = none)→Heap.SameBut a s.heap h'→HOk X.prog X.w H h':=fun {a h'} ha hs b ob e=>by
  obtain ⟨_,_,hfree⟩:=ha
  refine (I.hok b ob e).stay (fun c w' hc q=>(hs.2 c ?_).trans q) (fun _ q=>q) fun _ _ q=>q
  rintro rfl
  rcases hc with rfl | hc
  ·rw [hfree] at e; cases e
  ·rw [hfree] at hc; cases hc
 rcases hx with hk | hk
 ·refine wpAny_storeName_local hk hn (fun h' hn' hs=>?_) hcls
  obtain ⟨oL,_,_,hoL,_⟩:=id hn
  refine h _ ⟨I.ok,I.os,I.bare,⟨fun b o e n hb hx=>?_,fun b o e n hb hx=>?_,I.base.free,fun b o e hx=>?_,I.base.tups,I.base.frzs,I.base.tbls⟩,⟨_,hn',fun j y v' e1 e2 e3=>?_⟩,fun y c e=>?_,I.free,I.freeC,fun p hp=>?_,tracked ⟨oL,hoL,I.free⟩ hs,by simpa using I.len⟩ ⟨_,hs,.inl rfl⟩
  ·exact (hs.2 b (Nat.ne_of_lt (Nat.lt_of_lt_of_le (Heap.lt_size e) I.ok.above))).trans (I.base.keep b o e n hb hx)
  ·obtain ⟨sl,e1⟩:=I.base.slot b o e n hb hx
   exact ⟨sl,(hs.2 b (Nat.ne_of_lt (Nat.lt_of_lt_of_le (Heap.lt_size e) I.ok.above))).trans e1⟩
  ·obtain ⟨o',e1⟩:=I.base.there b o e hx
   exact ⟨o',(hs.2 b (Nat.ne_of_lt (Nat.lt_of_lt_of_le (Heap.lt_size e) I.ok.above))).trans e1⟩
  ·by_cases hj:j = i
   ·subst hj
    rw [hi] at e1; cases e1
    rw [List.getElem?_set_self hiσ] at e2
    cases e2
    exact ⟨u,r,.inl ⟨hk,by simp⟩⟩
   ·rw [List.getElem?_set_ne (Ne.symm hj)] at e2
    obtain ⟨u',r',q⟩:=hl j y v' e1 e2 e3
    refine ⟨u',r',?_⟩
    rcases q with ⟨k,e⟩ | ⟨k,c,e,z⟩
    ·refine .inl ⟨k,?_⟩
     have:y ≠ x:=fun e=>hj (nodup_ix hN e1 (e ▸ hi))
     simp [this,e]
    ·exact .inr ⟨k,c,e,z.sameBut hs (cne y c e)⟩
  ·obtain ⟨w',z⟩:=I.cell y c e
   exact ⟨w',z.sameBut hs (cne y c e)⟩
  ·obtain ⟨e,n,ne,nf,d⟩:=I.pin p hp
   exact ⟨(hs.2 p.1 ne).trans e,n,ne,nf,d⟩
 ·have hfn:X.fn x = true:=by
   rcases hf with z | z
   ·exact z
   ·rw [z] at hk; cases hk
  obtain ⟨c,hc⟩:=I.ok.has x (.inl hk)
  obtain ⟨w',z⟩:=I.cell x c hc
  refine wpAny_storeName_cell I.ok.kind hk hc z (fun h' hc' hs=>?_)
  obtain ⟨oc,hoc,hocd⟩:=id z
  refine h { s with heap:=h' } ⟨I.ok,I.os,I.bare,⟨fun b o e n hb hx=>?_,fun b o e n hb hx=>?_,I.base.free,fun b o e hx=>?_,I.base.tups,I.base.frzs,I.base.tbls⟩,⟨m,hn.sameBut hs (Ne.symm (cne x c hc)),fun j y v' e1 e2 e3=>?_⟩,fun y c' e=>?_,I.free,I.freeC,fun p hp=>?_,tracked ⟨oc,hoc,I.freeC x c hc⟩ hs,by simpa using I.len⟩ ⟨c,hs,.inr hc⟩
  ·exact (hs.2 b (Nat.ne_of_lt (Nat.lt_of_lt_of_le (Heap.lt_size e) (I.ok.cab x c hfn hc)))).trans (I.base.keep b o e n hb hx)
  ·obtain ⟨sl,e1⟩:=I.base.slot b o e n hb hx
   exact ⟨sl,(hs.2 b (Nat.ne_of_lt (Nat.lt_of_lt_of_le (Heap.lt_size e) (I.ok.cab x c hfn hc)))).trans e1⟩
  ·obtain ⟨o',e1⟩:=I.base.there b o e hx
   exact ⟨o',(hs.2 b (Nat.ne_of_lt (Nat.lt_of_lt_of_le (Heap.lt_size e) (I.ok.cab x c hfn hc)))).trans e1⟩
  ·by_cases hj:j = i
   ·subst hj
    rw [hi] at e1; cases e1
    rw [List.getElem?_set_self hiσ] at e2
    cases e2
    exact ⟨u,r,.inr ⟨.inl hk,c,hc,hc'⟩⟩
   ·rw [List.getElem?_set_ne (Ne.symm hj)] at e2
    obtain ⟨u',r',q⟩:=hl j y v' e1 e2 e3
    refine ⟨u',r',?_⟩
    rcases q with q | ⟨k,c',e,z'⟩
    ·exact .inl q
    ·refine .inr ⟨k,c',e,z'.sameBut hs ?_⟩
     rintro rfl
     exact hj (nodup_ix hN e1 (I.ok.inj _ _ _ e hc ▸ hi))
  ·by_cases hcc:c' = c
   ·subst hcc; exact ⟨_,hc'⟩
   ·obtain ⟨w2,z2⟩:=I.cell y c' e
    exact ⟨w2,z2.sameBut hs hcc⟩
  ·obtain ⟨e,n,ne,nf,d⟩:=I.pin p hp
   refine ⟨(hs.2 p.1 ?_).trans e,n,ne,nf,d⟩
   intro q
   rw [q,hoc] at e
   have q':oc = p.2:=Option.some.inj e
   exact d w' (by rw [← q']; exact hocd)
theorem store_ok {M:Model} {A:Around} {E:Value→Shared→Prop} {i:Nat} {x:Str} {v:V} {u:Value} {Q:Unit→Shared→Prop} (I:Inv X pins σ H s) (hN:X.N.Nodup) (hi:X.N[i]? = some x) (hx:Loc X.env.scope x) (r:RelV v u)
  (h:∀ s',Inv X pins (σ.set i (some v)) H s'→Q () s') (hf:X.fn x = true∨X.env.scope.names.lookup x = some .local:=by first | exact .inl rfl | exact .inr rfl | assumption):wpAny M A (storeName X.env x u) Q E s :=
 store_ok2 I hN hi hx r (fun s' I' _=>h s' I') hf
theorem Inv.call' {s':Shared} {ch:List Addr} (I:Inv X pins σ H s) (ho:s'.os = s.os) (u:Un (frs X.stack) ch H H' s.heap s'.heap) (hok:HOk X.prog X.w H' s'.heap) (hg:AllBare s'.gens)
  (hch:∀ b ∈ ch,(b ∈ X.ex∨X.s₀.heap.objs.size≤b)∧b ≠ X.env.locals∧(∀ x c,X.env.cells.lookup x = some c→c ≠ b)∧∀ p ∈ X.pn ++ pins,p.1 ≠ b):Inv X pins σ H' s':=by
 obtain ⟨h',g',d',t',o'⟩:=s'
 have e:o' = s.os:=ho
 subst e
 exact I.call (g':=g') (t':=t') (d':=d') u hok hg hch
end
abbrev XK:=Value→Option Addr→Hp→Prop
abbrev St:=List (Option V)
abbrev VK:=V→Hp→Prop
abbrev TE:=St→Hp→VK→Prop
abbrev TT:=St→Hp→(Bool→Hp→Prop)→Prop
abbrev TA:=St→Hp→(List V→Hp→Prop)→Prop
structure Ends where
 nx:St→Hp→Prop
 rt:VK
 bk:St→Hp→Prop:=fun _ _=>False
 ct:St→Hp→Prop:=fun _ _=>False
abbrev TS:=Ends→St→Hp→Prop
def EP (X:Cx) (pins:List (Addr × Obj)) (σ:St) (Q:VK) (u:Value) (s':Shared):Prop:=∃ v H',Inv X pins σ H' s'∧RelV v u∧Q v H'
def TP (X:Cx) (pins:List (Addr × Obj)) (σ:St) (Q:Bool→Hp→Prop) (b:Bool) (s':Shared):Prop:=∃ H',Inv X pins σ H' s'∧Q b H'
def AP (X:Cx) (pins:List (Addr × Obj)) (σ:St) (Q:List V→Hp→Prop) (us:List Value) (s':Shared):Prop:=∃ vs H',Inv X pins σ H' s'∧Vals vs us∧Q vs H'
def SP (X:Cx) (pins:List (Addr × Obj)) (D:Ends) (f:Flow) (s':Shared):Prop :=
 match f with
 | .next=>∃ σ' H',Inv X pins σ' H' s'∧D.nx σ' H'
 | .brk=>∃ σ' H',Inv X pins σ' H' s'∧D.bk σ' H'
 | .cont=>∃ σ' H',Inv X pins σ' H' s'∧D.ct σ' H'
 | .ret u=>∃ v σ' H',Inv X pins σ' H' s'∧RelV v u∧D.rt v H'
def PE (X:Cx) (e:Expr) (t:TE):Prop :=
 ∀ (pins:List (Addr × Obj)) (s:Shared) (σ:St) (H:Hp) (Q:VK),Inv X pins σ H s→t σ H Q→wpAny (model X.prog X.w) X.A (eval e X.env) (EP X pins σ Q) X.xe s
def PT (X:Cx) (e:Expr) (t:TT):Prop :=
 ∀ (pins:List (Addr × Obj)) (s:Shared) (σ:St) (H:Hp) (Q:Bool→Hp→Prop),Inv X pins σ H s→t σ H Q→wpAny (model X.prog X.w) X.A (isTrue e X.env (eval e X.env)) (TP X pins σ Q) X.xe s
def PW (X:Cx) (e:Expr) (t:TT):Prop :=
 ∀ (whole:Sem Value) (pins:List (Addr × Obj)) (s:Shared) (σ:St) (H:Hp) (Q:Bool→Hp→Prop),Inv X pins σ H s→t σ H Q→wpAny (model X.prog X.w) X.A (isTrue e X.env whole) (TP X pins σ Q) X.xe s
theorem PW.pt {X:Cx} {e:Expr} {t:TT} (h:PW X e t):PT X e t:=h _
def PA (X:Cx) (es:List Expr) (t:TA):Prop :=
 ∀ (pos:Pos) (pins:List (Addr × Obj)) (s:Shared) (σ:St) (H:Hp) (Q:List V→Hp→Prop),Inv X pins σ H s→t σ H Q→wpAny (model X.prog X.w) X.A (spliced (backTo pos (starEach es X.env))) (AP X pins σ Q) X.xe s
def PS (X:Cx) (st:Stmt) (t:TS):Prop :=
 ∀ (pins:List (Addr × Obj)) (s:Shared) (σ:St) (H:Hp) (D:Ends),Inv X pins σ H s→t D σ H→wpAny (model X.prog X.w) X.A (exec st X.env) (SP X pins D) X.xe s
def PSs (X:Cx) (st:List Stmt) (t:TS):Prop :=
 ∀ (pins:List (Addr × Obj)) (s:Shared) (σ:St) (H:Hp) (D:Ends),Inv X pins σ H s→t D σ H→wpAny (model X.prog X.w) X.A (execs st X.env) (SP X pins D) X.xe s
theorem thn {α:Type} {t:Sem α} {Q Q':α→Shared→Prop} {M:Model} {A:Around} {E:Value→Shared→Prop} {s:Shared} (h:wpAny M A t Q E s) (hQ:∀ a s,Q a s→Q' a s):wpAny M A t Q' E s:=wpAny_mono h hQ fun _ _ x=>x
end L2
namespace L2
open PySem PySem.Spec PyProof.Rows
section
variable {X:Cx}
def tVar (i:Nat):TE:=fun σ H Q=>∃ v,σ[i]? = some (some v)∧Q v H
def tC (v:V):TE:=fun _ H Q=>Q v H
theorem pe_var {i:Nat} {x:Str} {pos:Pos} (hN:X.N[i]? = some x) (hv:Vis X.env.scope x) (hd:(x == ("__debug__":Str)) = false:=by decide) (hcd:(x == ("__classdict__":Str)) = false:=by decide):PE X (.Name x pos) (tVar i):=by
 intro pins s σ H Q I h
 obtain ⟨v,e,h⟩:=h
 obtain ⟨m,hn,hl⟩:=I.loc
 obtain ⟨u,r,l⟩:=hl i x v hN e hv
 have fin:EP X pins σ Q u s:=⟨v,H,I,r,h⟩
 rcases l with ⟨hk,hm⟩ | ⟨hk,c,hc,hcell⟩
 ·exact wpAny_Name (wpAny_loadName_local I.ok.kind hk hn hm fin) hd
 ·rcases hk with hk | hk
  ·exact wpAny_Name (wpAny_loadName_cell I.ok.kind hk hc hcell fin) hd
  ·exact wpAny_Name (wpAny_loadName_free I.ok.kind hk hc hcell fin hcd) hd
theorem pe_int {i j pos}:PE X (.Constant (.int i) j pos) (tC (.int i)):=fun _ _ _ H _ I h=>wpAny_Constant_int ⟨.int i,H,I.tok _,⟨_,rfl⟩,h⟩
theorem pe_bl {b j pos}:PE X (.Constant (.bool b) j pos) (tC (.bl b)):=fun _ _ _ H _ I h=>Constant_bool ⟨.bl b,H,I,rfl,h⟩
theorem pe_non {j pos}:PE X (.Constant .none j pos) (tC .non):=fun _ _ _ H _ I h=>Constant_none ⟨.non,H,I,rfl,h⟩
theorem pe_str {x j pos}:PE X (.Constant (.str x) j pos) (tC (.str x)):=fun _ _ _ H _ I h=>Calls.Constant_str ⟨.str x,H,I.tok _,⟨_,rfl⟩,h⟩
def Gl (X:Cx) (x:Str):Prop:=X.env.kindOf x = some .globalImplicit
theorem ld_glob {E:Value→Shared→Prop} {pins:List (Addr × Obj)} {s:Shared} {σ:St} {H:Hp} {x:Str} {u:Value} {pos:Pos} {Q:Value→Shared→Prop} (I:Inv X pins σ H s) (hg:Gl X x) (hm:X.mg x = some u) (h:Q u s)
  (hd:(x == ("__debug__":Str)) = false:=by decide):wpAny (model X.prog X.w) X.A (eval (.Name x pos) X.env) Q E s :=
 Calls.Name_function_global I.ok.kind hg (Calls.loadGlobal_global (by rw [I.ok.glob]; exact I.mod.glob.keeps I.bk) hm h) hd
theorem ld_blt {E:Value→Shared→Prop} {pins:List (Addr × Obj)} {s:Shared} {σ:St} {H:Hp} {x:Str} {u:Value} {pos:Pos} {Q:Value→Shared→Prop} (I:Inv X pins σ H s) (hg:Gl X x) (hm:X.mg x = none) (hv:bootBuiltins x = some u) (h:Q u s)
  (hn:x ≠ "__name__":=by decide) (hd:(x == ("__debug__":Str)) = false:=by decide):wpAny (model X.prog X.w) X.A (eval (.Name x pos) X.env) Q E s:=by
 obtain ⟨mb,h1,h2⟩:=I.mod.blt
 exact Calls.Name_function_global I.ok.kind hg (Calls.loadGlobal_builtin (by rw [I.ok.glob]; exact I.mod.glob.keeps I.bk) hm (by rw [I.ok.blt]; exact h1.keeps I.bk) ((h2 x hn).trans hv) h) hd
theorem pe_glob {x:Str} {v:V} {u:Value} {pos:Pos} (hg:Gl X x) (hm:X.mg x = some u) (r:RelV v u) (hd:(x == ("__debug__":Str)) = false:=by decide):PE X (.Name x pos) (tC v) :=
 fun _ _ _ H _ I h=>ld_glob I hg hm ⟨v,H,I,r,h⟩ hd
theorem pe_bltn {x:Str} {v:V} {u:Value} {pos:Pos} (hg:Gl X x) (hm:X.mg x = none) (hv:bootBuiltins x = some u) (r:RelV v u) (hn:x ≠ "__name__":=by decide) (hd:(x == ("__debug__":Str)) = false:=by decide):PE X (.Name x pos) (tC v) :=
 fun _ _ _ H _ I h=>ld_blt I hg hm hv ⟨v,H,I,r,h⟩ hn hd
variable {a b:Expr} {ta tb:TE} {pos:Pos}
def tB (t:TE):TT:=fun σ H Q=>t σ H fun x H1=>∃ c,x = .bl c∧Q c H1
theorem pt_val {e:Expr} {t:TE} (h:PE X e t) (he:∀ whole,isTrue e X.env whole = (do let v ← whole; standAt e.pos; holding [v] (truthy v)):=by intro _; rfl):PT X e (tB t):=by
 intro pins s σ H Q I hw
 refine isTrue_plain (thn (h pins s σ H _ I hw) fun v s1 ⟨x,H1,I1,r1,q1⟩=>?_) (he _)
 obtain ⟨d,rfl,q⟩:=q1
 cases r1
 exact wpAny_truthy_bool ⟨H1,I1,q⟩
variable {tA tB':TT} {rest:List Expr}
def tOr (t u:TT):TT:=fun σ H Q=>t σ H fun c H1=>if c = true then Q true H1 else u σ H1 Q
def tNot (t:TT):TT:=fun σ H Q=>t σ H fun c H1=>Q (!c) H1
theorem pw_or1 (ha:PT X a tA):PW X (.BoolOp .Or [a] pos) tA:=by
 intro wh pins s σ H Q I h
 refine isTrue_or (thn (ha pins s σ H Q I h) fun c s1 e=>?_)
 cases c with
 | false=>exact isTrue_or_nil e
 | true=>exact e
theorem pw_or (ha:PT X a tA) (hb:PW X (.BoolOp .Or (b :: rest) pos) tB'):PW X (.BoolOp .Or (a :: b :: rest) pos) (tOr tA tB'):=by
 intro wh pins s σ H Q I h
 refine isTrue_or (thn (ha pins s σ H _ I h) fun c s1 ⟨H1,I1,q1⟩=>?_)
 cases c with
 | true=>exact ⟨H1,I1,q1⟩
 | false=>exact hb wh pins s1 σ H1 Q I1 q1
theorem pt_not (ha:PT X a tA):PT X (.UnaryOp .Not a pos) (tNot tA):=by
 intro pins s σ H Q I h
 exact isTrue_not (ha pins s σ H (fun c H1=>Q (!c) H1) I h)
def tAndV (ta tb:TE):TE:=fun σ H Q=>ta σ H fun x H1=>∃ c,x = .bl c∧if c = true then tb σ H1 Q else Q (.bl false) H1
def tNotV (ta:TE):TE:=fun σ H Q=>ta σ H fun x H1=>∃ c,x = .bl c∧Q (.bl (!c)) H1
theorem pe_one {op} {t:TE} (h:PE X a t):PE X (.BoolOp op [a] pos) t:=fun pins s σ H Q I hw=>BoolOp_one (h pins s σ H Q I hw)
theorem pe_and (ha:PE X a ta) (hb:PE X (.BoolOp .And (b :: rest) pos) tb):PE X (.BoolOp .And (a :: b :: rest) pos) (tAndV ta tb):=by
 intro pins s σ H Q I h
 refine BoolOp_and (thn (ha pins s σ H _ I h) fun v s1 ⟨x,H1,I1,r1,q1⟩=>?_)
 obtain ⟨c,rfl,q1⟩:=q1
 cases r1
 refine wpAny_truthy_bool ?_
 cases c with
 | true=>exact hb pins s1 σ H1 Q I1 q1
 | false=>exact ⟨.bl false,H1,I1,rfl,q1⟩
theorem pe_not (ha:PE X a ta):PE X (.UnaryOp .Not a pos) (tNotV ta):=by
 intro pins s σ H Q I h
 refine UnaryOp_ (thn (ha pins s σ H _ I h) fun v s1 ⟨x,H1,I1,r1,q1⟩=>?_)
 obtain ⟨c,rfl,q1⟩:=q1
 cases r1
 exact not_of (wpAny_truthy_bool ⟨.bl (!c),H1,I1,rfl,q1⟩)
def tIf (t:TT) (ta tb:TE):TE:=fun σ H Q=>t σ H fun c H1=>if c = true then ta σ H1 Q else tb σ H1 Q
theorem pe_ifExp {c:Expr} (hc:PT X c tA) (ha:PE X a ta) (hb:PE X b tb):PE X (.IfExp c a b pos) (tIf tA ta tb):=by
 intro pins s σ H Q I h
 refine wpAny_IfExp (thn (hc pins s σ H _ I h) fun d s1 ⟨H1,I1,q1⟩=>?_)
 cases d with
 | true=>exact ha pins s1 σ H1 Q I1 q1
 | false=>exact hb pins s1 σ H1 Q I1 q1
end
end L2
namespace L2
open PySem PySem.Spec PyProof.Rows
def SqL (K:PySem.W.Frag) (H:Hp) (a:Addr) (xs:List V):Prop :=
 Rd H a (.lst xs) ∨
  ∃ (o:Obj) (its:Array Value) (n:Nat),K.lookup a = some o∧o.cls = .type "list"∧o.dict = none∧o.data = .seq its n∧its.size≤sizeLine∧Vals xs its.toList
def SqT (K:PySem.W.Frag) (H:Hp) (a:Addr) (xs:List V):Prop :=
 Rd H a (.tup xs) ∨
  ∃ (o:Obj) (its:Array Value) (n:Nat),K.lookup a = some o∧o.cls = .type "tuple"∧o.data = .seq its n∧its.size≤sizeLine∧Vals xs its.toList
def absV:Value→Option V
 | .none=>some .non
 | .bool b=>some (.bl b)
 | .int i _=>some (.int i)
 | .str x _=>some (.str x)
 | .bytes b _=>some (.byt b)
 | .float b _=>some (.flt b)
 | .ref a=>some (.ref a)
 | .type n=>some (.ty n)
 | _=>none
theorem RelV.abs {x:V} {u:Value} (r:RelV x u):absV u = some x:=by
 cases x with
 | non=>cases r; rfl
 | bl _=>cases r; rfl
 | int _=>obtain ⟨t,rfl⟩:=r; rfl
 | str _=>obtain ⟨t,rfl⟩:=r; rfl
 | byt _=>obtain ⟨t,rfl⟩:=r; rfl
 | flt _=>obtain ⟨t,rfl⟩:=r; rfl
 | ref _=>cases r; rfl
 | ty _=>cases r; rfl
theorem RelV.inj {x y:V} {u:Value} (r:RelV x u) (q:RelV y u):x = y:=Option.some.inj (r.abs.symm.trans q.abs)
theorem Vals.inj:∀ {xs ys:List V} {us:List Value},Vals xs us→Vals ys us→xs = ys
 | _,_,_,.nil,.nil=>rfl
 | _,_,_,.cons r t,.cons r' t'=>by rw [r.inj r',Vals.inj t t']
section
variable {X:Cx} {pins:List (Addr × Obj)} {σ:St} {H:Hp} {s:Shared} {a:Addr} {xs ys:List V}
theorem SqL.of {K:PySem.W.Frag} (h:H a = some (.lst xs)):SqL K H a xs:=.inl (.inl h)
theorem SqT.of {K:PySem.W.Frag} (h:H a = some (.tup xs)):SqT K H a xs:=.inl (.inl h)
theorem Inv.list (I:Inv X pins σ H s) (h:SqL X.K H a xs):∃ its:List Value,Vals xs its∧PlainL s.heap a its.toArray∧xs.length≤sizeLine:=by
 rcases h with h | ⟨o,its,n,hk,hc,hd,hs,hz,r⟩
 ·obtain ⟨z,its,n,r,e⟩:=h.ok I.hok
  exact ⟨its,r,⟨_,n,e,rfl,rfl,rfl⟩,z⟩
 ·refine ⟨its.toList,r,⟨o,n,I.kIn a o hk,hc,hd,by simpa using hs⟩,?_⟩
  have e:=r.length
  simp only [Array.length_toList] at e
  omega
theorem Inv.tuple (I:Inv X pins σ H s) (h:SqT X.K H a xs):∃ its:List Value,Vals xs its∧IsTup s.heap a its.toArray∧xs.length≤sizeLine:=by
 rcases h with h | ⟨o,its,n,hk,hc,hs,hz,r⟩
 ·obtain ⟨z,its,r,p⟩:=h.ok I.hok
  exact ⟨its,r,p,z⟩
 ·refine ⟨its.toList,r,⟨o,I.kIn a o hk,hc,n,by simpa using hs⟩,?_⟩
  have e:=r.length
  simp only [Array.length_toList] at e
  omega
theorem Inv.list_inj (I:Inv X pins σ H s) (h:SqL X.K H a xs) (h':SqL X.K H a ys):xs = ys:=by
 obtain ⟨its,r,⟨o,n,e,_,_,d⟩,_⟩:=I.list h
 obtain ⟨its',r',⟨o',n',e',_,_,d'⟩,_⟩:=I.list h'
 rw [e] at e'; cases e'
 rw [d] at d'
 injection d' with d1 _
 have:its = its':=by simpa using congrArg Array.toList d1
 subst this
 exact r.inj r'
end
abbrev Cx.wish (X:Cx) (E:Value→Shared→Prop):Cx:={ X with xe:=E }
abbrev Cx.nox (X:Cx):Cx:=X.wish fun _ _=>False
theorem Cx.Ok.wish {X:Cx} (ok:X.Ok) (E:Value→Shared→Prop):(X.wish E).Ok :=
 ⟨ok.mod,ok.kind,ok.glob,ok.blt,ok.above,ok.inj,ok.has,ok.cab,ok.hd,ok.frames,ok.stk,ok.exf,ok.bs,ok.bsz,ok.noex,ok.exfs,ok.funs,ok.frf⟩
theorem Cx.Ok.unwish {X:Cx} {E:Value→Shared→Prop} (ok:(X.wish E).Ok):X.Ok :=
 ⟨ok.mod,ok.kind,ok.glob,ok.blt,ok.above,ok.inj,ok.has,ok.cab,ok.hd,ok.frames,ok.stk,ok.exf,ok.bs,ok.bsz,ok.noex,ok.exfs,ok.funs,ok.frf⟩
section
variable {X:Cx} {pins:List (Addr × Obj)} {σ:St} {H:Hp} {s:Shared} {E:Value→Shared→Prop}
theorem Inv.wish (I:Inv X pins σ H s) (E:Value→Shared→Prop):Inv (X.wish E) pins σ H s:=⟨I.ok.wish E,I.os,I.bare,I.base,I.loc,I.cell,I.free,I.freeC,I.pin,I.hok,I.len⟩
theorem Inv.unwish (I:Inv (X.wish E) pins σ H s):Inv X pins σ H s:=⟨I.ok.unwish,I.os,I.bare,I.base,I.loc,I.cell,I.free,I.freeC,I.pin,I.hok,I.len⟩
theorem SP.unwish {D:Ends} {f:Flow} {s':Shared} (h:SP (X.wish E) pins D f s'):SP X pins D f s':=by
 cases f with
 | next=>obtain ⟨σ',H',I,q⟩:=h; exact ⟨σ',H',I.unwish,q⟩
 | brk=>obtain ⟨σ',H',I,q⟩:=h; exact ⟨σ',H',I.unwish,q⟩
 | cont=>obtain ⟨σ',H',I,q⟩:=h; exact ⟨σ',H',I.unwish,q⟩
 | ret u=>obtain ⟨v,σ',H',I,r,q⟩:=h; exact ⟨v,σ',H',I.unwish,r,q⟩
theorem PSs.nox {st:List Stmt} {t:TS} (h:PSs X.nox st t):PSs X st t:=fun pins s σ H D I hw =>
 wpAny_mono (h pins s σ H D (I.wish _) hw) (fun _ _ q=>q.unwish) fun _ _ z=>False.elim z
end
section
variable {X:Cx} {st:Stmt} {rest:List Stmt} {t u:TS} {e:Expr} {te:TE} {pos:Pos}
def tNext:TS:=fun D σ H=>D.nx σ H
def tSeq (t u:TS):TS:=fun D σ H=>t { D with nx:=u D } σ H
theorem pss_nil:PSs X [] tNext:=fun _ _ σ H _ I h=>wpAny_execs_nil ⟨σ,H,I,h⟩
theorem pss_cons (h1:PS X st t) (h2:PSs X rest u):PSs X (st :: rest) (tSeq t u):=by
 intro pins s σ H D I h
 refine wpAny_execs_cons (thn (h1 pins s σ H { D with nx:=u D } I h) fun f s1 q=>?_)
 cases f with
 | next =>
  obtain ⟨σ',H',I',q⟩:=q
  exact h2 pins s1 σ' H' D I' q
 | ret v=>exact q
 | brk=>exact q
 | cont=>exact q
theorem pss_one (h1:PS X st t):PSs X [st] t:=by
 intro pins s σ H D I h
 refine wpAny_execs_cons (thn (h1 pins s σ H D I h) fun f s1 q=>?_)
 cases f with
 | next=>exact wpAny_execs_nil q
 | ret v=>exact q
 | brk=>exact q
 | cont=>exact q
theorem Inv.quiet {pins:List (Addr × Obj)} {σ:St} {H:Hp} {s:Shared} (I:Inv X pins σ H s):interactive X.env = false:=by simp [interactive,I.ok.kind]
def tDrop (te:TE):TS:=fun D σ H=>te σ H fun _ H1=>D.nx σ H1
theorem ps_expr (he:PE X e te) (hs:swapsWith e none pos.line X.env = pure false:=by rfl):PS X (.Expr e pos) (tDrop te):=by
 intro pins s σ H D I h
 exact wpAny_Expr_any (thn (he pins s σ H _ I h) fun v s1 ⟨x,H1,I1,r1,q1⟩=>⟨σ,H1,I1,q1⟩) I.quiet hs
def tRet (te:TE):TS:=fun D σ H=>te σ H D.rt
theorem ps_ret (he:PE X e te):PS X (.Return (some e) pos) (tRet te):=by
 intro pins s σ H D I h
 exact wpAny_Return_some (thn (he pins s σ H _ I h) fun v s1 ⟨x,H1,I1,r1,q1⟩=>⟨x,σ,H1,I1,r1,q1⟩)
def tIfS (c:TT) (t u:TS):TS:=fun D σ H=>c σ H fun b H1=>if b = true then t D σ H1 else u D σ H1
theorem ps_if {c:Expr} {a b:List Stmt} {tc:TT} (hc:PT X c tc) (ha:PSs X a t) (hb:PSs X b u):PS X (.If c a b pos) (tIfS tc t u):=by
 intro pins s σ H D I h
 refine wpAny_If (thn (hc pins s σ H _ I h) fun d s1 ⟨H1,I1,q1⟩=>?_)
 cases d with
 | true=>exact ha pins s1 σ H1 D I1 q1
 | false=>exact hb pins s1 σ H1 D I1 q1
def tNever:TS:=fun _ _ _=>False
theorem ps_never:PS X st tNever:=fun _ _ _ _ _ _ h=>h.elim
theorem pss_never {sts:List Stmt}:PSs X sts tNever:=fun _ _ _ _ _ _ h=>h.elim
end
abbrev TG:=V→St→Hp→(St→Hp→Prop)→Prop
def PG (X:Cx) (target:Expr) (t:TG):Prop :=
 ∀ (pins:List (Addr × Obj)) (s:Shared) (σ:St) (H:Hp) (v:V) (u:Value) (Q:St→Hp→Prop),Inv X pins σ H s→RelV v u→t v σ H Q →
  wpAny (model X.prog X.w) X.A (assign target X.env u) (fun _ s'=>∃ σ' H',Inv X pins σ' H' s'∧Q σ' H') X.xe s
abbrev TSet:=V→V→V→Hp→(Hp→Prop)→Prop
def PSet (X:Cx) (t:TSet):Prop :=
 ∀ (pins:List (Addr × Obj)) (s:Shared) (σ:St) (H:Hp) (o i v:V) (ov iv u:Value) (Q:Hp→Prop),Inv X pins σ H s→RelV o ov→RelV i iv→RelV v u→t o i v H Q →
  wpAny (model X.prog X.w) X.A (setItem ov iv u) (fun _ s'=>∃ H',Inv X pins σ H' s'∧Q H') X.xe s
section
variable {X:Cx} {pos:Pos}
def gName (i:Nat):TG:=fun v σ H Q=>Q (σ.set i (some v)) H
theorem pg_name {i:Nat} {x:Str} (hN:X.N.Nodup) (hi:X.N[i]? = some x) (hx:Loc X.env.scope x) (hf:X.fn x = true∨X.env.scope.names.lookup x = some .local:=by first | exact .inl rfl | exact .inr rfl | assumption):PG X (.Name x pos) (gName i):=by
 intro pins s σ H v u Q I r h
 exact wpAny_assign_Name (store_ok I hN hi hx r (fun s' I'=>⟨_,H,I',h⟩) hf)
def gSub (to ti:TE) (t:TSet):TG:=fun v σ H Q=>to σ H fun o H1=>ti σ H1 fun i H2=>t o i v H2 fun H3=>Q σ H3
theorem pg_sub {o i:Expr} {to ti:TE} {t:TSet} (ho:PE X o to) (hi:PE X i ti) (hs:PSet X t)
  (ha:∀ v,assign (.Subscript o i pos) X.env v = (do
   let ov ← holding [v] (eval o X.env)
   let iv ← holding [v,ov] (eval i X.env)
   standAt pos
   holding [v,ov,iv] (setItem ov iv v)
   release [v,ov,iv] []):=by intro _; rfl):PG X (.Subscript o i pos) (gSub to ti t):=by
 intro pins s σ H v u Q I r h
 rw [ha]
 refine wpAny_bind (wpAny_holding (thn (ho pins s σ H _ I h) fun ov s1 ⟨x,H1,I1,r1,q1⟩=>?_))
 refine wpAny_bind (wpAny_holding (thn (hi pins s1 σ H1 _ I1 q1) fun iv s2 ⟨y,H2,I2,r2,q2⟩=>?_))
 refine wpAny_bind (wpAny_standAt (wpAny_bind (wpAny_holding (thn (hs pins s2 σ H2 x y v ov iv u _ I2 r1 r2 r q2) fun _ s3 ⟨H3,I3,q3⟩=>?_))))
 exact wpAny_release ⟨σ,H3,I3,q3⟩
def tAsg (te:TE) (g:TG):TS:=fun D σ H=>te σ H fun x H1=>g x σ H1 D.nx
theorem ps_asg {tg e:Expr} {te:TE} {g:TG} (he:PE X e te) (hg:PG X tg g) (hs:swapsWithSole [tg] e pos.line X.env = pure false:=by rfl) (hw:swappedStores [tg] e X.env = pure none:=by rfl)
  (h1:(assignEach [tg] X.env).map (·.2) = [assign tg X.env]:=by rfl):PS X (.Assign [tg] e pos) (tAsg te g):=by
 intro pins s σ H D I h
 refine wpAny_Assign_stores (thn (he pins s σ H _ I h) fun v s1 ⟨x,H1,I1,r1,q1⟩=>?_) hs hw
 rw [h1]
 exact thn (hg pins s1 σ H1 x v _ I1 r1 q1) fun _ s2 q=>q
theorem ps_set {i:Nat} {x:Str} {e:Expr} {te:TE} {pos':Pos} (hN:X.N.Nodup) (hi:X.N[i]? = some x) (hx:Loc X.env.scope x) (he:PE X e te) (hs:swapsWith e (some (.Name x pos')) pos.line X.env = pure false:=by rfl) (hf:X.fn x = true∨X.env.scope.names.lookup x = some .local:=by first | exact .inl rfl | exact .inr rfl | assumption) :
  PS X (.Assign [.Name x pos'] e pos) (tAsg te (gName i)):=by
 intro pins s σ H D I h
 refine wpAny_Assign_Name (thn (he pins s σ H _ I h) fun v s1 ⟨y,H1,I1,r1,q1⟩=>?_) hs
 exact store_ok I1 hN hi hx r1 (fun s2 I2=>⟨_,H1,I2,q1⟩) hf
end
section
variable {X:Cx} {pos:Pos}
def tWhile (c:TT) (tb:TS):TS:=fun D σ H=>∃ W:Nat→St→Hp→Prop,(∃ m,W m σ H)∧∀ m σ H,W m σ H →
 c σ H fun b H1=>if b = true then ∃ N:St→Hp→Prop,(∀ σ' H',N σ' H'→∃ m',m' < m∧W m' σ' H')∧tb { D with nx:=N,ct:=N,bk:=D.nx } σ H1 else D.nx σ H1
theorem ps_while {c:Expr} {body:List Stmt} {tc:TT} {tb:TS} (hp:PassesOwn (model X.prog X.w) X.A X.env X.xe) (hc:PT X c tc) (hb:PSs X body tb):PS X (.While c body [] pos) (tWhile tc tb):=by
 intro pins s σ H D I h
 obtain ⟨W,⟨m0,w0⟩,turn⟩:=h
 refine wpAny_While (codeAny_whileLoop (fun n s'=>∃ σ' H',Inv X pins σ' H' s'∧W n σ' H') ?_ m0 ⟨σ,H,I,w0⟩)
 rintro n s1 ⟨σ1,H1,I1,w1⟩
 refine wpAny_passesOwn hp (thn (hc pins s1 σ1 H1 _ I1 (turn n σ1 H1 w1)) fun b s2 ⟨H2,I2,q2⟩=>?_)
 cases b with
 | true =>
  obtain ⟨N,hN,q2⟩:=q2
  rw [if_pos rfl]
  refine wpAny_passesOwn hp (thn (hb pins s2 σ1 H2 _ I2 q2) fun f s3 q3=>?_)
  cases f with
  | next =>
   obtain ⟨σ3,H3,I3,n3⟩:=q3
   obtain ⟨m',hm,w3⟩:=hN σ3 H3 n3
   exact ⟨m',hm,σ3,H3,I3,w3⟩
  | cont =>
   obtain ⟨σ3,H3,I3,n3⟩:=q3
   obtain ⟨m',hm,w3⟩:=hN σ3 H3 n3
   exact ⟨m',hm,σ3,H3,I3,w3⟩
  | brk=>exact q3
  | ret v=>exact q3
 | false =>
  rw [if_neg Bool.false_ne_true]
  exact wpAny_execs_nil ⟨σ1,H2,I2,q2⟩
end
structure It where
 go:Nat→Hp→Prop
 yld:Nat→Hp→V→Hp→Prop
 stop:Nat→Hp→Prop
def FpOk (X:Cx) (pins:List (Addr × Obj)) (H:Hp) (b:Addr):Prop :=
 H b = none∧b ≠ X.env.locals∧b ∉ X.fs∧(b ∈ X.ex∨X.s₀.heap.objs.size≤b)∧(∀ x c,X.env.cells.lookup x = some c→c ≠ b)∧∀ p ∈ X.pn ++ pins,p.1 ≠ b
theorem Inv.fpOk {X:Cx} {pins:List (Addr × Obj)} {σ:St} {H H':Hp} {s:Shared} {b:Addr} (I:Inv X pins σ H s) (hb:s.heap.objs.size≤b) (hn:H' b = none):FpOk X pins H' b:=by
 refine ⟨hn,Nat.ne_of_gt (Nat.lt_of_lt_of_le I.lt hb),I.nofs hb,.inr (Nat.le_trans I.sz hb),fun x c e z=>?_,fun p hp z=>?_⟩
 ·obtain ⟨v,q⟩:=I.cell x c e
  exact absurd (Nat.lt_of_lt_of_le q.lt (by rw [z]; exact hb)) (Nat.lt_irrefl _)
 ·exact absurd (Nat.lt_of_lt_of_le (Heap.lt_size (I.pin p hp).1) (by rw [z]; exact hb)) (Nat.lt_irrefl _)
structure Turn (P:Program) (w:World) (K:PySem.W.Frag) (tg:Expr) (J:It) (fp:List Addr) (it:Addr) (tn:Nat→Heap→Prop):Prop where
 mem:it ∈ fp
 obj:∀ i h,tn i h→∀ b ∈ fp,∃ o,h.get? b = some o∧∀ v,o.data ≠ .cell v
 keep:∀ i h h',tn i h→(∀ b ∈ fp,∀ o,h.get? b = some o→h'.get? b = some o)→tn i h'
 item:∀ (X:Cx),X.prog = P→X.w = w→X.K = K→X.calm = true→∀ (i:Nat) (pins:List (Addr × Obj)) (s:Shared) (σ:St) (H:Hp) (E:Value→Shared→Prop),Inv X pins σ H s→(∀ b ∈ fp,FpOk X pins H b)→tn i s.heap→J.go i H →
  wpAny (model P w) X.A (pyNext (.ref it)) (fun r s1=>∃ u,r = some u ∧
   wpAny (model P w) X.A (letOwnedTupleGo tg (.ref it) u) (fun _ s2=>∃ x H',Inv X pins σ H' s2∧RelV x u∧J.yld i H x H'∧tn (i + 1) s2.heap∧∀ b ∈ fp,H' b = none) E s1) E s
 done:∀ (X:Cx),X.prog = P→X.w = w→X.K = K→X.calm = true→∀ (i:Nat) (pins:List (Addr × Obj)) (s:Shared) (σ:St) (H:Hp) (E:Value→Shared→Prop),Inv X pins σ H s→(∀ b ∈ fp,FpOk X pins H b)→tn i s.heap→J.stop i H →
  wpAny (model P w) X.A (pyNext (.ref it)) (fun r s1=>r = none∧Inv X pins σ H s1) E s
 self:∀ (A:Around) (i:Nat) (s:Shared) (Q:Value→Shared→Prop) (E:Value→Shared→Prop),tn i s.heap→Q (.ref it) s→wpAny (model P w) A (pyIter (.ref it)) Q E s
abbrev TI:=St→Hp→(It→Hp→Prop)→Prop
def PIE (X:Cx) (pins:List (Addr × Obj)) (σ:St) (tg:Expr) (R:It→Hp→Prop) (itv:Value) (s2:Shared):Prop :=
 ∃ (it:Addr) (fp:List Addr) (tn:Nat→Heap→Prop) (J:It) (H':Hp),itv = .ref it∧Inv X pins σ H' s2∧Turn X.prog X.w X.K tg J fp it tn∧tn 0 s2.heap∧(∀ b ∈ fp,FpOk X pins H' b)∧R J H'
def PI (X:Cx) (tg iter:Expr) (wi:TI):Prop :=
 ∀ (pins:List (Addr × Obj)) (s:Shared) (σ:St) (H:Hp) (R:It→Hp→Prop),Inv X pins σ H s→wi σ H R →
  wpAny (model X.prog X.w) X.A (eval iter X.env) (fun v s1=>wpAny (model X.prog X.w) X.A (pyIter v) (PIE X pins σ tg R) X.xe s1) X.xe s
theorem go_of {M:Model} {A:Around} {E:Value→Shared→Prop} {s:Shared} {tg:Expr} {it:Addr} {u:Value} {o:Obj} {n:String} {vs:Array Value} {Q:Unit→Shared→Prop} (ho:s.heap.get? it = some o) (hc:o.cls = .type n) (hd:o.data = .fields vs)
  (hn:["enumerate", "zip", "dict_itemiterator", "dict_reverseitemiterator", "odict_iterator", "itertools.zip_longest", "itertools.pairwise"].contains n = false) (hQ:Q () s):wpAny M A (letOwnedTupleGo tg (.ref it) u) Q E s:=by
 unfold letOwnedTupleGo
 cases tg <;> first
  | exact wpAny_pure hQ
  | (cases u <;> first
    | exact wpAny_pure hQ
    | (refine wpAny_bind (wpAny_load ho ?_)
       rw [hc,hd]
       show wpAny M A (if (["enumerate", "zip", "dict_itemiterator", "dict_reverseitemiterator", "odict_iterator", "itertools.zip_longest", "itertools.pairwise"].contains n && vs[0]? == some (rawInt _)) = true then _ else _) Q E s
       rw [if_neg (by intro h; rw [hn,Bool.false_and] at h; cases h)]
       exact wpAny_pure hQ))
def Itl (K:PySem.W.Frag) (a:Addr):It :=
 ⟨fun i H=>∃ xs x,SqL K H a xs∧xs[i]? = some x,fun i H x H'=>H' = H∧∀ xs,SqL K H a xs→xs[i]? = some x,fun i H=>∃ xs,SqL K H a xs∧xs.length≤i⟩
def Itr (lo:Int) (n:Nat):It:=⟨fun i _=>i < n,fun i H x H'=>H' = H∧x = .int (lo + i),fun i _=>n≤i⟩
theorem turn_list {P:Program} {w:World} {K:PySem.W.Frag} {tg:Expr} (a it:Addr):Turn P w K tg (Itl K a) [it] it (fun i h=>h.IsListIter it a i) where
 mem:=by simp
 obj:=fun i h st b hb=>by
  have e:b = it:=by simpa using hb
  subst e
  obtain ⟨o,e,c,d⟩:=st
  exact ⟨o,e,fun v z=>by rw [d] at z; cases z⟩
 keep:=fun i h h' st k=>st.at fun o e=>k it (by simp) o e
 item:=by
  intro X hP hw hK hc i pins s σ H E I hf st hg
  subst hP hw hK
  obtain ⟨xs,x,hq,hx⟩:=hg
  obtain ⟨its,rv,p,hz⟩:=I.list hq
  obtain ⟨u,hu,ru⟩:=rv.get hx
  obtain ⟨f0,f1,f2,f3,f4,f5⟩:=hf it (by simp)
  refine wpAny_pyNext_list_item st p.isList (x:=u) (by simpa using hu) fun h' st' sb=>?_
  have I1:Inv X pins σ H { s with heap:=h' }:=I.turned (t':=s.toks) (fun b o hb e=>(sb.2 b hb).trans e) f0 f1 f3 f4 f5
  obtain ⟨o,e,c,d⟩:=id st'
  exact ⟨u,rfl,go_of (s:={ s with heap:=h' }) e c d (by decide) ⟨x,H,I1,ru,⟨rfl,fun ys hy=>by rw [I.list_inj hy hq]; exact hx⟩,st',fun b hb=>(hf b hb).1⟩⟩
 done:=by
  intro X hP hw hK hc i pins s σ H E I hf st hg
  subst hP hw hK
  obtain ⟨xs,hq,hx⟩:=hg
  obtain ⟨its,rv,p,hz⟩:=I.list hq
  obtain ⟨f0,f1,f2,f3,f4,f5⟩:=hf it (by simp)
  have hl:=rv.length
  exact wpAny_pyNext_list_end (I.ok.hd hc) st p.isList (by simp; omega) fun h' eb=>⟨rfl,I.turned (t':=s.toks) (fun b o hb e=>eb b o hb e) f0 f1 f3 f4 f5⟩
 self:=fun _ _ _ _ _ st h=>wpAny_pyIter_listiter st h
theorem turn_range {P:Program} {w:World} {K:PySem.W.Frag} {tg:Expr} (it:Addr) (lo:Int) (n:Nat):Turn P w K tg (Itr lo n) [it] it (fun i h=>IsRangeIter h it (lo + (i:Nat) * 1) ((n:Int) - (i:Nat)) 1) where
 mem:=by simp
 obj:=fun i h st b hb=>by
  have e:b = it:=by simpa using hb
  subst e
  exact ⟨_,st,fun v z=>by
   have z':Data.fields _ = Data.cell v:=z
   cases z'⟩
 keep:=fun i h h' st k=>k it (by simp) _ st
 item:=by
  intro X hP hw hK hc i pins s σ H E I hf st hg
  subst hP hw hK
  obtain ⟨f0,f1,f2,f3,f4,f5⟩:=hf it (by simp)
  have W:=Walks.range (prog:=X.prog) (w:=X.w) (I.ok.hd hc) it lo 1 n
  refine W.item i s _ _ hg st fun v h' tk hv st' kk=>?_
  obtain ⟨t,rfl⟩:=hv
  have I1:Inv X pins σ H { s with heap:=h',toks:=tk }:=I.turned (fun b o hb e=>kk b o (by simpa using hb) e) f0 f1 f3 f4 f5
  refine ⟨_,rfl,go_of (s:={ s with heap:=h',toks:=tk }) (n:="range_iterator") st' rfl rfl (by decide) ⟨.int (lo + i),H,I1,⟨t,?_⟩,⟨rfl,rfl⟩,st',fun b hb=>(hf b hb).1⟩⟩
  rw [Int.mul_one]
 done:=by
  intro X hP hw hK hc i pins s σ H E I hf st hg
  subst hP hw hK
  obtain ⟨f0,f1,f2,f3,f4,f5⟩:=hf it (by simp)
  exact wpAny_pyNext_range_end (I.ok.hd hc) st (by have:n≤i:=hg; omega) fun h' eb=>⟨rfl,I.turned (t':=s.toks) (fun b o hb e=>eb b o hb e) f0 f1 f3 f4 f5⟩
 self:=fun _ _ _ _ _ st h=>wpAny_pyIter_rangeiter st h
end L2
namespace L2
open PySem PySem.Spec PyProof.Rows
section
variable {X:Cx} {tg:Expr}
def iList (K:PySem.W.Frag) (tl:TE):TI:=fun σ H R=>tl σ H fun x H1=>∃ a,x = .ref a∧(∃ xs,SqL K H1 a xs)∧R (Itl K a) H1
theorem pi_list {l:Expr} {tl:TE} (hl:PE X l tl):PI X tg l (iList X.K tl):=by
 intro pins s σ H R I h
 refine thn (hl pins s σ H _ I h) fun v s1 ⟨x,H1,I1,r1,q1⟩=>?_
 obtain ⟨a,e,⟨xs,hq⟩,q⟩:=q1
 subst e
 cases r1
 obtain ⟨its,rv,p,hz⟩:=I1.list hq
 refine wpAny_pyIter_list p.isList ?_
 refine ⟨s1.heap.objs.size,[s1.heap.objs.size],_,_,H1,rfl,I1.kept (t':=s1.toks) fun b o e=>Heap.get?_push_of_some _ e,turn_list a _,⟨_,Heap.get?_push_size _ rfl,rfl,rfl⟩,fun b hb=>?_,q⟩
 have e:b = s1.heap.objs.size:=by simpa using hb
 subst e
 exact I1.fpOk (Nat.le_refl _) (I1.hok.fresh (Nat.le_refl _))
theorem range_it {pins:List (Addr × Obj)} {σ:St} {H:Hp} {s:Shared} {R:It→Hp→Prop} {E:Value→Shared→Prop} {lo hi:Int} {t u v:Tok} {tk:Nat} (I:Inv X pins σ H s) (h1:-(2 ^ 62)≤lo) (h2:lo < 2 ^ 62) (h3:-(2 ^ 62)≤hi) (h4:hi < 2 ^ 62)
  (q:R (Itr lo (hi - lo).toNat) H):wpAny (model X.prog X.w) X.A (pyIter (.ref s.heap.objs.size)) (PIE X pins σ tg R) E { s with heap:=s.heap.push { cls:=.type "range",data:=.fields #[.int lo t,.int hi u,.int 1 v] },toks:=tk }:=by
 refine wpAny_pyIter_range (IsRange.new ..) (small_one h1 h2 h3 h4) ?_
 have I1:Inv X pins σ H { s with heap:=s.heap.push { cls:=.type "range",data:=.fields #[.int lo t,.int hi u,.int 1 v] },toks:=tk }:=I.kept fun b o e=>Heap.get?_push_of_some _ e
 refine ⟨(s.heap.push { cls:=.type "range",data:=.fields #[.int lo t,.int hi u,.int 1 v] }).objs.size,[(s.heap.push { cls:=.type "range",data:=.fields #[.int lo t,.int hi u,.int 1 v] }).objs.size],_,_,H,rfl,
  I1.kept (t':=tk) fun b o e=>Heap.get?_push_of_some _ e,turn_range _ lo (hi - lo).toNat,?_,fun b hb=>?_,q⟩
 ·have e1:lo + ((0:Nat):Int) * 1 = lo:=by simp
  have e2:(((hi - lo).toNat:Nat):Int) - ((0:Nat):Int) = Builtin.Range.rangeSize lo hi 1:=by rw [rangeSize_one]; split <;> omega
  show IsRangeIter _ _ (lo + ((0:Nat):Int) * 1) ((((hi - lo).toNat:Nat):Int) - ((0:Nat):Int)) 1
  rw [e1,e2]
  exact Heap.get?_push_size _ rfl
 ·have e:b = (s.heap.push { cls:=.type "range",data:=.fields #[.int lo t,.int hi u,.int 1 v] }).objs.size:=by simpa using hb
  subst e
  exact I1.fpOk (Nat.le_refl _) (I1.hok.fresh (Nat.le_refl _))
def iRng1 (ta:TA):TI:=fun σ H R=>ta σ H fun vs H1=>∃ j:Int,vs = [.int j]∧-(2 ^ 62)≤j∧j < 2 ^ 62∧R (Itr 0 j.toNat) H1
theorem pi_range1 {a:Expr} {ta:TA} {p pos:Pos} (hg:Gl X "range") (hm:X.mg "range" = none) (ha:PA X [a] ta) (hs:starEach [a] X.env = [(false,eval a X.env)]:=by rfl):PI X tg (.Call (.Name "range" p) [a] [] pos) (iRng1 ta):=by
 intro pins s σ H R I h
 refine Call_ (ld_blt I hg hm boot_range (PyProof.Rows.callWith_type1 (thn (ha pos pins s σ H _ I h) fun us s1 ⟨vs,H1,I1,r1,q1⟩=>?_) hs rfl))
 obtain ⟨j,e,q1,q2,q⟩:=q1
 subst e
 cases r1 with
 | cons r rr =>
  cases rr
  obtain ⟨t,rfl⟩:=r
  exact call_range_1 (range_it I1 (by omega) (by omega) q1 q2 (by simpa using q))
def tFor (wi:TI) (g:TG) (tb:TS):TS:=fun D σ H=>wi σ H fun J H1=>∃ W:Nat→Nat→St→Hp→Prop,(∃ m,W 0 m σ H1)∧∀ i m σ H,W i m σ H →
 (J.stop i H∧D.nx σ H)∨(J.go i H∧∃ N:St→Hp→Prop,(∀ σ' H',N σ' H'→∃ m',m' < m∧W (i + 1) m' σ' H')∧∀ x H',J.yld i H x H'→g x σ H' fun σ2 H2=>tb { D with nx:=N,ct:=N,bk:=D.nx } σ2 H2)
def pinsAt (fp:List Addr) (h:Heap):List (Addr × Obj):=fp.filterMap fun b=>(h.get? b).map fun o=>(b,o)
theorem mem_pinsAt {fp:List Addr} {h:Heap} {b:Addr} {o:Obj} (hb:b ∈ fp) (e:h.get? b = some o):(b,o) ∈ pinsAt fp h:=List.mem_filterMap.mpr ⟨b,hb,by rw [e]; rfl⟩
theorem of_pinsAt {fp:List Addr} {h:Heap} {p:Addr × Obj} (hp:p ∈ pinsAt fp h):p.1 ∈ fp∧h.get? p.1 = some p.2:=by
 obtain ⟨b,hb,e⟩:=List.mem_filterMap.mp hp
 cases q:h.get? b with
 | none=>rw [q] at e; cases e
 | some o =>
  rw [q] at e
  have e':(b,o) = p:=Option.some.inj e
  subst e'
  exact ⟨hb,q⟩
theorem Inv.pinned {pins:List (Addr × Obj)} {σ:St} {H:Hp} {s:Shared} {fp:List Addr} (I:Inv X pins σ H s) (hf:∀ b ∈ fp,FpOk X pins H b) (ho:∀ b ∈ fp,∃ o,s.heap.get? b = some o∧∀ v,o.data ≠ .cell v):Inv X (pins ++ pinsAt fp s.heap) σ H s :=
 I.pins_of fun p hp=>(List.mem_append.mp hp).elim (fun z=>I.pin p (List.mem_append_right _ z)) fun z=>by
  obtain ⟨hb,e⟩:=of_pinsAt z
  obtain ⟨f0,f1,f2,_⟩:=hf p.1 hb
  obtain ⟨o,e',d⟩:=ho p.1 hb
  rw [e] at e'; cases e'
  exact ⟨e,f0,f1,f2,d⟩
theorem Inv.unpinned {pins pl:List (Addr × Obj)} {σ:St} {H:Hp} {s:Shared} (I:Inv X (pins ++ pl) σ H s):Inv X pins σ H s:=I.pins_of fun p hp=>I.pin p (List.mem_append_right _ (List.mem_append_left _ hp))
theorem ps_for {iter:Expr} {body:List Stmt} {wi:TI} {g:TG} {tb:TS} {pos:Pos} (hp:PassesOwn (model X.prog X.w) X.A X.env X.xe) (hc:X.calm = true) (hi:PI X tg iter wi) (hg:PG X tg g) (hb:PSs X body tb)
  (hs:∀ x,foldedSetIterable iter X.env x = pure x:=by intro _; rfl):PS X (.For tg iter body [] pos) (tFor wi g tb):=by
 intro pins s σ H D I h
 refine wpAny_For (thn (hi pins s σ H _ I h) fun v s1 h1=>thn h1 fun itv s2 h2=>?_) hs
 obtain ⟨it,fp,tn,J,H2,e,I2,T,st2,f2,W,⟨m0,w0⟩,turn⟩:=h2
 subst e
 have stat:∀ {H':Hp},(∀ b ∈ fp,H' b = none)→∀ b ∈ fp,FpOk X pins H' b:=fun hn b hb=>⟨hn b hb,(f2 b hb).2⟩
 refine codeAny_forLoop_any (fun n s'=>∃ i σ' H',Inv X pins σ' H' s'∧tn i s'.heap∧(∀ b ∈ fp,H' b = none)∧W i n σ' H') ?_ m0 ⟨0,σ,H2,I2,st2,fun b hb=>(f2 b hb).1,w0⟩
 rintro n s3 ⟨i,σ3,H3,I3,st3,fr3,w3⟩
 rcases turn i n σ3 H3 w3 with ⟨stop,qn⟩ | ⟨go,N,hN,step⟩
 ·refine wpAny_passesOwn hp (thn (T.done X rfl rfl rfl hc i pins s3 σ3 H3 X.xe I3 (stat fr3) st3 stop) fun r s4 ⟨hr,I4⟩=>?_)
  subst hr
  exact wpAny_execs_nil ⟨σ3,H3,I4,qn⟩
 ·refine wpAny_passesOwn hp (thn (T.item X rfl rfl rfl hc i pins s3 σ3 H3 X.xe I3 (stat fr3) st3 go) fun r s4 ⟨u,hr,h4⟩=>?_)
  subst hr
  refine wpAny_passesOwn hp (thn h4 fun _ s5 ⟨x,H5,I5,r5,y5,st5,fr5⟩=>?_)
  have I5':=I5.pinned (stat fr5) (T.obj _ _ st5)
  refine wpAny_passesOwn hp (thn (hg _ s5 σ3 H5 x u _ I5' r5 (step x H5 y5)) fun _ s6 ⟨σ6,H6,I6,q6⟩=>?_)
  refine wpAny_passesOwn hp (thn (hb _ s6 σ6 H6 _ I6 q6) fun f s7 q7=>?_)
  have again:∀ {σ7:St} {H7:Hp},Inv X (pins ++ pinsAt fp s5.heap) σ7 H7 s7→N σ7 H7→∃ m,m < n∧∃ i σ' H',Inv X pins σ' H' s7∧tn i s7.heap∧(∀ b ∈ fp,H' b = none)∧W i m σ' H':=fun {σ7 H7} I7 n7=>by
   obtain ⟨m',hm,w7⟩:=hN σ7 H7 n7
   refine ⟨m',hm,i + 1,σ7,H7,I7.unpinned,T.keep _ _ _ st5 fun b hb o e=>(I7.pin (b,o) (List.mem_append_right _ (List.mem_append_right _ (mem_pinsAt hb e)))).1,fun b hb=>?_,w7⟩
   obtain ⟨o,e,d⟩:=T.obj _ _ st5 b hb
   exact (I7.pin (b,o) (List.mem_append_right _ (List.mem_append_right _ (mem_pinsAt hb e)))).2.1
  cases f with
  | next=>obtain ⟨σ7,H7,I7,n7⟩:=q7; exact again I7 n7
  | cont=>obtain ⟨σ7,H7,I7,n7⟩:=q7; exact again I7 n7
  | brk=>obtain ⟨σ7,H7,I7,q7⟩:=q7; exact ⟨σ7,H7,I7.unpinned,q7⟩
  | ret v=>obtain ⟨x7,σ7,H7,I7,r7,q7⟩:=q7; exact ⟨x7,σ7,H7,I7.unpinned,r7,q7⟩
end
theorem for_list {K:PySem.W.Frag} {a:Addr} {xs:List V} {g:TG} {tb:TS} {D:Ends} {σ:St} {H:Hp} (Pv:Nat→St→Hp→Prop) (h0:Pv 0 σ H) (hl:∀ i σ H,i≤xs.length→Pv i σ H→SqL K H a xs)
  (hs:∀ i x σ H,xs[i]? = some x→Pv i σ H→g x σ H fun σ2 H2=>tb { D with nx:=Pv (i + 1),ct:=Pv (i + 1),bk:=D.nx } σ2 H2) (hd:∀ σ H,Pv xs.length σ H→D.nx σ H) :
  ∃ W:Nat→Nat→St→Hp→Prop,(∃ m,W 0 m σ H)∧∀ i m σ H,W i m σ H →
   ((Itl K a).stop i H∧D.nx σ H)∨((Itl K a).go i H∧∃ N:St→Hp→Prop,(∀ σ' H',N σ' H'→∃ m',m' < m∧W (i + 1) m' σ' H')∧∀ x H',(Itl K a).yld i H x H'→g x σ H' fun σ2 H2=>tb { D with nx:=N,ct:=N,bk:=D.nx } σ2 H2):=by
 refine ⟨fun i m σ H=>m = xs.length - i∧i≤xs.length∧Pv i σ H,⟨xs.length,by simp,Nat.zero_le _,h0⟩,?_⟩
 rintro i m σ H ⟨rfl,hi,p⟩
 have q:=hl i σ H hi p
 by_cases hlt:i < xs.length
 ·refine .inr ⟨⟨xs,xs[i],q,by simp [hlt]⟩,Pv (i + 1),fun σ' H' p'=>⟨xs.length - (i + 1),by omega,rfl,hlt,p'⟩,fun x H' y=>?_⟩
  obtain ⟨e,y⟩:=y
  subst e
  exact hs i x σ _ (y xs q) p
 ·have e:i = xs.length:=by omega
  subst e
  exact .inl ⟨⟨xs,q,Nat.le_refl _⟩,hd σ H p⟩
theorem for_range {lo:Int} {n:Nat} {g:TG} {tb:TS} {D:Ends} {σ:St} {H:Hp} (Pv:Nat→St→Hp→Prop) (h0:Pv 0 σ H)
  (hs:∀ i σ H,i < n→Pv i σ H→g (.int (lo + i)) σ H fun σ2 H2=>tb { D with nx:=Pv (i + 1),ct:=Pv (i + 1),bk:=D.nx } σ2 H2) (hd:∀ σ H,Pv n σ H→D.nx σ H) :
  ∃ W:Nat→Nat→St→Hp→Prop,(∃ m,W 0 m σ H)∧∀ i m σ H,W i m σ H →
   ((Itr lo n).stop i H∧D.nx σ H)∨((Itr lo n).go i H∧∃ N:St→Hp→Prop,(∀ σ' H',N σ' H'→∃ m',m' < m∧W (i + 1) m' σ' H')∧∀ x H',(Itr lo n).yld i H x H'→g x σ H' fun σ2 H2=>tb { D with nx:=N,ct:=N,bk:=D.nx } σ2 H2):=by
 refine ⟨fun i m σ H=>m = n - i∧i≤n∧Pv i σ H,⟨n,by simp,Nat.zero_le _,h0⟩,?_⟩
 rintro i m σ H ⟨rfl,hi,p⟩
 by_cases hlt:i < n
 ·refine .inr ⟨hlt,Pv (i + 1),fun σ' H' p'=>⟨n - (i + 1),by omega,rfl,hlt,p'⟩,fun x H' y=>?_⟩
  obtain ⟨e,y⟩:=y
  subst e y
  exact hs i σ _ hlt p
 ·have e:i = n:=by omega
  subst e
  exact .inl ⟨Nat.le_refl _,hd σ H p⟩
theorem while_by {c:TT} {tb:TS} {D:Ends} {σ:St} {H:Hp} (Pv:St→Hp→Prop) (μ:St→Hp→Nat) (h0:Pv σ H)
  (hs:∀ σ H,Pv σ H→c σ H fun b H1=>if b = true then tb { D with nx:=fun σ' H'=>Pv σ' H'∧μ σ' H' < μ σ H,ct:=fun σ' H'=>Pv σ' H'∧μ σ' H' < μ σ H,bk:=D.nx } σ H1 else D.nx σ H1)
  (mono:∀ σ H Q Q',(∀ b H1,Q b H1→Q' b H1)→c σ H Q→c σ H Q'):tWhile c tb D σ H:=by
 refine ⟨fun m σ H=>m = μ σ H∧Pv σ H,⟨_,rfl,h0⟩,?_⟩
 rintro m σ H ⟨rfl,p⟩
 refine mono σ H _ _ (fun b H1 q=>?_) (hs σ H p)
 cases b with
 | true=>exact ⟨_,fun σ' H' ⟨p',l⟩=>⟨_,l,rfl,p'⟩,q⟩
 | false=>exact q
end L2
namespace L2
open PySem PySem.Spec PyProof.Rows
abbrev R2:=V→V→Hp→VK→Prop
def OpR (X:Cx) (f:Value→Value→Sem Value) (r:R2):Prop :=
 ∀ (pins:List (Addr × Obj)) (s:Shared) (σ:St) (H:Hp) (x y:V) (v u:Value) (Q:VK),Inv X pins σ H s→RelV x v→RelV y u→r x y H Q →
  wpAny (model X.prog X.w) X.A (f v u) (EP X pins σ Q) X.xe s
def UnR (X:Cx) (f:Value→Sem Value) (r:V→Hp→VK→Prop):Prop :=
 ∀ (pins:List (Addr × Obj)) (s:Shared) (σ:St) (H:Hp) (x:V) (v:Value) (Q:VK),Inv X pins σ H s→RelV x v→r x H Q →
  wpAny (model X.prog X.w) X.A (f v) (EP X pins σ Q) X.xe s
def CallR (X:Cx) (f:Value) (r:List V→Hp→VK→Prop):Prop :=
 ∀ (pins:List (Addr × Obj)) (s:Shared) (σ:St) (H:Hp) (xs:List V) (us:List Value) (Q:VK),Inv X pins σ H s→Vals xs us→r xs H Q →
  wpAny (model X.prog X.w) X.A (call f us) (EP X pins σ Q) X.xe s
def tOp (r:R2) (ta tb:TE):TE:=fun σ H Q=>ta σ H fun x H1=>tb σ H1 fun y H2=>r x y H2 Q
def tUn (r:V→Hp→VK→Prop) (ta:TE):TE:=fun σ H Q=>ta σ H fun x H1=>r x H1 Q
def rI (C:Int→Int→Prop) (g:Int→Int→V):R2:=fun x y H Q=>∃ i j,x = .int i∧y = .int j∧C i j∧Q (g i j) H
def rI0 (g:Int→Int→V):R2:=fun x y H Q=>∃ i j,x = .int i∧y = .int j∧Q (g i j) H
def rU (g:Int→V):V→Hp→VK→Prop:=fun x H Q=>∃ i,x = .int i∧Q (g i) H
section
variable {X:Cx} {a b c:Expr} {ta tb tc:TE} {pos:Pos}
theorem binT (ha:PE X a ta) (hb:PE X b tb) {pins:List (Addr × Obj)} {s:Shared} {σ:St} {H:Hp} {R:V→V→Hp→Prop} (I:Inv X pins σ H s)
  (h:ta σ H fun x H1=>tb σ H1 fun y H2=>R x y H2) {Q:Value→Shared→Prop} {f:Value→Value→Sem Value}
  (hf:∀ v u s2 x y H2,Inv X pins σ H2 s2→RelV x v→RelV y u→R x y H2→wpAny (model X.prog X.w) X.A (f v u) Q X.xe s2) :
  wpAny (model X.prog X.w) X.A (eval a X.env) (fun v s₁=>wpAny (model X.prog X.w) X.A (eval b X.env) (fun u s₂=>wpAny (model X.prog X.w) X.A (f v u) Q X.xe s₂) X.xe s₁) X.xe s:=by
 refine thn (ha pins s σ H _ I h) fun v s1 ⟨x,H1,I1,r1,q1⟩=>?_
 refine thn (hb pins s1 σ H1 _ I1 q1) fun u s2 ⟨y,H2,I2,r2,q2⟩=>?_
 exact hf v u s2 x y H2 I2 r1 r2 q2
theorem pe_op {op:Operator} {r:R2} (ho:OpR X (binaryOp op) r) (ha:PE X a ta) (hb:PE X b tb):PE X (.BinOp a op b pos) (tOp r ta tb):=by
 intro pins s σ H Q I h
 exact wpAny_BinOp (binT ha hb I h fun v u s2 x y H2 I2 rx ry q=>ho pins s2 σ H2 x y v u Q I2 rx ry q)
theorem pe_un {op:UnaryOp} {r:V→Hp→VK→Prop} (ho:UnR X (unaryOp op) r) (ha:PE X a ta):PE X (.UnaryOp op a pos) (tUn r ta):=by
 intro pins s σ H Q I h
 exact UnaryOp_ (thn (ha pins s σ H _ I h) fun v s1 ⟨x,H1,I1,r1,q1⟩=>ho pins s1 σ H1 x v Q I1 r1 q1)
theorem opI {f:Value→Value→Sem Value} {C:Int→Int→Prop} {g:Int→Int→Int}
  (rule:∀ (i j:Int) (t u:Tok) (s:Shared) (Q:Value→Shared→Prop) (E:Value→Shared→Prop),C i j→Q (.int (g i j) s.toks) { s with toks:=s.toks + 1 }→wpAny (model X.prog X.w) X.A (f (.int i t) (.int j u)) Q E s) :
  OpR X f (rI C fun i j=>.int (g i j)):=by
 intro pins s σ H x y v u Q I rx ry h
 obtain ⟨i,j,rfl,rfl,hc,q⟩:=h
 obtain ⟨t,rfl⟩:=rx
 obtain ⟨t',rfl⟩:=ry
 exact rule i j t t' s _ _ hc ⟨.int (g i j),H,I.tok _,⟨_,rfl⟩,q⟩
theorem opI0 {f:Value→Value→Sem Value} {g:Int→Int→Int}
  (rule:∀ (i j:Int) (t u:Tok) (s:Shared) (Q:Value→Shared→Prop) (E:Value→Shared→Prop),Q (.int (g i j) s.toks) { s with toks:=s.toks + 1 }→wpAny (model X.prog X.w) X.A (f (.int i t) (.int j u)) Q E s) :
  OpR X f (rI0 fun i j=>.int (g i j)):=by
 intro pins s σ H x y v u Q I rx ry h
 obtain ⟨i,j,rfl,rfl,q⟩:=h
 obtain ⟨t,rfl⟩:=rx
 obtain ⟨t',rfl⟩:=ry
 exact rule i j t t' s _ _ ⟨.int (g i j),H,I.tok _,⟨_,rfl⟩,q⟩
theorem opB0 {f:Value→Value→Sem Value} {g:Int→Int→Bool}
  (rule:∀ (i j:Int) (t u:Tok) (s:Shared) (Q:Value→Shared→Prop) (E:Value→Shared→Prop),Q (.bool (g i j)) s→wpAny (model X.prog X.w) X.A (f (.int i t) (.int j u)) Q E s) :
  OpR X f (rI0 fun i j=>.bl (g i j)):=by
 intro pins s σ H x y v u Q I rx ry h
 obtain ⟨i,j,rfl,rfl,q⟩:=h
 obtain ⟨t,rfl⟩:=rx
 obtain ⟨t',rfl⟩:=ry
 exact rule i j t t' s _ _ ⟨.bl (g i j),H,I,rfl,q⟩
def CPow (i j:Int):Prop:=0≤j∧j≤1000000∧i.natAbs < 2 ^ 64
def CMul (i j:Int):Prop:=(-(2 ^ 64) < i∧i < 2 ^ 64)∨(-(2 ^ 64) < j∧j < 2 ^ 64)
theorem CMul.ok {i j:Int} (h:CMul i j):IntMulOk i j:=by
 rcases h with ⟨h1,h2⟩ | ⟨h1,h2⟩
 ·exact .of_left (intBits_le_64 h1 h2)
 ·exact .of_right (intBits_le_64 h1 h2)
theorem two_pow_nn (k:Nat):(0:Int)≤2 ^ k:=by
 rw [two_pow_cast]
 exact Int.natCast_nonneg _
theorem op_add:OpR X (binaryOp .Add) (rI0 fun i j=>.int (i + j)):=opI0 fun _ _ _ _ _ _ _ q=>add_int q
theorem op_sub:OpR X (binaryOp .Sub) (rI0 fun i j=>.int (i - j)):=opI0 fun _ _ _ _ _ _ _ q=>sub_int q
theorem op_mul:OpR X (binaryOp .Mult) (rI CMul fun i j=>.int (i * j)):=opI fun _ _ _ _ _ _ _ hc q=>mul_int q hc.ok
theorem op_mod:OpR X (binaryOp .Mod) (rI (fun _ j=>0 < j) fun i j=>.int (i % j)):=opI fun i j _ _ _ _ _ hc q=>by
 have h1:(0:Int) < j:=hc
 exact mod_int' (by omega) (by rw [Int.fmod_eq_emod_of_nonneg i (by omega)]; exact q)
theorem op_pow:OpR X (binaryOp .Pow) (rI CPow fun i j=>.int (i ^ j.toNat)):=opI fun _ _ _ _ _ _ _ hc q=>pow_int_small hc.1 hc.2.1 hc.2.2 q
theorem op_shl:OpR X (binaryOp .LShift) (rI CPow fun i j=>.int (i * 2 ^ j.toNat)):=opI fun _ _ _ _ _ _ _ hc q=>lshift_int_small hc.1 hc.2.1 hc.2.2 q
theorem op_shr:OpR X (binaryOp .RShift) (rI (fun _ j=>0≤j) fun i j=>.int (i / 2 ^ j.toNat)):=opI fun i j _ _ _ _ _ hc q =>
 rshift_int hc (by rw [Int.fdiv_eq_ediv_of_nonneg i (two_pow_nn _)]; exact q)
theorem unI {f:Value→Sem Value} {g:Int→Int}
  (rule:∀ (i:Int) (t:Tok) (s:Shared) (Q:Value→Shared→Prop) (E:Value→Shared→Prop),Q (.int (g i) s.toks) { s with toks:=s.toks + 1 }→wpAny (model X.prog X.w) X.A (f (.int i t)) Q E s) :
  UnR X f (rU fun i=>.int (g i)):=by
 intro pins s σ H x v Q I rx h
 obtain ⟨i,rfl,q⟩:=h
 obtain ⟨t,rfl⟩:=rx
 exact rule i t s _ _ ⟨.int (g i),H,I.tok _,⟨_,rfl⟩,q⟩
theorem un_neg:UnR X (unaryOp .USub) (rU fun i=>.int (-i)):=unI fun _ _ _ _ _ q=>neg_int q
end
def scal:V→V→Bool
 | .non,.non=>true | .non,.int _=>true | .int _,.non=>true | .non,.bl _=>true | .bl _,.non=>true | .non,.str _=>true | .str _,.non=>true
 | .int _,.int _=>true | .bl _,.bl _=>true | .str _,.str _=>true | .byt _,.byt _=>true
 | .int _,.str _=>true | .str _,.int _=>true | .bl _,.str _=>true | .str _,.bl _=>true
 | _,_=>false
def rEq:R2:=fun x y H Q=>scal x y = true∧Q (.bl (decide (x = y))) H
def rNe:R2:=fun x y H Q=>scal x y = true∧Q (.bl (!decide (x = y))) H
theorem dec_int {i j:Int}:decide (V.int i = V.int j) = (i == j):=by
 rw [Bool.eq_iff_iff]
 simp
theorem dec_bl {i j:Bool}:decide (V.bl i = V.bl j) = (i == j):=by
 rw [Bool.eq_iff_iff]
 simp
theorem dec_str {i j:Str}:decide (V.str i = V.str j) = (i == j):=by
 rw [Bool.eq_iff_iff]
 simp
theorem dec_byt {i j:Array UInt8}:decide (V.byt i = V.byt j) = (i.toList == j.toList):=by
 rw [Bool.eq_iff_iff]
 cases i
 cases j
 simp
section
variable {X:Cx} {a b c:Expr} {ta tb tc:TE} {pos:Pos}
theorem fin_bl {pins:List (Addr × Obj)} {σ:St} {H:Hp} {s:Shared} {Q:VK} {k k':Bool} (I:Inv X pins σ H s) (q:Q (.bl k) H) (e:k = k'):EP X pins σ Q (.bool k') s:=by
 subst e
 exact ⟨.bl k,H,I,rfl,q⟩
theorem op_eq:OpR X (compareOp .Eq) rEq:=by
 intro pins s σ H x y v u Q I rx ry h
 obtain ⟨hs,q⟩:=h
 cases x with
 | non =>
  cases rx
  cases y with
  | non=>cases ry; exact PySem.EqNone.eq_none_none (fin_bl I q (by simp))
  | bl j=>cases ry; exact PySem.EqNone.eq_none_bool (fin_bl I q (by simp))
  | int j=>obtain ⟨t',rfl⟩:=ry; exact PySem.EqNone.eq_none_int (fin_bl I q (by simp))
  | str j=>obtain ⟨t',rfl⟩:=ry; exact PySem.EqNone.eq_none_str (fin_bl I q (by simp))
  | _=>exact absurd (show false = true from hs) Bool.false_ne_true
 | bl i =>
  cases rx
  cases y with
  | non=>cases ry; exact PySem.EqNone.eq_bool_none (fin_bl I q (by simp))
  | bl j=>cases ry; exact eq_bool (fin_bl I q dec_bl)
  | str j=>obtain ⟨t',rfl⟩:=ry; exact PySem.EqMixed.eq_bool_str (fin_bl I q (by simp))
  | _=>exact absurd (show false = true from hs) Bool.false_ne_true
 | int i =>
  obtain ⟨t,rfl⟩:=rx
  cases y with
  | non=>cases ry; exact PySem.EqNone.eq_int_none (fin_bl I q (by simp))
  | int j=>obtain ⟨t',rfl⟩:=ry; exact eq_int (fin_bl I q dec_int)
  | str j=>obtain ⟨t',rfl⟩:=ry; exact PySem.EqMixed.eq_int_str (fin_bl I q (by simp))
  | _=>exact absurd (show false = true from hs) Bool.false_ne_true
 | str i =>
  obtain ⟨t,rfl⟩:=rx
  cases y with
  | non=>cases ry; exact PySem.EqNone.eq_str_none (fin_bl I q (by simp))
  | bl j=>cases ry; exact PySem.EqMixed.eq_str_bool (fin_bl I q (by simp))
  | int j=>obtain ⟨t',rfl⟩:=ry; exact PySem.EqMixed.eq_str_int (fin_bl I q (by simp))
  | str j=>obtain ⟨t',rfl⟩:=ry; exact eq_str (fin_bl I q dec_str)
  | _=>exact absurd (show false = true from hs) Bool.false_ne_true
 | byt i =>
  obtain ⟨t,rfl⟩:=rx
  cases y with
  | byt j=>obtain ⟨t',rfl⟩:=ry; exact PySem.W.eq_bytes (fin_bl I q dec_byt)
  | _=>exact absurd (show false = true from hs) Bool.false_ne_true
 | _=>cases y <;> exact absurd (show false = true from hs) Bool.false_ne_true
theorem op_ne:OpR X (compareOp .NotEq) rNe:=by
 intro pins s σ H x y v u Q I rx ry h
 obtain ⟨hs,q⟩:=h
 cases x with
 | non =>
  cases rx
  cases y with
  | non=>cases ry; exact PySem.EqNone.ne_none_none (fin_bl I q (by simp))
  | bl j=>cases ry; exact PySem.EqNone.ne_none_bool (fin_bl I q (by simp))
  | int j=>obtain ⟨t',rfl⟩:=ry; exact PySem.EqNone.ne_none_int (fin_bl I q (by simp))
  | str j=>obtain ⟨t',rfl⟩:=ry; exact PySem.EqNone.ne_none_str (fin_bl I q (by simp))
  | _=>exact absurd (show false = true from hs) Bool.false_ne_true
 | bl i =>
  cases rx
  cases y with
  | non=>cases ry; exact PySem.EqNone.ne_bool_none (fin_bl I q (by simp))
  | bl j=>cases ry; exact ne_bool (fin_bl I q (congrArg not dec_bl))
  | str j=>obtain ⟨t',rfl⟩:=ry; exact PySem.EqMixed.ne_bool_str (fin_bl I q (by simp))
  | _=>exact absurd (show false = true from hs) Bool.false_ne_true
 | int i =>
  obtain ⟨t,rfl⟩:=rx
  cases y with
  | non=>cases ry; exact PySem.EqNone.ne_int_none (fin_bl I q (by simp))
  | int j=>obtain ⟨t',rfl⟩:=ry; exact ne_int (fin_bl I q (congrArg not dec_int))
  | str j=>obtain ⟨t',rfl⟩:=ry; exact PySem.EqMixed.ne_int_str (fin_bl I q (by simp))
  | _=>exact absurd (show false = true from hs) Bool.false_ne_true
 | str i =>
  obtain ⟨t,rfl⟩:=rx
  cases y with
  | non=>cases ry; exact PySem.EqNone.ne_str_none (fin_bl I q (by simp))
  | bl j=>cases ry; exact PySem.EqMixed.ne_str_bool (fin_bl I q (by simp))
  | int j=>obtain ⟨t',rfl⟩:=ry; exact PySem.EqMixed.ne_str_int (fin_bl I q (by simp))
  | str j=>obtain ⟨t',rfl⟩:=ry; exact ne_str (fin_bl I q (congrArg not dec_str))
  | _=>exact absurd (show false = true from hs) Bool.false_ne_true
 | byt i =>
  obtain ⟨t,rfl⟩:=rx
  cases y with
  | byt j=>obtain ⟨t',rfl⟩:=ry; exact PySem.W.ne_bytes (fin_bl I q (congrArg not dec_byt))
  | _=>exact absurd (show false = true from hs) Bool.false_ne_true
 | _=>cases y <;> exact absurd (show false = true from hs) Bool.false_ne_true
theorem op_lt:OpR X (compareOp .Lt) (rI0 fun i j=>.bl (decide (i < j))):=opB0 fun _ _ _ _ _ _ _ q=>lt_int q
theorem op_le:OpR X (compareOp .LtE) (rI0 fun i j=>.bl (decide (i≤j))):=opB0 fun _ _ _ _ _ _ _ q=>le_int q
theorem op_gt:OpR X (compareOp .Gt) (rI0 fun i j=>.bl (decide (j < i))):=opB0 fun _ _ _ _ _ _ _ q=>gt_int q
theorem op_isN:OpR X (compareOp .Is) (fun x y H Q=>y = .non∧Q (.bl (decide (x = .non))) H):=by
 intro pins s σ H x y v u Q I rx ry h
 obtain ⟨rfl,q⟩:=h
 cases ry
 refine is_none_gen (fin_bl I q ?_)
 cases x <;> first
  | (cases rx; rfl)
  | (obtain ⟨t,rfl⟩:=rx; rfl)
theorem op_notN:OpR X (compareOp .IsNot) (fun x y H Q=>y = .non∧Q (.bl (!decide (x = .non))) H):=by
 intro pins s σ H x y v u Q I rx ry h
 obtain ⟨rfl,q⟩:=h
 cases ry
 refine isnot_none_gen (fin_bl I q ?_)
 cases x <;> first
  | (cases rx; rfl)
  | (obtain ⟨t,rfl⟩:=rx; rfl)
theorem nomark (b:Expr) {op:CmpOp} (h:op ≠ .In:=by decide) (h2:op ≠ .NotIn:=by decide):behindInMarks op b = false:=by
 have e1:(op == CmpOp.In) = false:=by cases op <;> first | rfl | exact absurd rfl h
 have e2:(op == CmpOp.NotIn) = false:=by cases op <;> first | rfl | exact absurd rfl h2
 cases b <;> simp [behindInMarks,e1,e2]
theorem pe_cmpR {op:CmpOp} {r:R2} (ho:OpR X (compareOp op) r) (ha:PE X a ta) (hb:PE X b tb) (hm:behindInMarks op b = false):PE X (.Compare a [op] [b] pos) (tOp r ta tb):=by
 intro pins s σ H Q I h
 exact wpAny_Compare1 (binT ha hb I h fun v u s2 x y H2 I2 rx ry q=>ho pins s2 σ H2 x y v u Q I2 rx ry q) hm
def tTest (t:TE):TT:=fun σ H Q=>t σ H fun x H'=>∃ k,x = .bl k∧Q k H'
theorem pt_cmpR {op:CmpOp} {r:R2} (ho:OpR X (compareOp op) r) (ha:PE X a ta) (hb:PE X b tb) (hm:behindInMarks op b = false):PT X (.Compare a [op] [b] pos) (tTest (tOp r ta tb)):=by
 intro pins s σ H Q I h
 refine wpAny_isTrue_Compare1 (thn (ha pins s σ H _ I h) fun v s1 ⟨x,H1,I1,r1,q1⟩=>thn (hb pins s1 σ H1 _ I1 q1) fun u s2 ⟨y,H2,I2,r2,q2⟩ =>
  thn (ho pins s2 σ H2 x y v u _ I2 r1 r2 q2) fun c s3 ⟨z,H3,I3,r3,k,e,q3⟩=>?_) hm
 subst e
 cases r3
 exact wpAny_truthy_bool ⟨H3,I3,q3⟩
def tChain (r r':R2) (ta tb tc:TE):TE:=fun σ H Q=>ta σ H fun x H1=>tb σ H1 fun y H2=>r x y H2 fun z H3=>∃ k,z = .bl k ∧
 (if k = true then tc σ H3 fun w' H4=>r' y w' H4 Q else Q (.bl false) H3)
theorem pe_chain {op op':CmpOp} {r r':R2} (ho:OpR X (compareOp op) r) (ho':OpR X (compareOp op') r') (ha:PE X a ta) (hb:PE X b tb) (hc:PE X c tc)
  (hm:lastMarks [op,op'] [b,c] = false:=by with_unfolding_all rfl):PE X (.Compare a [op,op'] [b,c] pos) (tChain r r' ta tb tc):=by
 intro pins s σ H Q I h
 refine Compare_chain (thn (ha pins s σ H _ I h) fun v s1 ⟨x,H1,I1,r1,q1⟩=>chain_link (thn (hb pins s1 σ H1 _ I1 q1) fun u s2 ⟨y,H2,I2,r2,q2⟩ =>
  thn (ho pins s2 σ H2 x y v u _ I2 r1 r2 q2) fun d s3 ⟨z,H3,I3,r3,k,e,q3⟩=>?_)) hm
 subst e
 cases r3
 refine wpAny_truthy_bool ?_
 cases k with
 | false=>exact ite_ff ⟨.bl false,H3,I3,rfl,q3⟩
 | true=>exact ite_tt (chain_last (thn (hc pins s3 σ H3 _ I3 q3) fun w' s4 ⟨z',H4,I4,r4,q4⟩=>ho' pins s4 σ H4 y z' u w' Q I4 r2 r4 q4))
theorem line63:(sizeLine:Nat) < 2 ^ 63:=by rw [sizeLine_eq]; decide
theorem op_add_str:OpR X (binaryOp .Add) (fun x y H Q=>∃ i j,x = .str i∧y = .str j∧i.length + j.length≤sizeLine∧Q (.str (i ++ j)) H):=by
 intro pins s σ H x y v u Q I rx ry h
 obtain ⟨i,j,rfl,rfl,hz,q⟩:=h
 obtain ⟨t,rfl⟩:=rx
 obtain ⟨t',rfl⟩:=ry
 exact add_str (fun t' tk=>⟨.str (i ++ j),H,I.tok _,⟨_,rfl⟩,q⟩) hz
theorem vals1 {x:V} {us:List Value} (r:Vals [x] us):∃ u,us = [u]∧RelV x u:=by
 cases r with
 | cons r1 r2=>cases r2; exact ⟨_,rfl,r1⟩
theorem vals2 {x y:V} {us:List Value} (r:Vals [x,y] us):∃ u w',us = [u,w']∧RelV x u∧RelV y w':=by
 cases r with
 | cons r1 r2 =>
  cases r2 with
  | cons r3 r4=>cases r4; exact ⟨_,_,rfl,r1,r3⟩
theorem call_abs:CallR X (.builtin "abs") (fun xs H Q=>∃ i,xs = [.int i]∧Q (.int (if i < 0 then -i else i)) H):=by
 intro pins s σ H xs us Q I r h
 obtain ⟨i,rfl,q⟩:=h
 obtain ⟨u,rfl,t,rfl⟩:=vals1 r
 exact call_abs_int fun u tk=>⟨.int (if i < 0 then -i else i),H,I.tok _,⟨_,rfl⟩,q⟩
theorem call_max2 (hc:X.calm = true):CallR X (.builtin "max") (fun xs H Q=>∃ i j,xs = [.int i,.int j]∧Q (.int (if j > i then j else i)) H):=by
 intro pins s σ H xs us Q I r h
 obtain ⟨i,j,rfl,q⟩:=h
 obtain ⟨u,w',rfl,⟨t,rfl⟩,⟨t',rfl⟩⟩:=vals2 r
 refine max_two_ints (I.ok.hd hc) fun h' tk k=>⟨_,H,I.kept k,?_,q⟩
 by_cases hj:j > i
 ·rw [if_pos hj,if_pos hj]; exact ⟨_,rfl⟩
 ·rw [if_neg hj,if_neg hj]; exact ⟨_,rfl⟩
theorem call_min2 (hc:X.calm = true):CallR X (.builtin "min") (fun xs H Q=>∃ i j,xs = [.int i,.int j]∧Q (.int (if j < i then j else i)) H):=by
 intro pins s σ H xs us Q I r h
 obtain ⟨i,j,rfl,q⟩:=h
 obtain ⟨u,w',rfl,⟨t,rfl⟩,⟨t',rfl⟩⟩:=vals2 r
 refine min_two_ints (I.ok.hd hc) fun h' tk k=>⟨_,H,I.kept k,?_,q⟩
 by_cases hj:j < i
 ·rw [if_pos hj,if_pos hj]; exact ⟨_,rfl⟩
 ·rw [if_neg hj,if_neg hj]; exact ⟨_,rfl⟩
end
end L2
namespace L2
open PySem PySem.Spec PyProof.Rows
structure ObjM (h:Heap) (x dx C:Addr) (mA:Str→Option Value):Prop where
 obj:h.get? x = some (PySem.W.instObj C dx)
 ns:h.Ns1 dx mA
 ne:dx ≠ x
theorem lookIn_ns {h:Heap} {dx:Addr} {mA:Str→Option Value} (n:h.Ns1 dx mA):∃ od,h.get? dx = some od∧∀ name,PySem.W.lookIn name od = some (mA name):=by
 obtain ⟨o,es,ep,ho,hd,hk,_,hm⟩:=n
 refine ⟨o,ho,fun name=>?_⟩
 have e:=hm name
 unfold nsFind findBy at e
 rw [← Array.find?_toList] at e
 unfold PySem.W.lookIn
 rw [hd]
 dsimp only
 split
 ·rename_i y q
  rw [q] at e
  exact congrArg some e
 ·rename_i q
  rw [q] at e
  have a:es.toList.any (·.refKey) = false:=by
   rw [List.any_eq_false]
   intro y hy
   obtain ⟨z,t,hkey⟩:=hk y (Array.mem_toList_iff.mp hy)
   simp [DictEntry.refKey,hkey]
  have a':¬ es.toList.any (·.refKey) = true:=by rw [a]; exact Bool.false_ne_true
  rw [if_neg a']
  exact congrArg some e
theorem ObjM.look {h:Heap} {x dx C:Addr} {mA:Str→Option Value} (I:ObjM h x dx C mA):∃ od,PySem.W.InstAt h x (PySem.W.instObj C dx) C (some od)∧∀ name,PySem.W.lookIn name od = some (mA name) :=
 let ⟨od,ho,hl⟩:=lookIn_ns I.ns
 ⟨od,⟨I.obj,rfl,rfl,ho⟩,hl⟩
section
variable {prog:Program} {w:World} {A:Around} {E:Value→Shared→Prop} {s:Shared} {K:PySem.W.Frag} {x dx C f:Addr} {mA:Str→Option Value} {name:Str} {v:Value}
theorem get_map {expr:Bool} {Q:Value→Shared→Prop} (X:K.In s.heap) (I:ObjM s.heap x dx C mA) (hg:PySem.W.plainGet K C name = true) (hh:PySem.W.hasDictIn K C = true)
  (ha:PySem.W.findIn K (.ref C) name = some none) (hv:mA name = some v) (hv':PySem.W.handedIn v = true) (h:Q v { s with toks:=s.toks + 1 }) :
  wpAny (model prog w) A (getAttr (.ref x) name expr) Q E s:=by
 obtain ⟨od,J,hl⟩:=I.look
 exact PySem.W.get_value X J (PySem.W.plainGet_of hg).1 (PySem.W.findObj_own hh ha rfl (by rw [hl,hv])) hv' h
theorem get_meth {pl:Sem Bool} {Q:Value × List Value→Shared→Prop} (X:K.In s.heap) (I:ObjM s.heap x dx C mA) (hg:PySem.W.plainGet K C name = true)
  (hf:PySem.W.findIn K (.ref C) name = some (some (.ref f))) (ht:PySem.W.isFn K (.ref f) = true) (hv:mA name = none) (h:Q (.ref f,[.ref x]) s) :
  wpAny (model prog w) A (getMethod (.ref x) name pl) Q E s:=by
 obtain ⟨od,J,hl⟩:=I.look
 exact PySem.W.method_fn X J (PySem.W.plainGet_of hg).1 (PySem.W.plainGet_of hg).2 hf (beq_iff_eq.mp ht) (by show (PySem.W.lookIn name od).map (·.isSome) = some false; rw [hl,hv]; rfl) h
theorem set_map {ns:List Str} {Q:Unit→Shared→Prop} (X:K.In s.heap) (I:ObjM s.heap x dx C mA)
  (hs:PySem.W.findIn K (.ref C) "__setattr__" = some (some (.builtin "object.__setattr__"))) (hp:PySem.W.plainOver K C = true) (ht:PySem.W.takerIn K C name = some none) (hh:PySem.W.hasDictIn K C = true)
  (hw:PySem.Within mA ns) (hsz:ns.length≤sizeLine)
  (h:∀ h',ObjM h' x dx C (fun y=>if y = name then some v else mA y)→Heap.SameBut dx s.heap h'→Q () { s with heap:=h',toks:=s.toks + 2 }) :
  wpAny (model prog w) A (setAttr (.ref x) name v) Q E s:=by
 obtain ⟨od,J,hl⟩:=I.look
 refine PySem.W.set_plain X J hs (PySem.W.osa_open (s:={ s with toks:=s.toks + 1 }) (r:=none) X J hp ht fun b=>?_)
 obtain ⟨cd,hc,hd'⟩:=PySem.W.any_some hh
 have hx:s.heap.get? x = some ⟨.ref C,some dx,.plain,#[]⟩:=I.obj
 refine wpAny_bind (wpAny_pure (wpAny_bind (wpAny_bind (wpAny_loadPart hx (wpAny_bind (PySem.W.Looks.here (s:={ s with toks:=s.toks + 1 }) (PySem.W.looks_clsIn X hc) ?_))))))
 rw [hd']
 refine wpAny_pure (a:=some dx) (wpAny_bind (wpAny_pure (wpAny_bind ?_)))
 refine wpAny_nsSet1 (s:={ s with toks:=s.toks + 1 }) I.ns fun h' hn2 hs2=>?_
 obtain ⟨oD,esD,epD,hoD,hdD,hcD⟩:=hn2.count (PySem.Within.cons name v hw)
 refine wpAny_bind (wpAny_lookBehind hoD (by rw [hdD]; exact pastItsLine_dict (Nat.le_trans hcD (by rw [List.length_cons]; omega))) ?_)
 exact wpAny_pure (h _ ⟨(hs2.2 _ (Ne.symm I.ne)).trans I.obj,hn2,I.ne⟩ hs2)
theorem make_map {R:Result→Shared→Prop} {vs:List Value} {kw:List (Str × Value)} (X:K.In s.heap) (hm:PySem.W.makesIn K C = true)
  (hi:PySem.W.findIn K (.ref C) "__init__" = some (some (.ref f))) (hf:PySem.W.typeIn K (.ref f) = some (.type "function"))
  (h:codeAny (model prog w) (A.under (.builtin "type.__call__" ⟨.ref C :: vs,kw⟩)) (.call (.ref f) ⟨.ref (s.heap.objs.size + 1) :: vs,kw⟩) (PySem.W.InitBack (s.heap.objs.size + 1) R)
   { s with heap:=(s.heap.push PySem.W.emptyDict).push (PySem.W.instObj C s.heap.objs.size) }) :
  codeAny (model prog w) A (.call (.ref C) ⟨vs,kw⟩) R s:=by
 obtain ⟨hh,g,d,t,os⟩:=s
 exact PySem.W.make_core (PySem.W.makes_of X hm) (PySem.W.looks_findIn X hi) (fun self=>PySem.W.bind_fn X self hf) (.inl rfl) h
end
def putF (f:Str) (v:V):List (Str × V)→List (Str × V)
 | []=>[(f,v)]
 | (g,x) :: r=>if g = f then (g,v) :: r else (g,x) :: putF f v r
theorem lookup_putF (f g:Str) (v:V):∀ fs:List (Str × V),(putF f v fs).lookup g = if g = f then some v else fs.lookup g
 | []=>by
  show List.lookup g [(f,v)] = _
  by_cases h:g = f
  ·have hb:(g == f) = true:=beq_iff_eq.mpr h
   simp only [List.lookup,hb,if_pos h]
  ·have hb:(g == f) = false:=beq_eq_false_iff_ne.mpr h
   simp only [List.lookup,hb,if_neg h]
 | (k,x) :: r=>by
  have ih:=lookup_putF f g v r
  rw [show putF f v ((k,x) :: r) = (if k = f then (k,v) :: r else (k,x) :: putF f v r) from rfl]
  by_cases hk:k = f
  ·rw [if_pos hk]
   by_cases h:g = k
   ·have hb:(g == k) = true:=beq_iff_eq.mpr h
    simp only [List.lookup,hb,if_pos (h.trans hk)]
   ·have hb:(g == k) = false:=beq_eq_false_iff_ne.mpr h
    simp only [List.lookup,hb,if_neg (fun e:g = f=>h (e.trans hk.symm))]
  ·rw [if_neg hk]
   by_cases h:g = k
   ·have hb:(g == k) = true:=beq_iff_eq.mpr h
    simp only [List.lookup,hb,if_neg (fun e:g = f=>hk (h.symm.trans e))]
   ·have hb:(g == k) = false:=beq_eq_false_iff_ne.mpr h
    simp only [List.lookup,hb]
    exact ih
theorem keys_putF (f:Str) (v:V):∀ fs:List (Str × V),f ∈ (putF f v fs).map (·.1)∧∀ g,g ∈ fs.map (·.1)→g ∈ (putF f v fs).map (·.1)
 | []=>⟨by simp [putF],fun g h=>by simp at h⟩
 | (k,x) :: r=>by
  obtain ⟨i1,i2⟩:=keys_putF f v r
  rw [show putF f v ((k,x) :: r) = (if k = f then (k,v) :: r else (k,x) :: putF f v r) from rfl]
  by_cases hk:k = f
  ·rw [if_pos hk]
   subst hk
   exact ⟨by simp,fun g h=>by simpa using h⟩
  ·rw [if_neg hk]
   refine ⟨?_,fun g h=>?_⟩
   ·rw [List.map_cons]
    exact List.mem_cons_of_mem _ i1
   ·rw [List.map_cons] at h ⊢
    rcases List.mem_cons.mp h with e | e
    ·exact List.mem_cons.mpr (.inl e)
    ·exact List.mem_cons_of_mem _ (i2 g e)
theorem length_putF (f:Str) (v:V):∀ fs:List (Str × V),(putF f v fs).length≤fs.length + 1
 | []=>by simp [putF]
 | (k,x) :: r=>by
  have ih:=length_putF f v r
  rw [show putF f v ((k,x) :: r) = (if k = f then (k,v) :: r else (k,x) :: putF f v r) from rfl]
  by_cases hk:k = f
  ·rw [if_pos hk,List.length_cons,List.length_cons]; omega
  ·rw [if_neg hk,List.length_cons,List.length_cons]; omega
theorem RelO.some_of {v:V} {o:Option Value} (r:RelO (some v) o):∃ u,o = some u∧RelV v u:=by
 cases o with
 | none=>exact (show False from r).elim
 | some u=>exact ⟨u,rfl,r⟩
theorem RelO.none_of {o:Option Value} (r:RelO none o):o = none:=by
 cases o with
 | none=>rfl
 | some u=>exact (show False from r).elim
theorem handed_of {v:V} {u:Value} (r:RelV v u):PySem.W.handedIn u = true:=by
 cases v with
 | non=>cases (show u = Value.none from r); rfl
 | bl b=>cases (show u = Value.bool b from r); rfl
 | int i=>obtain ⟨t,e⟩:=(show ∃ t,u = Value.int i t from r); cases e; rfl
 | str x=>obtain ⟨t,e⟩:=(show ∃ t,u = Value.str x t from r); cases e; rfl
 | byt b=>obtain ⟨t,e⟩:=(show ∃ t,u = Value.bytes b t from r); cases e; rfl
 | flt b=>obtain ⟨t,e⟩:=(show ∃ t,u = Value.float b t from r); cases e; rfl
 | ref a=>cases (show u = Value.ref a from r); rfl
 | ty n=>cases (show u = Value.type n from r); rfl
section
variable {P:Program} {w:World} {H H':Hp} {h h':Heap} {a C dx:Addr} {fs fs':List (Str × V)}
theorem ins_get (hok:HOk P w H h) (e:H a = some (.ins C dx fs)):∃ mA,ObjM h a dx C mA∧(∀ f,RelO (fs.lookup f) (mA f))∧PySem.Within mA (fs.map (·.1))∧fs.length≤1000∧H dx = some (.own a):=by
 obtain ⟨d,z,ne,ob,mA,n,r,q⟩:=(show ObjOk P w H h a (.ins C dx fs) from hok a _ e)
 exact ⟨mA,⟨ob,n,ne⟩,r,q,z,d⟩
end
structure Cls (K:PySem.W.Frag) (C:Addr):Prop where
 pg:PySem.W.plainGet K C Str.empty = true
 hd:PySem.W.hasDictIn K C = true
 po:PySem.W.plainOver K C = true
 sa:PySem.W.findIn K (.ref C) "__setattr__" = some (some (.builtin "object.__setattr__"))
theorem Cls.get {K:PySem.W.Frag} {C:Addr} (c:Cls K C) (f:Str):PySem.W.plainGet K C f = true:=c.pg
def NoAttr (K:PySem.W.Frag) (C:Addr) (f:Str):Prop:=PySem.W.findIn K (.ref C) f = some none
theorem NoAttr.taker {K:PySem.W.Frag} {C:Addr} {f:Str} (n:NoAttr K C f):PySem.W.takerIn K C f = some none:=by
 unfold PySem.W.takerIn
 rw [show PySem.W.findIn K (.ref C) f = some none from n]
 rfl
structure Meth (K:PySem.W.Frag) (C:Addr) (m:Str) (f:Addr):Prop where
 at_:PySem.W.findIn K (.ref C) m = some (some (.ref f))
 fn:PySem.W.isFn K (.ref f) = true
 kp:PySem.W.keepIn K (.ref f) = true
section
variable {X:Cx} {pins:List (Addr × Obj)} {σ:St} {H:Hp} {s:Shared} {a C dx:Addr} {fs:List (Str × V)} {f:Str} {v:V} {A:Around} {E:Value→Shared→Prop}
theorem getattr_ok {b:Bool} {Q:Value→Shared→Prop} (I:Inv X pins σ H s) (e:H a = some (.ins C dx fs)) (c:Cls X.K C) (n:NoAttr X.K C f) (l:fs.lookup f = some v)
  (h:∀ u s',Inv X pins σ H s'→RelV v u→Q u s'):wpAny (model X.prog X.w) A (getAttr (.ref a) f b) Q E s:=by
 obtain ⟨mA,O,r,_,_,_⟩:=ins_get I.hok e
 obtain ⟨u,hu,ru⟩:=RelO.some_of (v:=v) (o:=mA f) (by rw [← l]; exact r f)
 exact get_map I.kIn O (c.get f) c.hd n hu (handed_of ru) (h u _ (I.tok _) ru)
theorem getmeth_ok {m:Str} {g:Addr} {pl:Sem Bool} {Q:Value × List Value→Shared→Prop} (I:Inv X pins σ H s) (e:H a = some (.ins C dx fs)) (c:Cls X.K C) (k:Meth X.K C m g) (l:fs.lookup m = none)
  (h:Q (.ref g,[.ref a]) s):wpAny (model X.prog X.w) A (getMethod (.ref a) m pl) Q E s:=by
 obtain ⟨mA,O,r,_,_,_⟩:=ins_get I.hok e
 have hn:mA m = none:=RelO.none_of (by rw [← l]; exact r m)
 exact get_meth I.kIn O (c.get m) k.at_ k.fn hn h
theorem setattr_ok {y:V} {u:Value} {Q:Unit→Shared→Prop} (I:Inv X pins σ H s) (e:H a = some (.ins C dx fs)) (c:Cls X.K C) (n:NoAttr X.K C f) (hl:fs.length < 1000) (ry:RelV y u)
  (h:∀ s',Inv X pins σ (upd H a (.ins C dx (putF f y fs))) s'→Q () s'):wpAny (model X.prog X.w) A (setAttr (.ref a) f u) Q E s:=by
 obtain ⟨mA,O,r,wi,_,ho⟩:=ins_get I.hok e
 have hz:(fs.map (·.1)).length≤sizeLine:=by rw [List.length_map,sizeLine_eq]; omega
 refine set_map I.kIn O c.sa c.po n.taker c.hd wi hz fun h' O' sb=>h _ ?_
 have hd:∃ o,h'.get? dx = some o:=let ⟨o,_,_,e',_⟩:=O'.ns; ⟨o,e'⟩
 refine I.write (x:=a) (e:=dx) (by rw [e]; exact True.intro) (.inr ho) (fun b q hb z=>(sb.2 b hb).trans z) hd ?_
 refine ⟨by rw [upd_ne O.ne]; exact ho,?_,O.ne,O'.obj,_,O'.ns,fun g=>?_,fun g hg=>?_⟩
 ·have:=length_putF f y fs; omega
 ·show RelO ((putF f y fs).lookup g) (if g = f then some u else mA g)
  rw [lookup_putF]
  by_cases q:g = f
  ·rw [if_pos q,if_pos q]; exact ry
  ·rw [if_neg q,if_neg q]; exact r g
 ·by_cases q:g = f
  ·rw [q]; exact (keys_putF f y fs).1
  ·refine (keys_putF f y fs).2 g (wi g fun z=>hg ?_)
   show (if g = f then some u else mA g) = none
   rw [if_neg q]; exact z
theorem Inv.made (I:Inv X pins σ H s):Inv X pins σ (upd (upd H s.heap.objs.size (.own (s.heap.objs.size + 1))) (s.heap.objs.size + 1) (.ins C s.heap.objs.size []))
  { s with heap:=(s.heap.push PySem.W.emptyDict).push (PySem.W.instObj C s.heap.objs.size) }:=by
 have e1:(s.heap.push PySem.W.emptyDict).get? s.heap.objs.size = some PySem.W.emptyDict:=Heap.get?_push_size s.heap rfl
 have e2:((s.heap.push PySem.W.emptyDict).push (PySem.W.instObj C s.heap.objs.size)).get? (s.heap.objs.size + 1) = some (PySem.W.instObj C s.heap.objs.size):=by
  have:=Heap.get?_push_size (s.heap.push PySem.W.emptyDict) (o:=PySem.W.instObj C s.heap.objs.size) rfl
  rwa [Heap.size_push] at this
 have e3:(s.heap.push PySem.W.emptyDict).Ns s.heap.objs.size (fun _=>none):=⟨PySem.W.emptyDict,#[],_,e1,rfl,(fun e he=>absurd he (by simp)),fun _=>rfl⟩
 have I1:=I.laid (a:=s.heap.objs.size) (o:=.own (s.heap.objs.size + 1)) (h':=s.heap.push PySem.W.emptyDict) (t':=s.toks) (fun b u q=>Heap.get?_push_of_some _ q) (Nat.le_refl _) ⟨_,e1⟩
 refine I1.laid (a:=s.heap.objs.size + 1) (o:=.ins C s.heap.objs.size []) (t':=s.toks) (fun b u q=>Heap.get?_push_of_some _ q) (Nat.le_of_eq (Heap.size_push _ _)) ?_
 have ne:s.heap.objs.size ≠ s.heap.objs.size + 1:=Nat.ne_of_lt (Nat.lt_succ_self _)
 refine ⟨by rw [upd_ne ne,upd_same],Nat.zero_le _,ne,e2,fun _=>none,(Heap.Ns1.of_empty e3).at fun o q=>Heap.get?_push_of_some _ q,fun _=>True.intro,fun y hy=>absurd rfl hy⟩
theorem attr_of {prog:Program} {w:World} {env:Env} {e:Expr} {f:Str} {pos:Pos} {s:Shared} {Q:Value→Shared→Prop} (hb:attributeBase e f env (eval e env) = eval e env)
  (h:wpAny (model prog w) A (eval e env) (fun o s₁=>wpAny (model prog w) A (getAttr o f true) Q E s₁) E s):wpAny (model prog w) A (eval (.Attribute e f pos) env) Q E s :=
 Attribute_any_ h (by rw [arm_eval_Attribute,hb])
end
def tFld (K:PySem.W.Frag) (ta:TE) (f:Str):TE:=fun σ H Q=>ta σ H fun x H1=>∃ a C dx fs v,x = .ref a∧H1 a = some (.ins C dx fs)∧Cls K C∧NoAttr K C f∧fs.lookup f = some v∧Q v H1
def sFld (K:PySem.W.Frag) (ta tv:TE) (f:Str):TS:=fun D σ H=>tv σ H fun y H1=>ta σ H1 fun x H2=>∃ a C dx fs,x = .ref a∧H2 a = some (.ins C dx fs)∧Cls K C∧NoAttr K C f∧fs.length < 1000 ∧
 D.nx σ (upd H2 a (.ins C dx (putF f y fs)))
section
variable {X:Cx} {o e value:Expr} {f:Str} {pos pos' tpos:Pos} {ta tv:TE}
theorem pe_fld (he:PE X e ta) (hb:attributeBase e f X.env (eval e X.env) = eval e X.env):PE X (.Attribute e f pos) (tFld X.K ta f):=by
 intro pins s σ H Q I h
 refine attr_of hb (thn (he pins s σ H _ I h) fun u s1 ⟨x,H1,I1,rx,a,C,dx,fs,v,ex,ea,c,n,l,q⟩=>?_)
 subst ex
 obtain rfl:u = Value.ref a:=rx
 exact getattr_ok I1 ea c n l fun u' s2 I2 ru=>⟨v,H1,I2,ru,q⟩
theorem ps_fld (ha:PE X o ta) (hv:PE X value tv) (hs:swapsWith value (some (.Attribute o f pos')) pos.line X.env = pure false):PS X (.Assign [.Attribute o f pos'] value pos) (sFld X.K ta tv f):=by
 intro pins s σ H D I h
 refine plainObj_wpAny_Assign_Attribute (thn (hv pins s σ H _ I h) fun u s1 ⟨y,H1,I1,ry,q⟩=>thn (ha pins s1 σ H1 _ I1 q) fun ov s2 ⟨x,H2,I2,rx,a,C,dx,fs,ex,ea,c,n,l,q2⟩=>?_) hs
 subst ex
 obtain rfl:ov = Value.ref a:=rx
 exact setattr_ok I2 ea c n l ry fun s3 I3=>⟨σ,_,I3,q2⟩
end
section
variable {X:Cx} {pins:List (Addr × Obj)} {σ:St} {H:Hp} {s:Shared} {A:Around} {E:Value→Shared→Prop} {Q:Value→Shared→Prop} {c:Value} {b:Bool}
inductive TyOf (K:PySem.W.Frag) (H:Hp):V→Value→Prop where
 | non:TyOf K H .non (.type "NoneType")
 | bl (x:Bool):TyOf K H (.bl x) (.type "bool")
 | int (i:Int):TyOf K H (.int i) (.type "int")
 | str (x:Str):TyOf K H (.str x) (.type "str")
 | flt (x:UInt64):TyOf K H (.flt x) (.type "float")
 | lst {a:Addr} {xs:List V} (e:H a = some (.lst xs)):TyOf K H (.ref a) (.type "list")
 | frz {a:Addr} {o:Obj} {xs:List V} (e:H a = some (.frz o (.lst xs))):TyOf K H (.ref a) (.type "list")
 | tup {a:Addr} {xs:List V} (e:H a = some (.tup xs)):TyOf K H (.ref a) (.type "tuple")
 | dK {a:Addr} {kvs:List (Key × V)} (e:H a = some (.dK kvs)):TyOf K H (.ref a) (.type "dict")
 | dT {a:Addr} {kvs:List (List Key × V)} (e:H a = some (.dT kvs)):TyOf K H (.ref a) (.type "dict")
 | ins {a C dx:Addr} {fs:List (Str × V)} (e:H a = some (.ins C dx fs)) (cl:Cls K C) (ha:PySem.W.findIn K (.ref C) "__class__" = some (some (.builtin "object.__class__")))
   (hn:PySem.W.specialIn K (.builtin "object.__class__") "__get__" = some (some (.builtin "getset_descriptor.__get__"))) (htk:PySem.W.takesIn K (.builtin "object.__class__") = some true)
   (hm:PySem.W.mroIn K C (.type "object") = some true):TyOf K H (.ref a) (.ref C)
theorem isinst_ok {x:V} {u t:Value} (I:Inv X pins σ H s) (rx:RelV x u) (ty:TyOf X.K H x t) (e:PySem.W.kitOne X.K t c = some b) (h:∀ tk,Q (.bool b) { s with toks:=tk }) :
  wpAny (model X.prog X.w) A (call (.builtin "isinstance") [u,c]) Q E s:=by
 cases ty with
 | non=>cases (show u = Value.none from rx); exact PySem.W.kia_one PySem.W.kitx_none I.kIn True.intro e (fun z=>nomatch z) h
 | bl y=>cases (show u = Value.bool y from rx); exact PySem.W.kia_one PySem.W.kitx_bool I.kIn True.intro e (fun z=>nomatch z) h
 | int i=>obtain ⟨t,q⟩:=(show ∃ t,u = Value.int i t from rx); cases q; exact PySem.W.kia_one PySem.W.kitx_int I.kIn True.intro e (fun z=>nomatch z) h
 | str y=>obtain ⟨t,q⟩:=(show ∃ t,u = Value.str y t from rx); cases q; exact PySem.W.kia_one PySem.W.kitx_str I.kIn True.intro e (fun z=>nomatch z) h
 | flt y=>obtain ⟨t,q⟩:=(show ∃ t,u = Value.float y t from rx); cases q; exact PySem.W.kia_one PySem.W.kitx_float I.kIn True.intro e (fun z=>nomatch z) h
 | @lst a xs ea =>
  cases (show u = Value.ref a from rx)
  obtain ⟨_,_,n,_,h1⟩:=(show ObjOk X.prog X.w H s.heap a (.lst xs) from I.hok a _ ea)
  exact PySem.W.kia_one PySem.W.kitx_list I.kIn ⟨_,h1,rfl⟩ e (fun z=>nomatch z) h
 | @frz a ob xs ea =>
  cases (show u = Value.ref a from rx)
  obtain ⟨_,_,_,n,_,h1⟩:=(show ObjOk X.prog X.w H s.heap a (.frz ob (.lst xs)) from I.hok a _ ea)
  exact PySem.W.kia_one PySem.W.kitx_list I.kIn ⟨_,h1,rfl⟩ e (fun z=>nomatch z) h
 | @tup a xs ea =>
  cases (show u = Value.ref a from rx)
  obtain ⟨_,_,_,p⟩:=(show ObjOk X.prog X.w H s.heap a (.tup xs) from I.hok a _ ea)
  obtain ⟨o,h1,h2,_⟩:=p
  exact PySem.W.kia_one PySem.W.kitx_tuple I.kIn ⟨o,h1,h2⟩ e (fun z=>nomatch z) h
 | @dK a kvs ea =>
  cases (show u = Value.ref a from rx)
  obtain ⟨_,_,vs,_,p⟩:=(show ObjOk X.prog X.w H s.heap a (.dK kvs) from I.hok a _ ea)
  obtain ⟨o,es,ep,h1,h2,_⟩:=p
  exact PySem.W.kia_one PySem.W.kitx_dict I.kIn ⟨o,h1,h2.1⟩ e (fun z=>nomatch z) h
 | @dT a kvs ea =>
  cases (show u = Value.ref a from rx)
  obtain ⟨_,_,xs,_,o,es,ep,h1,h2,_⟩:=(show ObjOk X.prog X.w H s.heap a (.dT kvs) from I.hok a _ ea)
  exact PySem.W.kia_one PySem.W.kitx_dict I.kIn ⟨o,h1,h2.1⟩ e (fun z=>nomatch z) h
 | @ins a C dx fs ea cl ha hn htk hm =>
  cases (show u = Value.ref a from rx)
  obtain ⟨mA,O,_⟩:=ins_get I.hok ea
  obtain ⟨od,J,_⟩:=O.look
  exact PySem.W.kia_one (PySem.W.kitx_own (cl.get _) cl.hd ha hn htk hm) I.kIn J e (fun z=>nomatch z) h
end
end L2
namespace L2
open PySem PySem.Spec PyProof.Rows
structure Room (k:Nat) (A:Around):Prop where
 hd:A.handled = none
 dp:A.depth + 3 * k + 5 < recursionLimit
 un:A.units + 16 * k + 200 < cLine
 gd:A.guards = some []
theorem Room.mono {j k:Nat} {A:Around} (r:Room k A) (h:j≤k):Room j A:=⟨r.hd,by have:=r.dp; omega,by have:=r.un; omega,r.gd⟩
theorem Room.deeper {k:Nat} {A:Around} (r:Room (k + 1) A) (env:Env):Room k (A.deeper env) :=
 ⟨r.hd,by have:=r.dp; show A.depth + 1 + 3 * k + 5 < _; omega,by have:=r.un; show A.units + 3 + 16 * k + 200 < _; omega,r.gd⟩
theorem make_depth {A:Around} {C:Addr} {us:List Value} {kw:List (Str × Value)}:(A.under (.builtin "type.__call__" ⟨.ref C :: us,kw⟩)).depth = A.depth + 1:=by
 first | rfl | simp [Around.under,Code.weight,Code.isCreation,Code.isGuard,Code.isCaller,Code.frames,Code.isFrame,guardIds]
theorem make_units {A:Around} {C:Addr} {us:List Value} {kw:List (Str × Value)}:(A.under (.builtin "type.__call__" ⟨.ref C :: us,kw⟩)).units = A.units + 1:=by
 first | rfl | simp [Around.under,Code.cUnits,Code.frames,Code.isFrame]
theorem Room.make {k:Nat} {A:Around} (r:Room (k + 1) A) (C:Addr) (us:List Value) (kw:List (Str × Value)):Room k (A.under (.builtin "type.__call__" ⟨.ref C :: us,kw⟩)) :=
 ⟨r.hd,by have:=r.dp; rw [make_depth]; omega,by have:=r.un; rw [make_units]; omega,r.gd⟩
theorem Room.depth {k:Nat} {A:Around} (r:Room k A):A.depth < recursionLimit:=by have:=r.dp; omega
theorem Room.units {k:Nat} {A:Around} (r:Room k A):A.units + 64 < cLine:=by have:=r.un; omega
def tNil:TA:=fun _ H Q=>Q [] H
def tCons (ta:TE) (tr:TA):TA:=fun σ H Q=>ta σ H fun x H1=>tr σ H1 fun xs H2=>Q (x :: xs) H2
section
variable {X:Cx} {e:Expr} {es:List Expr} {te:TE} {t:TA} {pos:Pos}
theorem pa_nil:PA X [] tNil:=fun _ _ _ _ H Q I h=>Calls.spliced_nil ⟨[],H,I,.nil,h⟩
theorem pa_cons (ha:PE X e te) (hr:PA X es t) (hs:starEach (e :: es) X.env = (false,eval e X.env) :: starEach es X.env:=by rfl):PA X (e :: es) (tCons te t):=by
 intro pos pins s σ H Q I h
 rw [hs]
 show wpAny _ _ (spliced ((false,eval e X.env) :: backTo pos (starEach es X.env))) _ _ s
 refine Calls.spliced_cons (thn (ha pins s σ H _ I h) fun u s1 ⟨x,H1,I1,r1,q1⟩=>?_)
 exact thn (hr pos pins s1 σ H1 _ I1 q1) fun us s2 ⟨xs,H2,I2,r2,q2⟩=>⟨x :: xs,H2,I2,.cons r1 r2,q2⟩
def tTup (t:TA):TE:=fun σ H Q=>t σ H fun xs H1=>xs.length≤sizeLine∧∀ p,H1 p = none→Q (.ref p) (upd H1 p (.tup xs))
def tLst (t:TA):TE:=fun σ H Q=>t σ H fun xs H1=>xs.length≤sizeLine∧∀ p,H1 p = none→Q (.ref p) (upd H1 p (.lst xs))
theorem pe_tup {x1} (h:PA X es t):PE X (.Tuple es x1 pos) (tTup t):=by
 intro pins s σ H Q I hq
 refine wpAny_Tuple_spliced (thn (h pos pins s σ H _ I hq) fun us s1 ⟨xs,H1,I1,r,z,q⟩=>⟨by rw [← r.length]; exact z,?_⟩)
 have hf:H1 s1.heap.objs.size = none:=I1.hok.fresh (Nat.le_refl _)
 refine ⟨.ref s1.heap.objs.size,upd H1 s1.heap.objs.size (.tup xs),I1.laid (t':=s1.toks) (fun b u e=>Heap.get?_push_of_some _ e) (Nat.le_refl _) ?_,rfl,q _ hf⟩
 exact ⟨z,us,r,⟨_,Heap.get?_push_size _ rfl,rfl,_,rfl⟩⟩
theorem pe_lst (h:PA X es t):PE X (.List es pos) (tLst t):=by
 intro pins s σ H Q I hq
 refine wpAny_List_spliced (thn (h pos pins s σ H _ I hq) fun us s1 ⟨xs,H1,I1,r,z,q⟩=>⟨by rw [← r.length]; exact z,?_⟩)
 have hf:H1 s1.heap.objs.size = none:=I1.hok.fresh (Nat.le_refl _)
 refine ⟨.ref s1.heap.objs.size,upd H1 s1.heap.objs.size (.lst xs),I1.laid (t':=s1.toks) (fun b u e=>Heap.get?_push_of_some _ e) (Nat.le_refl _) ?_,rfl,q _ hf⟩
 exact ⟨z,us,0,r,Heap.get?_push_size _ rfl⟩
end
abbrev Sp:=List V→Hp→VK→XK→Prop
abbrev CXT:=List Env→Hp→Shared→XK→Value→Shared→Prop
structure Env0 (P:Program) (w:World) (K:PySem.W.Frag) (mg:Str→Option Value) (base:Heap) (A:Around) (outer:List Env) (s:Shared) (H:Hp):Prop where
 frames:A.frames = some outer
 mod:Mod K mg base
 bs:∀ b o,base.get? b = some o→s.heap.get? b = some o∧H b = none
 bsz:base.objs.size≤s.heap.objs.size
 funs:s.heap.FunFrames base outer
 frf:∀ b ∈ frs outer,H b = none
 hok:HOk P w H s.heap
 bare:AllBare s.gens
def CE (outer:List Env) (P:Program) (w:World) (H:Hp) (s:Shared) (Q:VK) (u:Value) (s':Shared):Prop :=
 ∃ v H',s'.os = s.os∧AllBare s'.gens∧Un (frs outer) [] H H' s.heap s'.heap∧HOk P w H' s'.heap∧RelV v u∧Q v H'
def CR (CX:CXT) (outer:List Env) (P:Program) (w:World) (H:Hp) (s:Shared) (Q:VK) (E:XK) (r:Result) (s':Shared):Prop :=
 match r with
 | .ok (.ret u)=>CE outer P w H s Q u s'
 | .ok _=>False
 | .error e=>CX outer H s E e s'
structure FnOk (P:Program) (w:World) (K:PySem.W.Frag) (mg:Str→Option Value) (base:Heap) (CX:CXT) (k:Nat) (f:Addr) (fd:FuncData) (ps:List Str) (sp:Sp):Prop where
 len:∀ vs H Q E,sp vs H Q E→vs.length = ps.length
 run:∀ (A:Around) (outer:List Env) (s:Shared) (H:Hp) (args:Args) (us:List Value) (vs:List V) (Q:VK) (E:XK),Room k A→Env0 P w K mg base A outer s H→BindsTo s fd args (ps.zip us)→Vals vs us→sp vs H Q E →
  codeAny (model P w) A (.call (.ref f) args) (CR CX outer P w H s Q E) s
theorem FnOk.imp {P:Program} {w:World} {K:PySem.W.Frag} {mg:Str→Option Value} {base:Heap} {CX:CXT} {k:Nat} {f:Addr} {fd:FuncData} {ps:List Str} {sp sp':Sp} (F:FnOk P w K mg base CX k f fd ps sp)
  (h:∀ vs H Q E,sp' vs H Q E→sp vs H Q E):FnOk P w K mg base CX k f fd ps sp' :=
 ⟨fun vs H Q E q=>F.len vs H Q E (h _ _ _ _ q),fun A outer s H args us vs Q E hr he hb hv hs=>F.run A outer s H args us vs Q E hr he hb hv (h _ _ _ _ hs)⟩
theorem Env0.make {P:Program} {w:World} {K:PySem.W.Frag} {mg:Str→Option Value} {base:Heap} {A:Around} {outer:List Env} {s:Shared} {H:Hp} (e:Env0 P w K mg base A outer s H) (C:Addr) (us:List Value) (kw:List (Str × Value)) :
  Env0 P w K mg base (A.under (.builtin "type.__call__" ⟨.ref C :: us,kw⟩)) outer s H:=⟨by first | exact e.frames | (simpa [Around.under,Code.envs,Code.isFrame,pushEnvs] using e.frames),e.mod,e.bs,e.bsz,e.funs,e.frf,e.hok,e.bare⟩
section
variable {X:Cx} {pins:List (Addr × Obj)} {σ:St} {H:Hp} {s s':Shared}
theorem Inv.env0 (I:Inv X pins σ H s):Env0 X.prog X.w X.K X.mg X.base X.A X.stack s H :=
 ⟨I.ok.frames,I.ok.mod,I.bs,Nat.le_trans I.ok.bsz I.sz,I.stack,I.stkFree,I.hok,I.bare⟩
theorem Inv.after {Q:VK} {u:Value} (I:Inv X pins σ H s) (h:CE X.stack X.prog X.w H s Q u s'):EP X pins σ Q u s':=by
 obtain ⟨v,H',os,bare,un,hok,r,q⟩:=h
 obtain ⟨hh,g,d,t,os'⟩:=s'
 obtain rfl:os' = s.os:=os
 exact ⟨v,H',I.call (h':=hh) (g':=g) (d':=d) (t':=t) (ch:=[]) un hok bare (fun b z=>absurd z (by simp)),r,q⟩
end
def tCall (sp:Sp) (dvs:List V) (E:XK) (t:TA):TE:=fun σ H Q=>t σ H fun vs H1=>sp (vs ++ dvs) H1 Q E
def tMake (C:Addr) (sp:Sp) (dvs:List V) (E:XK) (t:TA):TE:=fun σ H Q=>t σ H fun vs H1=>∀ x dx,H1 x = none→H1 dx = none→dx ≠ x →
 sp (.ref x :: (vs ++ dvs)) (upd (upd H1 dx (.own x)) x (.ins C dx [])) (fun v H2=>v = .non∧Q (.ref x) H2) E
def Binds (K:PySem.W.Frag) (fd:FuncData) (ps:List Str) (ds:List Value):Prop :=
 ∀ (s:Shared) (us:List Value),K.In s.heap→(us ++ ds).length = ps.length→BindsTo s fd ⟨us,[]⟩ (ps.zip (us ++ ds))
theorem Binds.all {K:PySem.W.Frag} {fd:FuncData} {ps:List Str} (h:∀ us:List Value,us.length = ps.length→bindArgs fd ⟨us,[]⟩ = pure (ps.zip us)):Binds K fd ps []:=fun s us _ hl=>by
 rw [List.append_nil] at hl ⊢
 exact .of_eq (h us hl)
def Passes (CX:CXT) (X:Cx) (E:XK):Prop:=∀ (pins:List (Addr × Obj)) (σ:St) (H:Hp) (s:Shared) (e:Value) (s':Shared),Inv X pins σ H s→CX X.stack H s E e s'→X.xe e s'
section
variable {X:Cx} {CX:CXT} {k:Nat} {f C:Addr} {fd:FuncData} {ps:List Str} {sp:Sp} {dvs:List V} {ds:List Value} {E:XK} {x m:Str} {p pos apos:Pos} {e o:Expr} {es:List Expr} {ta:TE} {t:TA}
theorem run_fn {pins:List (Addr × Obj)} {σ:St} {H:Hp} {s:Shared} {Q:VK} {us:List Value} {vs:List V} (F:FnOk X.prog X.w X.K X.mg X.base CX k f fd ps sp) (hr:Room k X.A) (hb:Binds X.K fd ps ds) (hd:Vals dvs ds) (hx:Passes CX X E)
  (I:Inv X pins σ H s) (r:Vals vs us) (h:sp (vs ++ dvs) H Q E):wpAny (model X.prog X.w) X.A (call (.ref f) us) (EP X pins σ Q) X.xe s:=by
 have r2:Vals (vs ++ dvs) (us ++ ds):=r.append hd
 have hl:(us ++ ds).length = ps.length:=by rw [← r2.length]; exact F.len _ _ _ _ h
 refine wpAny_call (codeAny_mono (F.run X.A X.stack s H ⟨us,[]⟩ (us ++ ds) (vs ++ dvs) Q E hr I.env0 (hb s us I.kIn hl) r2 h) fun r s' hq=>?_)
 cases r with
 | error e=>exact hx pins σ H s e s' I hq
 | ok fl =>
  cases fl with
  | ret u=>exact I.after hq
  | next=>exact False.elim hq
  | brk=>exact False.elim hq
  | cont=>exact False.elim hq
theorem pe_call (F:FnOk X.prog X.w X.K X.mg X.base CX k f fd ps sp) (hr:Room k X.A) (hg:Gl X x) (hm:X.mg x = some (.ref f)) (hk:PySem.W.keepIn X.K (.ref f) = true) (hb:Binds X.K fd ps ds) (hd:Vals dvs ds) (hx:Passes CX X E)
  (ha:PA X (e :: es) t) (hdb:(x == ("__debug__":Str)) = false:=by decide) (he:starEach (e :: es) X.env = (false,eval e X.env) :: starEach es X.env:=by rfl) (hpl:(backTo pos (starEach es X.env)).any (·.1) = false:=by rfl) :
  PE X (.Call (.Name x p) (e :: es) [] pos) (tCall sp dvs E t):=by
 intro pins s σ H Q I h
 refine wpAny_Call_Name_kw (ld_glob I hg hm ?_ hdb)
 refine PySem.W.callWith_K (h₀:=X.base) I.ok.mod.kin hk (thn (ha pos pins s σ H _ I h) fun us s1 ⟨vs,H1,I1,r,q⟩=>⟨I1.kIn,?_⟩) he hpl
 exact run_fn F hr hb hd hx I1 r q
structure Mk (K:PySem.W.Frag) (C f:Addr):Prop where
 makes:PySem.W.makesIn K C = true
 init:PySem.W.findIn K (.ref C) "__init__" = some (some (.ref f))
 fn:PySem.W.isFn K (.ref f) = true
 kp:PySem.W.keepIn K (.ref C) = true
theorem run_make {pins:List (Addr × Obj)} {σ:St} {H:Hp} {s:Shared} {Q:VK} {us:List Value} {vs:List V} (M:Mk X.K C f) (F:FnOk X.prog X.w X.K X.mg X.base CX k f fd ps sp) (hr:Room (k + 1) X.A) (hb:Binds X.K fd ps ds) (hd:Vals dvs ds)
  (hx:Passes CX X E) (I:Inv X pins σ H s) (r:Vals vs us)
  (h:∀ x dx,H x = none→H dx = none→dx ≠ x→sp (.ref x :: (vs ++ dvs)) (upd (upd H dx (.own x)) x (.ins C dx [])) (fun v H2=>v = .non∧Q (.ref x) H2) E) :
  wpAny (model X.prog X.w) X.A (call (.ref C) us) (EP X pins σ Q) X.xe s:=by
 have hq:=h (s.heap.objs.size + 1) s.heap.objs.size (I.hok.fresh (Nat.le_succ _)) (I.hok.fresh (Nat.le_refl _)) (Nat.ne_of_lt (Nat.lt_succ_self _))
 have I2:=Inv.made (C:=C) I
 have r2:Vals (V.ref (s.heap.objs.size + 1) :: (vs ++ dvs)) (Value.ref (s.heap.objs.size + 1) :: (us ++ ds)):=.cons rfl (r.append hd)
 have hl:(Value.ref (s.heap.objs.size + 1) :: us ++ ds).length = ps.length:=by
  have e:=r2.length
  rw [F.len _ _ _ _ hq] at e
  exact e.symm
 refine wpAny_call (make_map (f:=f) I.kIn M.makes M.init (beq_iff_eq.mp M.fn) (codeAny_mono (F.run _ X.stack _ _ ⟨Value.ref (s.heap.objs.size + 1) :: us,[]⟩ (Value.ref (s.heap.objs.size + 1) :: (us ++ ds)) _ _ E (hr.make C us [])
  (I2.env0.make C us []) (hb _ (Value.ref (s.heap.objs.size + 1) :: us) I2.kIn hl) r2 hq) fun r s' hq'=>?_))
 cases r with
 | error e=>exact hx pins σ _ _ e s' I2 hq'
 | ok fl =>
  cases fl with
  | ret u =>
   obtain ⟨v,H',I3,rv,ev,q3⟩:=I2.after hq'
   subst ev
   exact ⟨rv,⟨V.ref (s.heap.objs.size + 1),H',I3,rfl,q3⟩⟩
  | next=>exact False.elim hq'
  | brk=>exact False.elim hq'
  | cont=>exact False.elim hq'
theorem pe_make (M:Mk X.K C f) (F:FnOk X.prog X.w X.K X.mg X.base CX k f fd ps sp) (hr:Room (k + 1) X.A) (hg:Gl X x) (hm:X.mg x = some (.ref C)) (hb:Binds X.K fd ps ds) (hd:Vals dvs ds) (hx:Passes CX X E)
  (ha:PA X (e :: es) t) (hdb:(x == ("__debug__":Str)) = false:=by decide) (he:starEach (e :: es) X.env = (false,eval e X.env) :: starEach es X.env:=by rfl) (hpl:(backTo pos (starEach es X.env)).any (·.1) = false:=by rfl) :
  PE X (.Call (.Name x p) (e :: es) [] pos) (tMake C sp dvs E t):=by
 intro pins s σ H Q I h
 refine wpAny_Call_Name_kw (ld_glob I hg hm ?_ hdb)
 refine PySem.W.callWith_K (h₀:=X.base) I.ok.mod.kin M.kp (thn (ha pos pins s σ H _ I h) fun us s1 ⟨vs,H1,I1,r,q⟩=>⟨I1.kIn,?_⟩) he hpl
 exact run_make M F hr hb hd hx I1 r q
end
section
variable {X:Cx} {CX:CXT} {k:Nat} {f C:Addr} {fd:FuncData} {ps ks:List Str} {sp:Sp} {E:XK} {x m:Str} {p pos apos kpos:Pos} {e o:Expr} {es:List Expr} {kws:List Keyword} {te ta:TE} {t tk:TA} {nm:Option Str}
variable {g:List Value→List Value→List Value} {gV:List V→List V→List V}
end
structure FnScope (N P:List Str) (sc:Scope):Prop where
 kind:sc.kind = .function
 co:sc.isCoroutine = false
 gen:sc.isGenerator = false
 nd:N.Nodup
 pre:N.take P.length = P
 par:∀ x ∈ P,sc.names.lookup x = some .local∨sc.names.lookup x = some .cell
 nofree:∀ y ∈ sc.names,y.2 ≠ .free
theorem bindL_out {kindOf:Str→Option NameKind} {x:Str}:∀ {binds:List (Str × Value)} {m:Str→Option Value},(∀ v,(x,v) ∉ binds)→bindL kindOf binds m x = m x
 | [],_,_=>rfl
 | (n,v) :: r,m,h=>by
  unfold bindL
  rw [bindL_out fun w hw=>h w (List.mem_cons_of_mem _ hw)]
  split
  ·have:x ≠ n:=by rintro rfl; exact h v List.mem_cons_self
   simp [this]
  ·rfl
theorem bindC_out {kindOf:Str→Option NameKind} {x:Str}:∀ {binds:List (Str × Value)} {m:Str→Option Value},(∀ v,(x,v) ∉ binds)→bindC kindOf binds m x = m x
 | [],_,_=>rfl
 | (n,v) :: r,m,h=>by
  unfold bindC
  rw [bindC_out fun w hw=>h w (List.mem_cons_of_mem _ hw)]
  split
  ·rfl
  ·have:x ≠ n:=by rintro rfl; exact h v List.mem_cons_self
   simp [this]
theorem bindL_get {kindOf:Str→Option NameKind} {x:Str} {v:Value}:∀ {P:List Str} {vs:List Value} {i:Nat} {m:Str→Option Value},P.Nodup→P[i]? = some x→vs[i]? = some v→kindOf x = some .local →
  bindL kindOf (P.zip vs) m x = some v
 | [],_,_,_,_,h,_,_=>by simp at h
 | _ :: _,[],_,_,_,_,h,_=>by simp at h
 | p :: P,w :: vs,0,m,nd,h1,h2,hk=>by
  simp at h1 h2; subst h1; subst h2
  show bindL kindOf ((p,w) :: P.zip vs) m p = _
  unfold bindL
  rw [bindL_out fun v hv=>(List.nodup_cons.mp nd).1 (List.of_mem_zip hv).1,if_pos hk]
  simp
 | p :: P,w :: vs,i + 1,m,nd,h1,h2,hk=>by
  show bindL kindOf ((p,w) :: P.zip vs) m x = _
  unfold bindL
  exact bindL_get (i:=i) (List.nodup_cons.mp nd).2 (by simpa using h1) (by simpa using h2) hk
theorem bindC_get {kindOf:Str→Option NameKind} {x:Str} {v:Value}:∀ {P:List Str} {vs:List Value} {i:Nat} {m:Str→Option Value},P.Nodup→P[i]? = some x→vs[i]? = some v→kindOf x ≠ some .local →
  bindC kindOf (P.zip vs) m x = some v
 | [],_,_,_,_,h,_,_=>by simp at h
 | _ :: _,[],_,_,_,_,h,_=>by simp at h
 | p :: P,w :: vs,0,m,nd,h1,h2,hk=>by
  simp at h1 h2; subst h1; subst h2
  show bindC kindOf ((p,w) :: P.zip vs) m p = _
  unfold bindC
  rw [bindC_out fun v hv=>(List.nodup_cons.mp nd).1 (List.of_mem_zip hv).1,if_neg hk]
  simp
 | p :: P,w :: vs,i + 1,m,nd,h1,h2,hk=>by
  show bindC kindOf ((p,w) :: P.zip vs) m x = _
  unfold bindC
  exact bindC_get (i:=i) (List.nodup_cons.mp nd).2 (by simpa using h1) (by simpa using h2) hk
def start (N:List Str) (vs:List V):St:=vs.map some ++ List.replicate (N.length - vs.length) none
def cxOf (CX:CXT) (P:Program) (w:World) (K:PySem.W.Frag) (mg:Str→Option Value) (base:Heap) (N:List Str) (qual:Str) (scope:Scope) (f:Addr) (cd:Value) (A:Around) (outer:List Env) (s:Shared) (H:Hp) (E:XK):Cx where
 prog:=P
 w:=w
 K:=K
 mg:=mg
 base:=base
 A:=A.deeper (envOfC qual scope s.heap.objs.size f cd)
 N:=N
 s₀:=s
 H₀:=H
 env:=envOfC qual scope s.heap.objs.size f cd
 outer:=outer
 stack:=envOfC qual scope s.heap.objs.size f cd :: outer
 ex:=[]
 calm:=true
 fn:=fun _=>true
 pn:=[]
 xe:=fun e s'=>wpAny (model P w) (A.deeper (envOfC qual scope s.heap.objs.size f cd)) (leaving (envOfC qual scope s.heap.objs.size f cd) e) (fun _ s''=>CX outer H s E e s'') (fun e' s''=>CX outer H s E e' s'') s'
theorem cell_has {sc:Scope} {n:Nat} {x:Str} (h:sc.names.lookup x = some .cell):∃ c,(cellsFrom n sc.names []).lookup x = some c:=by
 have q:=PySem.W.cellsFrom_some sc.names n [] (.inl h)
 exact Option.isSome_iff_exists.mp q
theorem inv_start {CX:CXT} {P:Program} {w:World} {K:PySem.W.Frag} {mg:Str→Option Value} {base:Heap} {N ps:List Str} {qual:Str} {scope:Scope} {f:Addr} {cd:Value} {A:Around} {outer:List Env} {s s1:Shared} {H:Hp} {E:XK} {us:List Value} {vs:List V}
  (S:FnScope N ps scope) (hd:A.handled = none) (e0:Env0 P w K mg base A outer s H) (hl:vs.length = ps.length) (r:Vals vs us)
  (x:InCallC s s.heap.objs.size (bindL (envOfC qual scope s.heap.objs.size f cd).kindOf (ps.zip us) fun _=>none) (cellsFrom (s.heap.objs.size + 1) scope.names []) (bindC (envOfC qual scope s.heap.objs.size f cd).kindOf (ps.zip us) fun _=>none) s1) :
  Inv (cxOf CX P w K mg base N qual scope f cd A outer s H E) [] (start N vs) H s1:=by
 have hpl:ps.length≤N.length:=by have:=congrArg List.length S.pre; rw [List.length_take] at this; omega
 obtain ⟨h1,tk,rfl,hk⟩:=x.done
 have noA:∀ b:Addr,b ∉ (cxOf CX P w K mg base N qual scope f cd A outer s H E).ex:=fun b z=>absurd (show b ∈ ([]:List Addr) from z) (by simp)
 refine ⟨⟨e0.mod,S.kind,rfl,rfl,Nat.le_refl _,fun y z c h1 h2=>?_,fun y hy=>?_,fun y c _ h=>?_,fun _=>hd,Around.frames_deeper e0.frames,.inr ⟨rfl,rfl⟩,fun b z=>absurd z (noA b),e0.bs,e0.bsz,fun b _ _=>noA b,fun b z=>absurd z (noA b),e0.funs,e0.frf⟩,
  rfl,e0.bare,Un.kept hk,⟨_,x.toInCall.ns,fun i y v h1 h2 h3=>?_⟩,fun y c h=>⟨_,x.cell y c h⟩,e0.hok.fresh (Nat.le_refl _),fun y c h=>?_,fun p hp=>absurd (show p ∈ ([]:List (Addr × Obj)) from hp) (by simp),e0.hok.kept hk,?_⟩
 ·exact name_of_addr x.apart (PySem.mem_of_lookup h1) (PySem.mem_of_lookup h2)
 ·have hy:scope.names.lookup y = some .cell∨scope.names.lookup y = some .free:=hy
  rcases hy with hy | hy
  ·exact cell_has hy
  ·exact absurd rfl (S.nofree _ (PySem.mem_of_lookup hy))
 ·exact Nat.le_of_lt (x.above y c (PySem.mem_of_lookup h))
 ·have hi:i < vs.length:=by
   unfold start at h2
   by_cases hi:i < vs.length
   ·exact hi
   ·rw [List.getElem?_append_right (by simpa using hi)] at h2
    rw [List.getElem?_replicate] at h2
    split at h2 <;> cases h2
  have ha:vs[i]? = some v:=by
   unfold start at h2
   rw [List.getElem?_append_left (by simpa using hi),List.getElem?_map] at h2
   cases e:vs[i]? with
   | none=>rw [e] at h2; cases h2
   | some a=>rw [e] at h2; cases h2; rfl
  obtain ⟨u,hu,rv⟩:=r.get ha
  have hp:ps[i]? = some y:=by
   rw [← S.pre,List.getElem?_take_of_lt (by omega)]; exact h1
  have ndP:ps.Nodup:=by rw [← S.pre]; exact S.nd.sublist (List.take_sublist _ _)
  refine ⟨u,rv,?_⟩
  rcases S.par y (List.mem_of_getElem? hp) with k | k
  ·exact .inl ⟨k,bindL_get ndP hp hu k⟩
  ·obtain ⟨c,e⟩:=cell_has (n:=s.heap.objs.size + 1) k
   refine .inr ⟨.inl k,c,e,?_⟩
   have q:=x.cell y c e
   rw [bindC_get ndP hp hu (by show scope.names.lookup y ≠ _; rw [k]; decide)] at q
   exact q
 ·exact e0.hok.fresh (Nat.le_of_lt (x.above y c (PySem.mem_of_lookup h)))
 ·unfold start
  show _ = N.length
  rw [List.length_append,List.length_map,List.length_replicate]
  omega
theorem fn_of {CX:CXT} {P:Program} {w:World} {K:PySem.W.Frag} {mg:Str→Option Value} {base:Heap} {k:Nat} {f:Addr} {name qual:Str} {params:Arguments} {body:List Stmt} {scope:Scope} {dV kV doc pm cdv ct oc:Value} {an od:Option Addr}
  {osl:Array (Option Value)} {N ps:List Str} {sp:Sp} (lk:K.lookup f = some ⟨oc,od,.func (PySem.W.fnOf name qual params body scope dV kV doc pm an cdv ct),osl⟩) (hcd:PySem.W.codeIn K cdv qual = true) (S:FnScope N ps scope)
  (len:∀ vs H Q E,sp vs H Q E→vs.length = ps.length)
  (hbody:∀ (A:Around) (outer:List Env) (s:Shared) (H:Hp) (vs:List V) (Q:VK) (E:XK),Room k (A.deeper (envOfC qual scope s.heap.objs.size f cdv))→sp vs H Q E →
   ∃ t,PSs (cxOf CX P w K mg base N qual scope f cdv A outer s H E) body t∧t { nx:=fun _ H'=>Q .non H',rt:=Q } (start N vs) H) :
  FnOk P w K mg base CX (k + 1) f (PySem.W.fnOf name qual params body scope dV kV doc pm an cdv ct) ps sp:=by
 refine ⟨len,fun A outer s H args us vs Q E hr e0 hb r hsp=>?_⟩
 have hl:=len _ _ _ _ hsp
 have KX:K.In s.heap:=e0.mod.kin.keeps fun b o e=>(e0.bs b o e).1
 have lim:s.heap.NoLimit:=e0.mod.nolimit.keeps fun b o e=>(e0.bs b o e).1
 have hkind:∀ y ∈ ps.zip us,scope.names.lookup y.1 = some .local∨(scope.names.lookup y.1 = some .cell∧((cellsFrom (s.heap.objs.size + 1) scope.names []).lookup y.1).isSome = true):=fun ⟨n,v⟩ hy=>by
  rcases S.par n (List.of_mem_zip hy).1 with q | q
  ·exact .inl q
  ·exact .inr ⟨q,PySem.W.cellsFrom_some _ _ _ (.inl q)⟩
 refine codeAny_call_function hr.depth (KX _ _ lk) rfl S.co S.gen rfl (PySem.W.codeRec_of KX hcd) (hb _ _ _ _ ?_)
 refine wpAny_newFunctionEnv_cells S.kind hkind fun env he s1 x=>?_
 subst he
 refine ⟨lim.keeps x.toInCall.keep,codeAny_func ?_⟩
 obtain ⟨t,ht,hq⟩:=hbody A outer s H vs Q E (hr.deeper _) hsp
 have I:Inv (cxOf CX P w K mg base N qual scope f cdv A outer s H E) [] (start N vs) H s1:=inv_start S hr.hd e0 hl r x
 refine wpAny_mono (ht [] s1 (start N vs) H _ I hq) (fun fl s' hs=>?_) fun e s' hs=>hs
 have fin:∀ {σ':St} {H':Hp} {v:V} {u:Value},Inv (cxOf CX P w K mg base N qual scope f cdv A outer s H E) [] σ' H' s'→RelV v u→Q v H'→CE outer P w H s Q u s' :=
  fun {σ' H' v u} J rv q=>⟨v,H',J.os,J.bare,J.base,J.hok,rv,q⟩
 cases fl with
 | ret u =>
  obtain ⟨v,σ',H',J,rv,q⟩:=hs
  exact fin J rv q
 | next =>
  obtain ⟨σ',H',J,q⟩:=hs
  exact fin (v:=V.non) (u:=Value.none) J rfl q
 | brk =>
  obtain ⟨_,_,_,q⟩:=hs
  exact False.elim q
 | cont =>
  obtain ⟨_,_,_,q⟩:=hs
  exact False.elim q
end L2
namespace L2
open PySem PySem.Spec PyProof.Rows
section
variable {X:Cx} {x:Str} {p pos:Pos} {e:Expr} {es:List Expr} {t:TA} {id T:String} {r:List V→Hp→VK→Prop}
def tCB (r:List V→Hp→VK→Prop) (t:TA):TE:=fun σ H Q=>t σ H fun vs H1=>r vs H1 Q
theorem pe_callB (hc:CallR X (.builtin id) r) (hg:Gl X x) (hm:X.mg x = none) (hv:bootBuiltins x = some (.builtin id)) (ha:PA X (e :: es) t) (hn:x ≠ "__name__":=by decide) (hdb:(x == ("__debug__":Str)) = false:=by decide)
  (he:starEach (e :: es) X.env = (false,eval e X.env) :: starEach es X.env:=by rfl) (hpl:(backTo pos (starEach es X.env)).any (·.1) = false:=by rfl):PE X (.Call (.Name x p) (e :: es) [] pos) (tCB r t):=by
 intro pins s σ H Q I h
 refine wpAny_Call_Name_kw (ld_blt I hg hm hv ?_ hn hdb)
 exact PyProof.Rows.callWith_builtin1 (thn (ha pos pins s σ H _ I h) fun us s1 ⟨vs,H1,I1,r1,q1⟩=>hc pins s1 σ H1 vs us Q I1 r1 q1) he hpl
theorem pe_callTy (hc:CallR X (.type T) r) (hg:Gl X x) (hm:X.mg x = none) (hv:bootBuiltins x = some (.type T)) (ha:PA X (e :: es) t) (hn:x ≠ "__name__":=by decide) (hdb:(x == ("__debug__":Str)) = false:=by decide)
  (he:starEach (e :: es) X.env = (false,eval e X.env) :: starEach es X.env:=by rfl) (hpl:(backTo pos (starEach es X.env)).any (·.1) = false:=by rfl):PE X (.Call (.Name x p) (e :: es) [] pos) (tCB r t):=by
 intro pins s σ H Q I h
 refine wpAny_Call_Name_kw (ld_blt I hg hm hv ?_ hn hdb)
 exact PyProof.Rows.callWith_type1 (thn (ha pos pins s σ H _ I h) fun us s1 ⟨vs,H1,I1,r1,q1⟩=>hc pins s1 σ H1 vs us Q I1 r1 q1) he hpl
end
end L2
namespace HT
open PySem PyProof.Rows
section
open PySem.SeqAt
open PySem.AutoSeq1 (wpAny_loadPart')
open PySem.MeetsSeq PySem.MeetsSeq2 PySem.MeetsSeq3
end
section
variable {prog:Program} {w:World} {A:Around} {E:Value→Shared→Prop} {s:Shared}
end
end HT
namespace L2
open PySem PySem.Spec PyProof.Rows
section
variable {X:Cx} {e:Expr} {te:TE} {lo hi:Option Expr} {tl th:TO} {pos p2:Pos}
end
end L2
namespace L2
open PySem PySem.Spec PyProof.Rows
def ixN (n:Nat) (i:Int):Option Nat:=if 0≤i then (if i < n then some i.toNat else none) else if -(n:Int)≤i then some (i + n).toNat else none
def atI {α:Type} (xs:List α) (i:Int):Option α:=(ixN xs.length i).bind fun j=>xs[j]?
theorem ixN_seq {n:Nat} {i:Int} {j:Nat} (h:ixN n i = some j):seqIndex? i n = some j∧j < n∧-(n:Int)≤i∧i < n:=by
 unfold ixN at h
 by_cases h0:0≤i
 ·rw [if_pos h0] at h
  by_cases h1:i < n
  ·rw [if_pos h1] at h
   have e:i.toNat = j:=Option.some.inj h
   exact ⟨by rw [seqIndex_of h0 h1,e],by omega,by omega,h1⟩
  ·rw [if_neg h1] at h; cases h
 ·rw [if_neg h0] at h
  by_cases h1:-(n:Int)≤i
  ·rw [if_pos h1] at h
   have e:(i + n).toNat = j:=Option.some.inj h
   exact ⟨by rw [seqIndex_neg (by omega) h1,e],by omega,h1,by omega⟩
  ·rw [if_neg h1] at h; cases h
theorem atI_get {α:Type} {xs:List α} {i:Int} {v:α} (h:atI xs i = some v):∃ j,seqIndex? i xs.length = some j∧xs[j]? = some v∧j < xs.length∧-(xs.length:Int)≤i∧i < xs.length:=by
 unfold atI at h
 cases e:ixN xs.length i with
 | none=>rw [e] at h; cases h
 | some j =>
  rw [e] at h
  obtain ⟨h1,h2,h3,h4⟩:=ixN_seq e
  exact ⟨j,h1,h,h2,h3,h4⟩
theorem atI_nat {α:Type} {xs:List α} {j:Nat} {v:α} (h:xs[j]? = some v):atI xs (j:Int) = some v:=by
 have hj:j < xs.length:=(List.getElem?_eq_some_iff.mp h).1
 have e:ixN xs.length (j:Int) = some j:=by
  unfold ixN
  rw [if_pos (by omega),if_pos (by omega)]; simp
 unfold atI; rw [e]; exact h
def PlainIx (b:Expr):Prop:=∀ o i,subscripted b false o i = operate [o,i] (getItem o i)
def IxR (X:Cx) (r:R2):Prop :=
 ∀ (value slice:Expr) (pins:List (Addr × Obj)) (s:Shared) (σ:St) (H:Hp) (x y:V) (v u:Value) (Q:VK),Inv X pins σ H s→RelV x v→RelV y u→r x y H Q →
  subscripted slice false v u = operate [v,u] (getItem v u)→wpAny (model X.prog X.w) X.A (subscriptTail value slice v u) (EP X pins σ Q) X.xe s
def MtR (X:Cx) (id:String) (r:V→List V→Hp→VK→Prop):Prop :=
 ∀ (pins:List (Addr × Obj)) (s:Shared) (σ:St) (H:Hp) (x:V) (xs:List V) (v:Value) (us:List Value) (Q:VK),Inv X pins σ H s→RelV x v→Vals xs us→r x xs H Q →
  wpAny (model X.prog X.w) X.A (call (.builtin id) (v :: us)) (EP X pins σ Q) X.xe s
section
variable {X:Cx} {a b:Expr} {ta tb:TE} {pos:Pos}
theorem pe_ix {r:R2} (hr:IxR X r) (ha:PE X a ta) (hb:PE X b tb) (hs:PlainIx b):PE X (.Subscript a b pos) (tOp r ta tb):=by
 intro pins s σ H Q I h
 exact Subscript_ (binT ha hb I h fun v u s2 x y H2 I2 rx ry q=>hr a b pins s2 σ H2 x y v u Q I2 rx ry q (hs _ _))
def rIxL (K:PySem.W.Frag):R2:=fun x y H Q=>∃ p xs i v,x = .ref p∧y = .int i∧SqL K H p xs∧atI xs i = some v∧Q v H
def rIxT (K:PySem.W.Frag):R2:=fun x y H Q=>∃ p xs i v,x = .ref p∧y = .int i∧SqT K H p xs∧atI xs i = some v∧Q v H
theorem ix_list:IxR X (rIxL X.K):=by
 intro value slice pins s σ H x y v u Q I rx ry h hs
 obtain ⟨p,xs,i,z,rfl,rfl,hq,he,q⟩:=h
 cases rx
 obtain ⟨t,rfl⟩:=ry
 obtain ⟨its,r,pl,hz⟩:=I.list hq
 obtain ⟨j,h1,h2,h3,h4,h5⟩:=atI_get he
 obtain ⟨w,ew,rw'⟩:=r.get h2
 have hl:=r.length
 have hn:=line63
 have fin:EP X pins σ Q w s:=⟨z,H,I,rw',q⟩
 by_cases h0:0≤i
 ·have hj:i.toNat = j:=by
   rw [seqIndex_of h0 h5] at h1
   exact Option.some.inj h1
  exact item_listR pl.isList h0 (by omega) (by rw [hj]; simpa using ew) fin hs
 ·have hj:(i + (its.toArray.size:Int)).toNat = j:=by
   rw [seqIndex_neg (by omega) h4] at h1
   rw [List.size_toArray,← hl]
   exact Option.some.inj h1
  exact subscriptTail_builtinR (x:=w) pl.isList.typeIs slot_list_getitem.lookup
   (wpAny_getItem_list_neg (Q:=fun r s'=>r = w∧EP X pins σ Q r s') pl.isList (by omega) (by rw [List.size_toArray] <;> omega) (by omega) (by rw [hj]; simpa using ew) ⟨rfl,fin⟩) hs
theorem ix_tup:IxR X (rIxT X.K):=by
 intro value slice pins s σ H x y v u Q I rx ry h hs
 obtain ⟨p,xs,i,z,rfl,rfl,hq,he,q⟩:=h
 cases rx
 obtain ⟨t,rfl⟩:=ry
 obtain ⟨its,r,pl,hz⟩:=I.tuple hq
 obtain ⟨j,h1,h2,h3,h4,h5⟩:=atI_get he
 obtain ⟨w,ew,rw'⟩:=r.get h2
 have hl:=r.length
 have hn:=line63
 have fin:EP X pins σ Q w s:=⟨z,H,I,rw',q⟩
 exact subscriptTail_builtinR (x:=w) pl.typeIs slot_tuple_getitem.lookup
  (getItem_tuple (j:=j) (Q:=fun r s'=>r = w∧EP X pins σ Q r s') pl (by omega) (by omega) (by rw [List.size_toArray,← hl]; exact h1) (by simpa using ew) ⟨rfl,fin⟩) hs
theorem mapSeq_set (its:List Value) (n j:Nat) (u:Value):Obj.mapSeq (·.setIfInBounds j u) { cls:=.type "list",data:=.seq its.toArray n } = { cls:=.type "list",data:=.seq (its.set j u).toArray n }:=by
 simp [Obj.mapSeq]
theorem Inv.lst {pins:List (Addr × Obj)} {σ:St} {H:Hp} {s:Shared} {p:Addr} {xs:List V} (I:Inv X pins σ H s) (h:H p = some (.lst xs)) :
  ∃ (its:List Value) (n:Nat),Vals xs its∧s.heap.get? p = some { cls:=.type "list",data:=.seq its.toArray n }∧xs.length≤sizeLine:=by
 obtain ⟨z,its,n,r,e⟩:=I.hok p _ h
 exact ⟨its,n,r,e,z⟩
theorem Inv.lstUpd {pins:List (Addr × Obj)} {σ:St} {H:Hp} {s:Shared} {p:Addr} {xs ys:List V} {its its':List Value} {n n':Nat} {f:Obj→Obj} (I:Inv X pins σ H s) (h:H p = some (.lst xs))
  (ho:s.heap.get? p = some { cls:=.type "list",data:=.seq its.toArray n }) (hf:f { cls:=.type "list",data:=.seq its.toArray n } = { cls:=.type "list",data:=.seq its'.toArray n' }) (r:Vals ys its') (hz:ys.length≤sizeLine) (t:Nat) :
  Inv X pins σ (upd H p (.lst ys)) { s with heap:=s.heap.update p f,toks:=t }:=by
 have e:(s.heap.update p f).get? p = some { cls:=.type "list",data:=.seq its'.toArray n' }:=by
  rw [Heap.get?_update_self f ho (by rw [hf] <;> rfl),hf]
 refine I.write (x:=p) (e:=p) (by rw [h]; trivial) (.inl rfl) (fun b u hb q=>(Heap.get?_update_other _ _ (Ne.symm hb)).trans q) ⟨_,e⟩ ?_
 exact ⟨hz,its',n',r,e⟩
def rSetL:V→V→V→Hp→(Hp→Prop)→Prop:=fun o i v H Q=>∃ p xs k j,o = .ref p∧i = .int k∧H p = some (.lst xs)∧ixN xs.length k = some j∧Q (upd H p (.lst (xs.set j v)))
theorem set_list:PSet X rSetL:=by
 intro pins s σ H o i v ov iv u Q I ro ri rv h
 obtain ⟨p,xs,k,j,rfl,rfl,hp,hj,q⟩:=h
 cases ro
 obtain ⟨t,rfl⟩:=ri
 obtain ⟨its,n,r,ho,hz⟩:=I.lst hp
 obtain ⟨h1,h2,h3,h4⟩:=ixN_seq hj
 have hl:=r.length
 have hn:=line63
 have I':Inv X pins σ (upd H p (.lst (xs.set j v))) { s with heap:=s.heap.update p (Obj.mapSeq (·.setIfInBounds j u)) } :=
  I.lstUpd hp ho (mapSeq_set its n j u) (r.set rv j) (by rw [List.length_set]; exact hz) s.toks
 by_cases h0:0≤k
 ·have hk:k.toNat = j:=by
   rw [seqIndex_of h0 h4] at h1
   exact Option.some.inj h1
  exact PySem.W.ki_setAt ho h0 (by omega) (by rw [List.size_toArray,← hl]; exact h4) (by rw [hk]; exact ⟨_,I',q⟩)
 ·have hk:(k + (its.toArray.size:Int)).toNat = j:=by
   rw [seqIndex_neg (by omega) h3] at h1
   rw [List.size_toArray,← hl]
   exact Option.some.inj h1
  exact PySem.W.ki_setBack ho (by omega) (by rw [List.size_toArray,← hl]; exact h3) (by omega) (by rw [hk]; exact ⟨_,I',q⟩)
theorem call_len_seq:CallR X (.builtin "len") (fun xs H Q=>∃ p ys,xs = [.ref p]∧(SqL X.K H p ys∨SqT X.K H p ys)∧Q (.int ys.length) H):=by
 intro pins s σ H xs us Q I r h
 obtain ⟨p,ys,rfl,hq,q⟩:=h
 obtain ⟨u,rfl,rx⟩:=vals1 r
 cases rx
 have hn:=line63
 rcases hq with hq | hq
 ·obtain ⟨its,r',pl,hz⟩:=I.list hq
  have hlen:=r'.length
  exact Calls.call_len_list pl.isList (by simp only [List.size_toArray] <;> omega) ⟨.int ys.length,H,I.tok _,⟨s.toks + 1,by rw [List.size_toArray,hlen]⟩,q⟩
 ·obtain ⟨its,r',pl,hz⟩:=I.tuple hq
  have hlen:=r'.length
  exact len_tuple pl (by simp only [List.size_toArray] <;> omega) ⟨.int ys.length,H,I.tok _,⟨s.toks + 1,by rw [List.size_toArray,hlen]⟩,q⟩
def tyV (K:PySem.W.Frag) (T:String) (x:V) (H:Hp):Prop:=match x with
 | .str _=>T = "str"
 | .int _=>T = "int"
 | .ref p=>(T = "list"∧∃ xs,SqL K H p xs)∨(T = "tuple"∧∃ o,K.lookup p = some o∧o.cls = .type "tuple"∧o.dict = none) ∨
   (T = "dict"∧((∃ kvs,H p = some (.dK kvs))∨∃ kvs,H p = some (.dT kvs)))∨(T = "set"∧∃ S n,H p = some (.set S n))
 | _=>False
theorem tyV_is {pins:List (Addr × Obj)} {σ:St} {H:Hp} {s:Shared} {T:String} {x:V} {v:Value} (I:Inv X pins σ H s) (r:RelV x v) (ty:tyV X.K T x H) :
  s.TypeIs v T∧∀ a,v = .ref a→∃ ob,s.heap.get? a = some ob∧ob.dict = none:=by
 cases x with
 | str z =>
  obtain ⟨t,rfl⟩:=r
  cases (show T = "str" from ty)
  exact ⟨typeIs_str s z t,fun _ e=>nomatch e⟩
 | int i =>
  obtain ⟨t,rfl⟩:=r
  cases (show T = "int" from ty)
  exact ⟨typeIs_int s i t,fun _ e=>nomatch e⟩
 | ref p =>
  cases r
  rcases ty with ⟨rfl,xs,hq⟩ | ⟨rfl,o,hk,hc,hd⟩ | ⟨rfl,hk⟩ | ⟨rfl,S,n,hk⟩
  ·obtain ⟨its,_,pl,_⟩:=I.list hq
   refine ⟨pl.isList.typeIs,fun a e=>?_⟩
   cases e
   obtain ⟨o,n,e,c,hd,_⟩:=pl
   exact ⟨o,e,hd⟩
  ·refine ⟨⟨o,I.kIn p o hk,hc⟩,fun a e=>?_⟩
   cases e
   exact ⟨o,I.kIn _ o hk,hd⟩
  ·have z:∃ o,s.heap.get? p = some o∧o.ExactDict:=by
    rcases hk with ⟨kvs,hk⟩ | ⟨kvs,hk⟩
    ·obtain ⟨_,_,_,_,o,_,_,e,ex,_⟩:=I.hok p _ hk
     exact ⟨o,e,ex⟩
    ·obtain ⟨_,_,_,_,o,_,_,e,ex,_⟩:=I.hok p _ hk
     exact ⟨o,e,ex⟩
   obtain ⟨o,e,ex⟩:=z
   refine ⟨⟨o,e,ex.1⟩,fun a e2=>?_⟩
   cases e2
   exact ⟨o,e,ex.2.1⟩
  ·obtain ⟨o,_,_,_,e,ex,_⟩:=I.hok p _ hk
   refine ⟨⟨o,e,ex.1⟩,fun a e2=>?_⟩
   cases e2
   exact ⟨o,e,ex.2.1⟩
 | _=>exact False.elim ty
def tBM (K:PySem.W.Frag) (T:String) (r:V→List V→Hp→VK→Prop) (to:TE) (t:TA):TE:=fun σ H Q=>to σ H fun x H1=>tyV K T x H1∧t σ H1 fun xs H2=>r x xs H2 Q
variable {o e:Expr} {es:List Expr} {to:TE} {t:TA} {name:Str} {apos cpos:Pos} {T id:String} {r:V→List V→Hp→VK→Prop}
theorem pe_bm (pa:PlainAttrs T) (slot:Slot T name id) (hty:typeOf (.builtin id) = pure (.type "method_descriptor")) (hm:MtR X id r) (ho:PE X o to) (ha:PA X (e :: es) t)
  (hbase:attributeBase o name X.env (eval o X.env) = eval o X.env:=by rfl)
  (hfew:((backTo cpos (starEach (e :: es) X.env)).all (fun x=>!x.1) && (backToKw cpos (keywordEach [] X.env)).all (fun x=>x.1.isSome)
   && decide ((e :: es).length + ([]:List Keyword).length + (if ([]:List Keyword).isEmpty then 0 else 1) < 30)) = true:=by rfl)
  (hline:(apos.endLine == cpos.line) = true:=by rfl) (hs:starEach (e :: es) X.env = (false,eval e X.env) :: starEach es X.env:=by rfl) (hplain:(backTo cpos (starEach es X.env)).any (·.1) = false:=by rfl) :
  PE X (.Call (.Attribute o name apos) (e :: es) [] cpos) (tBM X.K T r to t):=by
 intro pins s σ H Q I h
 refine wpAny_Call_method_late hbase hfew hline rfl (thn (ho pins s σ H _ I h) fun v s1 ⟨x,H1,I1,r1,ty,q1⟩=>?_)
 obtain ⟨h1,h2⟩:=tyV_is I1 r1 ty
 refine ⟨T,id,pa,slot,hty,h1,h2,?_⟩
 have hA:=ha cpos pins s1 σ H1 _ I1 q1
 rw [hs] at hA ⊢
 refine Calls.callWith_builtin (by show (false || (backTo cpos (starEach es X.env)).any (·.1)) = false; rw [hplain] <;> rfl) (Calls.evalArgs_plain ?_)
 exact thn hA fun us s2 ⟨vs,H2,I2,r2,q2⟩=>hm pins s2 σ H2 x vs v us Q I2 r1 r2 q2
/- xs.append(e),list.index on a module's tuple .. are MtR facts of 06m -/
end
end L2
namespace L2
open PySem PySem.Spec PyProof.Rows
def MtM (X:Cx) (id:String) (r:V→List V→Hp→VK→Prop):Prop :=
 ∀ (pins:List (Addr × Obj)) (s:Shared) (σ:St) (H:Hp) (x:V) (xs:List V) (v:Value) (us:List Value) (Q:VK),Inv X pins σ H s→RelV x v→Vals xs us→r x xs H Q →
  wpAny (model X.prog X.w) X.A (call (.builtin id) (v :: us)) (EP X pins σ Q) X.xe s
theorem Vals.one:∀ {x:V} {us:List Value},Vals [x] us→∃ u,us = [u]∧RelV x u
 | _,_,.cons r .nil=>⟨_,rfl,r⟩
section
variable {X:Cx} {pins:List (Addr × Obj)} {σ:St} {H:Hp} {s:Shared} {l b:Addr} {xs ys zs:List V}
theorem Inv.lset {its its':List Value} {n:Nat} {f:Array Value→Array Value} {t':Nat} (I:Inv X pins σ H s) (hH:H l = some (.lst xs))
  (e:s.heap.get? l = some { cls:=.type "list",data:=.seq its.toArray n }) (hf:f its.toArray = its'.toArray) (hv:Vals ys its') (hz:ys.length≤sizeLine) :
  Inv X pins σ (upd H l (.lst ys)) { s with heap:=s.heap.update l (Obj.mapSeq f),toks:=t' }:=by
 have q:=PySem.IsL.update e f
 rw [hf] at q
 refine I.write (x:=l) (e:=l) (by rw [hH]; exact trivial) (.inl rfl) (fun b' u hb hu=>(Heap.get?_update_other s.heap (Obj.mapSeq f) (Ne.symm hb)).trans hu) ⟨_,q⟩ ?_
 exact ⟨hz,its',_,hv,q⟩
theorem Inv.lnew {its:List Value} {t':Nat} (I:Inv X pins σ H s) (hv:Vals ys its) (hz:ys.length≤sizeLine) :
  Inv X pins σ (upd H s.heap.objs.size (.lst ys)) { s with heap:=s.heap.push { cls:=.type "list",data:=.seq its.toArray },toks:=t' } :=
 I.laid (fun _ _ q=>Heap.get?_push_of_some _ q) (Nat.le_refl _) ⟨hz,its,0,hv,Heap.get?_push_size _ rfl⟩
theorem Inv.fresh (I:Inv X pins σ H s):H s.heap.objs.size = none:=I.hok.fresh (Nat.le_refl _)
theorem Inv.lstM (I:Inv X pins σ H s) (hH:H l = some (.lst xs)):xs.length≤sizeLine∧∃ (its:List Value) (n:Nat),Vals xs its∧xs.length = its.length∧s.heap.get? l = some { cls:=.type "list",data:=.seq its.toArray n }:=by
 obtain ⟨z,its,n,r,e⟩:=I.hok l _ hH
 exact ⟨z,its,n,r,r.length,e⟩
end
section
variable {X:Cx}
def rAppend:V→List V→Hp→VK→Prop:=fun x vs H Q=>∃ l xs y,x = .ref l∧vs = [y]∧H l = some (.lst xs)∧xs.length < sizeLine∧Q .non (upd H l (.lst (xs ++ [y])))
theorem mt_append:MtM X "list.append" rAppend:=by
 intro pins s σ H x vs v us Q I rx rv h
 obtain ⟨l,xs,y,rfl,rfl,hH,hz,q⟩:=h
 cases rx
 obtain ⟨u,rfl,ru⟩:=rv.one
 obtain ⟨z,its,n,r,hl,e⟩:=I.lstM hH
 refine call_meets F.slot_list_append ⟨_,e,rfl⟩ F.entry_list_append (F.args_list_append_2 _ _) (PySem.list_append l its.toArray n u (by rw [List.size_toArray]; omega)) ⟨e,?_⟩
 refine ⟨.non,_,I.lset (its':=its ++ [u]) hH e (by simp) (r.append (.cons ru .nil)) ?_,rfl,q⟩
 rw [List.length_append,List.length_singleton]
 omega
end
section
variable {prog:Program} {w:World} {A:Around} {E:Value→Shared→Prop} {s:Shared}
set_option maxRecDepth 100000 in
end
section
variable {X:Cx}
end
end L2
namespace Att
open PySem PySem.W PySem.Calls PyProof.Rows
theorem ints_of_wellAll {P:Params} {h:Heap}:∀ (ns:List Int) (vs:List Value),WellAll P h vs (ns.map WData.int)→IntsAre vs ns:=by
 intro ns
 induction ns with
 | nil =>
  intro vs w
  rw [List.map_nil] at w
  cases w
  exact .nil
 | cons n ns ih =>
  intro vs w
  rw [List.map_cons] at w
  cases w with
  | cons a b =>
   cases a
   exact .cons _ _ (ih _ b)
theorem script_of {l:OpenLaw} {n:Nat} (hn:l.most = some n) {P:Params} {h:Heap} {args:List WData} {vals:List Value}
  (hpre:l.row.toRowW.claim.pre args = true) (hwl:WellAll P h vals args) :
  ∃ a vs ns,vals = [Value.ref a]∧args = [WData.list (ns.map WData.int)]∧h.get? a = some { cls:=.type "list",data:=.seq vs.toArray }∧IntsAre vs ns∧ns.length≤n:=by
 have hsh:WShape.hasAll [] args [.list .int] = true:=(pre_splitW hpre).1
 have hc:l.pre.holds [] { args:=args } = true:=(pre_splitW hpre).2
 obtain ⟨d,r,rfl,h1,h2⟩:=hasAllW_cons hsh
 obtain rfl:=hasAllW_nil h2
 obtain ⟨xs,rfl,h3⟩:=hasW_list h1
 obtain ⟨ns,rfl⟩:=items_int h3
 have hlen:ns.length≤n:=by
  unfold OpenLaw.pre at hc
  have h4:(WTm.not (.lt (.lit (.int (n:Int))) (.len (.arg 0)))).holds [] { args:=[.list (ns.map .int)] } = true:=by
   have h4:=(holds_andW hc).1
   rw [hn] at h4
   exact h4
  have h5:=condW_of h4 (w_not (w_lt w_lit (w_len_list (w_arg rfl))))
  rw [List.length_map] at h5
  refine Nat.le_of_not_lt fun q=>?_
  have q':(n:Int) < ((ns.length:Nat):Int):=by omega
  first
   | (rw [decide_eq_true q'] at h5; exact absurd h5 (by decide))
   | (simp at h5; omega)
 cases hwl with
 | cons w1 w2 =>
  cases w2
  cases w1 with
  | list ho hall=>exact ⟨_,_,ns,rfl,rfl,ho,ints_of_wellAll ns _ hall,hlen⟩
theorem post_true (l:OpenLaw) (args:List WData):l.row.toRowW.claim.post args (.bool true) args = true :=
 postW_of (r:=l.row.toRowW) (X:=(true == true))
  (show WShape.has [] (.bool true) .bool = true by first | rfl | decide | simp [WShape.has,WShape.arms,WShape.armsAll])
  (show (WTm.eq .res (.lit (.bool true))).value [] { args:=args,res:=some (.bool true),after:=args } = some (.bool (true == true)) from w_eq_bool (w_res rfl) w_lit) rfl
theorem attach_call {l:OpenLaw} {n:Nat} {q:Program} {loose:List Str} {XP:(Str→Option Value)→Heap→Prop} {YP:World→Heap→Prop} {d:DefRec}
  (hn:l.most = some n) (hdf:d.params.defaults = [])
  (call:∀ (w:World) (s₀ s₁:Shared) (mg mb:Str→Option Value) (fa:Addr) (o:Obj) (pm cd doc:Value) (a:Addr) (vs:List Value) (ns:List Int),
   Ground q loose [] XP w s₀ mg mb s₁.heap→YP w s₁.heap →
   s₁.heap.get? fa = some o→o.data = .func (docDef d.name d.params d.body d.scope pm cd doc)→s₁.heap.CodeRec cd d.name→mg d.name = some (.ref fa) →
   s₁.heap.get? a = some { cls:=.type "list",data:=.seq vs.toArray }→IntsAre vs ns→ns.length≤n→s₁.gens = #[] →
   codeAny (model l.prog w) callerA (.call (.ref fa) ⟨[.ref a],[]⟩) (fun r s'=>r = .ok (.ret (.bool true))∧OldK s₁.heap s'.heap∧s'.os = s₁.os∧AllBare s'.gens) s₁) :
  WalkO q loose XP YP l.row.toRowW d [] (fun f vs=>PySem.call f vs):=by
 intro w s₀ s₁ mg mb G Y fa o pm cd doc dV kV ho hd hcd hD hmg hg args vals as hpre hlay hrd hwl hlo
 obtain rfl:dV = .none:=Dflts.none hD hdf
 obtain rfl:kV = .none:=Dflts.noKw hD
 obtain ⟨a,vs,ns,rfl,rfl,hobj,hints,hlen⟩:=script_of hn hpre hwl
 refine enter_call (codeAny_mono (call w s₀ s₁ mg mb fa o pm cd doc a vs ns G Y ho (fd_plain hd) hcd hmg hobj hints hlen hg) fun r s' hq=>?_)
 obtain ⟨rfl,h2,h3,h4⟩:=hq
 exact ⟨.inl ⟨.bool true,.bool true,[],rfl,fun _=>rfl,.bool true,post_true l _,fun _=>⟨List.Pairwise.nil,fun _ hm=>(nomatch hm)⟩⟩,h2,h3,h4⟩
section
variable {prog:Program} {w:World} {A:Around} {E:Value→Shared→Prop} {s:Shared} {K:Frag}
end
end Att
namespace L2
open PySem PySem.Spec PyProof.Rows
theorem vals_ints:∀ {vs:List Value} {ns:List Int},IntsAre vs ns→Vals (ns.map V.int) vs
 | _,_,.nil=>.nil
 | _,_,.cons n t h=>.cons ⟨t,rfl⟩ (vals_ints h)
end L2
namespace L2
open PySem PySem.Spec PyProof.Rows
end L2
namespace L2
open PySem PySem.Spec PyProof.Rows
def inClass (s:Stmt) (j:Nat):Stmt:=match s with
 | .ClassDef _ _ _ body _ _ _ _ _ _ _=>body.getD j (.Pass ⟨0,0,0,0⟩)
 | _=>.Pass ⟨0,0,0,0⟩
def defArgs (s:Stmt):Arguments:=match s with
 | .FunctionDef _ a _ _ _ _ _ _ _ _=>a
 | _=>{ posonlyargs:=[],args:=[],vararg:=none,kwonlyargs:=[],kw_defaults:=[],kwarg:=none,defaults:=[] }
def defBody (s:Stmt):List Stmt:=match s with
 | .FunctionDef _ _ b _ _ _ _ _ _ _=>b
 | _=>[]
def defScope (s:Stmt):Scope:=match s with
 | .FunctionDef _ _ _ _ _ _ sc _ _ _=>sc
 | _=>{ kind:=.function,names:=[],isGenerator:=false,isCoroutine:=false }
abbrev CX0:CXT:=fun _ _ _ _ _ _=>False
abbrev E0:XK:=fun _ _ _=>False
theorem pass0 {X:Cx}:Passes CX0 X E0:=fun _ _ _ _ _ _ _ h=>h.elim
structure Fun (K:PySem.W.Frag) (x qual:Str) (st:Stmt) (f:Addr) (fd:FuncData):Prop where
 ex:∃ (oc:Value) (od:Option Addr) (kV doc pm:Value) (an:Option Addr) (cdv ct:Value) (osl:Array (Option Value)),
  fd = PySem.W.fnOf x qual (defArgs st) (defBody st) (defScope st) .none kV doc pm an cdv ct∧K.lookup f = some ⟨oc,od,.func fd,osl⟩∧PySem.W.codeIn K cdv qual = true
 kp:PySem.W.keepIn K (.ref f) = true
section
variable {P:Program} {w:World} {K:PySem.W.Frag} {mg:Str→Option Value} {base:Heap}
theorem Fun.ok {x qual:Str} {st:Stmt} {f:Addr} {fd:FuncData} {N ps:List Str} {k:Nat} {sp:Sp} (F:Fun K x qual st f fd) (S:FnScope N ps (defScope st)) (len:∀ vs H Q E,sp vs H Q E→vs.length = ps.length)
  (hbody:∀ (cdv:Value) (A:Around) (outer:List Env) (s:Shared) (H:Hp) (vs:List V) (Q:VK) (E:XK),Room k (A.deeper (envOfC qual (defScope st) s.heap.objs.size f cdv))→sp vs H Q E →
   ∃ t,PSs (cxOf CX0 P w K mg base N qual (defScope st) f cdv A outer s H E).nox (defBody st) t∧t { nx:=fun _ H'=>Q .non H',rt:=Q } (start N vs) H):FnOk P w K mg base CX0 (k + 1) f fd ps sp:=by
 obtain ⟨oc,od,kV,doc,pm,an,cdv,ct,osl,rfl,lk,hcd⟩:=F.ex
 refine fn_of lk hcd S len fun A outer s H vs Q E hr hsp=>?_
 obtain ⟨t,h,q⟩:=hbody cdv A outer s H vs Q E hr hsp
 exact ⟨t,h.nox,q⟩
theorem Fun.binds {x qual:Str} {st:Stmt} {f:Addr} {fd:FuncData} {ps:List Str} (F:Fun K x qual st f fd)
  (h:∀ (kV doc pm:Value) (an:Option Addr) (cdv ct:Value) (us:List Value),us.length = ps.length→bindArgs (PySem.W.fnOf x qual (defArgs st) (defBody st) (defScope st) .none kV doc pm an cdv ct) ⟨us,[]⟩ = pure (ps.zip us)):Binds K fd ps []:=by
 obtain ⟨oc,od,kV,doc,pm,an,cdv,ct,osl,rfl,lk,hcd⟩:=F.ex
 exact .all (h kV doc pm an cdv ct)
theorem fun_mk {x qual:Str} {st:Stmt} {f:Addr} {oc:Value} {od an:Option Addr} {osl:Array (Option Value)} {kV doc pm cdv ct:Value} (l:K.lookup f = some ⟨oc,od,.func (PySem.W.fnOf x qual (defArgs st) (defBody st) (defScope st) .none kV doc pm an cdv ct),osl⟩)
  (c:PySem.W.codeIn K cdv qual = true) (k:PySem.W.keepIn K (.ref f) = true):Fun K x qual st f (PySem.W.fnOf x qual (defArgs st) (defBody st) (defScope st) .none kV doc pm an cdv ct):=⟨⟨oc,od,kV,doc,pm,an,cdv,ct,osl,rfl,l,c⟩,k⟩
end
theorem hu_of {A:Around} {k:Nat} (hr:Room k A):A.units + 1 < cLine:=Nat.lt_of_le_of_lt (Nat.add_le_add_left (by decide:1≤64) _) hr.units
section
variable {X:Cx}
theorem pv (i:Nat) {x:Str} {pos:Pos} (hN:X.N[i]? = some x:=by rfl) (hv:Vis X.env.scope x:=by first | exact Or.inl rfl | exact Or.inr (Or.inl rfl) | exact Or.inr (Or.inr rfl)) (hd:(x == ("__debug__":Str)) = false:=by decide)
  (hcd:(x == ("__classdict__":Str)) = false:=by decide):PE X (.Name x pos) (tVar i):=pe_var hN hv hd hcd
end
theorem iteF {A B:Prop} (h:B):if false = true then A else B:=by
 rw [if_neg Bool.false_ne_true]
 exact h
theorem iteT {A B:Prop} (h:A):if true = true then A else B:=by
 rw [if_pos rfl]
 exact h
theorem iteNS {c A B:Prop} [Decidable c] (hc:c) (h:B):if (!decide c) = true then A else B:=by
 rw [decide_eq_true hc]
 exact iteF h
def Same (H H':Hp):Prop:=∀ b o,H b = some o→H' b = some o
theorem Same.refl (H:Hp):Same H H:=fun _ _ h=>h
theorem Same.trans {H H1 H2:Hp} (a:Same H H1) (b:Same H1 H2):Same H H2:=fun c o h=>b c o (a c o h)
end L2
set_option maxHeartbeats 4000000
namespace Ow
open PySem PySem.Spec PyProof.Rows L2
structure Has (P:Program) (w:World) (K:PySem.W.Frag) (mg:Str→Option Value) (base:Heap) (k:Nat) (x:Str) (ps:List Str) (sp:Sp):Prop where
 ex:∃ (f:Addr) (fd:FuncData),FnOk P w K mg base CX0 k f fd ps sp∧Binds K fd ps []∧PySem.W.keepIn K (.ref f) = true∧mg x = some (.ref f)
section
variable {X:Cx} {k:Nat} {x:Str} {ps:List Str} {sp:Sp} {p pos:Pos} {e:Expr} {es:List Expr} {t:TA}
theorem pe_fn (h:Has X.prog X.w X.K X.mg X.base k x ps sp) (hr:Room k X.A) (hg:Gl X x) (ha:PA X (e :: es) t) (hdb:(x == ("__debug__":Str)) = false:=by decide)
  (he:starEach (e :: es) X.env = (false,eval e X.env) :: starEach es X.env:=by rfl) (hpl:(backTo pos (starEach es X.env)).any (·.1) = false:=by rfl) :
  PE X (.Call (.Name x p) (e :: es) [] pos) (tCall sp [] E0 t):=by
 obtain ⟨f,fd,F,b,kp,m⟩:=h.ex
 exact pe_call F hr hg m kp b .nil pass0 ha hdb he hpl
theorem pe_ty {T:String} (hg:Gl X x) (hm:X.mg x = none) (hv:bootBuiltins x = some (.type T)) (hn:x ≠ "__name__":=by decide) (hd:(x == ("__debug__":Str)) = false:=by decide):PE X (.Name x pos) (tC (.ty T)):=pe_bltn (v:=.ty T) hg hm hv rfl hn hd
theorem pe_cls {C:Addr} (hg:Gl X x) (hm:X.mg x = some (.ref C)) (hd:(x == ("__debug__":Str)) = false:=by decide):PE X (.Name x pos) (tC (.ref C)):=pe_glob (v:=.ref C) hg hm rfl hd
def clsV:V→Option Value
 | .ty n=>some (.type n)
 | .ref C=>some (.ref C)
 | _=>none
theorem clsV_rel {c:V} {u cv:Value} (r:RelV c u) (h:clsV c = some cv):u = cv:=by
 cases c with
 | ty n=>cases h; exact r
 | ref C=>cases h; exact r
 | _=>cases h
theorem call_isinst:CallR X (.builtin "isinstance") (fun xs H Q=>∃ x c t cv b,xs = [x,c]∧clsV c = some cv∧TyOf X.K H x t∧PySem.W.kitOne X.K t cv = some b∧Q (.bl b) H):=by
 intro pins s σ H xs us Q I r h
 obtain ⟨x,c,t,cv,b,rfl,hc,ty,e,q⟩:=h
 obtain ⟨u,u',rfl,rx,rc⟩:=vals2 r
 cases clsV_rel rc hc
 exact isinst_ok I rx ty e fun tk=>⟨.bl b,H,I.tok _,rfl,q⟩
theorem op_fdivB:OpR X (binaryOp .FloorDiv) (rI (fun _ j=>0 < j∧j.natAbs.log2 < 9000) fun i j=>.int (i / j)):=opI fun i j _ _ _ _ _ hc q=>by
 have h1:(0:Int) < j:=hc.1
 exact floordiv_int (by omega) (by rw [Int.fdiv_eq_ediv_of_nonneg i (by omega)]; exact q) (.inl (PyProof.noPylong_of_log2 hc.2))
end
theorem kit_int_int (K:PySem.W.Frag):PySem.W.kitOne K (.type "int") (.type "int") = some true:=rfl
theorem kit_int_bool (K:PySem.W.Frag):PySem.W.kitOne K (.type "int") (.type "bool") = some false:=by with_unfolding_all rfl
theorem kit_bl_int (K:PySem.W.Frag):PySem.W.kitOne K (.type "bool") (.type "int") = some true:=by with_unfolding_all rfl
theorem kit_bl_bl (K:PySem.W.Frag):PySem.W.kitOne K (.type "bool") (.type "bool") = some true:=rfl
theorem iteD {c A B:Prop} [Decidable c] (hc:c) (h:A):if decide c = true then A else B:=by
 rw [if_pos (decide_eq_true hc)]
 exact h
theorem iteDN {c A B:Prop} [Decidable c] (hc:¬ c) (h:B):if decide c = true then A else B:=by
 rw [if_neg (by rw [decide_eq_false hc]; decide)]
 exact h
theorem iteN {c A B:Prop} [Decidable c] (hc:¬ c) (h:A):if (!decide c) = true then A else B:=by
 rw [decide_eq_false hc]
 exact iteT h
theorem iteE {c A B:Prop} [Decidable c] (hc:¬ c) (h:B):if decide c = true then A else B:=iteDN hc h
theorem p1_pos (n:Nat):(0:Int) < 1 * 2 ^ n:=by
 rw [Int.one_mul]
 exact Int.pow_pos (by decide)
theorem p_pos (n:Nat):(0:Int) < 2 ^ n:=Int.pow_pos (by decide)
theorem p_mono {m n:Nat} (h:m≤n):(2:Int) ^ m≤2 ^ n:=by
 have e:n = m + (n - m):=by omega
 rw [e,Int.pow_add]
 have h1:=p_pos m
 have h2:(1:Int)≤2 ^ (n - m):=p_pos (n - m)
 have h3:=Int.mul_le_mul_of_nonneg_left h2 (Int.le_of_lt h1)
 rw [Int.mul_one] at h3
 exact h3
def SameX (p:Addr) (H H':Hp):Prop:=∀ b o,b ≠ p→H b = some o→H' b = some o
theorem SameX.trans {p:Addr} {H H1 H2:Hp} (a:SameX p H H1) (b:SameX p H1 H2):SameX p H H2:=fun c o n h=>b c o n (a c o n h)
theorem SameX.of {p:Addr} {H H':Hp} (a:Same H H'):SameX p H H':=fun c o _ h=>a c o h
theorem SameX.upd {p:Addr} {H:Hp} {o:HO}:SameX p H (upd H p o):=fun c u n h=>by rw [upd_ne n]; exact h
theorem same_new {H:Hp} {p:Addr} (h:H p = none) (o:HO):Same H (L2.upd H p o):=fun b u q=>by rw [upd_ne (ne_of_none q h)]; exact q
def Box (H:Hp) (p:Addr):Prop:=∃ r s c:Int,H p = some (.lst [.int r,.int s,.int c])
theorem Box.same {H H':Hp} {p:Addr} (b:Box H p) (s:Same H H'):Box H' p:=by
 obtain ⟨r,s',c,h⟩:=b
 exact ⟨r,s',c,s _ _ h⟩
theorem getI (ns:List Int) (k:Nat) (h:k < ns.length):atI (ns.map V.int) (k:Int) = some (.int ns[k]):=atI_nat (by rw [List.getElem?_map,List.getElem?_eq_getElem h] <;> rfl)
end Ow
namespace Ow
open PySem PySem.Spec PyProof.Rows L2
structure MHas (P:Program) (w:World) (K:PySem.W.Frag) (mg:Str→Option Value) (base:Heap) (k:Nat) (C:Addr) (m:Str) (ps:List Str) (sp:Sp):Prop where
 cl:Cls K C
 ex:∃ (f:Addr) (fd:FuncData),Meth K C m f∧FnOk P w K mg base CX0 k f fd ps sp∧Binds K fd ps []
def tMethP (X:Cx) (k:Nat) (m:Str) (ta:TE) (t:TA):TE:=fun σ H Q=>ta σ H fun x H1=>∃ (a C dx:Addr) (fs:List (Str × V)) (ps:List Str) (sp:Sp),x = .ref a∧H1 a = some (.ins C dx fs)∧fs.lookup m = none ∧
 MHas X.prog X.w X.K X.mg X.base k C m ps sp∧t σ H1 fun vs H2=>sp (x :: (vs ++ [])) H2 Q E0
section
variable {X:Cx} {k:Nat} {x m:Str} {C:Addr} {p pos apos:Pos} {o e:Expr} {es:List Expr} {ta:TE} {t:TA}
theorem pe_methP0 {pl:Sem Bool} (he:PE X o ta) (hr:Room k X.A)
  (ht:eval (.Call (.Attribute o m apos) [] [] pos) X.env = (do
   let ov ← eval o X.env
   standAt apos.atName
   let (f,first) ← holding [ov] (getMethod ov m pl)
   callWith pos f first (backTo pos (starEach [] X.env)) (backToKw pos (keywordEach [] X.env))):=by rfl) :
  PE X (.Call (.Attribute o m apos) [] [] pos) (tMethP X k m ta tNil):=by
 intro pins s σ H Q I h
 refine PySem.W.methodCall_KW (pl:=pl) (thn (he pins s σ H _ I h) fun u s1 ⟨x,H1,I1,rx,a,C,dx,fs,ps,sp,ex,ea,l,M,q⟩=>?_) ht
 subst ex
 obtain rfl:u = Value.ref a:=rx
 obtain ⟨f,fd,hm,F,hb⟩:=M.ex
 refine getmeth_ok I1 ea M.cl hm l ?_
 exact PySem.W.callWith_K0 (first:=[.ref a]) I1.kIn hm.kp (run_fn (us:=[.ref a]) (vs:=[.ref a]) F hr hb .nil pass0 I1 (.cons rfl .nil) q)
end
end Ow
namespace Ow
open PySem PySem.Spec PyProof.Rows L2
section
variable {X:Cx} {elt iter:Expr} {x:Str} {px pos:Pos} {scope:Scope} {wi:TI} {te:TE} {N:List Str} {cl:List (Str × Addr)} {cap:L2.St→L2.St}
end
end Ow
namespace Ow
open PySem PySem.Spec PyProof.Rows L2
section
variable {X:Cx}
structure ClsFn (K:PySem.W.Frag) (C:Addr) (m:Str) (f:Addr):Prop where
 reads:PySem.W.readsIn K C (.type "type") = true
 ga:PySem.W.specialIn K (.ref C) "__getattribute__" = some (some (.builtin "type.__getattribute__"))
 fnd:PySem.W.findCls K (.ref C) (.type "type") m = some (.val (.ref f))
 hd:PySem.W.handedIn (.ref f) = true
 kp:PySem.W.keepIn K (.ref f) = true
theorem pe_clsm {pl:Sem Bool} {k:Nat} {f C:Addr} {fd:FuncData} {ps:List Str} {sp:Sp} {cn m:Str} {p pos apos:Pos} {e:Expr} {es:List Expr} {t:TA} (hg:Gl X cn) (hC:X.mg cn = some (.ref C)) (cf:ClsFn X.K C m f)
  (F:FnOk X.prog X.w X.K X.mg X.base CX0 k f fd ps sp) (hr:Room k X.A) (hb:Binds X.K fd ps []) (ha:PA X (e :: es) t) (hdb:(cn == ("__debug__":Str)) = false:=by decide)
  (hst:starEach (e :: es) X.env = (false,eval e X.env) :: starEach es X.env:=by rfl) (hpl:(backTo pos (starEach es X.env)).any (·.1) = false:=by rfl)
  (ht:eval (.Call (.Attribute (.Name cn p) m apos) (e :: es) [] pos) X.env = (do
   let ov ← eval (.Name cn p) X.env
   standAt apos.atName
   let (f,first) ← holding [ov] (getMethod ov m pl)
   callWith pos f first (backTo pos (starEach (e :: es) X.env)) (backToKw pos (keywordEach [] X.env))):=by rfl) :
  PE X (.Call (.Attribute (.Name cn p) m apos) (e :: es) [] pos) (tCall sp [] E0 t):=by
 intro pins s σ H Q I h
 refine PySem.W.methodCall_KW (pl:=pl) (ld_glob I hg hC ?_ hdb) ht
 refine PySem.W.method_cls I.kIn cf.ga (PySem.W.cls_value I.kIn cf.reads cf.fnd cf.hd ?_)
 have I1:=I.tok (s.toks + 1)
 refine PySem.W.callWith_K (first:=[]) (h₀:=X.base) I.ok.mod.kin cf.kp (thn (ha pos pins _ σ H _ I1 h) fun us s2 ⟨vs,H2,I2,r,q2⟩=>⟨I2.kIn,?_⟩) hst hpl
 exact run_fn (us:=us) (vs:=vs) F hr hb .nil pass0 I2 r q2
end
end Ow
namespace Ow
open PySem PySem.Spec PyProof.Rows L2
section
variable {X:Cx}
def rAddL (K:PySem.W.Frag):R2:=fun x y H Q=>∃ a b xs ys,x = .ref a∧y = .ref b∧SqL K H a xs∧SqL K H b ys∧xs.length + ys.length≤sizeLine∧∀ p,H p = none→Q (.ref p) (upd H p (.lst (xs ++ ys)))
theorem op_addL:OpR X (binaryOp .Add) (rAddL X.K):=by
 intro pins s σ H x y v u Q I rx ry h
 obtain ⟨a,b,xs,ys,rfl,rfl,ha,hb,hz,q⟩:=h
 cases rx
 cases ry
 obtain ⟨its,r,pl,_⟩:=I.list ha
 obtain ⟨its2,r2,pl2,_⟩:=I.list hb
 have hl:=r.length
 have hl2:=r2.length
 obtain ⟨⟨cls,dd,data,sl⟩,ho,hc,n,hd⟩:=id pl.isList
 obtain ⟨⟨cls2,dd2,data2,sl2⟩,ho2,hc2,n2,hd2⟩:=id pl2.isList
 simp only at hc hd hc2 hd2
 subst hc hd hc2 hd2
 have e:its.toArray ++ its2.toArray = (its ++ its2).toArray:=by simp
 refine concat_meets ⟨_,ho,rfl⟩ ⟨_,ho2,rfl⟩ noFill_list_add seq_list_add PySem.F.slot_list_add PySem.F.entry_list_add (PySem.F.args_list_add_2 _ _) (list_addW a b its.toArray its2.toArray n n2 dd dd2 sl sl2 (by simp; omega)) ⟨ho,ho2,?_⟩
 rw [e]
 exact ⟨.ref s.heap.objs.size,_,I.lnew (t':=s.toks) (r.append r2) (by rw [List.length_append]; exact hz),rfl,q _ I.fresh⟩
variable {tg:Expr}
theorem all_true {n:Nat} {e:Nat→Bool} (h:∀ j,j < n→e j = true):(List.range n).all e = true:=List.all_eq_true.mpr fun j hj=>h j (List.mem_range.mp hj)
end
end Ow
namespace Ow
open PySem PySem.Spec PyProof.Rows L2
section
variable {X:Cx} {tg:Expr}
variable {elt iter:Expr} {x:Str} {px pos:Pos} {scope:Scope} {wi:TI} {te:TE} {cl:List (Str × Addr)}
structure BHas (P:Program) (w:World) (K:PySem.W.Frag) (mg:Str→Option Value) (base:Heap) (k:Nat) (x m:Str) (ps:List Str) (sp:Sp):Prop where
 ex:∃ (C f:Addr) (fd:FuncData),ClsFn K C m f∧FnOk P w K mg base CX0 k f fd ps sp∧Binds K fd ps []∧mg x = some (.ref C)
theorem pe_clsP {pl:Sem Bool} {k:Nat} {ps:List Str} {sp:Sp} {cn m:Str} {p apos:Pos} {e:Expr} {es:List Expr} {t:TA} (h:BHas X.prog X.w X.K X.mg X.base k cn m ps sp) (hr:Room k X.A) (hg:Gl X cn) (ha:PA X (e :: es) t) (hdb:(cn == ("__debug__":Str)) = false:=by decide)
  (hst:starEach (e :: es) X.env = (false,eval e X.env) :: starEach es X.env:=by rfl) (hpl:(backTo pos (starEach es X.env)).any (·.1) = false:=by rfl)
  (ht:eval (.Call (.Attribute (.Name cn p) m apos) (e :: es) [] pos) X.env = (do
   let ov ← eval (.Name cn p) X.env
   standAt apos.atName
   let (f,first) ← holding [ov] (getMethod ov m pl)
   callWith pos f first (backTo pos (starEach (e :: es) X.env)) (backToKw pos (keywordEach [] X.env))):=by rfl) :
  PE X (.Call (.Attribute (.Name cn p) m apos) (e :: es) [] pos) (tCall sp [] E0 t):=by
 obtain ⟨C,f,fd,cf,F,b,g⟩:=h.ex
 exact pe_clsm hg g cf F hr b ha hdb hst hpl ht
end
end Ow
namespace Ow
open PySem PySem.Spec PyProof.Rows L2
section
variable {X:Cx}
variable {elt iter:Expr} {x:Str} {px pos:Pos} {scope:Scope} {wi:TI} {te:TE} {cl:List (Str × Addr)}
end
end Ow
namespace Ow
open PySem PySem.Spec PyProof.Rows L2
structure Gnd (P:Program) (w:World) (base:Heap) (fs:List Addr) (H H':Hp) (h B:Heap):Prop where
 st:base.StaysIn B
 keep:∀ b o,h.get? b = some o→H b = none→b ∉ fs→B.get? b = some o
 free:∀ b o,h.get? b = some o→H b = none→H' b = none
 there:∀ b o,h.get? b = some o→b ∉ fs→∃ o',B.get? b = some o'
 tups:∀ b xs,H b = some (.tup xs)→H' b = some (.tup xs)
 frzs:∀ b o u,H b = some (.frz o u)→H' b = some (.frz o u)
 tbls:∀ b ps,H b = some (.tbl ps)→∃ more,H' b = some (.tbl (ps ++ more))
 hok:HOk P w H' B
def Slots (fs:List Addr) (h h':Heap):Prop:=∀ b ∈ fs,∀ o,h.get? b = some o→∃ sl,h'.get? b = some { o with slots:=sl }
section
variable {P:Program} {w:World} {base h h1 h2 B:Heap} {fs:List Addr} {H H':Hp} {l:List Env}
theorem Gnd.un (G:Gnd P w base fs H H' h B) (sb:B.StaysIn h1) (sl:Slots fs h h1):Un fs [] H H' h h1 where
 keep:=fun b o q n hb _=>sb _ _ (G.keep b o q n hb)
 slot:=fun b o q _ hb _=>sl b hb o q
 free:=fun b o q n _=>G.free b o q n
 there:=fun b o q _=>by
  by_cases hb:b ∈ fs
  ·obtain ⟨s,e⟩:=sl b hb o q
   exact ⟨_,e⟩
  ·obtain ⟨o',e⟩:=G.there b o q hb
   exact ⟨o',sb _ _ e⟩
 tups:=G.tups
 frzs:=G.frzs
 tbls:=G.tbls
theorem Slots.on (x:Slots (frs l) h h1) (hl:h1.FunFrames B l) (u:h1.UpToSlots h2):Slots (frs l) h h2:=fun b hb o q=>by
 obtain ⟨sl,e⟩:=x b hb o q
 obtain ⟨_,o1,e1,d1⟩:=hl.mem hb
 rw [e] at e1
 cases e1
 obtain ⟨s2,e2⟩:=u b _ e d1
 exact ⟨s2,e2⟩
end
abbrev VE:List Value:=[.type "ValueError",.type "Exception",.type "BaseException",.type "object"]
section
variable {P:Program} {w:World} {K:PySem.W.Frag} {mg:Str→Option Value} {base:Heap} {N:List Str} {qual:Str} {scope:Scope} {f:Addr} {cdv:Value} {A:Around} {outer:List Env} {s₀:Shared} {H₀:Hp} {E:XK}
end
def caught (X:Cx) (a:Addr) (oe:Obj):Cx:={ X with A:=X.A.mark (some (.ref a)),calm:=false,pn:=(a,oe) :: X.pn }
section
variable {X:Cx} {pins:List (Addr × Obj)} {σ:L2.St} {H:Hp} {s:Shared} {a:Addr} {oe:Obj}
theorem caught_inv (I:Inv X pins σ H s) (e:s.heap.get? a = some oe) (n:H a = none) (hl:a ≠ X.env.locals) (hf:a ∉ X.fs) (hd:∀ v,oe.data ≠ .cell v):Inv (caught X a oe) pins σ H s :=
 ⟨⟨I.ok.mod,I.ok.kind,I.ok.glob,I.ok.blt,I.ok.above,I.ok.inj,I.ok.has,I.ok.cab,(fun z=>nomatch z),I.ok.frames,I.ok.stk,I.ok.exf,I.ok.bs,I.ok.bsz,I.ok.noex,I.ok.exfs,I.ok.funs,I.ok.frf⟩,
  I.os,I.bare,I.base,I.loc,I.cell,I.free,I.freeC,fun p hp=>by
   rcases List.mem_cons.mp (show p ∈ (a,oe) :: (X.pn ++ pins) from hp) with rfl | hp
   ·exact ⟨e,n,hl,hf,hd⟩
   ·exact I.pin p hp,I.hok,I.len⟩
theorem suite_end {h':Heap} {m':Str→Option Value} {t':Nat} (I:Inv (caught X a oe) pins σ H s) (okX:X.Ok) (hn:h'.Ns X.env.locals m') (hs:Heap.SameBut X.env.locals s.heap h') :
  Inv X pins (List.replicate X.N.length none) H { s with heap:=h',toks:=t' }:=by
 have neL:∀ b o,X.s₀.heap.get? b = some o→b ≠ X.env.locals:=fun b o e=>Nat.ne_of_lt (Nat.lt_of_lt_of_le (Heap.lt_size e) okX.above)
 refine ⟨okX,I.os,I.bare,⟨fun b o e n hb hx=>?_,fun b o e n hb hx=>?_,I.base.free,fun b o e hx=>?_,I.base.tups,I.base.frzs,I.base.tbls⟩,⟨m',hn,fun i x v e1 e2 e3=>?_⟩,fun x c e=>?_,I.free,I.freeC,fun p hp=>?_,fun b ob e=>?_,List.length_replicate ..⟩
 ·exact (hs.2 b (neL b o e)).trans (I.base.keep b o e n hb hx)
 ·obtain ⟨sl,e1⟩:=I.base.slot b o e n hb hx
  exact ⟨sl,(hs.2 b (neL b o e)).trans e1⟩
 ·obtain ⟨o',e1⟩:=I.base.there b o e hx
  exact ⟨o',(hs.2 b (neL b o e)).trans e1⟩
 ·rw [List.getElem?_replicate] at e2
  split at e2 <;> cases e2
 ·obtain ⟨v,z⟩:=I.cell x c e
  exact ⟨v,z.sameBut hs (I.cne x c e)⟩
 ·obtain ⟨e,n,ne,nf,d⟩:=I.pin p (List.mem_cons_of_mem _ hp)
  exact ⟨(hs.2 p.1 ne).trans e,n,ne,nf,d⟩
 ·refine (I.hok b ob e).stay (fun c w' hc z=>(hs.2 c ?_).trans z) (fun _ z=>z) fun _ _ z=>z
  have fr:H X.env.locals = none:=I.free
  rintro rfl
  rcases hc with rfl | hc
  ·rw [fr] at e; cases e
  ·rw [fr] at hc; cases hc
end
section
variable {X:Cx} {k i j:Nat} {f y n c:Str} {ps:List Str} {sp:Sp} {e:Expr} {es:List Expr} {ta:TA} {C₁:Addr} {b₀:Stmt} {suite:List Stmt} {tb:Addr→Obj→TS} {py p pos apos np hpos tpos:Pos}
end
structure ExF (K:PySem.W.Frag) (C:Addr):Prop where
 ga:PySem.W.findIn K (.ref C) "__getattribute__" = some (some (.builtin "BaseException.__getattribute__"))
 gn:PySem.W.findIn K (.ref C) "__getattr__" = some none
 gc:PySem.W.findIn K (.ref C) "__class__" = some (some (.builtin "object.__class__"))
 mo:PySem.W.mroIn K C (.type "object") = some true
 mb:PySem.W.mroIn K C (.type "BaseException") = some true
section
variable {prog:Program} {w:World} {A:Around} {E:Value→Shared→Prop} {h:Heap} {g:Array GenState} {d:Drawn} {t:Nat} {os:OsState} {K:PySem.W.Frag} {a C:Addr} {o:Obj}
theorem exc_get {R:Result→Shared→Prop} (X:K.In h) (f:ExF K C) (hx:h.get? a = some o) (hc:o.cls = .ref C) (hq:R (.ok (.ret (.ref C))) ⟨h,g,d,t,os⟩) :
  codeAny (model prog w) A (.call (.builtin "getset_descriptor.__get__") ⟨[.builtin "object.__class__",.ref a,.ref C],[]⟩) R ⟨h,g,d,t,os⟩:=by
 have hT5:(⟨h,g,d,t,os⟩:Shared).TypeIs (.builtin "object.__class__") "getset_descriptor":=F.typeOf_object_class
 have L1:PySem.W.Looks (model prog w) h (isSubtype (.ref C) (.type (".".intercalate ("object.__class__".cutAt '.').dropLast))) true:=by
  rw [F.owner_object_class]
  exact PySem.W.looks_mroIn X f.mo
 refine codeAny_call_builtin F.slot_gs_get.plain F.entry_gs_get (F.slot_gs_get.check _ _ _ _ _ _ _ _ hT5 (F.args_gs_get _ _ _) ?_)
 repeat (any_goals (first | assumption | (with_reducible refine wpAny_loadPart_at hx ?_; rw [hc]) | with_reducible refine L1.at ?_ | wp_step))
 refine ⟨Code.quiet_builtin _ (by decide +kernel),codeAny_builtin F.entry_object_class ?_⟩
 repeat (any_goals (first | assumption | (with_reducible refine wpAny_loadPart_at hx ?_; rw [hc]) | wp_step))
theorem exc_entry {tk:Tok} {Q:Fin→Shared→Prop} (X:K.In h) (f:ExF K C) (hx:h.get? a = some o) (hc:o.cls = .ref C) (hq:Q (.done (.ret (.ref C))) ⟨h,g,d,t,os⟩) :
  wpAny (model prog w) A (Builtin.«object.__getattribute__» ⟨[.ref a,.str "__class__" tk],[]⟩) Q E ⟨h,g,d,t,os⟩:=by
 have hT5:(⟨h,g,d,t,os⟩:Shared).TypeIs (.builtin "object.__class__") "getset_descriptor":=F.typeOf_object_class
 have L1:=PySem.W.looks_findIn (M:=model prog w) X f.gc
 have f5:=F.typeOf_object_class
 have f6:=F.slot_gs_get.lookup
 have f7:=F.slot_gs_set.lookup
 repeat (any_goals (first | assumption | (with_reducible refine wpAny_loadPart_at hx ?_; rw [hc]) | with_reducible refine L1.at ?_ | wp_step))
 refine exc_get X f hx hc ?_
 repeat (any_goals (first | assumption | wp_step))
theorem exc_check {M:Model} {nv:Value} {Q:Unit→Shared→Prop} (X:K.In h) (f:ExF K C) (hx:h.get? a = some o) (hc:o.cls = .ref C) (hq:Q () ⟨h,g,d,t,os⟩) :
  wpAny M A (checkBuiltinCall "BaseException.__getattribute__" ⟨[.ref a,nv],[]⟩) Q E ⟨h,g,d,t,os⟩:=by
 have k1:builtinKind "BaseException.__getattribute__" = some .slot:=by decide +kernel
 have k2:splitId "BaseException.__getattribute__" = some ("BaseException", "__getattribute__"):=by decide +kernel
 have L1:=PySem.W.looks_mroIn (M:=M) X f.mb
 have k3:=F.args_bexc_ga (.ref a) nv
 simp only [checkBuiltinCall,k1,k2]
 refine wpAny_bind ?_
 unfold isInstance
 repeat (first | (with_reducible refine wpAny_loadPart_at hx ?_; rw [hc]) | with_reducible refine L1.at ?_ | wp_step)
 exact hq
theorem exc_call {tk:Tok} {R:Result→Shared→Prop} (X:K.In h) (f:ExF K C) (hx:h.get? a = some o) (hc:o.cls = .ref C) (hq:R (.ok (.ret (.ref C))) ⟨h,g,d,t,os⟩) :
  codeAny (model prog w) A (.call (.builtin "BaseException.__getattribute__") ⟨[.ref a,.str "__class__" tk],[]⟩) R ⟨h,g,d,t,os⟩ :=
 codeAny_call_builtin F.attr_ValueError.ga.plain F.entry_bexc_ga (exc_check X f hx hc (exc_entry X f hx hc hq))
theorem exc_by {tk:Tok} {fill:Bool} {Q:Value→Shared→Prop} (X:K.In h) (f:ExF K C) (hx:h.get? a = some o) (hc:o.cls = .ref C) (hq:Q (.ref C) ⟨h,g,d,t,os⟩) :
  wpAny (model prog w) A (getAttrBy (.ref a) (.str "__class__" tk) fill) Q E ⟨h,g,d,t,os⟩:=by
 have f3:=F.attr_ValueError.ga.bind (.ref a)
 have L1:=PySem.W.looks_findIn (M:=model prog w) X f.ga
 have L2:=PySem.W.looks_findIn (M:=model prog w) X f.gn
 have hx2:(Value.builtin "BaseException.__getattribute__" == Value.builtin "object.__getattribute__") = false:=by decide +kernel
 have hx1:(onTheHeap (Value.ref C) && Value.builtin "BaseException.__getattribute__" == Value.builtin "object.__getattribute__") = false:=by rw [hx2]; rfl
 have hx0:(false && onTheHeap (Value.builtin "BaseException.__getattribute__")) = false:=rfl
 repeat (any_goals (first | assumption | (with_reducible refine wpAny_loadPart_at hx ?_; rw [hc]) | with_reducible refine L1.at ?_ | with_reducible refine L2.at ?_ | wp_step))
 refine exc_call X f hx hc ?_
 repeat (any_goals (first | assumption | wp_step))
theorem exc_class {Q:Option Value→Shared→Prop} (X:K.In h) (f:ExF K C) (hx:h.get? a = some o) (hc:o.cls = .ref C) (hq:Q (some (.ref C)) ⟨h,g,d,t + 1,os⟩) :
  wpAny (model prog w) A (getAttr? (.ref a) "__class__") Q E ⟨h,g,d,t,os⟩:=by
 unfold getAttr? getAttrBy?
 refine wpAny_bind (wpAny_mkText (wpAny_bind (wpAny_attempt (exc_by X f hx hc ?_))))
 exact wpAny_pure hq
end
theorem kitx_exc {K:PySem.W.Frag} {a C:Addr} (f:ExF K C):PySem.W.KitX K (.ref a) (.ref C) (fun h=>∃ o,h.get? a = some o∧o.cls = .ref C) where
 ty:=fun M h _ p=>by
  obtain ⟨o,e1,e2⟩:=p
  exact e2 ▸ (PySem.W.Looks.ld e1).andThen .now
 it:=fun M h X _=>by
  obtain ⟨cd,e1,_⟩:=Option.bind_eq_some_iff.mp f.mo
  unfold PySem.W.clsIn at e1
  split at e1
  ·next c' d' cd' sl' e0 =>
   intro A' Q' E' s' k q
   unfold isType loadHead
   exact wpAny_bind (wpAny_loadPart (k _ _ (X _ _ e0)) (wpAny_pure q))
  ·cases e1
 ne:=fun h tp dd its n sl X htp=>by
  obtain ⟨cd,e1,_⟩:=Option.bind_eq_some_iff.mp f.mo
  refine Bool.eq_false_iff.mpr fun q=>?_
  have e:C = tp:=Value.ref.inj (beq_iff_eq.mp q)
  subst e
  unfold PySem.W.clsIn at e1
  split at e1
  ·next c' d' cd' sl' e0 =>
   have z:=(X _ _ e0).symm.trans htp
   cases z
  ·cases e1
 ca:=fun {prog w A E Q s} X p k=>by
  obtain ⟨hh,g,d,t,os⟩:=s
  obtain ⟨o,e1,e2⟩:=p
  exact exc_class X f e1 e2 k
theorem call_isinstX {X:Cx} {a:Addr} {oe:Obj} (hp:(a,oe) ∈ X.pn):CallR X (.builtin "isinstance") (fun xs H Q=>∃ (C:Addr) (c:V) (cv:Value) (b:Bool),xs = [.ref a,c]∧oe.cls = .ref C∧ExF X.K C∧clsV c = some cv∧PySem.W.kitOne X.K (.ref C) cv = some b∧Q (.bl b) H):=by
 intro pins s σ H xs us Q I r h
 obtain ⟨C,c,cv,b,rfl,hc,f,hcv,e,q⟩:=h
 obtain ⟨u,u',rfl,rx,rc⟩:=vals2 r
 cases clsV_rel rc hcv
 cases (show u = Value.ref a from rx)
 have pa:=I.pin _ (List.mem_append_left _ hp)
 exact PySem.W.kia_one (kitx_exc f) I.kIn ⟨oe,pa.1,hc⟩ e (fun z=>nomatch z) fun tk=>⟨.bl b,H,I.tok _,rfl,q⟩
theorem kitc_of {K:PySem.W.Frag} {C D:Addr} {b:Bool} (h1:PySem.W.isClsIn K D = true) (h2:PySem.W.typeIn K (.ref D) = some (.type "type")) (h3:PySem.W.mroIn K C (.ref D) = some b):PySem.W.kitCls K (.ref C) (.ref D) = some b:=by
 unfold PySem.W.kitCls
 have e:((PySem.W.clsIn K D).isSome && PySem.W.typeIn K (.ref D) == some (.type "type")) = true:=by
  rw [h2]
  have h1':(PySem.W.clsIn K D).isSome = true:=h1
  rw [h1',Bool.true_and]
  exact beq_self_eq_true _
 show (if ((PySem.W.clsIn K D).isSome && PySem.W.typeIn K (.ref D) == some (.type "type")) = true then PySem.W.subIn K (.ref C) (.ref D) else none) = _
 rw [if_pos e]
 exact h3
theorem exm_of {K:PySem.W.Frag} {C D:Addr} (h1:PySem.W.isClsIn K D = true) (h2:PySem.W.typeIn K (.ref D) = some (.type "type")) (h3:PySem.W.mroIn K C (.ref D) = some true) (h4:PySem.W.mroIn K D (.type "BaseException") = some true):PySem.W.exmOne K (.ref C) (.ref D) = some true:=by
 unfold PySem.W.exmOne
 have e:PySem.W.subIn K (.ref D) (.type "BaseException") = some true:=h4
 rw [e,if_pos (by rw [beq_self_eq_true])]
 exact kitc_of h1 h2 h3
theorem kit_apart {K:PySem.W.Frag} {C D:Addr} (h1:PySem.W.isClsIn K D = true) (h2:PySem.W.typeIn K (.ref D) = some (.type "type")) (h3:PySem.W.mroIn K C (.ref D) = some false) (h4:PySem.W.mroIn K D (.ref D) = some true):PySem.W.kitOne K (.ref C) (.ref D) = some false:=by
 unfold PySem.W.kitOne
 split
 ·next q =>
  have e:C = D:=Value.ref.inj (beq_iff_eq.mp q)
  subst e
  rw [h3] at h4
  cases h4
 ·exact kitc_of h1 h2 h3
end Ow
namespace Ow
open PySem PySem.Spec PyProof.Rows L2
section
variable {P:Program} {w:World} {K:PySem.W.Frag} {mg:Str→Option Value} {base:Heap} {N:List Str} {qual:Str} {scope:Scope} {f:Addr} {cdv:Value} {A:Around} {outer:List Env} {s₀:Shared} {H₀:Hp} {E:XK}
end
def pinned (X:Cx) (pins:List (Addr × Obj)):Cx:={ X with pn:=X.pn ++ pins }
section
variable {X:Cx} {pins pins':List (Addr × Obj)} {σ:L2.St} {H:Hp} {s:Shared} {E:L2.St→XK}
theorem to_pinned (I:Inv X pins σ H s):Inv (pinned X pins) [] σ H s :=
 ⟨⟨I.ok.mod,I.ok.kind,I.ok.glob,I.ok.blt,I.ok.above,I.ok.inj,I.ok.has,I.ok.cab,I.ok.hd,I.ok.frames,I.ok.stk,I.ok.exf,I.ok.bs,I.ok.bsz,I.ok.noex,I.ok.exfs,I.ok.funs,I.ok.frf⟩,
  I.os,I.bare,I.base,I.loc,I.cell,I.free,I.freeC,fun p hp=>I.pin p (by
   rw [List.append_nil] at hp
   exact hp),I.hok,I.len⟩
theorem of_pinned (okX:X.Ok) (I:Inv (pinned X pins) pins' σ H s):Inv X pins σ H s :=
 ⟨okX,I.os,I.bare,I.base,I.loc,I.cell,I.free,I.freeC,fun p hp=>I.pin p (List.mem_append_left _ hp),I.hok,I.len⟩
end
end Ow
namespace Ow
open PySem PySem.Spec PyProof.Rows L2
section
variable {X:Cx} {pins:List (Addr × Obj)} {σ:L2.St} {H:Hp} {s:Shared} {a:Addr} {oe:Obj} {j:Nat} {n:Str}
theorem suite_endK {h':Heap} {m:Str→Option Value} {v':Option Value} {t':Nat} (I:Inv (caught X a oe) pins σ H s) (okX:X.Ok) (hN:X.N.Nodup) (hj:X.N[j]? = some n)
  (hl:∀ (i:Nat) (x:Str) (v:V),X.N[i]? = some x→σ[i]? = some (some v)→Vis X.env.scope x→∃ u,RelV v u∧Look X.env s.heap m x u)
  (hn:h'.Ns X.env.locals (fun x=>if x = n then v' else m x)) (hs:Heap.SameBut X.env.locals s.heap h') :
  Inv X pins (σ.set j none) H { s with heap:=h',toks:=t' }:=by
 have neL:∀ b o,X.s₀.heap.get? b = some o→b ≠ X.env.locals:=fun b o e=>Nat.ne_of_lt (Nat.lt_of_lt_of_le (Heap.lt_size e) okX.above)
 refine ⟨okX,I.os,I.bare,⟨fun b o e n hb hx=>?_,fun b o e n hb hx=>?_,I.base.free,fun b o e hx=>?_,I.base.tups,I.base.frzs,I.base.tbls⟩,⟨_,hn,fun i x v e1 e2 e3=>?_⟩,fun x c e=>?_,I.free,I.freeC,fun p hp=>?_,fun b ob e=>?_,by rw [List.length_set]; exact I.len⟩
 ·exact (hs.2 b (neL b o e)).trans (I.base.keep b o e n hb hx)
 ·obtain ⟨sl,e1⟩:=I.base.slot b o e n hb hx
  exact ⟨sl,(hs.2 b (neL b o e)).trans e1⟩
 ·obtain ⟨o',e1⟩:=I.base.there b o e hx
  exact ⟨o',(hs.2 b (neL b o e)).trans e1⟩
 ·by_cases hij:i = j
  ·subst hij
   have hi:i < σ.length:=by have z:σ.length = X.N.length:=I.len; rw [z]; exact (List.getElem?_eq_some_iff.mp hj).1
   rw [List.getElem?_set_self hi] at e2
   cases e2
  ·rw [List.getElem?_set_ne (Ne.symm hij)] at e2
   obtain ⟨u',r',q⟩:=hl i x v e1 e2 e3
   refine ⟨u',r',?_⟩
   rcases q with ⟨k,e⟩ | ⟨k,c,e,z⟩
   ·refine .inl ⟨k,?_⟩
    have:x ≠ n:=fun e=>hij (nodup_ix hN e1 (e ▸ hj))
    simp [this,e]
   ·exact .inr ⟨k,c,e,z.sameBut hs (I.cne x c e)⟩
 ·obtain ⟨v,z⟩:=I.cell x c e
  exact ⟨v,z.sameBut hs (I.cne x c e)⟩
 ·obtain ⟨e,n,ne,nf,d⟩:=I.pin p (List.mem_cons_of_mem _ hp)
  exact ⟨(hs.2 p.1 ne).trans e,n,ne,nf,d⟩
 ·refine (I.hok b ob e).stay (fun c w' hc z=>(hs.2 c ?_).trans z) (fun _ z=>z) fun _ _ z=>z
  have fr:H X.env.locals = none:=I.free
  rintro rfl
  rcases hc with rfl | hc
  ·rw [fr] at e; cases e
  ·rw [fr] at hc; cases hc
end
def endsK (j:Nat) (D:Ends):Ends:={ nx:=fun σ H=>D.nx (σ.set j none) H,rt:=D.rt }
section
variable {X:Cx} {j:Nat} {n c:Str} {C₁:Addr} {b₀:Stmt} {suite:List Stmt} {tb:Addr→Obj→TS} {np hpos:Pos}
end
end Ow
namespace Ow
open PySem PySem.Spec PyProof.Rows L2
def Ctx0 (o:Obj):Prop:=∃ vs,o.data = .fields vs∧vs[2]? = some .none
def OwnD (c:Bool) (h:Heap) (e:Addr) (d:Option Addr):Prop:=∃ o,h.get? e = some o∧o.dict = d∧(c = true→Ctx0 o)
theorem mapF_dict (f:Array Value→Array Value) (o:Obj):(Obj.mapFields f o).dict = o.dict:=by
 obtain ⟨c,d,dt,sl⟩:=o
 cases dt <;> rfl
section
variable {M:Model} {A:Around} {E:Value→Shared→Prop} {s:Shared} {bs:Heap} {en:Env} {out:List Env} {L e:Addr} {c:Bool}
theorem entry_own {oe:Obj} {vs:Array Value} {hd0 a0:Value} {nx:Bool} {Q:Unit→Shared→Prop} (fr:A.frames = some (en :: out)) (ff:s.heap.FunFrames bs (en :: out)) (fl:en.frame = some L)
  (ge:s.heap.get? e = some oe) (st:bs.StaysIn s.heap) (ne:bs.get? e = none) (dt:oe.data = .fields vs) (z1:1 < vs.size) (z0:vs[0]? = some a0) (z2:c = true→vs[2]? = some .none)
  (k:∀ h',Heap.NotedW bs (en :: out) e oe.cls a0 (rawInt L) s.heap h'→OwnD c h' e oe.dict→Q () { s with heap:=h' }) :
  wpAny M A (do let a ← frameOf en; let pl ← entryPlaceOf L nx; let b ← EntryCells.newEntry hd0 a .none (rawInt L) .none pl; setField (.ref e) 1 b) Q E s:=by
 have nf:e ∉ (en :: out).filterMap (·.frame):=fun hm=>by
  obtain ⟨_,o,g1,g2⟩:=ff.mem hm
  rw [ge] at g1
  cases g1
  exact g2 _ dt
 refine wpAny_bind (wpAny_frameOf_fun fr ff fl fun h1 so=>wpAny_bind (wpAny_entryPlaceOf fun pl hpl=>?_))
 unfold EntryCells.newEntry newFields
 refine wpAny_bind (wpAny_newObj_type ?_ (hpl.sizeOk5 _ _ _ _ _))
 generalize hT:(([hd0,Value.ref L,Value.none,rawInt L,Value.none] ++ (if pl.isEmpty then List.replicate 6 Value.none else pl)).toArray:Array Value) = ts
 have t3:ts[3]? = some (rawInt L):=by
  rw [← hT]
  rfl
 have g1:h1.get? e = some oe:=(so.2.1 e nf).trans ge
 have g2:(h1.push { cls:=.type "traceback",dict:=none,data:=.fields ts }).get? e = some oe:=Heap.get?_push_of_some _ g1
 have neT:h1.objs.size ≠ e:=Nat.ne_of_gt (Heap.lt_size g1)
 have st1:bs.StaysIn h1:=fun b o hb=>(so.2.1 b fun hm=>by rw [(ff.mem hm).1] at hb; cases hb).trans (st b o hb)
 refine wpAny_setField g2 dt z1 (k _ ?_ ?_)
 ·have g3:=Heap.get?_update_self (Obj.mapFields (·.setIfInBounds 1 (Value.ref h1.objs.size))) g2 (Obj.isFreed_of_fields (Obj.data_mapFields dt _))
  have kp:∀ b o,b ≠ e→h1.get? b = some o→((h1.push { cls:=.type "traceback",dict:=none,data:=.fields ts }).update e (Obj.mapFields (·.setIfInBounds 1 (Value.ref h1.objs.size)))).get? b = some o:=fun b o hb q=>by
   rw [Heap.get?_update_other _ _ (Ne.symm hb)]
   exact Heap.get?_push_of_some _ q
  have nr:∀ b o,s.heap.get? b = some o→(∀ us,o.data ≠ .fields us)→b ≠ e:=fun b o q hn z=>by
   subst z
   rw [ge] at q
   cases q
   exact hn _ dt
  refine ⟨fun b o hb=>kp b o (fun z=>by rw [z,ne] at hb; cases hb) (st1 b o hb),ff.of_keeps fun b o q hn=>?_,⟨_,_,h1.objs.size,⟨.type "traceback",none,.fields ts,#[]⟩,ts,g3,⟨Obj.cls_mapFields _ _,?_⟩,Obj.data_mapFields dt _,?_,st1.fresh,neT,?_,rfl,t3⟩,fun b o q hn=>?_⟩
  ·obtain ⟨sl,e1⟩:=so.2.2 b o q
   exact ⟨_,kp b _ (nr b o q hn) e1,rfl⟩
  ·rw [Array.getElem?_setIfInBounds_ne (by decide)]
   exact z0
  ·rw [Array.getElem?_setIfInBounds_self_of_lt z1]
  ·exact (Heap.get?_update_other _ _ (Ne.symm neT)).trans (Heap.get?_push_size h1 rfl)
  ·obtain ⟨sl,e1⟩:=so.2.2 b o q
   exact ⟨sl,kp b _ (nr b o q hn) e1⟩
 ·exact ⟨_,Heap.get?_update_self _ g2 (Obj.isFreed_of_fields (Obj.data_mapFields dt _)),mapF_dict _ _,fun hc=>⟨_,Obj.data_mapFields dt _,by rw [Array.getElem?_setIfInBounds_ne (by decide)]; exact z2 hc⟩⟩
theorem note_own {cls a0:Value} {d:Option Addr} {Q:Unit→Shared→Prop} (fr:A.frames = some (en :: out)) (fl:en.frame = some L) (F:Heap.FlyingW bs (en :: out) e cls a0 s.heap) (D:OwnD c s.heap e d)
  (k:∀ h',Heap.HeldW bs (en :: out) e cls a0 L h'→OwnD c h' e d→s.heap.UpToSlots h'→Q () { s with heap:=h' }):wpAny M A (noteFrame (.ref e) en) Q E s:=by
 obtain ⟨st,ne,ff,oe,vs,T,oT,ts,ge,⟨rfl,z0⟩,dt,z1,nT,neT,gT,dT,t3⟩:=F
 obtain ⟨o1,g1,rfl,hc⟩:=D
 cases ge.symm.trans g1
 unfold noteFrame
 simp only [fl]
 refine wpAny_bind (wpAny_field ge dt z1 ?_)
 rw [if_pos (show (Value.ref T != Value.none) = true from rfl)]
 refine wpAny_bind (wpAny_field gT dT t3 ?_)
 rw [if_neg (show ¬ ((Value.none == rawInt L) = true) from fun z=>by cases z)]
 refine wpAny_bind (wpAny_setField gT dT (Array.getElem?_eq_some_iff.mp t3).1 ?_)
 have ot:∀ b,b ≠ T→(s.heap.update T (Obj.mapFields (·.setIfInBounds 3 Value.none))).get? b = s.heap.get? b:=fun b hb=>Heap.get?_update_other _ _ (Ne.symm hb)
 have nr:∀ b o,s.heap.get? b = some o→(∀ us,o.data ≠ .fields us)→b ≠ T:=fun b o q hn z=>by
  subst z
  rw [gT] at q
  cases q
  exact hn _ dT
 refine entry_own (s:={ s with heap:=s.heap.update T (Obj.mapFields (·.setIfInBounds 3 Value.none)) }) fr (ff.of_keeps fun b o q hn=>⟨o,(ot b (nr b o q hn)).trans q,rfl⟩) fl ((ot e (Ne.symm neT)).trans ge) (fun b o q=>(ot b fun z=>by subst z; rw [nT] at q; cases q).trans (st b o q)) ne dt
  (Array.getElem?_eq_some_iff.mp z1).1 z0 (fun h=>by obtain ⟨vs',q1,q2⟩:=hc h; rw [dt] at q1; cases q1; exact q2) fun h' ⟨x1,x2,x3,x4⟩ D'=>k h' ⟨x1,ne,x2,x3⟩ D' fun b o q hn=>x4 b o ((ot b (nr b o q hn)).trans q) hn
theorem flight_own {l:List Env} {cls a0 fv:Value} {d:Option Addr} {Q:Unit→Shared→Prop} (st:bs.StaysIn s.heap) (ne:bs.get? e = none) (ff:s.heap.FunFrames bs l) (tr:s.heap.TracedAtW bs e cls a0 fv) (D:OwnD c s.heap e d)
  (k:∀ h',Heap.FlyingW bs l e cls a0 h'→OwnD c h' e d→s.heap.UpToSlots h'→Q () { s with heap:=h' }):wpAny M A (setFlight (.ref e) none) Q E s:=by
 obtain ⟨oe,vs,T,oT,ts,ge,hc,dt,z1,nT,neT,gT,dT,t3⟩:=tr
 have ot:∀ b,b ≠ T→(s.heap.update T (Obj.mapFields (·.setIfInBounds 3 ((none:Option Addr).elim Value.none fun f=>rawInt f)))).get? b = s.heap.get? b:=fun b hb=>Heap.get?_update_other _ _ (Ne.symm hb)
 have nr:∀ b o,s.heap.get? b = some o→(∀ us,o.data ≠ .fields us)→b ≠ T:=fun b o q hn z=>by
  subst z
  rw [gT] at q
  cases q
  exact hn _ dT
 have z3:=(Array.getElem?_eq_some_iff.mp t3).1
 unfold setFlight
 refine wpAny_bind (wpAny_field ge dt z1 ?_)
 rw [if_pos (show (Value.ref T != Value.none) = true from rfl)]
 refine wpAny_setField gT dT z3 (k _ ⟨fun b o q=>(ot b fun z=>by subst z; rw [nT] at q; cases q).trans (st b o q),ne,ff.of_keeps fun b o q hn=>⟨o,(ot b (nr b o q hn)).trans q,rfl⟩,
  oe,vs,T,_,_,(ot e (Ne.symm neT)).trans ge,hc,dt,z1,nT,neT,Heap.get?_update_self _ gT (Obj.isFreed_of_fields (Obj.data_mapFields dT _)),Obj.data_mapFields dT _,Array.getElem?_setIfInBounds_self_of_lt z3⟩ ?_ fun b o q hn=>⟨o.slots,(ot b (nr b o q hn)).trans q⟩)
 obtain ⟨o1,g1,hd⟩:=D
 exact ⟨o1,(ot e (Ne.symm neT)).trans g1,hd⟩
theorem leave_own {cls a0:Value} {d:Option Addr} {Q:Unit→Shared→Prop} (fr:A.frames = some (en :: out)) (fl:en.frame = some L) (F:Heap.FlyingW bs (en :: out) e cls a0 s.heap) (D:OwnD c s.heap e d)
  (k:∀ h',Heap.FlyingW bs out e cls a0 h'→OwnD c h' e d→s.heap.UpToSlots h'→Q () { s with heap:=h' }):wpAny M A (leaving en (.ref e)) Q E s:=by
 unfold leaving
 refine wpAny_bind (note_own fr fl F D fun h1 ⟨x1,x2,x3,x4⟩ D1 u1=>flight_own (s:={ s with heap:=h1 }) x1 x2 x3 x4 D1 fun h2 ⟨y1,y2,y3,y4⟩ D2 u2=>?_)
 obtain ⟨_,_,y3'⟩:=y3
 exact k h2 ⟨y1,y2,y3',y4⟩ D2 (u1.trans u2)
theorem leave_first {oe:Obj} {vs:Array Value} {a0:Value} {Q:Unit→Shared→Prop} (fr:A.frames = some (en :: out)) (ff:s.heap.FunFrames bs (en :: out)) (fl:en.frame = some L)
  (ge:s.heap.get? e = some oe) (st:bs.StaysIn s.heap) (ne:bs.get? e = none) (dt:oe.data = .fields vs) (z1:vs[1]? = some .none) (z0:vs[0]? = some a0) (z2:c = true→vs[2]? = some .none)
  (k:∀ h',Heap.FlyingW bs out e oe.cls a0 h'→OwnD c h' e oe.dict→s.heap.UpToSlots h'→Q () { s with heap:=h' }):wpAny M A (leaving en (.ref e)) Q E s:=by
 unfold leaving noteFrame
 simp only [fl]
 refine wpAny_bind (wpAny_bind (wpAny_field ge dt z1 ?_))
 rw [if_neg (by decide)]
 refine entry_own fr ff fl ge st ne dt (Array.getElem?_eq_some_iff.mp z1).1 z0 z2 fun h1 ⟨x1,x2,x3,x4⟩ D1=>flight_own (s:={ s with heap:=h1 }) x1 ne x2 x3 D1 fun h2 ⟨y1,y2,y3,y4⟩ D2 u2=>?_
 obtain ⟨_,_,y3'⟩:=y3
 exact k h2 ⟨y1,y2,y3',y4⟩ D2 (Heap.UpToSlots.trans x4 u2)
end
end Ow
namespace Ow
open PySem PySem.Spec PyProof.Rows L2
theorem refuse_tail {h:Heap} {l:List Value} (self:Value) (T:OwnTail h VE l):refuseLoop self "__setattr__" l = pure ():=by
 induction T with
 | base=>exact PySem.F.store_ValueError.passes self
 | own _ _ _ _ ih=>rw [refuseLoop_ref]; exact ih
section
variable {prog:Program} {w:World} {A:Around} {E:Value→Shared→Prop} {s:Shared} {K:PySem.W.Frag} {x C N:Addr} {fs:Array Value} {sl:Array (Option Value)} {name:Str} {v:Value}
variable {nm qn:Str} {bs bm:List Value} {sn:List Str} {sub:List Value} {ab:Bool} {col:Option Bool} {dd:Option Addr} {k0 k1 k2 k3 k5:Option Value} {nid:String}
theorem set_exc {Q:Unit→Shared→Prop} (X:K.In s.heap) (hx:s.heap.get? x = some ⟨.ref C,none,.fields fs,sl⟩) (hC:s.heap.get? C = some (excClassObj nm qn C N bs bm true sn sub ab col dd k0 k1 k2 k3 k5 nid)) (T:OwnTail s.heap VE bm)
  (sa:PySem.W.findIn K (.ref C) "__setattr__" = some (some (.builtin "object.__setattr__"))) (na:PySem.W.findIn K (.ref C) name = some none) (mo:PySem.W.mroIn K C (.type "object") = some true)
  (k:∀ h' t',h'.get? x = some ⟨.ref C,some s.heap.objs.size,.fields fs,sl⟩→h'.Ns1 s.heap.objs.size (fun y=>if y = name then some v else none)→(∀ b o,b ≠ x→s.heap.get? b = some o→h'.get? b = some o)→Q () { s with heap:=h',toks:=t' }) :
  wpAny (model prog w) A (setAttr (.ref x) name v) Q E s:=by
 have I:PySem.W.InstAt s.heap x ⟨.ref C,none,.fields fs,sl⟩ C none:=⟨hx,rfl,rfl,True.intro⟩
 have SF:=PySem.F.store_object
 have su:PySem.W.Looks (model prog w) s.heap (isInstance (.ref x) (.type "object")) true:=I.type.andThen (PySem.W.looks_mroIn X mo)
 refine PySem.W.set_plain X I sa (codeAny_call_builtin SF.slot.plain SF.entry (@PySem.W.check_slot (model prog w) _ _ { s with toks:=s.toks + 1 } "object.__setattr__" "object" "__setattr__" (.ref x) [.str name s.toks,v] [] _ SF.kind SF.split su (SF.args (.ref x) (.str name s.toks) v) ?_))
 rw [PySem.W.osa_eq,refuse_eq]
 refine wpAny_bind (wpAny_bind (PySem.W.Looks.here (s:={ s with toks:=s.toks + 1 }) I.type (wpAny_bind (wpAny_mroOf_exc hC ?_))))
 rw [refuseLoop_ref,refuse_tail _ T]
 refine wpAny_pure (wpAny_bind (PySem.W.Looks.here (s:={ s with toks:=s.toks + 1 }) I.type (wpAny_bind (PySem.W.Looks.here (s:={ s with toks:=s.toks + 1 }) (PySem.W.looks_findIn X na) (wpAny_bind (wpAny_pure ?_))))))
 show wpAny _ _ (Builtin.ObjectAttr.storeInOwnDict (.ref x) (.ref C) (.str name s.toks) name v false) _ _ _
 have L1:PySem.W.Looks (model prog w) s.heap (classData C) _:=(PySem.W.Looks.ld (part:=none) hC).andThen .now
 have xs:x ≠ s.heap.objs.size:=Nat.ne_of_lt (Heap.lt_size hx)
 have hx1:(s.heap.push { cls:=.type "dict",data:=.dict #[] }).get? x = some ⟨.ref C,none,.fields fs,sl⟩:=Heap.get?_push_of_some _ hx
 have up:∀ f:Obj→Obj,f ⟨.ref C,none,.fields fs,sl⟩ = ⟨.ref C,some s.heap.objs.size,.fields fs,sl⟩→((s.heap.push { cls:=.type "dict",data:=.dict #[] }).update x f).get? x = some ⟨.ref C,some s.heap.objs.size,.fields fs,sl⟩:=fun f ef=>by
  rw [Heap.get?_update_self f hx1 (by rw [ef]; rfl),ef]
 refine wpAny_bind (wpAny_pure (wpAny_bind (wpAny_bind (wpAny_loadPart hx (wpAny_bind (PySem.W.Looks.here (s:={ s with toks:=s.toks + 1 }) L1 ?_))))))
 refine wpAny_bind (wpAny_alloc' (wpAny_bind (wpAny_update' hx1 (wpAny_pure ?_))))
 have gd:((s.heap.push { cls:=.type "dict",data:=.dict #[] }).update x fun o=>{ o with dict:=some s.heap.objs.size }).get? s.heap.objs.size = some { cls:=.type "dict",data:=.dict #[] } :=
  (Heap.get?_update_other _ _ xs).trans (Heap.get?_push_size _ rfl)
 have nd:((s.heap.push { cls:=.type "dict",data:=.dict #[] }).update x fun o=>{ o with dict:=some s.heap.objs.size }).Ns s.heap.objs.size (fun _=>none):=⟨_,#[],_,gd,rfl,fun e he=>absurd he (by simp),fun _=>rfl⟩
 refine wpAny_bind (wpAny_pure (wpAny_bind (wpAny_nsSet1 (Heap.Ns1.of_empty nd) fun h' n2 sb=>?_)))
 obtain ⟨oD,eD,pD,gD,dD,cD⟩:=n2.count (PySem.Within.cons name v PySem.Within.nil)
 refine wpAny_bind (wpAny_lookBehind gD (by rw [dD]; exact pastItsLine_dict (Nat.le_trans cD (by rw [List.length_cons,List.length_nil,sizeLine_eq]; omega))) ?_)
 refine wpAny_pure (k h' _ ?_ ?_ fun b o hb q=>?_)
 ·exact (sb.2 x xs).trans (up _ rfl)
 ·exact n2
 ·exact (sb.2 b (Nat.ne_of_lt (Heap.lt_size q))).trans ((Heap.get?_update_other _ _ (Ne.symm hb)).trans (Heap.get?_push_of_some _ q))
end
end Ow
namespace Ow
open PySem PySem.Spec PyProof.Rows L2
abbrev exF (t:Addr):Array Value:=#[.ref t,.none,.none,.none,.bool false,.none]
abbrev exT (v:Value):Obj:={ cls:=.type "tuple",data:=.seq [v].toArray }
section
variable {prog:Program} {w:World} {A:Around} {E:Value→Shared→Prop} {h:Heap} {g:Array GenState} {d:Drawn} {t:Nat} {os:OsState} {C N fI:Addr} {v:Value} {oI:Obj} {mN:Str→Option Value}
variable {nm qn:Str} {bs bm:List Value} {hdc:Bool} {sn:List Str} {sub:List Value} {ab:Bool} {col:Option Bool} {dd:Option Addr} {k0 k1 k2 k3 k5:Option Value}
theorem made_exc {Q:Fin→Shared→Prop} (T:OwnTail h VE bm) (hC:h.get? C = some (excClassObj nm qn C N bs bm hdc sn sub ab col dd k0 k1 k2 k3 k5 "ValueError.__new__")) (hn:h.Ns N mN) (hi:mN "__init__" = some (.ref fI))
  (gf:h.get? fI = some oI) (cf:oI.cls = .type "function")
  (k:wpAny (model prog w) A (call (.ref fI) [.ref (h.objs.size + 1),v]) (fun r s'=>r = .none∧Q (.done (.ret (.ref (h.objs.size + 1)))) s') E ⟨(h.push (exT v)).push { cls:=.ref C,data:=.fields (exF h.objs.size) },g,d,t,os⟩) :
  wpAny (model prog w) A (Builtin.«type.__call__» ⟨[.ref C,v],[]⟩) Q E ⟨h,g,d,t,os⟩:=by
 have F:=PySem.F.excBase_ValueError
 have st:∀ b o,h.get? b = some o→((h.push (exT v)).push { cls:=.ref C,data:=.fields (exF h.objs.size) }).get? b = some o:=fun b o e=>Heap.get?_push_of_some _ (Heap.get?_push_of_some _ e)
 have ge:((h.push (exT v)).push { cls:=.ref C,data:=.fields (exF h.objs.size) }).get? (h.objs.size + 1) = some { cls:=.ref C,data:=.fields (exF h.objs.size) }:=by
  have z:=Heap.get?_push_size (h.push (exT v)) (o:={ cls:=.ref C,data:=.fields (exF h.objs.size) }) rfl
  rwa [Heap.size_push] at z
 have cc:(Value.ref C :: bm).contains (.ref C) = true:=by rw [List.contains_cons,beq_self_eq_true,Bool.true_or]
 repeat (first | with_reducible refine wpAny_loadPart_at hC ?_ | with_reducible refine wpAny_madeBy_exc hC ?_ | wp_step)
 refine codeAny_call_builtin_code (Code.quiet_builtin _ F.quiet) (wpAny_check_new_subT F T hC (codeAny_exc_new_subT F T hC (rest:=[v]) ?_))
 show wpAny _ _ _ _ _ _
 unfold isInstance
 repeat (first | with_reducible refine wpAny_loadPart_at ge ?_ | (with_reducible refine wpAny_isSubtype_exc (st _ _ hC) ?_; rw [cc]) | wp_step)
 show wpAny _ _ (typeLookup (.ref C) _) _ _ _
 refine wpAny_typeLookup_tail (st _ _ hC) (hn.keeps st) (T.keeps st) F.mroIs F.init.lookup ?_
 rw [hi]
 refine wpAny_holding (wpAny_bind ?_)
 unfold bindSpecial
 refine wpAny_bind (wpAny_typeOf (T:="function") ⟨_,st _ _ gf,cf⟩ ?_)
 rw [if_pos (by decide)]
 refine wpAny_pure (wpAny_bind (wpAny_mono k (fun r s' q=>?_) fun _ _ z=>z))
 obtain ⟨rfl,q⟩:=q
 wp_walk
 exact q
theorem call_exc {Q:Value→Shared→Prop} (T:OwnTail h VE bm) (hC:h.get? C = some (excClassObj nm qn C N bs bm hdc sn sub ab col dd k0 k1 k2 k3 k5 "ValueError.__new__")) (hn:h.Ns N mN) (hi:mN "__init__" = some (.ref fI))
  (gf:h.get? fI = some oI) (cf:oI.cls = .type "function")
  (k:wpAny (model prog w) (A.under (.builtin "type.__call__" ⟨[.ref C,v],[]⟩)) (call (.ref fI) [.ref (h.objs.size + 1),v]) (fun r s'=>r = .none∧Q (.ref (h.objs.size + 1)) s') E ⟨(h.push (exT v)).push { cls:=.ref C,data:=.fields (exF h.objs.size) },g,d,t,os⟩) :
  wpAny (model prog w) A (call (.ref C) [v]) Q E ⟨h,g,d,t,os⟩:=by
 have f1:=tc_lookup
 have f2:=tc_bind (.ref C)
 have tT:(⟨h,g,d,t,os⟩:Shared).TypeIs (.ref C) "type":=⟨_,hC,rfl⟩
 refine wpAny_call (codeAny_of_tree ?_)
 show wpAny _ _ (callAny (.ref C) _) _ _ _
 repeat (any_goals (first | assumption | with_reducible refine wpAny_loadPart_at hC ?_ | wp_step))
 exact ⟨rfl,codeAny_call_builtin_at (Code.quiet_builtin _ (by decide +kernel)) entry_typeCall (wpAny_check_type_call_sub hC (made_exc T hC hn hi gf cf k))⟩
end
theorem raise_inst {M:Model} {A:Around} {E:Value→Shared→Prop} {s:Shared} {env:Env} {C N:Addr} {nm qn:Str} {bs bm:List Value} {hdc:Bool} {sn:List Str} {sub:List Value} {ab:Bool} {col:Option Bool} {dd:Option Addr} {k0 k1 k2 k3 k5:Option Value} {nid:String}
  {x:Sem Value} {Q:Flow→Shared→Prop} (hb:bm.contains (.type "BaseException") = true) (hh:A.handled = none)
  (k:wpAny M A x (fun v s1=>∃ (e t:Addr) (od:Option Addr),v = .ref e∧s1.heap.get? C = some (excClassObj nm qn C N bs bm hdc sn sub ab col dd k0 k1 k2 k3 k5 nid)∧s1.heap.get? e = some ⟨.ref C,od,.fields (exF t),#[]⟩∧E (.ref e) s1) E s) :
  wpAny M A (raiseStmt env (some x) none) Q E s:=by
 have cb:(Value.ref C :: bm).contains (.type "BaseException") = true:=by rw [List.contains_cons,hb,Bool.or_true]
 unfold raiseStmt
 refine wpAny_bind (wpAny_mono k (fun v s1 q=>?_) fun _ _ z=>z)
 obtain ⟨e,t,od,rfl,gC,ge,q⟩:=q
 obtain ⟨hp,g,d,tk,os⟩:=s1
 repeat (first | with_reducible refine wpAny_loadPart_at ge ?_ | with_reducible refine wpAny_loadPart_at gC ?_ | (with_reducible refine wpAny_isSubtype_exc gC ?_; rw [cb]) | wp_step)
 exact wpAny_raiseNew_none hh q
end Ow
namespace Ow
open PySem PySem.Spec PyProof.Rows L2
def excFn (K:PySem.W.Frag) (C f:Addr):Bool :=
 match K.lookup C with
 | some ⟨.type "type",_,.cls c,q⟩ =>
  (match c.mro,q.toList with
  | .ref D :: tl,[_,_,_,_,some (.builtin n),_]=>D == C && (n == "ValueError.__new__" && (!c.hasDel && (c.hasDict && (PySem.W.tailIn K VE tl && (PySem.W.nsOkIn K c.ns && PySem.W.nsIn K c.ns "__init__" == some (some (.ref f)))))))
  | _,_=>false)
 | _=>false
theorem ns_some {K:PySem.W.Frag} {h:Heap} {N:Addr} {m:Str→Option Value} {n:Str} {v:Value} (X:K.In h) (G:h.Ns N m) (e:PySem.W.nsIn K N n = some (some v)):m n = some v:=by
 obtain ⟨o,es,ep,go,hd,_,hf⟩:=G
 unfold PySem.W.nsIn at e
 split at e
 ·next q =>
  have z:=X _ _ q
  rw [go] at z
  cases z
  cases hd
  split at e
  ·next he =>
   cases e
   rw [← hf]
   unfold nsFind findBy
   rw [← Array.find?_toList,he]
   rfl
  ·split at e <;> cases e
 ·cases e
theorem exc_fn {K:PySem.W.Frag} {h:Heap} {C f:Addr} (X:K.In h) (q:excFn K C f = true) :
  ∃ bm N nm qn bs sn sub ab col dd k0 k1 k2 k3 k5 mN,h.get? C = some (excClassObj nm qn C N bs bm true sn sub ab col dd k0 k1 k2 k3 k5 "ValueError.__new__")∧h.Ns N mN∧mN "__init__" = some (.ref f)∧OwnTail h VE bm:=by
 unfold excFn at q
 split at q
 ·next d0 c0 s0 e0 =>
  split at q
  ·next D m1 y0 y1 y2 y3 n1 y5 em es =>
   simp only [beq_iff_eq,Bool.not_eq_true',Bool.and_eq_true] at q
   obtain ⟨eC,en,ed,eh,et,eo,ei⟩:=q
   subst eC en
   obtain ⟨a1,a2,a3,a4,a5,a6,a7,a8,a9,a10,a11⟩:=c0
   dsimp only at em ed eo ei eh
   subst em ed eh
   obtain ⟨l0⟩:=s0
   have es':l0 = [y0,y1,y2,y3,some (Value.builtin "ValueError.__new__"),y5]:=es
   subst es'
   have G:h.Ns a4 _:=.of_isNs (PySem.W.isNs_of_in X eo)
   exact ⟨m1,a4,a1,a5,a2,a7,a8,a9,a10,d0,y0,y1,y2,y3,y5,_,X _ _ e0,G,ns_some X G ei,PySem.W.tail_of_in X et⟩
  ·cases q
 ·cases q
def xO (e C t:Addr) (od:Option Addr):HO:=.ext fun h=>h.get? e = some ⟨.ref C,od,.fields (exF t),#[]⟩
def drop (H:Hp) (e:Addr):Hp:=fun b=>if b = e then none else H b
theorem drop_ne {H:Hp} {e b:Addr} (h:b ≠ e):drop H e b = H b:=if_neg h
theorem drop_same {H:Hp} {e:Addr}:drop H e e = none:=if_pos rfl
theorem xO_ok {P:Program} {w:World} {H:Hp} {h:Heap} {e C t:Addr} {od:Option Addr} (g:h.get? e = some ⟨.ref C,od,.fields (exF t),#[]⟩):ObjOk P w H h e (xO e C t od):=⟨g,⟨_,g⟩,fun _ _ a b=>b _ a⟩
def CX2c (c:Bool) (P:Program) (w:World) (base:Heap):CXT:=fun outer H s E e s' =>
 ∃ (a:Addr) (cls a0:Value) (B:Heap) (H':Hp) (dd:Option Addr),e = .ref a∧s'.os = s.os∧AllBare s'.gens∧Gnd P w base (frs outer) H H' s.heap B∧Slots (frs outer) s.heap s'.heap∧Heap.FlyingW B outer a cls a0 s'.heap∧H' a = none∧OwnD c s'.heap a dd∧E cls dd H'
abbrev CX2 (P:Program) (w:World) (base:Heap):CXT:=CX2c true P w base
section
variable {P:Program} {w:World} {K:PySem.W.Frag} {mg:Str→Option Value} {base:Heap} {N:List Str} {qual:Str} {scope:Scope} {f:Addr} {cdv:Value} {A:Around} {outer:List Env} {s₀:Shared} {H₀:Hp} {E:XK}
theorem leaves_own {pins:List (Addr × Obj)} {σ:L2.St} {H:Hp} {s:Shared} {e C t:Addr} {od:Option Addr} (I:Inv (cxOf (CX2 P w base) P w K mg base N qual scope f cdv A outer s₀ H₀ E) pins σ H s)
  (he:H e = some (xO e C t od)) (hn:s₀.heap.get? e = none) (q:E (.ref C) od (drop H e)):(cxOf (CX2 P w base) P w K mg base N qual scope f cdv A outer s₀ H₀ E).xe (.ref e) s:=by
 have ge:s.heap.get? e = some ⟨.ref C,od,.fields (exF t),#[]⟩:=(I.hok e _ he).1
 have hst:=I.stack
 have nof:∀ b o,s₀.heap.get? b = some o→b ∉ frs outer→b ∉ e :: frs (envOfC qual scope s₀.heap.objs.size f cdv :: outer):=fun b o e1 nb hm=>by
  rcases List.mem_cons.mp hm with z | hm
  ·rw [z,hn] at e1
   cases e1
  rcases List.mem_cons.mp (I.stkSub b hm) with z | z
  ·exact Nat.lt_irrefl _ (Nat.lt_of_lt_of_le (z ▸ Heap.lt_size e1) I.ok.above)
  ·exact nb z
 have nx:∀ b:Addr,b ∉ ([]:List Addr):=fun b z=>nomatch z
 have ne:∀ b u,H b = some u→(∀ φ,u ≠ .ext φ)→b ≠ e:=fun b u e1 hk z=>by
  rw [z,he] at e1
  cases e1
  exact hk _ rfl
 have dr:∀ b u,H b = some u→(∀ φ,u ≠ .ext φ)→drop H e b = some u:=fun b u e1 hk=>by rw [drop_ne (ne b u e1 hk)]; exact e1
 refine leave_first (c:=true) (bs:=PySem.W.hideAll s.heap (e :: frs (envOfC qual scope s₀.heap.objs.size f cdv :: outer))) (a0:=.ref t) I.ok.frames
  (PySem.W.funFrames_hide hst fun e1 he1 b hb=>List.mem_cons_of_mem _ (List.mem_filterMap.mpr ⟨e1,he1,hb⟩)) rfl ge (fun b o e1=>PySem.W.of_hideAll _ e1) (PySem.W.hideAll_none _ (List.mem_cons_self ..)) rfl rfl rfl (fun _=>rfl) fun h2 fl D up=>?_
 refine ⟨e,_,.ref t,_,drop H e,od,rfl,I.os,I.bare,⟨fun b o e1=>PySem.W.hideAll_get _ (I.bk b o e1) fun hm=>?_,fun b o e1 n nb=>PySem.W.hideAll_get _ (I.base.keep b o e1 n nb (nx b)) (nof b o e1 nb),fun b o e1 n=>?_,
  fun b o e1 nb=>?_,fun b xs z=>dr b _ (I.base.tups b xs z) (fun _ z=>nomatch z),fun b o u z=>dr b _ (I.base.frzs b o u z) (fun _ z=>nomatch z),fun b ps z=>?_,fun b u e1=>?_⟩,fun b hb o e1=>?_,fl,drop_same,D,q⟩
 ·rcases List.mem_cons.mp hm with z | hm
  ·have z2:=(I.bs b o e1).2
   rw [z,he] at z2
   cases z2
  ·have z:=(hst.mem hm).1
   exact nomatch (show (some o:Option Obj) = none from e1.symm.trans z)
 ·by_cases hb:b = e
  ·rw [hb,drop_same]
  ·rw [drop_ne hb]
   exact I.base.free b o e1 n (nx b)
 ·obtain ⟨o',e2⟩:=I.base.there b o e1 (nx b)
  exact ⟨o',PySem.W.hideAll_get _ e2 (nof b o e1 nb)⟩
 ·obtain ⟨more,z2⟩:=I.base.tbls b ps z
  exact ⟨more,dr b _ z2 (fun _ z=>nomatch z)⟩
 ·have hb:b ≠ e:=fun z=>by
   rw [z,drop_same] at e1
   cases e1
  rw [drop_ne hb] at e1
  refine (I.hok b u e1).stay (fun c v hc e2=>PySem.W.hideAll_get _ e2 fun hm=>?_) (fun c z=>dr c _ z (fun _ z=>nomatch z)) fun c xs z=>dr c _ z (fun _ z=>nomatch z)
  rcases List.mem_cons.mp hm with z | hm
  ·rcases hc with hc | hc
   ·exact hb (hc.symm.trans z)
   ·rw [z,he] at hc
    cases hc
  ·have z:=I.stkFree c hm
   rcases hc with rfl | hc
   ·rw [e1] at z; cases z
   ·rw [hc] at z; cases z
 ·obtain ⟨sl,e2⟩:=I.base.slot b o e1 (I.ok.frf b hb) hb (nx b)
  obtain ⟨_,o1,e3,d⟩:=I.funs.mem hb
  rw [e2] at e3
  cases e3
  obtain ⟨s2,e4⟩:=up b _ e2 d
  exact ⟨s2,e4⟩
end
end Ow
namespace Ow
open PySem PySem.Spec PyProof.Rows L2
structure XCls (K:PySem.W.Frag) (C fI:Addr) (f:Str):Prop where
 ef:excFn K C fI = true
 sa:PySem.W.findIn K (.ref C) "__setattr__" = some (some (.builtin "object.__setattr__"))
 mo:PySem.W.mroIn K C (.type "object") = some true
 na:PySem.W.findIn K (.ref C) f = some none
 fn:PySem.W.typeIn K (.ref fI) = some (.type "function")
 kp:PySem.W.keepIn K (.ref C) = true
def sXset (K:PySem.W.Frag) (ta tv:TE) (f:Str):TS:=fun D σ H=>tv σ H fun y H1=>ta σ H1 fun x H2=>∃ e C t fI,x = .ref e∧H2 e = some (xO e C t none)∧XCls K C fI f∧∀ d,H2 d = none→d ≠ e→D.nx σ (upd (upd H2 d (.xd [(f,y)])) e (xO e C t (some d)))
section
variable {X:Cx} {f:Str} {o value:Expr} {ta tv:TE} {pos pos':Pos}
theorem ps_xset (ha:PE X o ta) (hv:PE X value tv) (hs:swapsWith value (some (.Attribute o f pos')) pos.line X.env = pure false):PS X (.Assign [.Attribute o f pos'] value pos) (sXset X.K ta tv f):=by
 intro pins s σ H D I h
 refine plainObj_wpAny_Assign_Attribute (thn (hv pins s σ H _ I h) fun u s1 ⟨y,H1,I1,ry,q⟩=>thn (ha pins s1 σ H1 _ I1 q) fun ov s2 ⟨x,H2,I2,rx,e,C,t,fI,ex,he,c,q2⟩=>?_) hs
 subst ex
 obtain rfl:ov = Value.ref e:=rx
 have ge:s2.heap.get? e = some ⟨.ref C,none,.fields (exF t),#[]⟩:=(I2.hok e _ he).1
 obtain ⟨bm,N,nm,qn,bs,sn,sub,ab,col,dd,k0,k1,k2,k3,k5,mN,gC,_,_,T⟩:=exc_fn I2.kIn c.ef
 refine set_exc I2.kIn ge gC T c.sa c.na c.mo fun h' t' g1 n1 kp=>?_
 have hd:H2 s2.heap.objs.size = none:=I2.hok.fresh (Nat.le_refl _)
 have dne:s2.heap.objs.size ≠ e:=fun z=>by rw [z,he] at hd; cases hd
 obtain ⟨od,es,ep,gd,hda,rest⟩:=n1
 have gd1:(s2.heap.push od).get? s2.heap.objs.size = some od:=Heap.get?_push_size _ (by
  obtain ⟨c1,c2,c3,c4⟩:=od
  cases (show c3 = .dict es ep from hda)
  rfl)
 have I3:=I2.laid (a:=s2.heap.objs.size) (o:=.xd [(f,y)]) (h':=s2.heap.push od) (t':=s2.toks) (fun b u q=>Heap.get?_push_of_some _ q) (Nat.le_refl _) ⟨_,⟨od,es,ep,gd1,hda,rest⟩,fun g=>by
  by_cases hg:g = f
  ·subst hg
   rw [if_pos rfl,List.lookup_cons_self]
   exact ry
  ·rw [if_neg hg,List.lookup_cons,beq_eq_false_iff_ne.mpr hg]
   exact True.intro⟩
 have I4:=I3.write (x:=e) (e:=e) (o:=xO e C t (some s2.heap.objs.size)) (h':=h') (t':=t') (by rw [upd_ne (Ne.symm dne),he]; exact True.intro) (.inl rfl) (fun b v hb z=>by
  by_cases hz:b = s2.heap.objs.size
  ·subst hz
   have z1:=gd1.symm.trans z
   cases z1
   exact gd
  ·rw [Heap.get?_push_ne _ _ _ hz] at z
   exact kp b v hb z) ⟨_,g1⟩ (xO_ok g1)
 exact ⟨σ,_,I4,q2 _ hd dne⟩
end
end Ow
namespace Ow
open PySem PySem.Spec PyProof.Rows L2
def spXI (f:Str) (C:Addr):Sp:=fun vs H Q _=>∃ (e t:Addr) (v:V),vs = [.ref e,v]∧H e = some (xO e C t none)∧∀ d,H d = none→d ≠ e→Q .non (upd (upd H d (.xd [(f,v)])) e (xO e C t (some d)))
structure XHas (P:Program) (w:World) (K:PySem.W.Frag) (mg:Str→Option Value) (base:Heap) (k:Nat) (x:Str) (C:Addr) (f:Str):Prop where
 ex:∃ (fI:Addr) (fd:FuncData) (p1 p2:Str),FnOk P w K mg base CX0 k fI fd [p1,p2] (spXI f C)∧Binds K fd [p1,p2] []∧XCls K C fI f∧mg x = some (.ref C)
section
variable {P:Program} {w:World} {K:PySem.W.Frag} {mg:Str→Option Value} {base:Heap} {N:List Str} {qual:Str} {scope:Scope} {fa:Addr} {cdv:Value} {A:Around} {outer:List Env} {s₀:Shared} {H₀:Hp} {E:XK}
def tRaise1 (C:Addr) (f:Str) (E:XK) (ta:TA):TS:=fun _ σ H=>ta σ H fun vs H1=>∃ v,vs = [v]∧∀ d,H1 d = none→E (.ref C) (some d) (upd H1 d (.xd [(f,v)]))
theorem ps_raise1 {k:Nat} {x f:Str} {C:Addr} {np cpos pos:Pos} {e1:Expr} {ta:TA} (h:XHas P w K mg base k x C f) (hr:Room (k + 1) (cxOf (CX2 P w base) P w K mg base N qual scope fa cdv A outer s₀ H₀ E).A) (hg:Gl (cxOf (CX2 P w base) P w K mg base N qual scope fa cdv A outer s₀ H₀ E) x)
  (ha:PA (cxOf (CX2 P w base) P w K mg base N qual scope fa cdv A outer s₀ H₀ E) [e1] ta) (hdb:(x == ("__debug__":Str)) = false:=by decide)
  (hst:starEach [e1] (cxOf (CX2 P w base) P w K mg base N qual scope fa cdv A outer s₀ H₀ E).env = (false,eval e1 (cxOf (CX2 P w base) P w K mg base N qual scope fa cdv A outer s₀ H₀ E).env) :: starEach [] (cxOf (CX2 P w base) P w K mg base N qual scope fa cdv A outer s₀ H₀ E).env:=by rfl) :
  PS (cxOf (CX2 P w base) P w K mg base N qual scope fa cdv A outer s₀ H₀ E) (.Raise (some (.Call (.Name x np) [e1] [] cpos)) none pos) (tRaise1 C f E ta):=by
 intro pins s σ H D I ht
 obtain ⟨fI,fd,p1,p2,F,hb,c,hm⟩:=h.ex
 obtain ⟨bm,N',nm,qn,bs,sn,sub,ab,col,dd,k0,k1,k2,k3,k5,mN,gC,gN,gi,T⟩:=exc_fn I.ok.mod.kin c.ef
 rw [arm_exec_Raise]
 refine wpAny_bind (wpAny_standAt (raise_inst (C:=C) (nm:=nm) (qn:=qn) (N:=N') (bs:=bs) (bm:=bm) (hdc:=true) (sn:=sn) (sub:=sub) (ab:=ab) (col:=col) (dd:=dd) (k0:=k0) (k1:=k1) (k2:=k2) (k3:=k3) (k5:=k5) (nid:="ValueError.__new__")
  (T.hasType PySem.F.excBase_ValueError.hasBase) (I.ok.hd rfl) (wpAny_bind (wpAny_mono (Q:=fun v s1=>∃ (e t:Addr) (od:Option Addr),v = .ref e∧s1.heap.get? C = some (excClassObj nm qn C N' bs bm true sn sub ab col dd k0 k1 k2 k3 k5 "ValueError.__new__")∧s1.heap.get? e = some ⟨.ref C,od,.fields (exF t),#[]⟩∧(cxOf (CX2 P w base) P w K mg base N qual scope fa cdv A outer s₀ H₀ E).xe (.ref e) s1) ?_ (fun v s3 h3=>wpAny_bind (wpAny_standAt (wpAny_pure h3))) fun _ _ z=>z))))
 refine wpAny_Call_Name_kw (ld_glob I hg hm ?_ hdb)
 refine PySem.W.callWith_K (h₀:=base) I.ok.mod.kin c.kp (thn (ha cpos pins s σ H _ I ht) fun us s1 ⟨vs,H1,I1,r1,v,ev,q1⟩=>⟨I1.kIn,?_⟩) hst rfl
 subst ev
 obtain ⟨u,rfl,ru⟩:=r1.one
 have st1:=I1.bk
 have gf:∃ oI,s1.heap.get? fI = some oI∧oI.cls = .type "function":=by
  obtain ⟨oI,e1,e2⟩:=Option.map_eq_some_iff.mp c.fn
  exact ⟨oI,I1.kIn _ _ e1,e2⟩
 obtain ⟨oI,gf,cf⟩:=gf
 obtain ⟨hh,g,dr,tk,os⟩:=s1
 have ge:((hh.push (exT u)).push { cls:=.ref C,data:=.fields (exF hh.objs.size) }).get? (hh.objs.size + 1) = some { cls:=.ref C,data:=.fields (exF hh.objs.size) }:=by
  have z:=Heap.get?_push_size (hh.push (exT u)) (o:={ cls:=.ref C,data:=.fields (exF hh.objs.size) }) rfl
  rwa [Heap.size_push] at z
 have He:H1 (hh.objs.size + 1) = none:=I1.hok.fresh (Nat.le_succ _)
 have I2:=I1.laid (a:=hh.objs.size + 1) (o:=xO (hh.objs.size + 1) C hh.objs.size none) (h':=(hh.push (exT u)).push { cls:=.ref C,data:=.fields (exF hh.objs.size) }) (t':=tk) (fun b o q=>Heap.get?_push_of_some _ (Heap.get?_push_of_some _ q)) (Nat.le_succ _) (xO_ok ge)
 refine call_exc (T.keeps st1) (st1 _ _ gC) (gN.keeps st1) gi gf cf (wpAny_call (codeAny_mono (F.run _ (cxOf (CX2 P w base) P w K mg base N qual scope fa cdv A outer s₀ H₀ E).stack _ _ ⟨[.ref (hh.objs.size + 1),u],[]⟩ [.ref (hh.objs.size + 1),u] [.ref (hh.objs.size + 1),v]
  (fun y H3=>y = .non∧∃ d,upd H1 (hh.objs.size + 1) (xO (hh.objs.size + 1) C hh.objs.size none) d = none∧d ≠ hh.objs.size + 1∧H3 = upd (upd (upd H1 (hh.objs.size + 1) (xO (hh.objs.size + 1) C hh.objs.size none)) d (.xd [(f,v)])) (hh.objs.size + 1) (xO (hh.objs.size + 1) C hh.objs.size (some d))) E0 (hr.make C [u] [])
  (I2.env0.make C [u] []) (hb _ _ I2.kIn rfl) (.cons rfl (.cons ru .nil)) ⟨_,_,v,rfl,upd_same ..,fun d hd ne=>⟨rfl,d,hd,ne,rfl⟩⟩) fun r s' hq=>?_))
 cases r with
 | error e=>exact False.elim hq
 | ok fl =>
  cases fl with
  | ret u' =>
   obtain ⟨y,H3,I3,ry,rfl,d,hd,ne,rfl⟩:=I2.after hq
   refine ⟨ry,hh.objs.size + 1,hh.objs.size,some d,rfl,I3.bk _ _ gC,(I3.hok _ _ (upd_same ..)).1,?_⟩
   rw [upd_ne ne] at hd
   refine leaves_own I3 (upd_same ..) ?_ ?_
   ·refine Heap.get?_none_of_le (Nat.le_trans I1.sz (Nat.le_succ _))
   ·have e3:drop (upd (upd (upd H1 (hh.objs.size + 1) (xO (hh.objs.size + 1) C hh.objs.size none)) d (.xd [(f,v)])) (hh.objs.size + 1) (xO (hh.objs.size + 1) C hh.objs.size (some d))) (hh.objs.size + 1) = upd H1 d (.xd [(f,v)]):=by
     funext b
     by_cases hb:b = hh.objs.size + 1
     ·rw [hb,drop_same,upd_ne (Ne.symm ne),He]
     ·rw [drop_ne hb,upd_ne hb]
      by_cases hbd:b = d
      ·rw [hbd,upd_same,upd_same]
      ·rw [upd_ne hbd,upd_ne hb,upd_ne hbd]
    rw [e3]
    exact q1 d hd
  | next=>exact False.elim hq
  | brk=>exact False.elim hq
  | cont=>exact False.elim hq
end
end Ow
namespace Ow
open PySem PySem.Spec PyProof.Rows L2
section
variable {P:Program} {w:World} {K:PySem.W.Frag} {mg:Str→Option Value} {base:Heap} {N:List Str} {qual:Str} {scope:Scope} {f:Addr} {cdv:Value} {A:Around} {outer:List Env} {s₀:Shared} {H₀:Hp} {E:XK}
theorem Fun.okY {x qual:Str} {st:Stmt} {f:Addr} {fd:FuncData} {N ps:List Str} {k:Nat} {sp:Sp} (F:Fun K x qual st f fd) (S:FnScope N ps (defScope st)) (len:∀ vs H Q E,sp vs H Q E→vs.length = ps.length)
  (hbody:∀ (cdv:Value) (A:Around) (outer:List Env) (s:Shared) (H:Hp) (vs:List V) (Q:VK) (E:XK),Room k (A.deeper (envOfC qual (defScope st) s.heap.objs.size f cdv))→sp vs H Q E →
   ∃ t,PSs (cxOf (CX2 P w base) P w K mg base N qual (defScope st) f cdv A outer s H E) (defBody st) t∧t { nx:=fun _ H'=>Q .non H',rt:=Q } (start N vs) H):FnOk P w K mg base (CX2 P w base) (k + 1) f fd ps sp:=by
 obtain ⟨oc,od,kV,doc,pm,an,cdv,ct,osl,e1,lk,hcd⟩:=F.ex
 subst e1
 exact fn_of lk hcd S len fun A outer s H vs Q E hr hsp=>hbody cdv A outer s H vs Q E hr hsp
theorem passY:Passes (CX2 P w base) (cxOf (CX2 P w base) P w K mg base N qual scope f cdv A outer s₀ H₀ E) E:=by
 intro pins σ H s e s' I hq
 obtain ⟨a,cls,a0,B,H2,dd,rfl,hos,hba,G,sl,fl,ha0,D,hw⟩:=hq
 have nof:∀ b o,s₀.heap.get? b = some o→b ∉ frs outer→b ∉ frs (envOfC qual scope s₀.heap.objs.size f cdv :: outer):=fun b o e1 nb hm=>by
  rcases List.mem_cons.mp (I.stkSub b hm) with z | z
  ·exact Nat.lt_irrefl _ (Nat.lt_of_lt_of_le (z ▸ Heap.lt_size e1) I.ok.above)
  ·exact nb z
 have nx:∀ b:Addr,b ∉ ([]:List Addr):=fun b z=>nomatch z
 have sub:∀ b ∈ frs outer,b ∈ frs (envOfC qual scope s₀.heap.objs.size f cdv :: outer):=fun b hb=>by
  obtain ⟨en,he,hf⟩:=List.mem_filterMap.mp hb
  exact List.mem_filterMap.mpr ⟨en,List.mem_cons_of_mem _ he,hf⟩
 refine leave_own I.ok.frames rfl fl D fun h2 fl2 D2 up=>?_
 refine ⟨a,cls,a0,B,H2,dd,rfl,hos.trans I.os,hba,⟨G.st,fun b o e1 n nb=>G.keep b o (I.base.keep b o e1 n nb (nx b)) (I.base.free b o e1 n (nx b)) (nof b o e1 nb),fun b o e1 n=>?_,fun b o e1 nb=>?_,
  fun b xs z=>G.tups b xs (I.base.tups b xs z),fun b o u z=>G.frzs b o u (I.base.frzs b o u z),fun b ps z=>?_,G.hok⟩,fun b hb o e1=>?_,fl2,ha0,D2,hw⟩
 ·obtain ⟨o',e2⟩:=I.base.there b o e1 (nx b)
  exact G.free b o' e2 (I.base.free b o e1 n (nx b))
 ·obtain ⟨o',e2⟩:=I.base.there b o e1 (nx b)
  exact G.there b o' e2 (nof b o e1 nb)
 ·obtain ⟨m1,e1⟩:=I.base.tbls b ps z
  obtain ⟨m2,e2⟩:=G.tbls b _ e1
  exact ⟨m1 ++ m2,by rw [e2,Array.append_assoc]⟩
 ·obtain ⟨l1,e2⟩:=I.base.slot b o e1 (I.ok.frf b hb) hb (nx b)
  obtain ⟨l2,e3⟩:=sl b (sub b hb) _ e2
  obtain ⟨_,o1,e4,d⟩:=fl.2.2.1.mem (sub b hb)
  rw [e3] at e4
  cases e4
  obtain ⟨l3,e5⟩:=up b _ e3 d
  exact ⟨l3,e5⟩
end
structure HasY (P:Program) (w:World) (K:PySem.W.Frag) (mg:Str→Option Value) (base:Heap) (k:Nat) (x:Str) (ps:List Str) (sp:Sp):Prop where
 ex:∃ (f:Addr) (fd:FuncData),FnOk P w K mg base (CX2 P w base) k f fd ps sp∧Binds K fd ps []∧PySem.W.keepIn K (.ref f) = true∧mg x = some (.ref f)
section
variable {P:Program} {w:World} {K:PySem.W.Frag} {mg:Str→Option Value} {base:Heap} {N:List Str} {qual:Str} {scope:Scope} {f:Addr} {cdv:Value} {A:Around} {outer:List Env} {s₀:Shared} {H₀:Hp} {E:XK}
theorem pe_fnYX {k:Nat} {x:Str} {ps:List Str} {sp:Sp} {p pos:Pos} {e:Expr} {es:List Expr} {t:TA} (h:HasY P w K mg base k x ps sp) (hr:Room k (cxOf (CX2 P w base) P w K mg base N qual scope f cdv A outer s₀ H₀ E).A)
  (hg:Gl (cxOf (CX2 P w base) P w K mg base N qual scope f cdv A outer s₀ H₀ E) x) (ha:PA (cxOf (CX2 P w base) P w K mg base N qual scope f cdv A outer s₀ H₀ E) (e :: es) t) (hdb:(x == ("__debug__":Str)) = false:=by decide)
  (he:starEach (e :: es) (cxOf (CX2 P w base) P w K mg base N qual scope f cdv A outer s₀ H₀ E).env = (false,eval e (cxOf (CX2 P w base) P w K mg base N qual scope f cdv A outer s₀ H₀ E).env) :: starEach es (cxOf (CX2 P w base) P w K mg base N qual scope f cdv A outer s₀ H₀ E).env:=by rfl)
  (hpl:(backTo pos (starEach es (cxOf (CX2 P w base) P w K mg base N qual scope f cdv A outer s₀ H₀ E).env)).any (·.1) = false:=by rfl) :
  PE (cxOf (CX2 P w base) P w K mg base N qual scope f cdv A outer s₀ H₀ E) (.Call (.Name x p) (e :: es) [] pos) (tCall sp [] E t):=by
 obtain ⟨fa,fd,F,b,kp,m⟩:=h.ex
 exact pe_call F hr hg m kp b .nil passY ha hdb he hpl
end
theorem passYN {X:Cx}:Passes (CX2 X.prog X.w X.base) X E0:=fun _ _ _ _ _ _ _ hq=>by
 obtain ⟨_,_,_,_,_,_,_,_,_,_,_,_,_,_,hw⟩:=hq
 exact hw.elim
theorem pe_fnYN {X:Cx} {k:Nat} {x:Str} {ps:List Str} {sp:Sp} {p pos:Pos} {e:Expr} {es:List Expr} {t:TA} (h:HasY X.prog X.w X.K X.mg X.base k x ps sp) (hr:Room k X.A) (hg:Gl X x) (ha:PA X (e :: es) t) (hdb:(x == ("__debug__":Str)) = false:=by decide)
  (he:starEach (e :: es) X.env = (false,eval e X.env) :: starEach es X.env:=by rfl) (hpl:(backTo pos (starEach es X.env)).any (·.1) = false:=by rfl):PE X (.Call (.Name x p) (e :: es) [] pos) (tCall sp [] E0 t):=by
 obtain ⟨fa,fd,F,b,kp,m⟩:=h.ex
 exact pe_call F hr hg m kp b .nil passYN ha hdb he hpl
def tryCy (X:Cx) (pins:List (Addr × Obj)) (E:L2.St→XK):Cx:=(pinned X pins).wish fun e s'=>∃ (pins':List (Addr × Obj)) (σ':L2.St) (H:Hp) (s:Shared),Inv (pinned X pins) pins' σ' H s∧CX2 X.prog X.w X.base X.stack H s (E σ') e s'
section
variable {X:Cx} {j:Nat} {n c:Str} {C₁:Addr} {b₀:Stmt} {suite:List Stmt} {tb:Addr→Obj→TS} {np hpos:Pos}
theorem landY {cb:Bool} {pins:List (Addr × Obj)} {σ:L2.St} {H1:Hp} {s1 s':Shared} {D:Ends} {E:XK} {ev:Value} (I:Inv X pins σ H1 s1) (hq:CX2c cb X.prog X.w X.base X.stack H1 s1 E ev s') (hst:X.stack = X.env :: X.outer) (hfr:X.env.frame = some X.env.locals)
  (hN:X.N.Nodup) (hgc:Gl X c) (hmc:X.mg c = some (.ref C₁)) (hj:X.N[j]? = some n) (hnl:X.env.scope.names.lookup n = some .local) (hb:∀ (a:Addr) (oe:Obj),(cb = true→Ctx0 oe)→PSs (caught X a oe) (b₀ :: suite) (tb a oe)) (hno:X.xe = fun _ _=>False)
  (hE:∀ cls dd H2,E cls dd H2→PySem.W.exmOne X.K cls (.ref C₁) = some true∧∀ (a:Addr) (oe:Obj),oe.cls = cls→oe.dict = dd→PySem.W.notCls oe = true→H2 a = none→tb a oe (endsK j D) (σ.set j (some (.ref a))) H2) (hdc:(c == ("__debug__":Str)) = false) :
  wpAny (model X.prog X.w) X.A (noteFrame ev X.env) (fun _ s₂=>wpAny (model X.prog X.w) X.A (setFlight ev none) (fun _ s₃=>wpAny (model X.prog X.w) X.A (handleBy ev X.env [.ExceptHandler (some (.Name c np)) (some n) (b₀ :: suite) hpos]) (SP X pins D) X.xe s₃) X.xe s₂) X.xe s':=by
 obtain ⟨a,cls,a0,B,H2,dd,rfl,hos,hba,G,sl,fl,ha0,D0,hw⟩:=hq
 obtain ⟨hm,hsu⟩:=hE cls dd H2 hw
 have frm:X.A.frames = some (X.env :: X.outer):=hst ▸ I.ok.frames
 rw [hst] at fl
 have sl':Slots (frs (X.env :: X.outer)) s1.heap s'.heap:=hst ▸ sl
 refine note_own frm hfr fl D0 fun h4 hd4 D4 up4=>?_
 refine flight_own hd4.1 hd4.2.1 hd4.2.2.1 hd4.2.2.2 D4 fun h5 fl5 D5 up5=>?_
 have sl5:=(sl'.on fl.2.2.1 up4).on hd4.2.2.1 up5
 have inv:∀ (hh:Heap) (sx:Shared),sx.heap = hh→sx.os = s1.os→AllBare sx.gens→B.StaysIn hh→Slots (frs (X.env :: X.outer)) s1.heap hh→Inv X pins σ H2 sx:=fun hh sx e1 e2 e3 e4 e5=>by
  refine I.call' (ch:=[]) e2 ?_ ?_ e3 fun b z=>nomatch z
  ·rw [e1]; exact G.un e4 (hst ▸ e5)
  ·rw [e1]; exact G.hok.kept e4
 have I5:Inv X pins σ H2 { s' with heap:=h5 }:=inv h5 _ rfl hos hba fl5.1 sl5
 have noT:∀ hh:Heap,Heap.FlyingW B (X.env :: X.outer) a cls a0 hh→a ≠ X.env.locals∧a ∉ X.fs:=fun hh flx=>by
  obtain ⟨oe,ws,e1,_,e2,_⟩:=flx.first
  have key:∀ b ∈ frs (X.env :: X.outer),a ≠ b:=fun b hb z=>by
   obtain ⟨_,o,e3,d⟩:=flx.2.2.1.mem hb
   rw [← z,e1] at e3
   cases e3
   exact d _ e2
  have mL:X.env.locals ∈ frs (X.env :: X.outer):=List.mem_filterMap.mpr ⟨X.env,List.mem_cons_self ..,hfr⟩
  refine ⟨key _ mL,fun z=>key a ?_ rfl⟩
  obtain ⟨en,he,hf⟩:=List.mem_filterMap.mp z
  exact List.mem_filterMap.mpr ⟨en,List.mem_cons_of_mem _ he,hf⟩
 obtain ⟨o5,ob5,oc5⟩:=fl5.there
 obtain ⟨_,w5,ob5',_,od5,_⟩:=fl5.first
 have I5c:Inv (caught X a o5) pins σ H2 { s' with heap:=h5 }:=caught_inv I5 ob5 ha0 (noT h5 fl5).1 (noT h5 fl5).2 (fun v z=>by
  rw [ob5] at ob5'
  cases ob5'
  rw [od5] at z
  cases z)
 refine wpAny_handleBy_cons (codeAny_handlers_test (ld_glob I5c hgc hmc ?_ hdc)) (by intro z; cases z)
 have LT:PySem.W.Looks (model X.prog X.w) h5 (typeOf (.ref a)) cls:=oc5 ▸ (PySem.W.Looks.ld ob5).andThen .now
 refine (PySem.W.exm_one (K:=X.K) I5.kIn LT hm).here ?_
 refine codeAny_handlers_suite_as ?_
 refine flight_own (s:={ s' with heap:=h5 }) fl5.1 fl5.2.1 fl5.2.2.1 fl5.2.2.2 D5 fun h6 fl6 D6 up6=>?_
 have I6:Inv X pins σ H2 { s' with heap:=h6 }:=inv h6 _ rfl hos hba fl6.1 (sl5.on fl5.2.2.1 up6)
 obtain ⟨o6,w6,ob6,oc6,od6,_⟩:=fl6.first
 obtain ⟨dd6,cc6⟩:o6.dict = dd∧(cb = true→Ctx0 o6):=by
  obtain ⟨o7,e7,d7,c7⟩:=D6
  rw [ob6] at e7
  cases e7
  exact ⟨d7,c7⟩
 have I6c:Inv (caught X a o6) pins σ H2 { s' with heap:=h6 }:=caught_inv I6 ob6 ha0 (noT h6 fl6).1 (noT h6 fl6).2 (fun v z=>by rw [od6] at z; cases z)
 refine store_ok (X:=caught X a o6) I6c hN hj (.inl hnl) (v:=.ref a) rfl (fun s7 I7=>?_) (.inr hnl)
 refine wpAny_mono (hb a o6 cc6 pins s7 _ H2 _ I7 (hsu a o6 oc6 dd6 (by unfold PySem.W.notCls; rw [od6]) ha0)) (fun fw s8 q8=>?_) fun ex s8 q8=>?_
 ·cases fw with
  | ret u =>
   obtain ⟨v,σ8,H8,I8,r8,q8⟩:=q8
   obtain ⟨m8,n8,_⟩:=I8.loc
   refine wpAny_nameGoes (env:=X.env) hnl n8 (by rw [I.ok.kind]; rfl) fun h9 m9 n9 sb=>?_
   exact ⟨v,_,H8,suite_end I8 I.ok n9 sb,r8,q8⟩
  | next =>
   obtain ⟨σ8,H8,I8,q8⟩:=q8
   obtain ⟨m8,n8,l8⟩:=I8.loc
   refine wpAny_nameGoes_keeps (env:=X.env) hnl n8 (by rw [I.ok.kind]; rfl) fun h9 v9 n9 sb=>?_
   exact ⟨_,H8,suite_endK I8 I.ok hN hj l8 n9 sb,q8⟩
  | brk=>obtain ⟨_,_,_,z⟩:=q8; exact False.elim z
  | cont=>obtain ⟨_,_,_,z⟩:=q8; exact False.elim z
 ·have z:X.xe ex s8:=q8
  rw [hno] at z
  exact False.elim z
end
def wishY (K:PySem.W.Frag) (C₁:Addr) (j:Nat) (ts:Addr→Obj→TS) (D:Ends):L2.St→XK:=fun σ' cls dd H2=>PySem.W.exmOne K cls (.ref C₁) = some true∧∀ (a:Addr) (oe:Obj),oe.cls = cls→oe.dict = dd→PySem.W.notCls oe = true→H2 a = none→ts a oe (endsK j D) (σ'.set j (some (.ref a))) H2
def tTryY (K:PySem.W.Frag) (C₁:Addr) (j:Nat) (tb:(L2.St→XK)→TS) (ts:Addr→Obj→TS):TS:=fun D σ H=>tb (wishY K C₁ j ts D) D σ H
theorem ps_tryYC {X:Cx} {j:Nat} {n c:Str} {C₁:Addr} {b₀:Stmt} {body suite:List Stmt} {tb:(L2.St→XK)→TS} {ts:Addr→Obj→TS} {np hpos tpos:Pos} (hbd:∀ pins E,PSs (tryCy X pins E) body (tb E)) (hN:X.N.Nodup) (hgc:Gl X c) (hmc:X.mg c = some (.ref C₁))
  (hj:X.N[j]? = some n) (hnl:X.env.scope.names.lookup n = some .local) (hb:∀ (a:Addr) (oe:Obj),Ctx0 oe→PSs (caught X a oe) (b₀ :: suite) (ts a oe)) (hno:X.xe = fun _ _=>False:=by rfl) (hst:X.stack = X.env :: X.outer:=by rfl) (hfr:X.env.frame = some X.env.locals:=by rfl)
  (hdc:(c == ("__debug__":Str)) = false:=by decide):PS X (.Try body [.ExceptHandler (some (.Name c np)) (some n) (b₀ :: suite) hpos] [] [] tpos) (tTryY X.K C₁ j tb ts):=by
 intro pins s σ H D I ht
 refine wpAny_Try_except (wpAny_mono (hbd pins (wishY X.K C₁ j ts D) [] s σ H D ((to_pinned I).wish _) ht) (fun fl s1 q=>?_) fun ev s1 q=>?_)
 ·cases fl with
  | next=>obtain ⟨σ',H',I',q⟩:=q; exact wpAny_execs_nil ⟨σ',H',of_pinned I.ok I'.unwish,q⟩
  | brk=>obtain ⟨σ',H',I',q⟩:=q; exact ⟨σ',H',of_pinned I.ok I'.unwish,q⟩
  | cont=>obtain ⟨σ',H',I',q⟩:=q; exact ⟨σ',H',of_pinned I.ok I'.unwish,q⟩
  | ret u=>obtain ⟨v,σ',H',I',r,q⟩:=q; exact ⟨v,σ',H',of_pinned I.ok I'.unwish,r,q⟩
 ·obtain ⟨pins2,σ2,H2,s2,I2,hq⟩:=q
  exact landY (of_pinned I.ok I2) hq hst hfr hN hgc hmc hj hnl (fun a oe h=>hb a oe (h rfl)) hno (fun cls dd H3 z=>z) hdc
theorem ps_tryY {X:Cx} {j:Nat} {n c:Str} {C₁:Addr} {b₀:Stmt} {body suite:List Stmt} {tb:(L2.St→XK)→TS} {ts:Addr→Obj→TS} {np hpos tpos:Pos} (hbd:∀ pins E,PSs (tryCy X pins E) body (tb E)) (hN:X.N.Nodup) (hgc:Gl X c) (hmc:X.mg c = some (.ref C₁))
  (hj:X.N[j]? = some n) (hnl:X.env.scope.names.lookup n = some .local) (hb:∀ (a:Addr) (oe:Obj),PSs (caught X a oe) (b₀ :: suite) (ts a oe)) (hno:X.xe = fun _ _=>False:=by rfl) (hst:X.stack = X.env :: X.outer:=by rfl) (hfr:X.env.frame = some X.env.locals:=by rfl)
  (hdc:(c == ("__debug__":Str)) = false:=by decide):PS X (.Try body [.ExceptHandler (some (.Name c np)) (some n) (b₀ :: suite) hpos] [] [] tpos) (tTryY X.K C₁ j tb ts) :=
 ps_tryYC hbd hN hgc hmc hj hnl (fun a oe _=>hb a oe) hno hst hfr hdc
end Ow
namespace Ow
open PySem PySem.Spec PyProof.Rows L2
section
variable {prog:Program} {w:World} {A:Around} {E:Value→Shared→Prop} {h:Heap} {g:Array GenState} {d:Drawn} {t:Nat} {os:OsState} {K:PySem.W.Frag} {a C D:Addr} {o od:Obj} {name:Str} {v:Value}
theorem xat (hx:h.get? a = some o) (hc:o.cls = .ref C) (hd:o.dict = some D) (hn:PySem.W.notCls o = true) (gd:h.get? D = some od):PySem.W.InstAt h a o C (some od):=⟨hx,hc,hn,by rw [hd]; exact gd⟩
theorem getx_entry {tk:Tok} {Q:Fin→Shared→Prop} (X:K.In h) (I:PySem.W.InstAt h a o C (some od)) (hf:PySem.W.findObj K C (some od) name = some (.value v)) (hq:Q (.done (.ret v)) ⟨h,g,d,t,os⟩) :
  wpAny (model prog w) A (Builtin.«object.__getattribute__» ⟨[.ref a,.str name tk],[]⟩) Q E ⟨h,g,d,t,os⟩:=by
 have L0:=I.type (M:=model prog w)
 have L1:=PySem.W.looks_find (M:=model prog w) X I hf
 refine wpAny_bind (wpAny_pure (wpAny_bind (wpAny_pure (wpAny_bind (L0.at (wpAny_bind (L1.at ?_)))))))
 exact wpAny_pure hq
theorem getx_by {tk:Tok} {fill ex:Bool} {Q:Value→Shared→Prop} (X:K.In h) (f:ExF K C) (I:PySem.W.InstAt h a o C (some od)) (hf:PySem.W.findObj K C (some od) name = some (.value v)) (hv:PySem.W.handedIn v = true) (hq:Q v ⟨h,g,d,t,os⟩) :
  wpAny (model prog w) A (getAttrBy (.ref a) (.str name tk) fill ex) Q E ⟨h,g,d,t,os⟩:=by
 have hx:=I.at_
 have hc:=I.cls
 have f3:=F.attr_ValueError.ga.bind (.ref a)
 have L1:=PySem.W.looks_findIn (M:=model prog w) X f.ga
 have L2:=PySem.W.looks_findIn (M:=model prog w) X f.gn
 have hx2:(Value.builtin "BaseException.__getattribute__" == Value.builtin "object.__getattribute__") = false:=by decide +kernel
 have hx1:(onTheHeap (Value.ref C) && Value.builtin "BaseException.__getattribute__" == Value.builtin "object.__getattribute__") = false:=by rw [hx2]; rfl
 have hx0:(ex && onTheHeap (Value.builtin "BaseException.__getattribute__")) = false:=by cases ex <;> rfl
 have hho:=PySem.W.handedOut_of hv
 repeat (any_goals (first | assumption | (with_reducible refine wpAny_loadPart_at hx ?_; rw [hc]) | with_reducible refine L1.at ?_ | with_reducible refine L2.at ?_ | wp_step))
 refine codeAny_call_builtin F.attr_ValueError.ga.plain F.entry_bexc_ga (exc_check X f hx hc (getx_entry X I hf ?_))
 repeat (any_goals (first | assumption | wp_step))
theorem getx {ex:Bool} {Q:Value→Shared→Prop} (X:K.In h) (f:ExF K C) (I:PySem.W.InstAt h a o C (some od)) (hf:PySem.W.findObj K C (some od) name = some (.value v)) (hv:PySem.W.handedIn v = true) (hq:Q v ⟨h,g,d,t + 1,os⟩) :
  wpAny (model prog w) A (getAttr (.ref a) name ex) Q E ⟨h,g,d,t,os⟩:=by
 unfold getAttr
 exact wpAny_bind (wpAny_mkText (getx_by X f I hf hv hq))
end
def tXf (K:PySem.W.Frag) (ta:TE) (a:Addr) (oe:Obj) (f:Str):TE:=fun σ H Q=>ta σ H fun x H1=>∃ C D fs v,x = .ref a∧oe.cls = .ref C∧oe.dict = some D∧PySem.W.notCls oe = true∧ExF K C∧PySem.W.hasDictIn K C = true∧NoAttr K C f∧H1 D = some (.xd fs)∧fs.lookup f = some v∧Q v H1
theorem pe_xf {X:Cx} {a:Addr} {oe:Obj} {f:Str} {e:Expr} {ta:TE} {pos:Pos} (hp:(a,oe) ∈ X.pn) (he:PE X e ta) (hb:attributeBase e f X.env (eval e X.env) = eval e X.env):PE X (.Attribute e f pos) (tXf X.K ta a oe f):=by
 intro pins s σ H Q I h
 refine attr_of hb (thn (he pins s σ H _ I h) fun u s1 ⟨x,H1,I1,rx,C,D,fs,v,ex,hc,hd,hn,f1,f2,f3,hD,hl,q⟩=>?_)
 subst ex
 obtain rfl:u = Value.ref a:=rx
 have pa:=I1.pin _ (List.mem_append_left _ hp)
 obtain ⟨mA,ns,r⟩:=I1.hok D _ hD
 obtain ⟨od,gd,hlk⟩:=lookIn_ns ns
 obtain ⟨v',hv,rv⟩:=RelO.some_of (v:=v) (o:=mA f) (by rw [← hl]; exact r f)
 obtain ⟨hh,g,d,t,os⟩:=s1
 exact getx I1.kIn f1 (xat pa.1 hc hd hn gd) (PySem.W.findObj_own f2 f3 rfl (by rw [hlk,hv])) (handed_of rv) ⟨v,H1,I1.tok _,rv,q⟩
end Ow
namespace Ow
open PySem PySem.Spec PyProof.Rows L2
end Ow
namespace Ow
open PySem PySem.Spec PyProof.Rows L2
section
variable {prog:Program} {w:World} {A:Around} {E:Value→Shared→Prop} {s:Shared} {a:Addr} {o:Obj} {ks:List Int} {k:Int} {tk:Tok}
end
end Ow
namespace Ow
open PySem PySem.Spec PyProof.Rows L2
section
variable {prog:Program} {w:World} {A:Around} {R:Result→Shared→Prop} {I:Addr} {fp wr:List Addr} {G:Array GenState→Array GenState→Prop} {n:Nat} {P:Nat→Value→Prop} {St:Nat→Shared→Prop}
end
section
variable {prog:Program} {w:World} {A:Around} {E:Value→Shared→Prop} {s:Shared}
end
end Ow
namespace Ow
open PySem PySem.Spec PyProof.Rows L2
section
variable {prog:Program} {w:World} {A:Around} {E:Value→Shared→Prop} {s:Shared} {S I:Addr} {es:Array (Int × Value)} {ep:Nat} {t:SetTable}
end
end Ow
namespace Ow
open PySem PySem.Spec PyProof.Rows L2
section
variable {prog:Program} {w:World} {A:Around} {E:Value→Shared→Prop} {s:Shared} {S I:Addr} {es:Array (Int × Value)} {ep:Nat} {t:SetTable}
end
end Ow
namespace Ow
open PySem PySem.Spec PyProof.Rows L2
section
variable {prog:Program} {w:World} {A:Around} {E:Value→Shared→Prop} {s:Shared} {S:Addr} {es:Array (Int × Value)} {ep:Nat} {t:SetTable}
end
end Ow
namespace Ow
open PySem PySem.Spec PyProof.Rows L2
section
variable {prog:Program} {w:World} {A:Around} {E:Value→Shared→Prop} {s:Shared} {S:Addr} {es:Array (Int × Value)} {ep:Nat} {t:SetTable}
end
end Ow
namespace Ow
open PySem PySem.Spec PyProof.Rows L2
section
variable {prog:Program} {w:World} {A:Around} {E:Value→Shared→Prop} {s:Shared} {S:Addr} {o:Obj} {ks:List Int}
end
end Ow
namespace L2
open PySem PySem.Spec PyProof.Rows
def cxLam (X:Cx) (N:List Str) (qual:Str) (scope:Scope) (f:Addr) (cd:Value) (cl:List (Str × Addr)) (s:Shared) (H:Hp):Cx where
 prog:=X.prog
 w:=X.w
 K:=X.K
 mg:=X.mg
 base:=X.base
 A:=X.A.deeper (PySem.W.envX qual scope s.heap.objs.size f cd cl)
 N:=N
 s₀:=s
 H₀:=H
 env:=PySem.W.envX qual scope s.heap.objs.size f cd cl
 outer:=X.stack
 stack:=PySem.W.envX qual scope s.heap.objs.size f cd cl :: X.stack
 ex:=[]
 calm:=true
 fn:=fun _=>false
 pn:=[]
 xe:=fun _ _=>False
structure Cells (h:Heap) (H:Hp) (fs:List Addr) (cl:List (Str × Addr)) (ns:List Str) (vals:List V):Prop where
 all:∀ x c,cl.lookup x = some c→H c = none∧c ∉ fs∧∃ v,h.IsCell c v
 inj:∀ x y c,cl.lookup x = some c→cl.lookup y = some c→x = y
 val:∀ (i:Nat) y v,ns[i]? = some y→vals[i]? = some v→∃ c u,cl.lookup y = some c∧RelV v u∧h.IsCell c (some u)
section
variable {X:Cx} {pins:List (Addr × Obj)} {σ:St} {H:Hp} {s:Shared} {cl:List (Str × Addr)} {ns:List Str} {vals:List V}
theorem Cells.keep (C:Cells X.s₀.heap X.H₀ X.fs cl ns vals) (I:Inv X pins σ H s) (hex:X.ex = []):Cells s.heap H (frs X.stack) cl ns vals:=by
 have one:∀ x c v,cl.lookup x = some c→X.s₀.heap.IsCell c v→s.heap.IsCell c v:=fun x c v e ⟨o,ho,hd⟩ =>
  ⟨o,I.base.keep c o ho (C.all x c e).1 (C.all x c e).2.1 (by rw [hex]; simp),hd⟩
 refine ⟨fun x c e=>?_,C.inj,fun i y v e1 e2=>?_⟩
 ·obtain ⟨h1,h2,v,hv⟩:=C.all x c e
  obtain ⟨o,ho,hd⟩:=id hv
  refine ⟨I.base.free c o ho h1 (by rw [hex]; simp),fun z=>?_,v,one x c v e hv⟩
  rcases List.mem_cons.mp (I.stkSub c z) with z | z
  ·have:=hv.lt
   have h3:=I.ok.above
   rw [← z] at h3
   exact absurd this (Nat.not_lt.mpr h3)
  ·exact h2 z
 ·obtain ⟨c,u,l,r,hv⟩:=C.val i y v e1 e2
  exact ⟨c,u,l,r,one y c _ l hv⟩
theorem inv_lam {qual:Str} {scope:Scope} {f:Addr} {cd:Value} {x:Str} {v:V} {u:Value} {h₁:Heap} {t':Nat} {fs:List Addr} (I:Inv X pins σ H s) (hc:X.calm = true)
  (hkind:scope.kind = .function) (hx:scope.names.lookup x = some .local) (hns:∀ y ∈ ns,scope.names.lookup y = some .free)
  (hfree:∀ y,(scope.names.lookup y = some .cell∨scope.names.lookup y = some .free)→∃ c,cl.lookup y = some c)
  (C:Cells s.heap H fs cl ns vals) (hl:vals.length = ns.length) (r:RelV v u)
  (n1:h₁.Ns s.heap.objs.size (fun y=>[(x,u)].reverse.lookup y)) (hk:∀ b o,s.heap.get? b = some o→h₁.get? b = some o) :
  Inv (cxLam X (x :: ns) qual scope f cd cl s H) [] (some v :: vals.map some) H { s with heap:=h₁,toks:=t' }:=by
 have noA:∀ b:Addr,b ∉ (cxLam X (x :: ns) qual scope f cd cl s H).ex:=fun b z=>absurd (show b ∈ ([]:List Addr) from z) (by simp)
 refine ⟨⟨I.ok.mod,hkind,rfl,rfl,Nat.le_refl _,C.inj,fun y hy=>hfree y hy,fun y c z _=>(nomatch z),fun _=>I.ok.hd hc,Around.frames_deeper I.ok.frames,.inr ⟨rfl,rfl⟩,fun b z=>absurd z (noA b),I.bs,Nat.le_trans I.ok.bsz I.sz,fun b _ _=>noA b,fun b z=>absurd z (noA b),I.stack,I.stkFree⟩,
  rfl,I.bare,Un.kept hk,⟨_,n1,fun i y w h1 h2 h3=>?_⟩,fun y c h=>?_,I.hok.fresh (Nat.le_refl _),fun y c h=>(C.all y c h).1,fun p hp=>absurd (show p ∈ ([]:List (Addr × Obj)) from hp) (by simp),I.hok.kept hk,?_⟩
 ·cases i with
  | zero =>
   have e1:x = y:=by simpa [cxLam] using h1
   have e2:v = w:=by simpa using h2
   subst e1 e2
   exact ⟨u,r,.inl ⟨hx,by simp⟩⟩
  | succ i =>
   have e1:ns[i]? = some y:=by simpa [cxLam] using h1
   have e2:vals[i]? = some w:=by
    rw [List.getElem?_cons_succ,List.getElem?_map] at h2
    cases q:vals[i]? with
    | none=>rw [q] at h2; cases h2
    | some z=>rw [q] at h2; cases h2; rfl
   obtain ⟨c,u',l,r',hv⟩:=C.val i y w e1 e2
   exact ⟨u',r',.inr ⟨.inr (hns y (List.mem_of_getElem? e1)),c,l,hv.keeps hk⟩⟩
 ·obtain ⟨_,_,w,hv⟩:=C.all y c h
  exact ⟨w,hv.keeps hk⟩
 ·show (some v :: vals.map some).length = (x :: ns).length
  simp [hl]
end
def Clo (name qual:Str) (params:Arguments) (body:Expr) (scope:Scope) (cl:List (Str × Addr)) (H:Hp) (f:Addr):Prop :=
 ∃ (pm:Value) (c':Addr) (ctv:Value),H f = some (.ext fun h=>h.get? f = some (PySem.W.kla_obj name qual params body scope cl pm c' ctv))∧H c' = some (.ext fun h=>h.CodeRec (.ref c') qual)
section
variable {X:Cx}
end
structure FnOkS (P:Program) (w:World) (K:PySem.W.Frag) (mg:Str→Option Value) (base:Heap) (CX:CXT) (k:Nat) (f:Addr) (fd:FuncData) (ps:List Str) (sp:List Env→Shared→Sp):Prop where
 len:∀ o s vs H Q E,sp o s vs H Q E→vs.length = ps.length
 run:∀ (A:Around) (outer:List Env) (s:Shared) (H:Hp) (args:Args) (us:List Value) (vs:List V) (Q:VK) (E:XK),Room k A→Env0 P w K mg base A outer s H→BindsTo s fd args (ps.zip us)→Vals vs us→sp outer s vs H Q E →
  codeAny (model P w) A (.call (.ref f) args) (CR CX outer P w H s Q E) s
theorem Fun.okS {P:Program} {w:World} {K:PySem.W.Frag} {mg:Str→Option Value} {base:Heap} {x qual:Str} {st:Stmt} {f:Addr} {fd:FuncData} {N ps:List Str} {k:Nat} {sp:List Env→Shared→Sp} (F:Fun K x qual st f fd) (S:FnScope N ps (defScope st)) (len:∀ o s vs H Q E,sp o s vs H Q E→vs.length = ps.length)
  (hbody:∀ (cdv:Value) (A:Around) (outer:List Env) (s:Shared) (H:Hp) (vs:List V) (Q:VK) (E:XK),Room k (A.deeper (envOfC qual (defScope st) s.heap.objs.size f cdv))→sp outer s vs H Q E →
   ∃ t,PSs (cxOf CX0 P w K mg base N qual (defScope st) f cdv A outer s H E).nox (defBody st) t∧t { nx:=fun _ H'=>Q .non H',rt:=Q } (start N vs) H):FnOkS P w K mg base CX0 (k + 1) f fd ps sp:=by
 obtain ⟨oc,od,kV,doc,pm,an,cdv,ct,osl,rfl,lk,hcd⟩:=F.ex
 refine ⟨len,fun A outer s H args us vs Q E hr e0 hb r hsp=>?_⟩
 have one:FnOk P w K mg base CX0 (k + 1) f (PySem.W.fnOf x qual (defArgs st) (defBody st) (defScope st) .none kV doc pm an cdv ct) ps (fun vs' H' Q' E'=>sp outer s vs' H' Q' E'∧vs' = vs∧H' = H)→codeAny (model P w) A (.call (.ref f) args) (CR CX0 outer P w H s Q E) s:=fun G=>G.run A outer s H args us vs Q E hr e0 hb r ⟨hsp,rfl,rfl⟩
 have hl:=len _ _ _ _ _ _ hsp
 have KX:K.In s.heap:=e0.mod.kin.keeps fun b o e=>(e0.bs b o e).1
 have lim:s.heap.NoLimit:=e0.mod.nolimit.keeps fun b o e=>(e0.bs b o e).1
 have hkind:∀ y ∈ ps.zip us,(defScope st).names.lookup y.1 = some .local∨((defScope st).names.lookup y.1 = some .cell∧((cellsFrom (s.heap.objs.size + 1) (defScope st).names []).lookup y.1).isSome = true):=fun ⟨n,v⟩ hy=>by
  rcases S.par n (List.of_mem_zip hy).1 with q | q
  ·exact .inl q
  ·exact .inr ⟨q,PySem.W.cellsFrom_some _ _ _ (.inl q)⟩
 refine codeAny_call_function hr.depth (KX _ _ lk) rfl S.co S.gen rfl (PySem.W.codeRec_of KX hcd) (hb _ _ _ _ ?_)
 refine wpAny_newFunctionEnv_cells S.kind hkind fun env he s1 y=>?_
 subst he
 refine ⟨lim.keeps y.toInCall.keep,codeAny_func ?_⟩
 obtain ⟨t,ht,hq⟩:=hbody cdv A outer s H vs Q E (hr.deeper _) hsp
 have I:Inv (cxOf CX0 P w K mg base N qual (defScope st) f cdv A outer s H E) [] (start N vs) H s1:=inv_start S hr.hd e0 hl r y
 refine wpAny_mono (ht.nox [] s1 (start N vs) H _ I hq) (fun fl s' hs=>?_) fun e s' hs=>hs
 have fin:∀ {σ':St} {H':Hp} {v:V} {u:Value},Inv (cxOf CX0 P w K mg base N qual (defScope st) f cdv A outer s H E) [] σ' H' s'→RelV v u→Q v H'→CE outer P w H s Q u s' :=
  fun {σ' H' v u} J rv q=>⟨v,H',J.os,J.bare,J.base,J.hok,rv,q⟩
 cases fl with
 | ret u =>
  obtain ⟨v,σ',H',J,rv,q⟩:=hs
  exact fin J rv q
 | next =>
  obtain ⟨σ',H',J,q⟩:=hs
  exact fin (v:=V.non) (u:=Value.none) J rfl q
 | brk =>
  obtain ⟨_,_,_,q⟩:=hs
  exact False.elim q
 | cont =>
  obtain ⟨_,_,_,q⟩:=hs
  exact False.elim q
structure HasS (P:Program) (w:World) (K:PySem.W.Frag) (mg:Str→Option Value) (base:Heap) (k:Nat) (x:Str) (ps:List Str) (sp:List Env→Shared→Sp):Prop where
 ex:∃ (f:Addr) (fd:FuncData),FnOkS P w K mg base CX0 k f fd ps sp∧Binds K fd ps []∧PySem.W.keepIn K (.ref f) = true∧mg x = some (.ref f)
def tCallS (R:St→List V→Hp→VK→Prop) (t:TA):TE:=fun σ H Q=>t σ H fun vs H1=>R σ vs H1 Q
section
variable {X:Cx}
theorem pe_fnS {k:Nat} {x:Str} {ps:List Str} {sp:List Env→Shared→Sp} {R:St→List V→Hp→VK→Prop} {p pos:Pos} {e:Expr} {es:List Expr} {t:TA} (h:HasS X.prog X.w X.K X.mg X.base k x ps sp) (hr:Room k X.A) (hg:Gl X x) (ha:PA X (e :: es) t)
  (hR:∀ pins σ H s vs Q,Inv X pins σ H s→R σ vs H Q→sp X.stack s vs H Q E0)
  (hdb:(x == ("__debug__":Str)) = false:=by decide) (he:starEach (e :: es) X.env = (false,eval e X.env) :: starEach es X.env:=by rfl) (hpl:(backTo pos (starEach es X.env)).any (·.1) = false:=by rfl) :
  PE X (.Call (.Name x p) (e :: es) [] pos) (tCallS R t):=by
 obtain ⟨f,fd,F,hb,hk,hm⟩:=h.ex
 intro pins s σ H Q I h
 refine wpAny_Call_Name_kw (ld_glob I hg hm ?_ hdb)
 refine PySem.W.callWith_K (h₀:=X.base) I.ok.mod.kin hk (thn (ha pos pins s σ H _ I h) fun us s1 ⟨vs,H1,I1,r,q⟩=>⟨I1.kIn,?_⟩) he hpl
 have hsp:=hR pins σ H1 s1 vs Q I1 q
 have hl:us.length = ps.length:=by rw [← r.length]; exact F.len _ _ _ _ _ _ hsp
 have hb':=hb s1 us I1.kIn (by rw [List.append_nil]; exact hl)
 rw [List.append_nil] at hb'
 refine wpAny_call (codeAny_mono (F.run X.A X.stack s1 H1 ⟨us,[]⟩ us vs Q E0 hr I1.env0 hb' r hsp) fun r s' hq=>?_)
 cases r with
 | error e=>exact False.elim hq
 | ok fl =>
  cases fl with
  | ret u=>exact I1.after hq
  | next=>exact False.elim hq
  | brk=>exact False.elim hq
  | cont=>exact False.elim hq
end
theorem triples_snoc {pos:Pos} {c:Value}:∀ (l:List Value),TriplesOk l→TriplesOk (l ++ [rawInt pos.line,rawInt pos.col,c])
 | [],_=>trivial
 | .int _ _ :: .int _ _ :: _ :: r,h=>triples_snoc (pos:=pos) (c:=c) r h
structure LamBase (mg:Str→Option Value) (base:Heap) (c P:Addr):Prop where
 code:PySem.W.CodeHd base c P
 bm:∃ bm ob,mg "__builtins__" = some (.ref bm)∧bm ≠ builtinsNs∧base.get? bm = some ob∧ob.cls = .type "module"∧ob.dict = some builtinsNs∧ob.data = .plain
section
variable {X:Cx}
end
theorem law_callT {P:Program} {w:World} {K:PySem.W.Frag} {mg mb:Str→Option Value} {CX:CXT} {k:Nat} {fa a:Addr} {fd:FuncData} {x:Str} {sp:Sp} {s₁:Shared} {vs:List Value} {ns:List Int} {tabs:List (Addr × Addr)}
  (KX:K.In s₁.heap) (hns:s₁.heap.Ns mainGlobals mg) (hb:s₁.heap.Ns builtinsNs mb) (hbb:∀ x:Str,x ≠ "__name__"→mb x = bootBuiltins x) (hlim:s₁.heap.NoLimit) (hg:s₁.gens = #[])
  (hbm:∃ bm ob,mg "__builtins__" = some (.ref bm)∧bm ≠ builtinsNs∧s₁.heap.get? bm = some ob∧ob.cls = .type "module"∧ob.dict = some builtinsNs∧ob.data = .plain)
  (hT:PySem.W.TabsAt tabs s₁.heap) (hTK:∀ q ∈ tabs,K.lookup q.2 = none)
  (ha:s₁.heap.get? a = some { cls:=.type "list",data:=.seq vs.toArray }) (hi:IntsAre vs ns) (hl:ns.length≤sizeLine) (hr:Room k callerA)
  (F:∀ base:Heap,K.In base→base.Ns mainGlobals mg→(∀ q ∈ tabs,LamBase mg base q.1 q.2)→FnOk P w K mg base CX k fa fd [x] sp) (hbind:∀ (s:Shared) (u:Value),BindsTo s fd ⟨[u],[]⟩ [(x,u)])
  (hsp:∀ H:Hp,(∀ q ∈ tabs,H q.2 = some (.tbl #[]))→SqL K H a (ns.map V.int)→sp [.ref a] H (fun v _=>v = .bl true) fun _ _ _=>False)
  (hCX:∀ H e s',CX [] H s₁ (fun _ _ _=>False) e s'→False) :
  codeAny (model P w) callerA (.call (.ref fa) ⟨[.ref a],[]⟩) (fun r s'=>r = .ok (.ret (.bool true))∧OldK s₁.heap s'.heap∧s'.os = s₁.os∧AllBare s'.gens) s₁:=by
 have rv:=vals_ints hi
 have lenV:=hi.length
 have tabAt:∀ b,b ∈ tabs.map (·.2)→∃ q ∈ tabs,q.2 = b∧s₁.heap.get? b = some (PySem.W.tabObj #[]):=fun b hb=>by
  obtain ⟨q,hq,rfl⟩:=List.mem_map.mp hb
  exact ⟨q,hq,rfl,(hT q hq).2⟩
 have aT:a ∉ tabs.map (·.2):=fun z=>by
  obtain ⟨_,_,_,e⟩:=tabAt a z
  rw [ha] at e
  have e':=congrArg Obj.data (Option.some.inj e)
  have e2:Data.seq vs.toArray _ = Data.fields #[]:=e'
  cases e2
 have core:∀ H:Hp,(∀ b,H b = none∨(b = a∧∃ xs,H b = some (.frz { cls:=.type "list",data:=.seq vs.toArray } (.lst xs)))∨(b ∈ tabs.map (·.2)∧H b = some (.tbl #[])))→(∀ b ∈ tabs.map (·.2),H b = some (.tbl #[]))→SqL K H a (ns.map V.int)→HOk P w H s₁.heap→(H a ≠ none→K.lookup a = none) →
   codeAny (model P w) callerA (.call (.ref fa) ⟨[.ref a],[]⟩) (fun r s'=>r = .ok (.ret (.bool true))∧OldK s₁.heap s'.heap∧s'.os = s₁.os∧AllBare s'.gens) s₁:=by
  intro H hO hTb hS hok hK
  have base_of:∀ {b:Addr} {o:Obj},s₁.heap.get? b = some o→H b = none→(hidT s₁.heap H).get? b = some o:=fun e n=>hidT_get e n
  have noA:∀ {b:Addr} {o:Obj},s₁.heap.get? b = some o→(o.data ≠ .seq vs.toArray)→o.cls ≠ .none→H b = none:=fun {b o} e d c=>by
   rcases hO b with z | ⟨z,_⟩ | ⟨z,_⟩
   ·exact z
   ·rw [z,ha] at e; cases e; exact absurd rfl d
   ·obtain ⟨_,_,_,e2⟩:=tabAt b z
    rw [e] at e2; cases e2; exact absurd rfl c
  have noD:∀ {b:Addr} {o:Obj} {es:Array DictEntry} {ep:Nat},s₁.heap.get? b = some o→o.data = .dict es ep→H b = none:=fun {b o es ep} e d=>by
   rcases hO b with z | ⟨z,_⟩ | ⟨z,_⟩
   ·exact z
   ·rw [z,ha] at e; cases e
    have d':Data.seq vs.toArray _ = Data.dict es ep:=d
    cases d'
   ·obtain ⟨_,_,_,e2⟩:=tabAt b z
    rw [e] at e2; cases e2; cases d
  have nsK:∀ {b:Addr} {m:Str→Option Value},s₁.heap.Ns b m→(hidT s₁.heap H).Ns b m:=fun {b m} ⟨o,es,ep,e,d,r⟩=>⟨o,es,ep,base_of e (noD e d),d,r⟩
  have hKb:K.In (hidT s₁.heap H):=fun b o e=>base_of (KX b o e) (by
   rcases hO b with z | ⟨z,xs,z2⟩ | ⟨z,z2⟩
   ·exact z
   ·rw [z,hK (by rw [← z,z2]; simp)] at e; cases e
   ·obtain ⟨q,hq,hqb,_⟩:=tabAt b z
    rw [← hqb,hTK q hq] at e; cases e)
  have hM:Mod K mg (hidT s₁.heap H):=⟨hKb,nsK hns,⟨mb,nsK hb,hbb⟩,let ⟨mc,h1,h2⟩:=hlim; ⟨mc,nsK h1,h2⟩⟩
  have hLB:∀ q ∈ tabs,LamBase mg (hidT s₁.heap H) q.1 q.2:=fun q hq=>by
   refine ⟨?_,?_⟩
   ·obtain ⟨o,us,file,tf,flags,tg,inF,text,tt,e,e2,e3,r⟩:=(hT q hq).1
    refine ⟨o,us,file,tf,flags,tg,inF,text,tt,base_of e (noA e (by rw [e3]; nofun) (by rw [e2]; nofun)),e2,e3,r⟩
   ·obtain ⟨bm,ob,b1,b2,b3,b4,b5,b6⟩:=hbm
    exact ⟨bm,ob,b1,b2,base_of b3 (noA b3 (by rw [b6]; nofun) (by rw [b4]; nofun)),b4,b5,b6⟩
  have e0:Env0 P w K mg (hidT s₁.heap H) callerA [] s₁ H:=⟨rfl,hM,fun b o e=>of_hidT e,Nat.le_of_eq (hidT_size _ _),trivial,fun b hb=>absurd (show b ∈ ([]:List Addr) from hb) (by simp),hok,.of_eq hg⟩
  refine codeAny_mono ((F _ hKb (nsK hns) hLB).run callerA [] s₁ H ⟨[.ref a],[]⟩ [.ref a] [.ref a] _ _ hr e0 (hbind s₁ (.ref a)) (.cons rfl .nil) (hsp H (fun q hq=>hTb _ (List.mem_map_of_mem hq)) hS)) fun r s' h=>?_
  cases r with
  | error e=>exact (hCX H e s' h).elim
  | ok fl =>
   cases fl with
   | next=>exact False.elim h
   | brk=>exact False.elim h
   | cont=>exact False.elim h
   | ret u =>
    obtain ⟨v,H',os,bare,un,hok',r',q⟩:=h
    have q':v = .bl true:=q
    subst q'
    obtain rfl:u = Value.bool true:=r'
    have key:∀ b o,s₁.heap.get? b = some o→asItWas s₁.heap s'.heap b o∧∃ o',s'.heap.get? b = some o':=fun b o e=>by
     rcases hO b with z | ⟨z,xs,z2⟩ | ⟨z,z2⟩
     ·have e1:=un.keep b o e z (by intro z; exact absurd (show b ∈ ([]:List Addr) from z) (by simp)) (by simp)
      exact ⟨.inl e1,o,e1⟩
     ·have z3:=un.frzs b _ _ z2
      obtain ⟨e1,_⟩:=hok b _ z2
      obtain ⟨e2,_⟩:=hok' b _ z3
      rw [e] at e1; cases e1
      exact ⟨.inl e2,_,e2⟩
     ·obtain ⟨q,hq,rfl,e1⟩:=tabAt b z
      rw [e] at e1; cases e1
      obtain ⟨more,z3⟩:=un.tbls _ _ z2
      have e2:s'.heap.get? q.2 = some (PySem.W.tabObj (#[] ++ more)):=hok' _ _ z3
      exact ⟨.inr (.inl ⟨((hT q hq).1.tab (hT q hq).2).isCodeTable,rfl,#[],more,rfl,e2⟩),_,e2⟩
    exact ⟨rfl,⟨fun b o e=>(key b o e).1,fun b o e=>(key b o e).2⟩,os,bare⟩
 have tbOk:∀ (H:Hp) (b:Addr),b ∈ tabs.map (·.2)→ObjOk P w H s₁.heap b (.tbl #[]):=fun H b hb=>by
  obtain ⟨_,_,_,e⟩:=tabAt b hb
  exact e
 have dec:∀ b,Decidable (b ∈ tabs.map (·.2)):=fun b=>inferInstance
 cases hk:K.lookup a with
 | some o =>
  have e:=KX a o hk
  rw [ha] at e
  cases e
  refine core (fun b=>if b ∈ tabs.map (·.2) then some (.tbl #[]) else none) (fun b=>?_) (fun b hb=>if_pos hb) (.inr ⟨_,vs.toArray,_,hk,rfl,rfl,rfl,by rw [List.size_toArray,lenV]; exact hl,by simpa using rv⟩) (fun b u z=>?_) fun z=>absurd (if_neg aT) z
  ·by_cases hb:b ∈ tabs.map (·.2)
   ·exact .inr (.inr ⟨hb,if_pos hb⟩)
   ·exact .inl (if_neg hb)
  ·by_cases hb:b ∈ tabs.map (·.2)
   ·have z':=(if_pos hb).symm.trans z
    cases z'
    exact tbOk _ b hb
   ·have z':=(if_neg hb).symm.trans z
    cases z'
 | none =>
  have eA:(if a = a then some (HO.frz { cls:=.type "list",data:=.seq vs.toArray } (.lst (ns.map V.int))) else if a ∈ tabs.map (·.2) then some (.tbl #[]) else none) = some (HO.frz { cls:=.type "list",data:=.seq vs.toArray } (.lst (ns.map V.int))):=if_pos rfl
  refine core (fun b=>if b = a then some (.frz { cls:=.type "list",data:=.seq vs.toArray } (.lst (ns.map V.int))) else if b ∈ tabs.map (·.2) then some (.tbl #[]) else none) (fun b=>?_) (fun b hb=>?_) (.inl (.inr ⟨{ cls:=.type "list",data:=.seq vs.toArray },if_pos rfl⟩)) (fun b u z=>?_) fun _=>hk
  ·by_cases hb:b = a
   ·exact .inr (.inl ⟨hb,_,if_pos hb⟩)
   ·by_cases hb2:b ∈ tabs.map (·.2)
    ·exact .inr (.inr ⟨hb2,(if_neg hb).trans (if_pos hb2)⟩)
    ·exact .inl ((if_neg hb).trans (if_neg hb2))
  ·exact (if_neg fun z=>aT (by rw [← z]; exact hb)).trans (if_pos hb)
  ·by_cases hb:b = a
   ·have z':=(if_pos hb).symm.trans z
    cases z'
    subst hb
    exact ⟨ha,by rw [List.length_map]; exact hl,vs,_,rv,ha⟩
   ·have z':=(if_neg hb).symm.trans z
    by_cases hb2:b ∈ tabs.map (·.2)
    ·have z'':=(if_pos hb2).symm.trans z'
     cases z''
     exact tbOk _ b hb2
    ·have z'':=(if_neg hb2).symm.trans z'
     cases z''
theorem walk_ofT {l:PySem.W.OpenLaw} {n k:Nat} {q:Program} {loose:List Str} {XP:(Str→Option Value)→Heap→Prop} {YP:World→Heap→Prop} {d:DefRec} {K:Params→PySem.W.Frag} {CX:World→CXT} {sp:World→Sp} {x:Str} (tabs:List (Addr × Addr))
  (hn:l.most = some n) (hn2:n≤sizeLine) (hdf:d.params.defaults = []) (hr:Room k callerA)
  (hY:∀ (w:World) (h:Heap),YP w h→(K w.params).In h)
  (hT:∀ (w:World) (lo:List Str) (mean:ExcName→Option Value) (mg mb:Str→Option Value) (h:Heap),Top q lo mean mg mb h→(K w.params).In h→PySem.W.TabsAt tabs h)
  (hTK:∀ w:World,∀ t ∈ tabs,(K w.params).lookup t.2 = none)
  (F:∀ (w:World) (mg:Str→Option Value) (fa:Addr) (h:Heap),(K w.params).In h→h.Ns mainGlobals mg→mg d.name = some (.ref fa) →
   ∃ fd:FuncData,(∀ (s:Shared) (u:Value),BindsTo s fd ⟨[u],[]⟩ [(x,u)]) ∧
    ∀ base:Heap,(K w.params).In base→base.Ns mainGlobals mg→(∀ t ∈ tabs,LamBase mg base t.1 t.2)→FnOk l.prog w (K w.params) mg base (CX w) k fa fd [x] (sp w))
  (hsp:∀ (w:World) (H:Hp) (a:Addr) (ns:List Int),ns.length≤n→(∀ t ∈ tabs,H t.2 = some (.tbl #[]))→SqL (K w.params) H a (ns.map V.int)→sp w [.ref a] H (fun v _=>v = .bl true) fun _ _ _=>False)
  (hCX:∀ (w:World) (H:Hp) (s:Shared) (e:Value) (s':Shared),CX w [] H s (fun _ _ _=>False) e s'→False) :
  PySem.W.WalkO q loose XP YP l.row.toRowW d [] (fun f vs=>PySem.call f vs):=by
 refine Att.attach_call hn hdf fun w s₀ s₁ mg mb fa o pm cd doc a vs ns G Y ho hd hcd hmg hobj hints hlen hg=>?_
 have KX:=hY w _ Y
 obtain ⟨fd,hb,hF⟩:=F w mg fa _ KX G.T.g hmg
 exact law_callT KX G.T.g G.T.b G.T.builtins G.T.nolimit hg G.T.bmain (hT w _ _ mg mb _ G.T KX) (hTK w) hobj hints (Nat.le_trans hlen hn2) hr hF hb (fun H hO hS=>hsp w H a ns hlen hO hS) fun H e s'=>hCX w H s₁ e s'
theorem Fun.okC {P:Program} {w:World} {K:PySem.W.Frag} {mg:Str→Option Value} {base:Heap} {x qual:Str} {st:Stmt} {f c:Addr} {fd:FuncData} {N ps:List Str} {k:Nat} {sp:Sp} (F:Fun K x qual st f fd) (hc:fd.code = .ref c) (S:FnScope N ps (defScope st)) (len:∀ vs H Q E,sp vs H Q E→vs.length = ps.length)
  (hbody:∀ (A:Around) (outer:List Env) (s:Shared) (H:Hp) (vs:List V) (Q:VK) (E:XK),Room k (A.deeper (envOfC qual (defScope st) s.heap.objs.size f (.ref c)))→sp vs H Q E →
   ∃ t,PSs (cxOf CX0 P w K mg base N qual (defScope st) f (.ref c) A outer s H E).nox (defBody st) t∧t { nx:=fun _ H'=>Q .non H',rt:=Q } (start N vs) H):FnOk P w K mg base CX0 (k + 1) f fd ps sp:=by
 obtain ⟨oc,od,kV,doc,pm,an,cdv,ct,osl,rfl,lk,hcd⟩:=F.ex
 obtain rfl:cdv = .ref c:=hc
 refine fn_of lk hcd S len fun A outer s H vs Q E hr hsp=>?_
 obtain ⟨t,h,q⟩:=hbody A outer s H vs Q E hr hsp
 exact ⟨t,h.nox,q⟩
theorem Inv.cells {X:Cx} {pins:List (Addr × Obj)} {σ:St} {H:Hp} {s:Shared} {cl:List (Str × Addr)} {ns:List Str} {vals:List V} (I:Inv X pins σ H s) (hfn:∀ x,X.fn x = true) (hsub:∀ x c,cl.lookup x = some c→X.env.cells.lookup x = some c)
  (hval:∀ (i:Nat) y v,ns[i]? = some y→vals[i]? = some v→∃ (j:Nat) (c:Addr),X.N[j]? = some y∧σ[j]? = some (some v)∧X.env.kindOf y = some .cell∧cl.lookup y = some c):Cells s.heap H (frs X.stack) cl ns vals:=by
 refine ⟨fun x c e=>⟨I.freeC x c (hsub x c e),fun z=>?_,I.cell x c (hsub x c e)⟩,fun x y c e1 e2=>I.ok.inj x y c (hsub x c e1) (hsub y c e2),fun i y v e1 e2=>?_⟩
 ·rcases List.mem_cons.mp (I.stkSub c z) with q | q
  ·exact I.cne x c (hsub x c e) q
  ·obtain ⟨_,o,ho,_⟩:=I.ok.funs.mem q
   exact absurd (Heap.lt_size ho) (Nat.not_lt.mpr (I.ok.cab x c (hfn x) (hsub x c e)))
 ·obtain ⟨j,c,h1,h2,h3,h4⟩:=hval i y v e1 e2
  obtain ⟨m,_,hl⟩:=I.loc
  obtain ⟨u,r,l⟩:=hl j y v h1 h2 (.inr (.inl h3))
  rcases l with ⟨k,_⟩ | ⟨_,c',hc,hv⟩
  ·rw [h3] at k; cases k
  ·rw [hsub y c h4] at hc
   cases hc
   exact ⟨c,u,h4,r,hv⟩
end L2
namespace L2
open PySem PySem.Spec PyProof.Rows
theorem free_has {names:List (Str × NameKind)} {cl:List (Str × Addr)} {ns:List Str} (hcls:cl.map (·.1) = ns) (hno:∀ p ∈ names,p.2 ≠ .cell∧(p.2 = .free→p.1 ∈ ns)) :
  ∀ y,(names.lookup y = some .cell∨names.lookup y = some .free)→∃ c,cl.lookup y = some c:=fun y hy=>by
 have hy':y ∈ ns:=by
  rcases hy with z | z
  ·exact absurd rfl (hno (y,.cell) (PySem.mem_of_lookup z)).1
  ·exact (hno (y,.free) (PySem.mem_of_lookup z)).2 rfl
 rw [← hcls] at hy'
 have key:∀ l:List (Str × Addr),y ∈ l.map (·.1)→∃ c,l.lookup y = some c:=by
  intro l
  induction l with
  | nil=>intro h; simp at h
  | cons p r ih =>
   intro h
   by_cases e:y = p.1
   ·exact ⟨p.2,by obtain ⟨p1,p2⟩:=p; dsimp only at e; subst e; simp [List.lookup]⟩
   ·have h':y ∈ r.map (·.1):=by
     rw [List.map_cons] at h
     exact (List.mem_cons.mp h).resolve_left e
    obtain ⟨c,hc'⟩:=ih h'
    refine ⟨c,?_⟩
    obtain ⟨p1,p2⟩:=p
    have:(y == p1) = false:=by simpa using e
    rw [List.lookup_cons,this]
    exact hc'
 exact key cl hy'
def lamA (e:Expr):Arguments:=match e with
 | .Lambda a _ _ _=>a
 | _=>{ posonlyargs:=[],args:=[],vararg:=none,kwonlyargs:=[],kw_defaults:=[],kwarg:=none,defaults:=[] }
def lamB (e:Expr):Expr:=match e with
 | .Lambda _ b _ _=>b
 | _=>.Constant .none 0 ⟨0,0,0,0⟩
def lamS (e:Expr):Scope:=match e with
 | .Lambda _ _ s _=>s
 | _=>{ kind:=.function,names:=[],isGenerator:=false,isCoroutine:=false }
def lamP (e:Expr):Pos:=match e with
 | .Lambda _ _ _ p=>p
 | _=>⟨0,0,0,0⟩
end L2
namespace Ow
open PySem PySem.Spec PyProof.Rows L2
theorem Has.imp {P:Program} {w:World} {K:PySem.W.Frag} {mg:Str→Option Value} {base:Heap} {k:Nat} {x:Str} {ps:List Str} {sp sp':Sp} (h:Has P w K mg base k x ps sp) (i:∀ vs H Q E,sp' vs H Q E→sp vs H Q E):Has P w K mg base k x ps sp':=by
 obtain ⟨f,fd,F,b,kp,m⟩:=h.ex
 exact ⟨f,fd,F.imp i,b,kp,m⟩
theorem dk_none {P:Program} {w:World} {H:Hp} (h:Heap) (hb:sysModules < h.objs.size):ObjOk P w H (h.push { cls:=.type "dict",data:=.dict #[] }) h.objs.size (.dK []) :=
 ⟨Nat.zero_le _,beq_eq_false_iff_ne.mpr (Ne.symm (Nat.ne_of_lt hb)),[],.nil,Heap.DictOf.new h⟩
theorem inv_big {X:Cx} {pins:List (Addr × Obj)} {σ:L2.St} {H:Hp} {s:Shared} (I:Inv X pins σ H s):sysModules < s.heap.objs.size:=by
 have h1:=I.ok.mod.glob.lt
 have h2:=Nat.le_trans I.ok.bsz I.sz
 exact Nat.lt_of_lt_of_le (Nat.lt_of_le_of_lt (by decide) h1) h2
def tDNew:TE:=fun _ H Q=>∀ p,H p = none→Q (.ref p) (upd H p (.dK []))
theorem pe_dnewK {X:Cx} {pos:Pos}:PE X (.Dict [] [] pos) tDNew:=fun pins s σ H Q I h =>
 wpAny_Dict_empty ⟨.ref s.heap.objs.size,_,I.laid (a:=s.heap.objs.size) (o:=.dK []) (t':=s.toks) (fun _ _ q=>Heap.get?_push_of_some _ q) (Nat.le_refl _) (dk_none s.heap (inv_big I)),rfl,h _ (I.hok.fresh (Nat.le_refl _))⟩
inductive Th (H:Hp):V→Prop where
 | int (i:Int):Th H (.int i)
 | bl (b:Bool):Th H (.bl b)
 | str (x:Str):Th H (.str x)
 | non:Th H .non
 | lst {a:Addr} {xs:List V} (h:H a = some (.lst xs)):Th H (.ref a)
 | tup {a:Addr} {xs:List V} (h:H a = some (.tup xs)):Th H (.ref a)
 | dct {a:Addr} {kvs:List (Key × V)} (h:H a = some (.dK kvs)):Th H (.ref a)
theorem Th.same {H H':Hp} {x:V} (t:Th H x) (s:Same H H'):Th H' x:=by
 cases t with
 | int i=>exact .int i
 | bl b=>exact .bl b
 | str x=>exact .str x
 | non=>exact .non
 | lst h=>exact .lst (s _ _ h)
 | tup h=>exact .tup (s _ _ h)
 | dct h=>exact .dct (s _ _ h)
def isI:V→Bool
 | .int _=>true
 | _=>false
def btw (x:V) (lo hi:Int):Bool:=match x with
 | .int i=>decide (lo≤i) && decide (i≤hi)
 | _=>false
theorem btw_not {x:V} {lo hi:Int} (h:isI x = false):btw x lo hi = false:=by
 cases x <;> first | rfl | cases h
theorem kit_str_int (K:PySem.W.Frag):PySem.W.kitOne K (.type "str") (.type "int") = some false:=by with_unfolding_all rfl
theorem kit_non_int (K:PySem.W.Frag):PySem.W.kitOne K (.type "NoneType") (.type "int") = some false:=by with_unfolding_all rfl
theorem kit_lst_int (K:PySem.W.Frag):PySem.W.kitOne K (.type "list") (.type "int") = some false:=by with_unfolding_all rfl
theorem kit_tup_int (K:PySem.W.Frag):PySem.W.kitOne K (.type "tuple") (.type "int") = some false:=by with_unfolding_all rfl
theorem kit_dct_int (K:PySem.W.Frag):PySem.W.kitOne K (.type "dict") (.type "int") = some false:=by with_unfolding_all rfl
def spWholeG:Sp:=fun vs H Q _=>∃ x:V,vs = [x]∧Th H x∧Q (.bl (isI x)) H
def spBtwG:Sp:=fun vs H Q _=>∃ (x:V) (lo hi:Int),vs = [x,.int lo,.int hi]∧Th H x∧Q (.bl (btw x lo hi)) H
def spWordG:Sp:=fun vs H Q _=>∃ (w:Int) (x:V),vs = [.int w,x]∧4≤w∧w≤32∧Th H x∧Q (.bl (btw x 0 (1 * 2 ^ w.toNat - 1))) H
end Ow
namespace Ow
open PySem PySem.Spec PyProof.Rows L2
theorem kit_of {K:PySem.W.Frag} {C D:Addr} (h1:PySem.W.isClsIn K D = true) (h2:PySem.W.typeIn K (.ref D) = some (.type "type")) (h3:PySem.W.mroIn K C (.ref D) = some true):PySem.W.kitOne K (.ref C) (.ref D) = some true:=by
 unfold PySem.W.kitOne
 split
 ·rfl
 ·unfold PySem.W.kitCls
  have e:((PySem.W.clsIn K D).isSome && PySem.W.typeIn K (.ref D) == some (.type "type")) = true:=by
   rw [h2]
   have h1':(PySem.W.clsIn K D).isSome = true:=h1
   rw [h1',Bool.true_and]
   exact beq_self_eq_true _
  show (if ((PySem.W.clsIn K D).isSome && PySem.W.typeIn K (.ref D) == some (.type "type")) = true then PySem.W.subIn K (.ref C) (.ref D) else none) = _
  rw [if_pos e]
  exact h3
end Ow
namespace Ow
open PySem PySem.Spec PyProof.Rows L2
section
variable {X:Cx}
theorem ty_str {K:PySem.W.Frag} {x:Str} {H:Hp}:tyV K "str" (.str x) H:=rfl
theorem vals_strs {ys:List Str} {us:List Value} (h:Vals (ys.map V.str) us):StrsAre us ys:=by
 induction ys generalizing us with
 | nil=>cases h; exact .nil
 | cons y ys ih =>
  cases h with
  | cons r rr =>
   obtain ⟨t,rfl⟩:=r
   exact .cons _ _ (ih rr)
def rJoin (K:PySem.W.Frag):V→List V→Hp→VK→Prop:=fun x xs H Q=>∃ sep p ys,x = .str sep∧xs = [.ref p]∧SqL K H p (ys.map V.str)∧(ys.map (·.length)).sum + ys.length * sep.length≤16777216∧Q (.str (Txt.join sep ys)) H
theorem mt_join:MtM X "str.join" (rJoin X.K):=by
 intro pins s σ H x vs v us Q I rx rv h
 obtain ⟨sep,p,ys,rfl,rfl,hp,hok,q⟩:=h
 obtain ⟨t,rfl⟩:=rx
 obtain ⟨u,rfl,ru⟩:=rv.one
 cases (show u = Value.ref p from ru)
 obtain ⟨its,r,pl,_⟩:=I.list hp
 exact join_list pl.isList (vals_strs r) hok fun t' k=>⟨.str _,H,I.kept (t':=k) fun b o e=>e,⟨t',rfl⟩,q⟩
end
end Ow
namespace Ow
open PySem PySem.Spec PyProof.Rows L2
section
variable {prog:Program} {w:World} {K:Type} [DecidableEq K] {knd:KeyKind prog w K} {A:Around} {E:Value→Shared→Prop} {s:Shared}
theorem dict_eq_body {d:Addr} {kvs:List (K × Value)} {Q:Value→Shared→Prop} (hd:(d == sysModules) = false) (hm:s.heap.DictOf knd d kvs) (h1:kvs.length≤1)
  (hv:∀ kv ∈ kvs,SeqAt.EqAt A s kv.2 kv.2 true) (q:Q (.bool true) s) :
  wpAny (model prog w) A (Builtin.«dict.__eq__» ⟨[.ref d,.ref d],[]⟩) (fun fin s'=>∃ v,fin = .done (.ret v)∧Q v s') E s:=by
 obtain ⟨o,es,ep,ho,ed,hda,hk,hp,nd⟩:=id hm
 show wpAny _ _ (isInstance (.ref d) (.type "dict") >>= _) _ _ s
 refine wpAny_bind (wpAny_isInstance (b:=true) hm.typeIs (by rw [isSubtype_type]; kernel_rfl) ?_)
 show wpAny _ _ (Builtin.Dict.samePairs _ d d >>= _) _ _ s
 refine wpAny_bind ?_
 unfold Builtin.Dict.samePairs
 have sa:Builtin.Dict.showsAll d = pure ():=by unfold Builtin.Dict.showsAll; rw [hd]; rfl
 rw [sa]
 refine wpAny_bind (wpAny_pure (wpAny_bind (wpAny_pure ?_)))
 refine wpAny_bind (wpAny_dictEntries ho hda ?_)
 refine wpAny_bind (wpAny_dictEntries ho hda ?_)
 simp only [bne_self_eq_false,Bool.false_eq_true,if_false]
 refine wpAny_bind (wpAny_dictEpoch ho hda ?_)
 have hen:es.size = kvs.length:=by rw [← hp.length,Array.length_toList]
 have vv:∀ e,e ∈ es→SeqAt.EqAt A s e.val e.val true:=by
  intro e he
  obtain ⟨kv,hkv,ev⟩:∃ kv ∈ kvs,e.val = kv.2:=by
   clear hv q hm h1 hen nd
   have he':e ∈ es.toList:=he.1
   generalize es.toList = L at hp he'
   induction hp with
   | nil=>cases he'
   | cons a1 a2 a3 ih =>
    rcases List.mem_cons.mp he' with rfl | h
    ·exact ⟨_,List.mem_cons_self ..,a2⟩
    ·obtain ⟨kv,m,z⟩:=ih h
     exact ⟨kv,List.mem_cons_of_mem _ m,z⟩
  rw [ev]; exact hv kv hkv
 refine wpAny_bind ?_
 rw [Std.Legacy.Range.forIn_eq_forIn_range']
 refine wpAny_forIn_list _ (fun l (b:Option Bool × Unit) s'=>(∀ x ∈ l,x = 0∧0 < es.size)∧b = (none,())∧s' = s) _ ?_ ?_ _ _ ⟨?_,rfl,rfl⟩
 ·rintro x rest b s' ⟨hx,rfl,rfl⟩
  obtain ⟨rfl,hx0⟩:=hx x (List.mem_cons_self ..)
  refine wpAny_bind (wpAny_dictEntries ho hda ?_)
  have e0:es[0]? = some es[0]:=Array.getElem?_eq_getElem hx0
  rw [e0]
  obtain ⟨k',ke,kh⟩:=hk es[0] (Array.getElem_mem hx0)
  refine wpAny_bind (wpAny_holding (wpAny_bind ?_))
  rw [kh]
  refine wpAny_dictFind_of (knd:=knd) ke ho hda hk ?_
  have ef:(es.findIdx? fun e=>knd.is k' e.key) = some 0:=by
   rw [Array.findIdx?_eq_some_iff_getElem]
   exact ⟨hx0,ke,fun j hj=>absurd hj (Nat.not_lt_zero _)⟩
  rw [ef]
  refine wpAny_bind (wpAny_dictEntries ho hda ?_)
  rw [e0]
  refine wpAny_holding (vv _ (Array.getElem_mem hx0) prog w E _ ?_)
  simp only [Bool.not_true,Bool.false_eq_true,if_false]
  refine wpAny_bind (wpAny_dictEpoch ho hda ?_)
  simp only [bne_self_eq_false,Bool.false_eq_true,if_false]
  exact wpAny_pure ⟨fun y hy=>hx y (List.mem_cons_of_mem _ hy),rfl,rfl⟩
 ·rintro b s' ⟨_,rfl,rfl⟩
  exact wpAny_pure (wpAny_pure ⟨_,rfl,q⟩)
 ·intro x hx
  have:=List.mem_range'_1.mp hx
  simp only [Std.Legacy.Range.size] at this
  omega
end
section
variable {prog:Program} {w:World} {A:Around} {E:Value→Shared→Prop} {s:Shared}
end
section
variable {X:Cx}
theorem dk_at {pins:List (Addr × Obj)} {σ:L2.St} {H:Hp} {s:Shared} (I:Inv X pins σ H s) {a:Addr} {kvs:List (Key × V)} (e:H a = some (.dK kvs)):kvs.length≤sizeLine∧(a == sysModules) = false∧∃ vs,KV kvs vs∧s.heap.DictOf (mixKind X.prog X.w) a vs:=I.hok a _ e
def Sm1 (H:Hp) (x:V):Prop:=∀ a kvs,x = .ref a→H a = some (.dK kvs)→kvs.length≤1
def rEqM:R2:=fun x y H Q=>x = y∧Th H x∧Sm1 H x∧Q (.bl true) H
theorem op_eqM (hu:X.A.units < cLine):OpR X (compareOp .Eq) rEqM:=by
 intro pins s σ H x y v u Q I rx ry h
 obtain ⟨rfl,th,sm,q⟩:=h
 cases th with
 | int i=>exact op_eq pins s σ H _ _ v u Q I rx ry ⟨rfl,by simpa using q⟩
 | bl i=>exact op_eq pins s σ H _ _ v u Q I rx ry ⟨rfl,by simpa using q⟩
 | str i=>exact op_eq pins s σ H _ _ v u Q I rx ry ⟨rfl,by simpa using q⟩
 | non=>exact op_eq pins s σ H _ _ v u Q I rx ry ⟨rfl,by simpa using q⟩
 | @lst a xs h =>
  cases rx
  cases ry
  obtain ⟨its,r,pl,_⟩:=I.list (SqL.of h)
  refine SeqAt.eq_listAt (e:=fun _=>true) pl.isList pl.isList rfl hu (fun j h1 h2=>SeqAt.EqAt.same _) ⟨.bl true,H,I,?_,q⟩
  show _ = _
  rw [all_true fun _ _=>rfl]
 | @tup a xs h =>
  cases rx
  cases ry
  obtain ⟨its,r,pl,_⟩:=I.tuple (SqT.of h)
  refine SeqAt.eq_tupleAt (e:=fun _=>true) pl pl hu (fun j h1 h2=>SeqAt.EqAt.same _) ⟨.bl true,H,I,?_,q⟩
  show _ = _
  rw [all_true fun _ _=>rfl,beq_self_eq_true]
  rfl
 | @dct a kvs h =>
  cases rx
  cases ry
  obtain ⟨z0,hs,vs,r,dd⟩:=dk_at I h
  have hl:vs.length≤1:=by
   have h1:=sm a kvs rfl h
   have h2:kvs.length = vs.length:=by
    clear h dd h1 sm z0
    unfold KV at r
    induction r with
    | nil=>rfl
    | cons _ _ ih=>simp [ih]
   omega
  refine wpAny_richCompare_same_room (op:=.Eq) (T:="dict") (id:="dict.__eq__") dd.typeIs dd.typeIs F.slot_dict_eq ?_ hu
  refine wpAny_call_entry F.slot_dict_eq dd.typeIs F.entry_dict_eq ?_ (F.args_dict_eq_2 _ _)
  refine dict_eq_body (knd:=mixKind X.prog X.w) hs dd hl (fun _ _=>SeqAt.EqAt.same _) ?_
  exact ⟨(fun z=>nomatch z),.bl true,H,I,rfl,q⟩
end
def noStar:Expr→Bool
 | .Starred _ _=>false
 | _=>true
theorem star_cons {e:Expr} (h:noStar e = true) (rest:List Expr) (env:Env):starEach (e :: rest) env = (false,eval e env) :: starEach rest env:=by
 cases e <;> first | rfl | cases h
theorem pa_consN {X:Cx} {e:Expr} {es:List Expr} {te:TE} {t:TA} (ha:PE X e te) (hr:PA X es t) (hn:noStar e = true:=by rfl):PA X (e :: es) (tCons te t):=pa_cons ha hr (star_cons hn es X.env)
structure Sl (p:Prop):Prop where
 out:p
section
variable {X:Cx}
theorem ps_setS {i:Nat} {x:Str} {e:Expr} {te:TE} {pos pos':Pos} (hN:X.N.Nodup) (hi:X.N[i]? = some x) (hx:Loc X.env.scope x) (he:Sl (PE X e te)) (hs:swapsWith e (some (.Name x pos')) pos.line X.env = pure false:=by rfl) (hf:X.fn x = true∨X.env.scope.names.lookup x = some .local:=by first | exact .inl rfl | exact .inr rfl | assumption) :
  Sl (PS X (.Assign [.Name x pos'] e pos) (tAsg te (gName i))):=⟨ps_set hN hi hx he.out hs hf⟩
theorem pe_lstS {es:List Expr} {t:TA} {pos:Pos} (h:Sl (PA X es t)):Sl (PE X (.List es pos) (tLst t)):=⟨pe_lst h.out⟩
theorem pa_consS {e:Expr} {es:List Expr} {te:TE} {t:TA} (ha:PE X e te) (hr:Sl (PA X es t)) (hn:noStar e = true:=by rfl):Sl (PA X (e :: es) (tCons te t)):=⟨pa_consN ha hr.out hn⟩
theorem pa_nilS:Sl (PA X [] tNil):=⟨pa_nil⟩
end
end Ow
namespace Ow
open PySem PySem.Spec PyProof.Rows L2
theorem slE {X:Cx} {b:List Stmt} {R:TS→Prop} (h:∃ t,Sl (PSs X b t)∧R t):∃ t,PSs X b t∧R t:=let ⟨t,a,r⟩:=h; ⟨t,a.out,r⟩
end Ow
namespace Ow
open PySem PySem.Spec PyProof.Rows L2
theorem slIn {p:Prop} (h:p):Sl p:=⟨h⟩
section
variable {X:Cx} {st:Stmt} {rest body:List Stmt} {t u tb:TS} {e:Expr} {es:List Expr} {te:TE} {ta:TA} {pos:Pos}
theorem pss_oneZ (h:Sl (PS X st t)):Sl (PSs X [st] t):=⟨pss_one h.out⟩
theorem pss_consZ (h1:Sl (PS X st t)) (h2:Sl (PSs X rest u)):Sl (PSs X (st :: rest) (tSeq t u)):=⟨pss_cons h1.out h2.out⟩
theorem pa_consZ (ha:Sl (PE X e te)) (hr:Sl (PA X es ta)) (hn:noStar e = true:=by rfl):Sl (PA X (e :: es) (tCons te ta)):=⟨pa_consN ha.out hr.out hn⟩
theorem pe_tupZ {x1:Nat} (h:Sl (PA X es ta)):Sl (PE X (.Tuple es x1 pos) (tTup ta)):=⟨pe_tup h.out⟩
theorem pe_opZ {a b:Expr} {op:Operator} {r:R2} {t1 t2:TE} (hr:OpR X (binaryOp op) r) (ha:Sl (PE X a t1)) (hb:Sl (PE X b t2)):Sl (PE X (.BinOp a op b pos) (tOp r t1 t2)):=⟨pe_op hr ha.out hb.out⟩
end
end Ow
namespace Ow
open PySem PySem.Spec PyProof.Rows L2
structure MHasY (P:Program) (w:World) (K:PySem.W.Frag) (mg:Str→Option Value) (base:Heap) (k:Nat) (C:Addr) (m:Str) (ps:List Str) (sp:Sp):Prop where
 cl:Cls K C
 ex:∃ (f:Addr) (fd:FuncData),Meth K C m f∧FnOk P w K mg base (CX2 P w base) k f fd ps sp∧Binds K fd ps []
section
variable {X:Cx}
theorem call_strW:CallR X (.type "str") (fun xs H Q=>∃ i:Int,xs = [.int i]∧-1000000000000000000≤i∧i≤1000000000000000000∧Q (.str (Str.ofString (toString i))) H):=by
 intro pins s σ H xs us Q I r h
 obtain ⟨i,rfl,i0,i1,q⟩:=h
 obtain ⟨u,rfl,t,rfl⟩:=vals1 r
 exact str_of_int_fit (N:=4611686018427387904) (by split <;> omega) (by omega) fun _=>⟨.str _,H,I.tok _,⟨_,rfl⟩,q⟩
def tTxt (te:TE):TT:=fun σ H Q=>te σ H fun x H1=>∃ z:Str,x = .str z∧z.length≤sizeLine∧Q (decide (z.length ≠ 0)) H1
theorem pt_txt {e:Expr} {t:TE} (h:PE X e t) (he:∀ whole,isTrue e X.env whole = (do let v ← whole; standAt e.pos; holding [v] (truthy v)):=by intro _; rfl):PT X e (tTxt t):=by
 intro pins s σ H Q I hw
 refine isTrue_plain (thn (h pins s σ H _ I hw) fun v s1 ⟨x,H1,I1,r1,q1⟩=>?_) (he _)
 obtain ⟨z,rfl,hz,q⟩:=q1
 obtain ⟨t',rfl⟩:=r1
 refine P.truthy_str (by have:=sizeLine_eq; omega) ⟨H1,I1.kept (t':=_) (fun b u e=>e),?_⟩
 have e:((z.length:Int) != 0) = decide (z.length ≠ 0):=by
  by_cases c:z.length = 0
  ·rw [c]; rfl
  ·rw [decide_eq_true c,bne_iff_ne]; omega
 rw [e]
 exact q
end
end Ow
namespace Ow
open PySem PySem.Spec PyProof.Rows L2
def cxLamY (X:Cx) (N:List Str) (qual:Str) (scope:Scope) (f:Addr) (cd:Value) (cl:List (Str × Addr)) (s:Shared) (H:Hp) (E:XK):Cx :=
 (cxLam X N qual scope f cd cl s H).wish fun e s'=>wpAny (model X.prog X.w) (X.A.deeper (PySem.W.envX qual scope s.heap.objs.size f cd cl)) (leaving (PySem.W.envX qual scope s.heap.objs.size f cd cl) e)
  (fun _ s''=>CX2 X.prog X.w X.base X.stack H s E e s'') (fun e' s''=>CX2 X.prog X.w X.base X.stack H s E e' s'') s'
section
variable {X:Cx} {N:List Str} {qual:Str} {scope:Scope} {f:Addr} {cd:Value} {cl:List (Str × Addr)} {s₀:Shared} {H₀:Hp} {E:XK}
theorem passLY:Passes (CX2 X.prog X.w X.base) (cxLamY X N qual scope f cd cl s₀ H₀ E) E:=by
 intro pins σ H s e s' I hq
 obtain ⟨a,cls,a0,B,H2,dd,rfl,hos,hba,G,sl,fl,ha0,D,hw⟩:=hq
 have nof:∀ b o,s₀.heap.get? b = some o→b ∉ frs X.stack→b ∉ frs (PySem.W.envX qual scope s₀.heap.objs.size f cd cl :: X.stack):=fun b o e1 nb hm=>by
  rcases List.mem_cons.mp (I.stkSub b hm) with z | z
  ·exact Nat.lt_irrefl _ (Nat.lt_of_lt_of_le (z ▸ Heap.lt_size e1) I.ok.above)
  ·exact nb z
 have nx:∀ b:Addr,b ∉ ([]:List Addr):=fun b z=>nomatch z
 have sub:∀ b ∈ frs X.stack,b ∈ frs (PySem.W.envX qual scope s₀.heap.objs.size f cd cl :: X.stack):=fun b hb=>by
  obtain ⟨en,he,hf⟩:=List.mem_filterMap.mp hb
  exact List.mem_filterMap.mpr ⟨en,List.mem_cons_of_mem _ he,hf⟩
 refine leave_own I.ok.frames rfl fl D fun h2 fl2 D2 up=>?_
 refine ⟨a,cls,a0,B,H2,dd,rfl,hos.trans I.os,hba,⟨G.st,fun b o e1 n nb=>G.keep b o (I.base.keep b o e1 n nb (nx b)) (I.base.free b o e1 n (nx b)) (nof b o e1 nb),fun b o e1 n=>?_,fun b o e1 nb=>?_,
  fun b xs z=>G.tups b xs (I.base.tups b xs z),fun b o u z=>G.frzs b o u (I.base.frzs b o u z),fun b ps z=>?_,G.hok⟩,fun b hb o e1=>?_,fl2,ha0,D2,hw⟩
 ·obtain ⟨o',e2⟩:=I.base.there b o e1 (nx b)
  exact G.free b o' e2 (I.base.free b o e1 n (nx b))
 ·obtain ⟨o',e2⟩:=I.base.there b o e1 (nx b)
  exact G.there b o' e2 (nof b o e1 nb)
 ·obtain ⟨m1,e1⟩:=I.base.tbls b ps z
  obtain ⟨m2,e2⟩:=G.tbls b _ e1
  exact ⟨m1 ++ m2,by rw [e2,Array.append_assoc]⟩
 ·obtain ⟨l1,e2⟩:=I.base.slot b o e1 (I.ok.frf b hb) hb (nx b)
  obtain ⟨l2,e3⟩:=sl b (sub b hb) _ e2
  obtain ⟨_,o1,e4,d⟩:=fl.2.2.1.mem (sub b hb)
  rw [e3] at e4
  cases e4
  obtain ⟨l3,e5⟩:=up b _ e3 d
  exact ⟨l3,e5⟩
end
section
variable {X:Cx} {pins:List (Addr × Obj)} {σ:L2.St} {H:Hp} {s:Shared} {cl:List (Str × Addr)} {ns:List Str} {vals:List V}
theorem lam_runY {name qual:Str} {params:Arguments} {body:Expr} {scope:Scope} {f c':Addr} {pm ctv:Value} {x:Str} {v:V} {u:Value} {Q:VK} {E:XK} {te:TE} {fs:List Addr} {k:Nat} (I:Inv X pins σ H s) (hc:X.calm = true) (hr:Room k X.A)
  (ho:s.heap.get? f = some (PySem.W.kla_obj name qual params body scope cl pm c' ctv)) (hcd:s.heap.CodeRec (.ref c') qual)
  (hbind:bindArgs (PySem.W.kla_fn name qual params body scope cl pm (.ref c') ctv) ⟨[u],[]⟩ = pure [(x,u)])
  (hco:scope.isCoroutine = false) (hgen:scope.isGenerator = false) (hcell:∀ y ∈ scope.names,y.2 ≠ .cell)
  (hkind:scope.kind = .function) (hx:scope.names.lookup x = some .local) (hns:∀ y ∈ ns,scope.names.lookup y = some .free)
  (hfree:∀ y,(scope.names.lookup y = some .cell∨scope.names.lookup y = some .free)→∃ c,cl.lookup y = some c)
  (C:Cells s.heap H fs cl ns vals) (hl:vals.length = ns.length) (r:RelV v u)
  (hb:PE (cxLamY X (x :: ns) qual scope f (.ref c') cl s H E) body te) (hq:te (some v :: vals.map some) H Q) :
  codeAny (model X.prog X.w) X.A (.call (.ref f) ⟨[u],[]⟩) (CR (CX2 X.prog X.w X.base) X.stack X.prog X.w H s Q E) s:=by
 refine PySem.W.kla_callFunE hr.depth ho rfl hco hgen rfl hcd ?_
 rw [hbind]
 refine wpAny_pure (wpAny_newFunctionEnv hcell (fun y hy=>?_) (fun h₁ n1 hsb=>?_) hkind)
 ·have e:y = (x,u):=by simpa using hy
  rw [e]; exact hx
 ·have hk₁:∀ b o,s.heap.get? b = some o→h₁.get? b = some o:=fun b o e=>hsb.extBut b o (Nat.ne_of_lt (Heap.lt_size e)) (Heap.get?_push_of_some _ e)
  refine ⟨I.nolimit.keeps hk₁,?_⟩
  show codeAny _ _ (.expr body (PySem.W.envX qual scope s.heap.objs.size f (.ref c') cl)) _ _
  have J:=inv_lam (qual:=qual) (f:=f) (cd:=.ref c') (t':=s.toks + 1) I hc hkind hx hns hfree C hl r n1 hk₁
  refine PySem.W.kla_codeExpr (wpAny_mono (hb [] _ _ H Q (J.wish _) hq) (fun z s' hz=>?_) fun e s' z=>z)
  obtain ⟨v',H',J',rv,q⟩:=hz
  exact ⟨v',H',J'.os,J'.bare,J'.base,J'.hok,rv,q⟩
end
structure LamD where
 name:Str
 qual:Str
 params:Arguments
 body:Expr
 scope:Scope
 cl:List (Str × Addr)
 ns:List Str
 vals:List V
 x:Str
 te:XK→TE
def LamD.at (L:LamD) (H:Hp) (f:Addr):Prop:=Clo L.name L.qual L.params L.body L.scope L.cl H f
structure LamD.Ok (L:LamD) (X:Cx):Prop where
 hl:L.vals.length = L.ns.length
 bind:∀ (pm ctv:Value) (c':Addr) (u:Value),bindArgs (PySem.W.kla_fn L.name L.qual L.params L.body L.scope L.cl pm (.ref c') ctv) ⟨[u],[]⟩ = pure [(L.x,u)]
 co:L.scope.isCoroutine = false
 gen:L.scope.isGenerator = false
 cell:∀ y ∈ L.scope.names,y.2 ≠ .cell
 kind:L.scope.kind = .function
 hx:L.scope.names.lookup L.x = some .local
 hns:∀ y ∈ L.ns,L.scope.names.lookup y = some .free
 free:∀ y,(L.scope.names.lookup y = some .cell∨L.scope.names.lookup y = some .free)→∃ c,L.cl.lookup y = some c
 C:Cells X.s₀.heap X.H₀ X.fs L.cl L.ns L.vals
 hb:∀ f c' s H E,PE (cxLamY X (L.x :: L.ns) L.qual L.scope f (.ref c') L.cl s H E) L.body (L.te E)
structure LamD.Good (P:Program) (w:World) (K:PySem.W.Frag) (mg:Str→Option Value) (base:Heap) (k:Nat) (L:LamD):Prop where
 hl:L.vals.length = L.ns.length
 bind:∀ (pm ctv:Value) (c':Addr) (u:Value),bindArgs (PySem.W.kla_fn L.name L.qual L.params L.body L.scope L.cl pm (.ref c') ctv) ⟨[u],[]⟩ = pure [(L.x,u)]
 co:L.scope.isCoroutine = false
 gen:L.scope.isGenerator = false
 cell:∀ y ∈ L.scope.names,y.2 ≠ .cell
 kind:L.scope.kind = .function
 hx:L.scope.names.lookup L.x = some .local
 hns:∀ y ∈ L.ns,L.scope.names.lookup y = some .free
 free:∀ y,(L.scope.names.lookup y = some .cell∨L.scope.names.lookup y = some .free)→∃ c,L.cl.lookup y = some c
 hb:∀ X:Cx,X.prog = P→X.w = w→X.K = K→X.mg = mg→X.base = base→Room k X.A→∀ f c' s H E,PE (cxLamY X (L.x :: L.ns) L.qual L.scope f (.ref c') L.cl s H E) L.body (L.te E)
theorem LamD.Good.ok {L:LamD} {X:Cx} {k:Nat} (g:L.Good X.prog X.w X.K X.mg X.base k) (hr:Room k X.A) (C:Cells X.s₀.heap X.H₀ X.fs L.cl L.ns L.vals):L.Ok X :=
 ⟨g.hl,g.bind,g.co,g.gen,g.cell,g.kind,g.hx,g.hns,g.free,C,g.hb X rfl rfl rfl rfl rfl hr⟩
def tCallVT (X:Cx) (E:L2.St→XK) (i:Nat) (ta:TE):TE:=fun σ H Q=>∃ (L:LamD) (f:Addr),σ[i]? = some (some (.ref f))∧L.Ok X∧L.at H f∧ta σ H fun v H1=>L.at H1 f∧L.te (E σ) (some v :: L.vals.map some) H1 Q
theorem pe_callVT {X:Cx} {pins:List (Addr × Obj)} {E:L2.St→XK} {ta:TE} {i k:Nat} {y:Str} {p pos:Pos} {e:Expr} (hc:X.calm = true) (hex:X.ex = []) (hr:Room k X.A)
  (hN:X.N[i]? = some y) (hv:Vis X.env.scope y) (ha:PE (tryCy X pins E) e ta)
  (hd:(y == ("__debug__":Str)) = false:=by decide) (hcd:(y == ("__classdict__":Str)) = false:=by decide) (he:starEach [e] X.env = (false,eval e X.env) :: starEach [] X.env:=by rfl) (hpl:(backTo pos (starEach [] X.env)).any (·.1) = false:=by rfl) :
  PE (tryCy X pins E) (.Call (.Name y p) [e] [] pos) (tCallVT X E i ta):=by
 intro pins2 s σ H Q I h
 obtain ⟨L,f,hi,ok,c0,h⟩:=h
 have atF:∀ {H:Hp} {s:Shared},Inv (tryCy X pins E) pins2 σ H s→L.at H f→PySem.W.FnAt f s.heap:=fun J ⟨pm,c',ctv,e1,e2⟩=>by
  obtain ⟨z,_⟩:=J.hok f _ e1
  exact ⟨_,_,_,_,z⟩
 refine wpAny_Call_Name_kw (thn (pe_var (X:=tryCy X pins E) (pos:=p) hN hv hd hcd pins2 s σ H (fun v H1=>v = .ref f∧H1 = H) I ⟨.ref f,hi,rfl,rfl⟩) fun u s1 ⟨v,H1,I1,rv,hv1⟩=>?_)
 obtain ⟨rfl,rfl⟩:=hv1
 obtain rfl:u = Value.ref f:=rv
 refine PySem.W.callWith_F (first:=[]) (atF I1 c0) (thn ((pa_cons ha pa_nil he) pos pins2 s1 σ _ (fun vs H2=>match vs with | [v]=>L.at H2 f∧L.te (E σ) (some v :: L.vals.map some) H2 Q | _=>False) I1 h) fun us s2 ⟨vs,H2,I2,rv,q2⟩=>?_) he hpl
 match vs,us,rv,q2 with
 | [v],_,.cons (b:=u) r1 .nil,q2 =>
  obtain ⟨c2,q2⟩:=q2
  refine ⟨atF I2 c2,?_⟩
  obtain ⟨pm,c',ctv,e1,e2⟩:=c2
  obtain ⟨z1,_⟩:=I2.hok f _ e1
  obtain ⟨z2,_⟩:=I2.hok c' _ e2
  refine wpAny_call (codeAny_mono (lam_runY (X:=tryCy X pins E) I2 hc hr z1 z2 (ok.bind pm ctv c' u) ok.co ok.gen ok.cell ok.kind ok.hx ok.hns ok.free (Cells.keep (X:=tryCy X pins E) ok.C I2 hex) ok.hl r1 (ok.hb f c' s2 H2 (E σ)) q2) fun r s' hq=>?_)
  cases r with
  | error ev=>exact ⟨pins2,σ,H2,s2,I2.unwish,hq⟩
  | ok fl =>
   cases fl with
   | ret u=>exact I2.after hq
   | next=>exact False.elim hq
   | brk=>exact False.elim hq
   | cont=>exact False.elim hq
structure CHasY (P:Program) (w:World) (K:PySem.W.Frag) (mg:Str→Option Value) (base:Heap) (k:Nat) (C:Addr) (x:Str) (ps:List Str) (sp:Sp):Prop where
 ex:∃ (f:Addr) (fd:FuncData),Mk K C f∧FnOk P w K mg base (CX2 P w base) k f fd ps sp∧Binds K fd ps []∧mg x = some (.ref C)
section
variable {X:Cx} {E:XK} {k:Nat} {x:Str} {ps:List Str} {sp:Sp} {p pos apos:Pos} {e o:Expr} {es:List Expr} {ta:TE} {t:TA}
theorem pe_mkY {C:Addr} (hx:Passes (CX2 X.prog X.w X.base) X E) (h:CHasY X.prog X.w X.K X.mg X.base k C x ps sp) (hr:Room (k + 1) X.A) (hg:Gl X x) (ha:PA X (e :: es) t) (hdb:(x == ("__debug__":Str)) = false:=by decide)
  (he:starEach (e :: es) X.env = (false,eval e X.env) :: starEach es X.env:=by rfl) (hpl:(backTo pos (starEach es X.env)).any (·.1) = false:=by rfl) :
  PE X (.Call (.Name x p) (e :: es) [] pos) (tMake C sp [] E t):=by
 obtain ⟨f,fd,M,F,b,m⟩:=h.ex
 exact pe_make M F hr hg m b .nil hx ha hdb he hpl
theorem pe_fnYP (hx:Passes (CX2 X.prog X.w X.base) X E) (h:HasY X.prog X.w X.K X.mg X.base k x ps sp) (hr:Room k X.A) (hg:Gl X x) (ha:PA X (e :: es) t) (hdb:(x == ("__debug__":Str)) = false:=by decide)
  (he:starEach (e :: es) X.env = (false,eval e X.env) :: starEach es X.env:=by rfl) (hpl:(backTo pos (starEach es X.env)).any (·.1) = false:=by rfl) :
  PE X (.Call (.Name x p) (e :: es) [] pos) (tCall sp [] E t):=by
 obtain ⟨fa,fd,F,b,kp,m⟩:=h.ex
 exact pe_call F hr hg m kp b .nil hx ha hdb he hpl
def tMethY (X:Cx) (E:XK) (k:Nat) (m:Str) (ta:TE) (t:TA):TE:=fun σ H Q=>ta σ H fun x H1=>∃ (a C dx:Addr) (fs:List (Str × V)) (ps:List Str) (sp:Sp),x = .ref a∧H1 a = some (.ins C dx fs)∧fs.lookup m = none ∧
 MHasY X.prog X.w X.K X.mg X.base k C m ps sp∧t σ H1 fun vs H2=>sp (x :: (vs ++ [])) H2 Q E
theorem pe_methY {m:Str} {pl:Sem Bool} (hx:Passes (CX2 X.prog X.w X.base) X E) (he:PE X o ta) (hr:Room k X.A) (ha:PA X (e :: es) t)
  (hst:starEach (e :: es) X.env = (false,eval e X.env) :: starEach es X.env:=by rfl) (hpl:(backTo pos (starEach es X.env)).any (·.1) = false:=by rfl)
  (ht:eval (.Call (.Attribute o m apos) (e :: es) [] pos) X.env = (do
   let ov ← eval o X.env
   standAt apos.atName
   let (f,first) ← holding [ov] (getMethod ov m pl)
   callWith pos f first (backTo pos (starEach (e :: es) X.env)) (backToKw pos (keywordEach [] X.env))):=by rfl) :
  PE X (.Call (.Attribute o m apos) (e :: es) [] pos) (tMethY X E k m ta t):=by
 intro pins2 s σ H Q I h
 refine PySem.W.methodCall_KW (pl:=pl) (thn (he pins2 s σ H _ I h) fun u s1 ⟨x,H1,I1,rx,a,C,dx,fs,ps,sp,ex,ea,l,M,q⟩=>?_) ht
 subst ex
 obtain rfl:u = Value.ref a:=rx
 obtain ⟨f,fd,hm,F,hbi⟩:=M.ex
 refine getmeth_ok I1 ea M.cl hm l ?_
 refine PySem.W.callWith_K (first:=[.ref a]) (h₀:=X.base) I.ok.mod.kin hm.kp (thn (ha pos pins2 s1 σ H1 _ I1 q) fun us s2 ⟨vs,H2,I2,r1,q1⟩=>⟨I2.kIn,?_⟩) hst hpl
 have r2:Vals (V.ref a :: (vs ++ [])) (Value.ref a :: us):=.cons rfl (by rw [List.append_nil]; exact r1)
 have hl:(Value.ref a :: us).length = ps.length:=by rw [← r2.length]; exact F.len _ _ _ _ q1
 have bd:=hbi s2 (Value.ref a :: us) I2.kIn (by rw [List.append_nil]; exact hl)
 rw [List.append_nil] at bd
 refine wpAny_call (codeAny_mono (F.run X.A X.stack s2 H2 ⟨Value.ref a :: us,[]⟩ (Value.ref a :: us) _ _ _ hr I2.env0 bd r2 q1) fun r s' hq=>?_)
 cases r with
 | error ev=>exact hx _ _ _ _ _ _ I2 hq
 | ok fl =>
  cases fl with
  | ret u=>exact I2.after hq
  | next=>exact False.elim hq
  | brk=>exact False.elim hq
  | cont=>exact False.elim hq
end
end Ow
namespace L2
open PySem PySem.Spec PyProof.Rows
def TabA (P:Addr) (qual:Str) (H:Hp):Prop:=∃ ps:Array Value,H P = some (.tbl ps)∧TriplesOk ps.toList ∧
 ∀ pos:Pos,codeAmong pos ps.toList = none∨∃ c',codeAmong pos ps.toList = some (.ref c')∧H c' = some (.ext fun h=>h.CodeRec (.ref c') qual)
theorem among_snoc {pos pos':Pos} {c:Value}:∀ (l:List Value),TriplesOk l→codeAmong pos' (l ++ [rawInt pos.line,rawInt pos.col,c]) = (codeAmong pos' l).or (if (pos.line:Int) == pos'.line && (pos.col:Int) == pos'.col then some c else none)
 | [],_=>by
  show (if _ then _ else codeAmong pos' []) = _
  rfl
 | .int a _ :: .int b _ :: x :: r,h=>by
  show (if a == pos'.line && b == pos'.col then some x else codeAmong pos' (r ++ _)) = (if a == pos'.line && b == pos'.col then some x else codeAmong pos' r).or _
  rw [among_snoc (pos:=pos) (c:=c) r h]
  split <;> rfl
def tLamA (P:Addr) (qual:Str) (params:Arguments) (body:Expr) (scope:Scope) (cl:List (Str × Addr)):TE:=fun _ H Q=>TabA P qual H ∧
 ∀ f H',(∀ a u,a ≠ P→H a = some u→H' a = some u)→H f = none→Clo "<lambda>" qual params body scope cl H' f→TabA P qual H'→Q (.ref f) H'
section
variable {X:Cx}
theorem pe_lamA {params:Arguments} {body:Expr} {scope:Scope} {pos:Pos} {c P:Addr} {cl:List (Str × Addr)} {qual:Str} (B:LamBase X.mg X.base c P) (hcode:X.env.code = .ref c) (hcl:closureFor scope X.env = pure cl) (hq:X.env.qual ++ "<lambda>" = qual)
  (hdef:defaultsOf params X.env = ([],[]):=by rfl):PE X (.Lambda params body scope pos) (tLamA P qual params body scope cl):=by
 intro pins s σ H Q I h
 obtain ⟨⟨ps,eP,ht,hit⟩,h⟩:=h
 have hP:s.heap.get? P = some (PySem.W.tabObj ps):=I.hok P _ eP
 have hg:s.heap.Ns mainGlobals X.mg:=I.mod.glob.keeps I.bk
 have C:PySem.W.CodeHd s.heap c P:=B.code.keeps I.bk
 have hgP:mainGlobals ≠ P:=fun q=>by
  obtain ⟨o,es,ep,e,hd,_⟩:=hg
  rw [q,hP] at e; cases e; cases hd
 have hb:s.heap.BuiltinsAt X.mg P:=by
  obtain ⟨bm,ob,b1,b2,b3,b4,b5,b6⟩:=B.bm
  refine ⟨bm,ob,b1,b2,fun q=>?_,fun q=>?_,I.bk _ _ b3,b4,b5,b6⟩
  ·obtain ⟨o,es,ep,e,hd,_⟩:=I.mod.glob
   rw [q,e] at b3; cases b3; rw [hd] at b6; cases b6
  ·have e:=I.bk _ _ b3
   rw [q,hP] at e; cases e; cases b4
 refine PySem.W.kla_eval hdef ?_
 rw [hq]
 have hP1:P < s.heap.objs.size:=Heap.lt_size hP
 rcases hit pos with hnf | ⟨c',hf,ec⟩
 ·refine PySem.W.kla_makeFunction hcl I.ok.glob hg hcode C hP ht hnf hgP hb fun c' ctv h' tk hx hge hlt hrec htb=>?_
  have hsz:s.heap.objs.size≤h'.objs.size:=Nat.le_trans hge (Nat.le_of_lt hlt)
  have nc:H c' = none:=I.hok.fresh hge
  have nf:H h'.objs.size = none:=I.hok.fresh hsz
  have ncf:c' ≠ h'.objs.size:=Nat.ne_of_lt hlt
  have ncP:c' ≠ P:=fun z=>absurd hP1 (by rw [← z]; exact Nat.not_lt.mpr hge)
  have nfP:h'.objs.size ≠ P:=fun z=>absurd hP1 (by rw [← z]; exact Nat.not_lt.mpr hsz)
  generalize hps:ps ++ #[rawInt pos.line,rawInt pos.col,.ref c'] = ps' at htb
  let H':Hp:=upd (upd (upd H P (.tbl ps')) c' (.ext fun h=>h.CodeRec (.ref c') qual)) h'.objs.size (.ext fun h=>h.get? h'.objs.size = some (PySem.W.kla_obj "<lambda>" qual params body scope cl ((X.mg "__name__").getD .none) c' ctv))
  have u1:∀ a,a ≠ P→a ≠ c'→a ≠ h'.objs.size→H' a = H a:=fun a n1 n2 n3=>by
   show upd (upd (upd H P _) c' _) _ _ a = _
   rw [upd_ne n3,upd_ne n2,upd_ne n1]
  have u2:H' P = some (.tbl ps'):=by
   show upd (upd (upd H P _) c' _) _ _ P = _
   rw [upd_ne (Ne.symm nfP),upd_ne (Ne.symm ncP),upd_same]
  have u3:H' c' = some (.ext fun h=>h.CodeRec (.ref c') qual):=by
   show upd (upd (upd H P _) c' _) _ _ c' = _
   rw [upd_ne ncf,upd_same]
  have u4:H' h'.objs.size = some (.ext fun h=>h.get? h'.objs.size = some (PySem.W.kla_obj "<lambda>" qual params body scope cl ((X.mg "__name__").getD .none) c' ctv)):=upd_same
  have keepH:∀ a u,a ≠ P→H a = some u→H' a = some u:=fun a u n e=>by
   rw [u1 a n (ne_of_none e nc) (ne_of_none e nf)]; exact e
  let o':=PySem.W.kla_obj "<lambda>" qual params body scope cl ((X.mg "__name__").getD .none) c' ctv
  have k1:∀ b o,b ≠ P→s.heap.get? b = some o→(h'.push o').get? b = some o:=fun b o n e=>Heap.get?_push_of_some _ (hx b o n e)
  have nP:∀ b,H b = none→b ≠ P:=fun b n z=>by rw [z,eP] at n; cases n
  have un:Un X.fs [] H H' s.heap (h'.push o'):=⟨fun b o e n _ _=>k1 b o (nP b n) e,fun b o e n _ _=>⟨o.slots,k1 b o (nP b n) e⟩,
   fun b o e n _=>by
    have hb:=Heap.lt_size e
    rw [u1 b (nP b n) (fun z=>absurd hb (by rw [z]; exact Nat.not_lt.mpr hge)) (fun z=>absurd hb (by rw [z]; exact Nat.not_lt.mpr hsz))]; exact n,
   fun b o e _=>by
    by_cases z:b = P
    ·rw [z]; exact ⟨_,Heap.get?_push_of_some _ htb⟩
    ·exact ⟨o,k1 b o z e⟩,
   fun b xs e=>keepH b _ (fun z=>by rw [z,eP] at e; cases e) e,fun b o u e=>keepH b _ (fun z=>by rw [z,eP] at e; cases e) e,
   fun b qs e=>by
    by_cases z:b = P
    ·rw [z,eP] at e
     cases e
     refine ⟨#[rawInt pos.line,rawInt pos.col,.ref c'],?_⟩
     rw [z,u2,hps]
    ·exact ⟨#[],by rw [keepH b _ z e]; simp⟩⟩
  have hok:HOk X.prog X.w H' (h'.push o'):=fun b u e=>by
   by_cases z1:b = h'.objs.size
   ·subst z1
    rw [u4] at e; cases e
    exact ⟨Heap.get?_push_size _ rfl,⟨_,Heap.get?_push_size _ rfl⟩,fun h1 h2 e1 kk=>kk _ e1⟩
   ·by_cases z2:b = c'
    ·subst z2
     rw [u3] at e; cases e
     obtain ⟨c₂,oc,vs,t,e2,hoc,hd,hv⟩:=hrec
     cases e2
     refine ⟨⟨_,oc,vs,t,rfl,Heap.get?_push_of_some _ hoc,hd,hv⟩,⟨oc,Heap.get?_push_of_some _ hoc⟩,fun h1 h2 ⟨c₂,oc,vs,t,e2,hoc,hd,hv⟩ kk=>?_⟩
     cases e2
     exact ⟨_,oc,vs,t,rfl,kk _ hoc,hd,hv⟩
    ·by_cases z3:b = P
     ·subst z3
      rw [u2] at e; cases e
      exact Heap.get?_push_of_some _ htb
     ·rw [u1 b z3 z2 z1] at e
      refine (I.hok b u e).stay (fun d v hd q=>k1 d v (fun z=>?_) q) (fun d q=>keepH d _ (fun z=>by rw [z,eP] at q; cases q) q) fun d xs q=>keepH d _ (fun z=>by rw [z,eP] at q; cases q) q
      rcases hd with y | y
      ·exact z3 (y.symm.trans z)
      ·rw [z,eP] at y; cases y
  refine ⟨.ref h'.objs.size,H',I.un (h':=h'.push o') (t':=tk) un hok,rfl,h _ H' keepH nf ⟨_,c',ctv,u4,u3⟩ ⟨ps',u2,?_,fun pos'=>?_⟩⟩
  ·rw [← hps,Array.toList_append]
   exact triples_snoc _ ht
  ·rw [← hps,Array.toList_append]
   have e1:=among_snoc (pos:=pos) (pos':=pos') (c:=.ref c') _ ht
   show codeAmong pos' (ps.toList ++ [rawInt pos.line,rawInt pos.col,.ref c']) = none∨∃ d,codeAmong pos' (ps.toList ++ [rawInt pos.line,rawInt pos.col,.ref c']) = some (.ref d)∧_
   rw [e1]
   rcases hit pos' with z | ⟨d,z1,z2⟩
   ·rw [z]
    by_cases g:((pos.line:Int) == pos'.line && (pos.col:Int) == pos'.col) = true
    ·rw [if_pos g]
     exact .inr ⟨c',rfl,u3⟩
    ·rw [if_neg g]
     exact .inl rfl
   ·rw [z1]
    exact .inr ⟨d,rfl,keepH _ _ (fun y=>by rw [y,eP] at z2; cases z2) z2⟩
 ·refine PySem.W.kla_makeFunctionHit hcl I.ok.glob hg hcode C hP ht hf hb fun ctv h' tk hk hsz=>?_
  have nf:H h'.objs.size = none:=I.hok.fresh hsz
  let o':=PySem.W.kla_obj "<lambda>" qual params body scope cl ((X.mg "__name__").getD .none) c' ctv
  let H':Hp:=upd H h'.objs.size (.ext fun h=>h.get? h'.objs.size = some o')
  have keepH:∀ a u,H a = some u→H' a = some u:=fun a u e=>by
   show upd H _ _ a = _
   rw [upd_ne (ne_of_none e nf)]; exact e
  have u4:H' h'.objs.size = some (.ext fun h=>h.get? h'.objs.size = some o'):=upd_same
  refine ⟨.ref h'.objs.size,H',I.laid (h':=h'.push o') (t':=tk) (fun b o e=>Heap.get?_push_of_some _ (hk b o e)) hsz ?_,rfl,h _ H' (fun a u _ e=>keepH a u e) nf ⟨_,c',ctv,u4,keepH _ _ ec⟩ ⟨ps,keepH _ _ eP,ht,fun pos'=>?_⟩⟩
  ·exact ⟨Heap.get?_push_size _ rfl,⟨_,Heap.get?_push_size _ rfl⟩,fun h1 h2 e1 kk=>kk _ e1⟩
  ·rcases hit pos' with z | ⟨d,z1,z2⟩
   ·exact .inl z
   ·exact .inr ⟨d,z1,keepH _ _ z2⟩
end
end L2
namespace Ow
open PySem PySem.Spec PyProof.Rows L2
abbrev Apart (l:List Addr):Prop:=l.Nodup
theorem tabA_nil {P:Addr} {q:Str} {H:Hp} (h:H P = some (.tbl #[])):TabA P q H:=⟨#[],h,trivial,fun _=>.inl rfl⟩
def Kp (H H':Hp):Prop:=∀ a u,(∀ ps,u ≠ .tbl ps)→H a = some u→H' a = some u
theorem Kp.refl (H:Hp):Kp H H:=fun _ _ _ e=>e
theorem Kp.trans {H H1 H2:Hp} (h1:Kp H H1) (h2:Kp H1 H2):Kp H H2:=fun a u n e=>h2 a u n (h1 a u n e)
theorem Kp.of {H H':Hp} (s:Same H H'):Kp H H':=fun a u _ e=>s a u e
theorem Kp.lam {P:Addr} {q:Str} {H H':Hp} (t:TabA P q H) (h:∀ a u,a ≠ P→H a = some u→H' a = some u):Kp H H':=fun a u n e=>h a u (fun z=>by
 obtain ⟨ps,e1,_⟩:=t
 rw [z,e1] at e; cases e; exact n _ rfl) e
theorem _root_.L2.TabA.keep {P:Addr} {q:Str} {H H':Hp} (t:TabA P q H) (h:∀ ps,H P = some (.tbl ps)→H' P = some (.tbl ps)) (k:∀ a φ,H a = some (.ext φ)→H' a = some (.ext φ)):TabA P q H':=by
 obtain ⟨ps,e,t1,z⟩:=t
 refine ⟨ps,h _ e,t1,fun pos=>?_⟩
 rcases z pos with z | ⟨c',z1,z2⟩
 ·exact .inl z
 ·exact .inr ⟨c',z1,k _ _ z2⟩
theorem _root_.L2.TabA.other {P P':Addr} {q q':Str} {H H':Hp} (t:TabA P q H) (ne:P ≠ P') (t':TabA P' q' H) (h:∀ a u,a ≠ P'→H a = some u→H' a = some u):TabA P q H':=t.keep (fun _ e=>h _ _ ne e) fun a φ e=>h _ _ (fun z=>by
 obtain ⟨ps,e1,_⟩:=t'
 rw [z,e1] at e; cases e) e
theorem LamD.at.keep {L:LamD} {H H':Hp} {f:Addr} (c:L.at H f) (k:∀ a φ,H a = some (.ext φ)→H' a = some (.ext φ)):L.at H' f :=
 let ⟨pm,c',ctv,e1,e2⟩:=c; ⟨pm,c',ctv,k _ _ e1,k _ _ e2⟩
theorem Kp.ext {H H':Hp} (k:Kp H H'):∀ a φ,H a = some (.ext φ)→H' a = some (.ext φ):=fun a φ e=>k a _ (fun _ z=>nomatch z) e
def LamD.In (L:LamD) (N:List Str) (env:Env) (σ:L2.St):Prop:=(∀ x c,L.cl.lookup x = some c→env.cells.lookup x = some c) ∧
 ∀ (i:Nat) y v,L.ns[i]? = some y→L.vals[i]? = some v→∃ (j:Nat) (c:Addr),N[j]? = some y∧σ[j]? = some (some v)∧env.kindOf y = some .cell∧L.cl.lookup y = some c
theorem LamD.In.cells {L:LamD} {X:Cx} {pins:List (Addr × Obj)} {σ:L2.St} {H:Hp} {s:Shared} (i:L.In X.N X.env σ) (I:Inv X pins σ H s) (hfn:∀ x,X.fn x = true):Cells s.heap H (frs X.stack) L.cl L.ns L.vals:=I.cells hfn i.1 i.2
def tMethL (P:Program) (w:World) (K:PySem.W.Frag) (mg:Str→Option Value) (base:Heap) (E:XK) (k:Nat) (m:Str) (ta:TE) (t:TA):TE:=fun σ H Q=>ta σ H fun x H1=>∃ (a C dx:Addr) (fs:List (Str × V)) (ps:List Str) (sp:Sp),x = .ref a∧H1 a = some (.ins C dx fs)∧fs.lookup m = none ∧
 MHasY P w K mg base k C m ps sp∧t σ H1 fun vs H2=>sp (x :: (vs ++ [])) H2 Q E
end Ow
namespace Ow
open PySem PySem.Spec PyProof.Rows L2
open Builtin.Int (intBits)
def top (i:Nat):Stmt:=PySem.Challenge.pw_overwise_k07_no_widths_no_words.main.body.getD i (.Pass ⟨0,0,0,0⟩)
abbrev s_NoWidth___init__:Stmt:=inClass (top 3) 0
theorem sc_NoWidth___init__:FnScope ["self", "found"] ["self", "found"] (defScope s_NoWidth___init__):=⟨rfl,rfl,rfl,by decide +kernel,rfl,by decide +kernel,by decide +kernel⟩
abbrev s_NoWord___init__:Stmt:=inClass (top 4) 0
theorem sc_NoWord___init__:FnScope ["self", "found"] ["self", "found"] (defScope s_NoWord___init__):=⟨rfl,rfl,rfl,by decide +kernel,rfl,by decide +kernel,by decide +kernel⟩
abbrev s_NoKind___init__:Stmt:=inClass (top 5) 0
theorem sc_NoKind___init__:FnScope ["self", "found"] ["self", "found"] (defScope s_NoKind___init__):=⟨rfl,rfl,rfl,by decide +kernel,rfl,by decide +kernel,by decide +kernel⟩
abbrev s_is_whole:Stmt:=top 9
theorem sc_is_whole:FnScope ["thing"] ["thing"] (defScope s_is_whole):=⟨rfl,rfl,rfl,by decide +kernel,rfl,by decide +kernel,by decide +kernel⟩
abbrev s_is_between:Stmt:=top 10
theorem sc_is_between:FnScope ["thing", "low", "high"] ["thing", "low", "high"] (defScope s_is_between):=⟨rfl,rfl,rfl,by decide +kernel,rfl,by decide +kernel,by decide +kernel⟩
abbrev s_need_width:Stmt:=top 11
theorem sc_need_width:FnScope ["width"] ["width"] (defScope s_need_width):=⟨rfl,rfl,rfl,by decide +kernel,rfl,by decide +kernel,by decide +kernel⟩
abbrev s_is_word:Stmt:=top 12
theorem sc_is_word:FnScope ["width", "thing"] ["width", "thing"] (defScope s_is_word):=⟨rfl,rfl,rfl,by decide +kernel,rfl,by decide +kernel,by decide +kernel⟩
abbrev s_figures_of:Stmt:=top 13
theorem sc_figures_of:FnScope ["width", "bits"] ["width", "bits"] (defScope s_figures_of):=⟨rfl,rfl,rfl,by decide +kernel,rfl,by decide +kernel,by decide +kernel⟩
abbrev s_bits_in:Stmt:=top 14
theorem sc_bits_in:FnScope ["width", "text", "bits", "sign"] ["width", "text"] (defScope s_bits_in):=⟨rfl,rfl,rfl,by decide +kernel,rfl,by decide +kernel,by decide +kernel⟩
abbrev s_sum_of:Stmt:=top 15
theorem sc_sum_of:FnScope ["width", "a", "b", "total"] ["width", "a", "b"] (defScope s_sum_of):=⟨rfl,rfl,rfl,by decide +kernel,rfl,by decide +kernel,by decide +kernel⟩
abbrev s_gap_of:Stmt:=top 16
theorem sc_gap_of:FnScope ["width", "a", "b"] ["width", "a", "b"] (defScope s_gap_of):=⟨rfl,rfl,rfl,by decide +kernel,rfl,by decide +kernel,by decide +kernel⟩
abbrev s_low_product:Stmt:=top 17
theorem sc_low_product:FnScope ["width", "a", "b"] ["width", "a", "b"] (defScope s_low_product):=⟨rfl,rfl,rfl,by decide +kernel,rfl,by decide +kernel,by decide +kernel⟩
abbrev s_high_product:Stmt:=top 18
theorem sc_high_product:FnScope ["width", "a", "b"] ["width", "a", "b"] (defScope s_high_product):=⟨rfl,rfl,rfl,by decide +kernel,rfl,by decide +kernel,by decide +kernel⟩
abbrev s_left:Stmt:=top 19
theorem sc_left:FnScope ["width", "a", "k"] ["width", "a", "k"] (defScope s_left):=⟨rfl,rfl,rfl,by decide +kernel,rfl,by decide +kernel,by decide +kernel⟩
abbrev s_right:Stmt:=top 20
theorem sc_right:FnScope ["width", "a", "k"] ["width", "a", "k"] (defScope s_right):=⟨rfl,rfl,rfl,by decide +kernel,rfl,by decide +kernel,by decide +kernel⟩
abbrev s_slide:Stmt:=top 21
theorem sc_slide:FnScope ["width", "a", "k", "count"] ["width", "a", "k"] (defScope s_slide):=⟨rfl,rfl,rfl,by decide +kernel,rfl,by decide +kernel,by decide +kernel⟩
abbrev s_common_divisor:Stmt:=top 23
theorem sc_common_divisor:FnScope ["a", "b", "rest"] ["a", "b"] (defScope s_common_divisor):=⟨rfl,rfl,rfl,by decide +kernel,rfl,by decide +kernel,by decide +kernel⟩
abbrev s_fraction:Stmt:=top 24
theorem sc_fraction:FnScope ["top", "bottom", "divisor"] ["top", "bottom"] (defScope s_fraction):=⟨rfl,rfl,rfl,by decide +kernel,rfl,by decide +kernel,by decide +kernel⟩
abbrev s_by_twos:Stmt:=top 25
theorem sc_by_twos:FnScope ["number", "k"] ["number", "k"] (defScope s_by_twos):=⟨rfl,rfl,rfl,by decide +kernel,rfl,by decide +kernel,by decide +kernel⟩
abbrev s_Kind___init__:Stmt:=inClass (top 28) 0
theorem sc_Kind___init__:FnScope ["self", "width", "point"] ["self", "width", "point"] (defScope s_Kind___init__):=⟨rfl,rfl,rfl,by decide +kernel,rfl,by decide +kernel,by decide +kernel⟩
abbrev s_Kind_count_of:Stmt:=inClass (top 28) 1
theorem sc_Kind_count_of:FnScope ["self", "bits"] ["self", "bits"] (defScope s_Kind_count_of):=⟨rfl,rfl,rfl,by decide +kernel,rfl,by decide +kernel,by decide +kernel⟩
abbrev s_Kind_bits_of:Stmt:=inClass (top 28) 2
theorem sc_Kind_bits_of:FnScope ["self", "count"] ["self", "count"] (defScope s_Kind_bits_of):=⟨rfl,rfl,rfl,by decide +kernel,rfl,by decide +kernel,by decide +kernel⟩
abbrev s_Kind_value_of:Stmt:=inClass (top 28) 3
theorem sc_Kind_value_of:FnScope ["self", "bits"] ["self", "bits"] (defScope s_Kind_value_of):=⟨rfl,rfl,rfl,by decide +kernel,rfl,by decide +kernel,by decide +kernel⟩
abbrev s_Kind_shown:Stmt:=inClass (top 28) 6
theorem sc_Kind_shown:FnScope ["self", "bits", "count", "sign", "whole", "behind"] ["self", "bits"] (defScope s_Kind_shown):=⟨rfl,rfl,rfl,by decide +kernel,rfl,by decide +kernel,by decide +kernel⟩
abbrev s_Plain___init__:Stmt:=inClass (top 29) 0
theorem sc_Plain___init__:FnScope ["self", "width"] ["self", "width"] (defScope s_Plain___init__):=⟨rfl,rfl,rfl,by decide +kernel,rfl,by decide +kernel,by decide +kernel⟩
abbrev s_Plain_least:Stmt:=inClass (top 29) 2
theorem sc_Plain_least:FnScope ["self"] ["self"] (defScope s_Plain_least):=⟨rfl,rfl,rfl,by decide +kernel,rfl,by decide +kernel,by decide +kernel⟩
abbrev s_Plain_greatest:Stmt:=inClass (top 29) 3
theorem sc_Plain_greatest:FnScope ["self"] ["self"] (defScope s_Plain_greatest):=⟨rfl,rfl,rfl,by decide +kernel,rfl,by decide +kernel,by decide +kernel⟩
abbrev s_Signed___init__:Stmt:=inClass (top 30) 0
theorem sc_Signed___init__:FnScope ["self", "width"] ["self", "width"] (defScope s_Signed___init__):=⟨rfl,rfl,rfl,by decide +kernel,rfl,by decide +kernel,by decide +kernel⟩
abbrev s_Signed_least:Stmt:=inClass (top 30) 2
theorem sc_Signed_least:FnScope ["self"] ["self"] (defScope s_Signed_least):=⟨rfl,rfl,rfl,by decide +kernel,rfl,by decide +kernel,by decide +kernel⟩
abbrev s_Signed_greatest:Stmt:=inClass (top 30) 3
theorem sc_Signed_greatest:FnScope ["self"] ["self"] (defScope s_Signed_greatest):=⟨rfl,rfl,rfl,by decide +kernel,rfl,by decide +kernel,by decide +kernel⟩
abbrev s_Pointed___init__:Stmt:=inClass (top 31) 0
theorem sc_Pointed___init__:FnScope ["self", "width", "point"] ["self", "width", "point"] (defScope s_Pointed___init__):=⟨rfl,rfl,rfl,by decide +kernel,rfl,by decide +kernel,by decide +kernel⟩
abbrev s_Pointed_least:Stmt:=inClass (top 31) 2
theorem sc_Pointed_least:FnScope ["self"] ["self"] (defScope s_Pointed_least):=⟨rfl,rfl,rfl,by decide +kernel,rfl,by decide +kernel,by decide +kernel⟩
abbrev s_Pointed_greatest:Stmt:=inClass (top 31) 3
theorem sc_Pointed_greatest:FnScope ["self"] ["self"] (defScope s_Pointed_greatest):=⟨rfl,rfl,rfl,by decide +kernel,rfl,by decide +kernel,by decide +kernel⟩
abbrev s_half:Stmt:=top 32
theorem sc_half:FnScope ["width"] ["width"] (defScope s_half):=⟨rfl,rfl,rfl,by decide +kernel,rfl,by decide +kernel,by decide +kernel⟩
abbrev s_figures_behind:Stmt:=top 33
theorem sc_figures_behind:FnScope ["rest", "point", "figures"] ["rest", "point"] (defScope s_figures_behind):=⟨rfl,rfl,rfl,by decide +kernel,rfl,by decide +kernel,by decide +kernel⟩
abbrev s__law_cell:Stmt:=top 37
theorem sc__law_cell:FnScope ["_law_script", "_law_k"] ["_law_script", "_law_k"] (defScope s__law_cell):=⟨rfl,rfl,rfl,by decide +kernel,rfl,by decide +kernel,by decide +kernel⟩
abbrev s__law_box:Stmt:=top 38
theorem sc__law_box:FnScope ["_law_cell_here"] ["_law_cell_here"] (defScope s__law_box):=⟨rfl,rfl,rfl,by decide +kernel,rfl,by decide +kernel,by decide +kernel⟩
abbrev s__law_take:Stmt:=top 39
theorem sc__law_take:FnScope ["_law_box_here", "_law_many", "_law_digit", "_law_number"] ["_law_box_here", "_law_many"] (defScope s__law_take):=⟨rfl,rfl,rfl,by decide +kernel,rfl,by decide +kernel,by decide +kernel⟩
abbrev s__law_told:Stmt:=top 40
theorem sc__law_told:FnScope ["_law_ask", "_law_thing", "_law_told_here", "e"] ["_law_ask", "_law_thing"] (defScope s__law_told):=⟨rfl,rfl,rfl,by decide +kernel,rfl,by decide +kernel,by decide +kernel⟩
abbrev s__law_is:Stmt:=top 41
theorem sc__law_is:FnScope ["_law_told_here", "_law_kind", "_law_thing"] ["_law_told_here", "_law_kind", "_law_thing"] (defScope s__law_is):=⟨rfl,rfl,rfl,by decide +kernel,rfl,by decide +kernel,by decide +kernel⟩
abbrev s__law_no_width:Stmt:=top 42
theorem sc__law_no_width:FnScope ["_law_box_here", "_law_far", "_law_some"] ["_law_box_here"] (defScope s__law_no_width):=⟨rfl,rfl,rfl,by decide +kernel,rfl,by decide +kernel,by decide +kernel⟩
abbrev s__law_no_point:Stmt:=top 43
theorem sc__law_no_point:FnScope ["_law_box_here", "_law_width", "_law_far", "_law_some"] ["_law_box_here", "_law_width"] (defScope s__law_no_point):=⟨rfl,rfl,rfl,by decide +kernel,rfl,by decide +kernel,by decide +kernel⟩
abbrev s__law_no_number:Stmt:=top 44
theorem sc__law_no_number:FnScope ["_law_box_here", "_law_low", "_law_high", "_law_far", "_law_some"] ["_law_box_here", "_law_low", "_law_high"] (defScope s__law_no_number):=⟨rfl,rfl,rfl,by decide +kernel,rfl,by decide +kernel,by decide +kernel⟩
abbrev s__law_widths_refused:Stmt:=top 45
theorem sc__law_widths_refused:FnScope ["_law_thing", "_law_point", "_law_asks", "_law_ask"] ["_law_thing", "_law_point"] (defScope s__law_widths_refused):=⟨rfl,rfl,rfl,by decide +kernel,rfl,by decide +kernel,by decide +kernel⟩
abbrev s__law_words_refused:Stmt:=top 46
theorem sc__law_words_refused:FnScope ["_law_box_here", "_law_kind", "_law_low", "_law_high", "_law_size", "_law_asks", "_law_ask", "_law_thing"] ["_law_box_here", "_law_kind", "_law_low", "_law_high", "_law_size"] (defScope s__law_words_refused):=⟨rfl,rfl,rfl,by decide +kernel,rfl,by decide +kernel,by decide +kernel⟩
abbrev s__law_points_refused:Stmt:=top 47
theorem sc__law_points_refused:FnScope ["_law_width", "_law_point"] ["_law_width", "_law_point"] (defScope s__law_points_refused):=⟨rfl,rfl,rfl,by decide +kernel,rfl,by decide +kernel,by decide +kernel⟩
abbrev s_law:Stmt:=top 48
theorem sc_law:FnScope ["_law_script", "_law_k", "_law_box_here", "_law_width", "_law_half", "_law_kind"] ["_law_script"] (defScope s_law):=⟨rfl,rfl,rfl,by decide +kernel,rfl,by decide +kernel,by decide +kernel⟩
structure Ad where
 Kind:Addr
 Plain:Addr
 Signed:Addr
 Pointed:Addr
 NoWidth:Addr
 NoWord:Addr
 NoKind:Addr
 WiseError:Addr
structure Txt (K:PySem.W.Frag) (mg:Str→Option Value) (c:Ad):Prop where
 n_isinstance:mg "isinstance" = none
 n_int:mg "int" = none
 n_bool:mg "bool" = none
 n_str:mg "str" = none
 n_tuple:mg "tuple" = none
 n_list:mg "list" = none
 n_len:mg "len" = none
 n_max:mg "max" = none
 n_min:mg "min" = none
 n_range:mg "range" = none
 n_abs:mg "abs" = none
 g_Kind:mg "Kind" = some (.ref c.Kind)
 cl_Kind:Cls K c.Kind
 g_Plain:mg "Plain" = some (.ref c.Plain)
 cl_Plain:Cls K c.Plain
 na_Plain_width:NoAttr K c.Plain "width"
 na_Plain_point:NoAttr K c.Plain "point"
 g_Signed:mg "Signed" = some (.ref c.Signed)
 cl_Signed:Cls K c.Signed
 na_Signed_width:NoAttr K c.Signed "width"
 na_Signed_point:NoAttr K c.Signed "point"
 g_Pointed:mg "Pointed" = some (.ref c.Pointed)
 cl_Pointed:Cls K c.Pointed
 na_Pointed_width:NoAttr K c.Pointed "width"
 na_Pointed_point:NoAttr K c.Pointed "point"
 g_NoWidth:mg "NoWidth" = some (.ref c.NoWidth)
 g_NoWord:mg "NoWord" = some (.ref c.NoWord)
 g_NoKind:mg "NoKind" = some (.ref c.NoKind)
 g_WiseError:mg "WiseError" = some (.ref c.WiseError)
 g_LONGEST_SHOWN:∃ t,mg "LONGEST_SHOWN" = some (.int 43 t)
 kf_dc_Plain:PySem.W.findIn K (.ref c.Plain) "__class__" = some (some (.builtin "object.__class__"))
 kf_mo_Plain:PySem.W.mroIn K c.Plain (.type "object") = some true
 kf_ik_Plain:PySem.W.mroIn K c.Plain (.ref c.Kind) = some true
 kf_dc_Signed:PySem.W.findIn K (.ref c.Signed) "__class__" = some (some (.builtin "object.__class__"))
 kf_mo_Signed:PySem.W.mroIn K c.Signed (.type "object") = some true
 kf_ik_Signed:PySem.W.mroIn K c.Signed (.ref c.Kind) = some true
 kf_dc_Pointed:PySem.W.findIn K (.ref c.Pointed) "__class__" = some (some (.builtin "object.__class__"))
 kf_mo_Pointed:PySem.W.mroIn K c.Pointed (.type "object") = some true
 kf_ik_Pointed:PySem.W.mroIn K c.Pointed (.ref c.Kind) = some true
 kf_kc:PySem.W.isClsIn K c.Kind = true
 kf_kt:PySem.W.typeIn K (.ref c.Kind) = some (.type "type")
 kf_og:PySem.W.specialIn K (.builtin "object.__class__") "__get__" = some (some (.builtin "getset_descriptor.__get__"))
 kf_ot:PySem.W.takesIn K (.builtin "object.__class__") = some true
 kf_kc_Plain:PySem.W.isClsIn K c.Plain = true
 kf_kt_Plain:PySem.W.typeIn K (.ref c.Plain) = some (.type "type")
 kf_m_Plain_Plain:PySem.W.mroIn K c.Plain (.ref c.Plain) = some true
 kf_m_Plain_Signed:PySem.W.mroIn K c.Plain (.ref c.Signed) = some false
 kf_m_Plain_Pointed:PySem.W.mroIn K c.Plain (.ref c.Pointed) = some false
 kf_kc_Signed:PySem.W.isClsIn K c.Signed = true
 kf_kt_Signed:PySem.W.typeIn K (.ref c.Signed) = some (.type "type")
 kf_m_Signed_Plain:PySem.W.mroIn K c.Signed (.ref c.Plain) = some false
 kf_m_Signed_Signed:PySem.W.mroIn K c.Signed (.ref c.Signed) = some true
 kf_m_Signed_Pointed:PySem.W.mroIn K c.Signed (.ref c.Pointed) = some false
 kf_kc_Pointed:PySem.W.isClsIn K c.Pointed = true
 kf_kt_Pointed:PySem.W.typeIn K (.ref c.Pointed) = some (.type "type")
 kf_m_Pointed_Plain:PySem.W.mroIn K c.Pointed (.ref c.Plain) = some false
 kf_m_Pointed_Signed:PySem.W.mroIn K c.Pointed (.ref c.Signed) = some false
 kf_m_Pointed_Pointed:PySem.W.mroIn K c.Pointed (.ref c.Pointed) = some true
 kf_if_NoWidth:PySem.W.isClsIn K c.NoWidth = true
 kf_if_NoWord:PySem.W.isClsIn K c.NoWord = true
 kf_if_NoKind:PySem.W.isClsIn K c.NoKind = true
 kf_tf_NoWidth:PySem.W.typeIn K (.ref c.NoWidth) = some (.type "type")
 kf_tf_NoWord:PySem.W.typeIn K (.ref c.NoWord) = some (.type "type")
 kf_tf_NoKind:PySem.W.typeIn K (.ref c.NoKind) = some (.type "type")
 kf_mf_NoWidth:PySem.W.mroIn K c.NoWidth (.ref c.NoWidth) = some true
 kf_mf_NoWord:PySem.W.mroIn K c.NoWord (.ref c.NoWord) = some true
 kf_mf_NoKind:PySem.W.mroIn K c.NoKind (.ref c.NoKind) = some true
 kf_wb_NoWidth:PySem.W.mroIn K c.NoWidth (.type "BaseException") = some true
 kf_wb_NoWord:PySem.W.mroIn K c.NoWord (.type "BaseException") = some true
 kf_wb_NoKind:PySem.W.mroIn K c.NoKind (.type "BaseException") = some true
 kf_ga_NoWidth:PySem.W.findIn K (.ref c.NoWidth) "__getattribute__" = some (some (.builtin "BaseException.__getattribute__"))
 kf_ga_NoWord:PySem.W.findIn K (.ref c.NoWord) "__getattribute__" = some (some (.builtin "BaseException.__getattribute__"))
 kf_ga_NoKind:PySem.W.findIn K (.ref c.NoKind) "__getattribute__" = some (some (.builtin "BaseException.__getattribute__"))
 kf_gn_NoWidth:PySem.W.findIn K (.ref c.NoWidth) "__getattr__" = some none
 kf_gn_NoWord:PySem.W.findIn K (.ref c.NoWord) "__getattr__" = some none
 kf_gn_NoKind:PySem.W.findIn K (.ref c.NoKind) "__getattr__" = some none
 kf_gc_NoWidth:PySem.W.findIn K (.ref c.NoWidth) "__class__" = some (some (.builtin "object.__class__"))
 kf_gc_NoWord:PySem.W.findIn K (.ref c.NoWord) "__class__" = some (some (.builtin "object.__class__"))
 kf_gc_NoKind:PySem.W.findIn K (.ref c.NoKind) "__class__" = some (some (.builtin "object.__class__"))
 kf_mo_NoWidth:PySem.W.mroIn K c.NoWidth (.type "object") = some true
 kf_mo_NoWord:PySem.W.mroIn K c.NoWord (.type "object") = some true
 kf_mo_NoKind:PySem.W.mroIn K c.NoKind (.type "object") = some true
 kf_mb_NoWidth:PySem.W.mroIn K c.NoWidth (.type "BaseException") = some true
 kf_mb_NoWord:PySem.W.mroIn K c.NoWord (.type "BaseException") = some true
 kf_mb_NoKind:PySem.W.mroIn K c.NoKind (.type "BaseException") = some true
 kf_hd_NoWidth:PySem.W.hasDictIn K c.NoWidth = true
 kf_hd_NoWord:PySem.W.hasDictIn K c.NoWord = true
 kf_hd_NoKind:PySem.W.hasDictIn K c.NoKind = true
 kf_nf_NoWidth:PySem.W.findIn K (.ref c.NoWidth) "found" = some none
 kf_nf_NoWord:PySem.W.findIn K (.ref c.NoWord) "found" = some none
 kf_nf_NoKind:PySem.W.findIn K (.ref c.NoKind) "found" = some none
 kf_wm_NoWidth:PySem.W.mroIn K c.NoWidth (.ref c.WiseError) = some true
 kf_wm_NoWord:PySem.W.mroIn K c.NoWord (.ref c.WiseError) = some true
 kf_wm_NoKind:PySem.W.mroIn K c.NoKind (.ref c.WiseError) = some true
 kf_wt:PySem.W.typeIn K (.ref c.WiseError) = some (.type "type")
 kf_wc:PySem.W.isClsIn K c.WiseError = true
 kf_m_NoWidth_NoWidth:PySem.W.mroIn K c.NoWidth (.ref c.NoWidth) = some true
 kf_m_NoWidth_NoWord:PySem.W.mroIn K c.NoWidth (.ref c.NoWord) = some false
 kf_m_NoWidth_NoKind:PySem.W.mroIn K c.NoWidth (.ref c.NoKind) = some false
 kf_m_NoWord_NoWidth:PySem.W.mroIn K c.NoWord (.ref c.NoWidth) = some false
 kf_m_NoWord_NoWord:PySem.W.mroIn K c.NoWord (.ref c.NoWord) = some true
 kf_m_NoWord_NoKind:PySem.W.mroIn K c.NoWord (.ref c.NoKind) = some false
 kf_m_NoKind_NoWidth:PySem.W.mroIn K c.NoKind (.ref c.NoWidth) = some false
 kf_m_NoKind_NoWord:PySem.W.mroIn K c.NoKind (.ref c.NoWord) = some false
 kf_m_NoKind_NoKind:PySem.W.mroIn K c.NoKind (.ref c.NoKind) = some true
 kf_wbE:PySem.W.mroIn K c.WiseError (.type "BaseException") = some true
abbrev gcI (a b:Int):Int:=((Int.gcd a b:Nat):Int)
theorem gcd_step {a b:Int} (a0:0≤a) (b0:0 < b):Int.gcd b (a % b) = Int.gcd a b:=by
 rw [Int.gcd_comm a b,Int.gcd_comm b (a % b)]
 unfold Int.gcd
 rw [Int.natAbs_emod_of_nonneg a0,Nat.gcd_comm b.natAbs a.natAbs,Nat.gcd_comm a.natAbs b.natAbs]
 exact (Nat.gcd_rec _ _).symm
theorem gcd_abs (a b:Int):Int.gcd (a.natAbs:Int) (b.natAbs:Int) = Int.gcd a b:=by
 unfold Int.gcd
 rw [Int.natAbs_natCast,Int.natAbs_natCast]
theorem gcd_pos {n p:Int} (hp:p ≠ 0):(0:Int) < (Int.gcd n p:Int):=by
 have:Int.gcd n p ≠ 0:=fun h=>hp (Int.gcd_eq_zero_iff.mp h).2
 omega
def spGcd:Sp:=fun vs H Q _=>∃ a b:Int,vs = [.int a,.int b]∧0≤a∧0≤b∧Q (.int (gcI a b)) H
def spFrac:Sp:=fun vs H Q _=>∃ n p:Int,vs = [.int n,.int p]∧0 < p∧intBits p≤8000∧∀ t,H t = none→Q (.ref t) (upd H t (.tup [.int (n / gcI n p),.int (p / gcI n p)]))
def spTwos:Sp:=fun vs H Q _=>∃ n k:Int,vs = [.int n,.int k]∧0≤k∧k≤3000∧∀ t,H t = none→Q (.ref t) (upd H t (.tup [.int (n / gcI n (1 * 2 ^ k.toNat)),.int (1 * 2 ^ k.toNat / gcI n (1 * 2 ^ k.toNat))]))
theorem bits_le {x y:Int} {m:Nat} (h:x.natAbs≤y.natAbs) (hy:intBits y≤m):intBits x≤m:=intBits_le_of_natAbs h hy
theorem log_of_bits {m:Int} (h0:0 < m) (h:intBits m≤8000):m.natAbs.log2 < 9000:=by
 have h1:m.natAbs ≠ 0:=by omega
 have h2:=(Nat.log2_lt h1).mpr (intBits_le_iff.mp h)
 omega
theorem bits_pow (k:Nat):intBits (1 * 2 ^ k:Int)≤k + 1:=by
 refine intBits_le_iff.mpr ?_
 rw [Int.one_mul,Int.natAbs_pow]
 exact Nat.pow_lt_pow_right (by decide) (Nat.lt_succ_self _)
theorem pw_bounds {w:Int} (h1:4≤w) (h2:w≤32):16≤(2:Int) ^ w.toNat∧(2:Int) ^ w.toNat≤4294967296:=by
 have a:(2:Int) ^ 4≤2 ^ w.toNat:=p_mono (by omega)
 have b:(2:Int) ^ w.toNat≤2 ^ 32:=p_mono (by omega)
 exact ⟨a,b⟩
theorem log_small {m:Int} (h0:0 < m) (h:m < 2 ^ 64):m.natAbs.log2 < 9000:=by
 have h1:m.natAbs ≠ 0:=by omega
 have h2:m.natAbs < 2 ^ 64:=by omega
 have:=(Nat.log2_lt h1).mpr h2
 omega
theorem cpow1 {w:Int} (h1:0≤w) (h2:w≤100000):CPow 1 w:=⟨h1,by omega,by decide⟩
theorem cmul_mod {x y m:Int} (h0:0 < m) (h:m≤2 ^ 64):CMul (x % m) y:=by
 have a:=Int.emod_nonneg x (show m ≠ 0 by omega)
 have b:=Int.emod_lt_of_pos x h0
 exact .inl ⟨by omega,by omega⟩
theorem sz2:(2:Nat)≤sizeLine:=by decide
def spWhole:Sp:=fun vs H Q _=>∃ i:Int,vs = [.int i]∧Q (.bl true) H
def spCell (K:PySem.W.Frag):Sp:=fun vs H Q _=>∃ (a:Addr) (ns:List Int) (k:Int),vs = [.ref a,.int k]∧SqL K H a (ns.map V.int)∧0≤k∧∀ c:Int,Q (.int c) H
def spBox:Sp:=fun vs H Q _=>∃ c:Int,vs = [.int c]∧∀ p H',H p = none→Box H' p→Same H H'→Q (.ref p) H'
def spTake:Sp:=fun vs H Q _=>∃ (p:Addr) (m:Int),vs = [.ref p,.int m]∧Box H p∧0 < m∧m < 2 ^ 64∧∀ (d:Int) H',0≤d→d < m→Box H' p→SameX p H H'→Q (.int d) H'
def cOf (c:Ad):Nat→Addr
 | 0=>c.Plain
 | 1=>c.Signed
 | _=>c.Pointed
def lo (kd:Nat) (w:Int):Int:=if kd = 0 then 0 else -(1 * 2 ^ (w - 1).toNat)
def hi (kd:Nat) (w:Int):Int:=if kd = 0 then 1 * 2 ^ w.toNat - 1 else 1 * 2 ^ (w - 1).toNat - 1
def KO (c:Ad) (H:Hp) (x:Addr) (kd:Nat) (w pt:Int):Prop:=∃ dx,H x = some (.ins (cOf c kd) dx [("width",.int w),("point",.int pt)])
def spHalf:Sp:=fun vs H Q _=>∃ w:Int,vs = [.int w]∧4≤w∧w≤32∧Q (.int (1 * 2 ^ (w - 1).toNat)) H
def spKinit (K:PySem.W.Frag):Sp:=fun vs H Q _=>∃ (x C dx:Addr) (w p:Int),vs = [.ref x,.int w,.int p]∧H x = some (.ins C dx [])∧Cls K C∧NoAttr K C "width"∧NoAttr K C "point"∧∀ H',SameX x H H'→H' x = some (.ins C dx [("width",.int w),("point",.int p)])→Q .non H'
def spLeast (c:Ad) (kd:Nat):Sp:=fun vs H Q _=>∃ (x:Addr) (w p:Int),vs = [.ref x]∧KO c H x kd w p∧4≤w∧w≤32∧Q (.int (lo kd w)) H
def spGreat (c:Ad) (kd:Nat):Sp:=fun vs H Q _=>∃ (x:Addr) (w p:Int),vs = [.ref x]∧KO c H x kd w p∧4≤w∧w≤32∧Q (.int (hi kd w)) H
theorem Txt.cls {K:PySem.W.Frag} {mg:Str→Option Value} {c:Ad} (T:Txt K mg c) (kd:Nat):Cls K (cOf c kd):=match kd with
 | 0=>T.cl_Plain
 | 1=>T.cl_Signed
 | _ + 2=>T.cl_Pointed
theorem Txt.naw {K:PySem.W.Frag} {mg:Str→Option Value} {c:Ad} (T:Txt K mg c) (kd:Nat):NoAttr K (cOf c kd) "width":=match kd with
 | 0=>T.na_Plain_width
 | 1=>T.na_Signed_width
 | _ + 2=>T.na_Pointed_width
theorem Txt.nap {K:PySem.W.Frag} {mg:Str→Option Value} {c:Ad} (T:Txt K mg c) (kd:Nat):NoAttr K (cOf c kd) "point":=match kd with
 | 0=>T.na_Plain_point
 | 1=>T.na_Signed_point
 | _ + 2=>T.na_Pointed_point
def cnt (kd:Nat) (w b:Int):Int:=if b≤hi kd w then b else b - 1 * 2 ^ w.toNat
theorem pw_half {w:Int} (h1:4≤w):(2:Int) ^ w.toNat = 2 * 2 ^ (w - 1).toNat:=by
 have e:w.toNat = (w - 1).toNat + 1:=by omega
 rw [e,Int.pow_succ,Int.mul_comm]
theorem iteC {c A B:Prop} [Decidable c] (h1:c→A) (h2:¬ c→B):if decide c = true then A else B:=by
 by_cases h:c
 ·exact iteD h (h1 h)
 ·exact iteDN h (h2 h)
local macro_rules | `(tactic| walk_at "s")=>`(tactic| first
 | omega | assumption | exact ty_int | exact rfl | (dsimp only; omega) | exact cpow1 (by omega) (by omega) | exact ⟨by decide,by decide⟩ | exact ⟨by omega,log_small (by omega) (by omega)⟩
 | exact .inr ⟨by decide,by decide⟩ | exact .inl ⟨by decide,by decide⟩ | exact .inl ⟨by omega,by omega⟩ | exact .inr ⟨by omega,by omega⟩ | exact ⟨b200 (by omega) (by omega),b200 (by omega) (by omega)⟩
 | exact ⟨by decide,by decide,by decide⟩ | exact Nat.le_of_ble_eq_true rfl)
local macro_rules | `(tactic| walk_at "q")=>`(tactic| first | exact SqT.of (by first | assumption | exact upd_same) | exact SqL.of (by first | assumption | exact upd_same) | assumption)
local macro_rules | `(tactic| walk_at "o")=>`(tactic| repeat (first
 | refine ⟨_,rfl,?_⟩ | refine ⟨_,_,rfl,rfl,?_⟩ | with_reducible refine iteF ?_ | with_reducible refine iteT ?_
 | refine ⟨_,_,_,_,rfl,rfl,(by walk_at "q"),rfl,?_⟩
 | refine And.intro (by walk_at "s") ?_
 | refine ⟨_,_,rfl,?_⟩ | refine ⟨_,_,_,rfl,?_⟩
 | refine ⟨_,_,_,_,_,rfl,rfl,TyOf.int _,kit_int_int _,?_⟩ | refine ⟨_,_,_,_,_,rfl,rfl,TyOf.int _,kit_int_bool _,?_⟩
 | refine ⟨_,_,_,_,_,rfl,rfl,TyOf.bl _,rfl,?_⟩
 | refine ⟨_,_,_,_,_,rfl,rfl,TyOf.tup (by assumption),rfl,?_⟩
 | refine ⟨_,_,rfl,.inr (SqT.of (by assumption)),?_⟩ | refine ⟨_,_,rfl,.inl (SqL.of (by assumption)),?_⟩
 | with_reducible refine iteD (by omega) ?_ | with_reducible refine iteDN (by omega) ?_ | with_reducible refine iteN (by omega) ?_ | with_reducible refine iteNS (by omega) ?_
 | with_reducible refine iteNS rfl ?_))
local macro_rules | `(tactic| walk_at "c")=>`(tactic| first | with_reducible refine iteI ?_ ?_ | with_reducible refine iteIN ?_ ?_ | with_reducible refine iteC ?_ ?_ | with_reducible refine iteCN ?_ ?_ | refine ite2 ?_ ?_)
local macro_rules | `(tactic| walk_at "n")=>`(tactic| (intro z; injection z with z; revert z; decide +kernel))
open PySem.NumText (AllDigits digitsVal)
theorem dv_from:∀ (cs:List Nat) (a:Nat),cs.foldl (fun acc c=>acc * 10 + (c - 48)) a = a * 10 ^ cs.length + digitsVal cs
 | [],a=>by simp [digitsVal]
 | c :: cs,a=>by
  show cs.foldl _ (a * 10 + (c - 48)) = a * 10 ^ (cs.length + 1) + cs.foldl _ (0 * 10 + (c - 48))
  rw [dv_from cs (a * 10 + (c - 48)),dv_from cs (0 * 10 + (c - 48)),Nat.zero_mul,Nat.zero_add,Nat.add_mul,Nat.pow_succ,Nat.mul_assoc a 10,Nat.mul_comm 10 (10 ^ cs.length)]
  omega
theorem dv_cons (c:Nat) (cs:List Nat):digitsVal (c :: cs) = (c - 48) * 10 ^ cs.length + digitsVal cs:=by
 show cs.foldl _ (0 * 10 + (c - 48)) = _
 rw [dv_from,Nat.zero_mul,Nat.zero_add]
def dgs (k:Nat):List Nat:=(Nat.toDigits 10 k).map Char.toNat
theorem dgs_small {k:Nat} (h:k < 10):dgs k = [48 + k]:=by
 unfold dgs
 rw [Nat.toDigits_of_lt_base h]
 have a:∀ k ∈ List.range 10,[Nat.digitChar k].map Char.toNat = [48 + k]:=by decide
 exact a k (List.mem_range.mpr h)
theorem dgs_step {k:Nat} (h:10≤k):dgs k = dgs (k / 10) ++ [48 + k % 10]:=by
 have e:=Nat.toDigits_append_toDigits (b:=10) (n:=k / 10) (d:=k % 10) (by decide) (by omega) (Nat.mod_lt _ (by decide))
 rw [show 10 * (k / 10) + k % 10 = k by omega] at e
 have:dgs k = dgs (k / 10) ++ dgs (k % 10):=by unfold dgs; rw [← e,List.map_append]
 rw [this,dgs_small (Nat.mod_lt _ (by decide))]
def fg (p:Nat):Nat→Nat→List Nat
 | 0,_=>[]
 | f + 1,r=>if r = 0 then [] else (48 + r * 10 / 2 ^ p) :: fg p f (r * 10 % 2 ^ p)
structure FOk (p f r:Nat):Prop where
 le:f≤p
 lt:r < 2 ^ p
 dv:2 ^ (p - f) ∣ r
theorem FOk.start {p r:Nat} (h:r < 2 ^ p):FOk p p r:=⟨Nat.le_refl _,h,by rw [Nat.sub_self]; exact Nat.one_dvd _⟩
theorem FOk.zero {p r:Nat} (h:FOk p 0 r):r = 0:=Nat.eq_zero_of_dvd_of_lt h.dv h.lt
theorem FOk.next {p f r:Nat} (h:FOk p (f + 1) r):FOk p f (r * 10 % 2 ^ p):=by
 refine ⟨Nat.le_of_succ_le h.le,Nat.mod_lt _ (Nat.two_pow_pos p),?_⟩
 have e:2 ^ (p - f) = 2 ^ (p - (f + 1)) * 2:=by rw [← Nat.pow_succ]; congr 1; have:=h.le; omega
 have d1:2 ^ (p - f) ∣ r * 10:=by rw [e]; exact Nat.mul_dvd_mul h.dv (by decide)
 exact (Nat.dvd_mod_iff (Nat.pow_dvd_pow 2 (Nat.sub_le _ _))).mpr d1
theorem fg_ok {p:Nat}:∀ {f r:Nat},FOk p f r→AllDigits (fg p f r)∧digitsVal (fg p f r) * 2 ^ p = r * 10 ^ (fg p f r).length∧(fg p f r).length≤f∧(fg p f r = [] ↔ r = 0)∧(fg p f r).getLast? ≠ some 48
 | 0,r,h=>by
  have:=h.zero
  subst this
  exact ⟨(fun _ h=>nomatch h),by simp [fg,digitsVal],Nat.le_refl _,by simp [fg],by simp [fg]⟩
 | f + 1,r,h=>by
  by_cases e:r = 0
  ·subst e
   simp only [fg,if_true]
   exact ⟨(fun _ h=>nomatch h),by simp [digitsVal],Nat.zero_le _,by simp,by simp⟩
  ·obtain ⟨a1,a2,a3,a4,a5⟩:=fg_ok h.next
   have lt:=h.lt
   have dm:=Nat.div_add_mod (r * 10) (2 ^ p)
   have q9:r * 10 / 2 ^ p < 10:=Nat.div_lt_of_lt_mul (Nat.mul_lt_mul_of_pos_right lt (by decide))
   have ef:fg p (f + 1) r = (48 + r * 10 / 2 ^ p) :: fg p f (r * 10 % 2 ^ p):=by simp only [fg,if_neg e]
   rw [ef]
   refine ⟨fun c hc=>?_,?_,Nat.succ_le_succ a3,by simp [e],?_⟩
   ·rcases List.mem_cons.mp hc with rfl | hc
    ·generalize r * 10 / 2 ^ p = x at q9 ⊢
     omega
    ·exact a1 c hc
   ·rw [dv_cons,List.length_cons,Nat.add_sub_cancel_left,Nat.add_mul,a2,Nat.pow_succ]
    generalize fg p f (r * 10 % 2 ^ p) = B at *
    have:r * (10 ^ B.length * 10) = (2 ^ p * (r * 10 / 2 ^ p) + r * 10 % 2 ^ p) * 10 ^ B.length:=by rw [dm,Nat.mul_comm (10 ^ B.length),← Nat.mul_assoc]
    rw [this,Nat.add_mul]
    congr 1
    rw [Nat.mul_comm (2 ^ p),Nat.mul_right_comm]
   ·cases eb:fg p f (r * 10 % 2 ^ p) with
    | nil =>
     have z:=a4.mp eb
     show some (48 + r * 10 / 2 ^ p) ≠ some 48
     intro h48
     injection h48 with h48
     have:r * 10 / 2 ^ p = 0:=by omega
     rw [this,z] at dm
     omega
    | cons b t =>
     rw [eb] at a5
     rw [List.getLast?_cons_cons]
     exact a5
def tx (neg:Bool) (k:Nat) (B:List Nat):List Nat:=(if neg = true then [45] else []) ++ (dgs k ++ (if B = [] then [] else 46 :: B))
def shT (p:Nat) (c:Int):List Nat:=tx (decide (c < 0)) (c.natAbs / 2 ^ p) (fg p p (c.natAbs % 2 ^ p))
theorem dgs_len:∀ (n k:Nat),k < 10 ^ (n + 1)→(dgs k).length≤n + 1:=by
 intro n
 induction n with
 | zero=>intro k h; rw [dgs_small (by simpa using h)]; exact Nat.le_refl _
 | succ n ih =>
  intro k h
  by_cases c:k < 10
  ·rw [dgs_small c]; simp
  ·rw [dgs_step (by omega),List.length_append]
   have:=ih (k / 10) (by rw [Nat.pow_succ] at h; omega)
   simp
   omega
theorem imp_whole:∀ vs H Q E,spWhole vs H Q E→spWholeG vs H Q E:=fun _ _ _ _ ⟨i,hv,q⟩=>⟨.int i,hv,.int i,q⟩
theorem join0s:∀ ys:List Str,(Str.join ⟨#[]⟩ ys).cps.toList = (ys.map (·.cps.toList)).flatten
 | []=>rfl
 | [y]=>by show y.cps.toList = _; simp
 | y :: z :: r=>by
  rw [List.map_cons,List.flatten_cons,← join0s (z :: r)]
  show ((y.cps ++ #[]) ++ (Str.join ⟨#[]⟩ (z :: r)).cps).toList = _
  simp
theorem join0 (ys:List Str):(Txt.join ⟨#[]⟩ ys).cps.toList = (ys.map (·.cps.toList)).flatten:=by
 rw [← join0s]
 show (Builtin.Str.glued ⟨#[]⟩ ys).cps.toList = _
 rw [PySem.StrLaws.glued_eq_join]
theorem str_len (z:Str):z.cps.toList.length = z.length:=Array.length_toList
theorem app_list (a b:Str):(a ++ b:Str).cps.toList = a.cps.toList ++ b.cps.toList:=by show (a.cps ++ b.cps).toList = _; rw [Array.toList_append]
theorem str_dig {d:Nat} (h:d < 10):Str.ofString (toString ((d:Nat):Int)) = ⟨#[48 + d]⟩:=by
 have a:∀ d ∈ List.range 10,Str.ofString (toString ((d:Nat):Int)) = ⟨#[48 + d]⟩:=by decide +kernel
 exact a d (List.mem_range.mpr h)
theorem str_nat (k:Nat):(Str.ofString (toString ((k:Nat):Int))).cps.toList = dgs k:=by
 rw [PySem.Str.ofString_eq_toList]
 show ((toString k).toList.map Char.toNat) = dgs k
 unfold dgs
 rw [show (toString k) = String.ofList (Nat.toDigits 10 k) from rfl,String.toList_ofList]
def oneS (ns:List Nat):List Str:=ns.map fun n=>⟨#[n]⟩
theorem join_one (ns:List Nat):(Txt.join ⟨#[]⟩ (oneS ns)).cps.toList = ns:=by
 rw [join0,oneS,List.map_map]
 induction ns with
 | nil=>rfl
 | cons n r ih=>rw [List.map_cons,List.flatten_cons,ih]; rfl
theorem one_len (ns:List Nat):((oneS ns).map (·.length)).sum = ns.length:=by
 rw [oneS,List.map_map]
 induction ns with
 | nil=>rfl
 | cons n r ih=>rw [List.map_cons,List.sum_cons,ih,List.length_cons]; show 1 + r.length = _; omega
theorem Same.updL {H H':Hp} {l:Addr} {o:HO} (s:Same H H') (hl:H l = none):Same H (upd H' l o):=fun b u e=>by rw [upd_ne (ne_of_none e hl)]; exact s b u e
theorem newO {H:Hp} {p:Addr} (h:H p = none) (o:HO):∃ G,upd H p o = G∧Same H G∧G p = some o:=⟨_,rfl,same_new h _,upd_same⟩
theorem addL (a b:Str):(a ++ b:Str).length = a.length + b.length:=PySem.Str.length_append a b
def spFigB:Sp:=fun vs H Q _=>∃ (r p:Nat),vs = [.int (r:Int),.int (p:Int)]∧r < 2 ^ p∧p≤31∧∀ (z:Str) H',z.cps.toList = fg p p r→Same H H'→Q (.str z) H'
def spNeedY (c:Ad):Sp:=fun vs H Q E=>∃ x:V,vs = [x]∧Th H x∧(btw x 4 32 = true→∀ H',Same H H'→Q .non H')∧(btw x 4 32 = false→∀ d H',H' d = some (.xd [("found",x)])→Same H H'→E (.ref c.NoWidth) (some d) H')
def spNoW (c:Ad) (n:Nat):Sp:=fun vs H _ E=>∃ (x:V) (r:List V),vs = x :: r∧r.length + 1 = n∧Th H x∧btw x 4 32 = false∧∀ d H',H' d = some (.xd [("found",x)])→Same H H'→E (.ref c.NoWidth) (some d) H'
theorem btw_int {v:V} {a b:Int} (h:btw v a b = true):∃ i:Int,v = .int i∧a≤i∧i≤b:=by
 cases v with
 | int i =>
  have h':(decide (a≤i) && decide (i≤b)) = true:=h
  rw [Bool.and_eq_true] at h'
  exact ⟨i,rfl,of_decide_eq_true h'.1,of_decide_eq_true h'.2⟩
 | _=>cases h
def spMkY (c:Ad) (kd:Nat):Sp:=fun vs H Q E=>∃ (x dx:Addr) (v:V),vs = [.ref x,v]∧H x = some (.ins (cOf c kd) dx [])∧Th H v∧(∀ w:Int,v = .int w→4≤w→w≤32→∀ H',SameX x H H'→KO c H' x kd w 0→Q .non H')∧(btw v 4 32 = false→∀ d H',H' d = some (.xd [("found",v)])→Same H H'→E (.ref c.NoWidth) (some d) H')
def spMkP (c:Ad):Sp:=fun vs H Q E=>∃ (x dx:Addr) (v u:V),vs = [.ref x,v,u]∧H x = some (.ins (cOf c 2) dx [])∧Th H v∧Th H u∧(∀ w p:Int,v = .int w→u = .int p→4≤w→w≤32→1≤p→p≤w - 1→∀ H',SameX x H H'→KO c H' x 2 w p→Q .non H')∧(btw v 4 32 = false→∀ d H',H' d = some (.xd [("found",v)])→Same H H'→E (.ref c.NoWidth) (some d) H')∧(∀ w:Int,v = .int w→4≤w→w≤32→btw u 1 (w - 1) = false→∀ d H',H' d = some (.xd [("found",u)])→Same H H'→E (.ref c.NoKind) (some d) H')
def spCntY (c:Ad):Sp:=fun vs H Q E=>∃ (kd:Nat) (x:Addr) (w p:Int) (v:V),vs = [.ref x,v]∧kd < 3∧KO c H x kd w p∧4≤w∧w≤32∧Th H v∧(∀ b:Int,v = .int b→0≤b→b < 2 ^ w.toNat→Q (.int (cnt kd w b)) H)∧(btw v 0 (1 * 2 ^ w.toNat - 1) = false→∀ d H',H' d = some (.xd [("found",v)])→Same H H'→E (.ref c.NoWord) (some d) H')
def spBitsY (c:Ad):Sp:=fun vs H Q E=>∃ (kd:Nat) (x:Addr) (w p:Int) (v:V),vs = [.ref x,v]∧kd < 3∧KO c H x kd w p∧4≤w∧w≤32∧Th H v∧(∀ n:Int,v = .int n→lo kd w≤n→n≤hi kd w→Q (.int (n % (1 * 2 ^ w.toNat))) H)∧(btw v (lo kd w) (hi kd w) = false→∀ d H',H' d = some (.xd [("found",v)])→Same H H'→E (.ref c.NoWord) (some d) H')
def spAnyY (c:Ad):Sp:=fun vs H Q E=>∃ (kd:Nat) (x:Addr) (w:Int) (p:Nat) (v:V),vs = [.ref x,v]∧kd < 3∧KO c H x kd w (p:Int)∧4≤w∧w≤32∧p≤31∧Th H v∧(∀ b:Int,v = .int b→0≤b→b < 2 ^ w.toNat→∀ (u:V) H',Same H H'→Q u H')∧(btw v 0 (1 * 2 ^ w.toNat - 1) = false→∀ d H',H' d = some (.xd [("found",v)])→Same H H'→E (.ref c.NoWord) (some d) H')
section
variable {P:Program} {w:World} {K:PySem.W.Frag} {mg:Str→Option Value} {base:Heap} {c:Ad} {cT0 PT0 cT1 PT1 cT2 PT2:Addr}
theorem ok_NoWidth___init__ {f:Addr} {fd:FuncData} (F:Fun K "__init__" "NoWidth.__init__" s_NoWidth___init__ f fd) (T:Txt K mg c)  (xc:XCls K c.NoWidth f "found"):FnOk P w K mg base CX0 1 f fd ["self", "found"] (spXI "found" c.NoWidth):=by
 refine F.ok sc_NoWidth___init__ (fun vs H Q E h=>?_) (fun cdv A outer s H vs Q E hr h=>?_)
 ·obtain ⟨e,t,v,rfl,_⟩:=h
  rfl
 obtain ⟨e,t,v,rfl,he,q⟩:=h
 refine ⟨_,(pss_one (ps_xset (pv 0) (pv 1) rfl)),?_⟩
 exact ⟨_,rfl,_,rfl,e,c.NoWidth,t,_,rfl,he,xc,fun d hd hne=>q d hd hne⟩
theorem ok_NoWord___init__ {f:Addr} {fd:FuncData} (F:Fun K "__init__" "NoWord.__init__" s_NoWord___init__ f fd) (T:Txt K mg c)  (xc:XCls K c.NoWord f "found"):FnOk P w K mg base CX0 1 f fd ["self", "found"] (spXI "found" c.NoWord):=by
 refine F.ok sc_NoWord___init__ (fun vs H Q E h=>?_) (fun cdv A outer s H vs Q E hr h=>?_)
 ·obtain ⟨e,t,v,rfl,_⟩:=h
  rfl
 obtain ⟨e,t,v,rfl,he,q⟩:=h
 refine ⟨_,(pss_one (ps_xset (pv 0) (pv 1) rfl)),?_⟩
 exact ⟨_,rfl,_,rfl,e,c.NoWord,t,_,rfl,he,xc,fun d hd hne=>q d hd hne⟩
theorem ok_NoKind___init__ {f:Addr} {fd:FuncData} (F:Fun K "__init__" "NoKind.__init__" s_NoKind___init__ f fd) (T:Txt K mg c)  (xc:XCls K c.NoKind f "found"):FnOk P w K mg base CX0 1 f fd ["self", "found"] (spXI "found" c.NoKind):=by
 refine F.ok sc_NoKind___init__ (fun vs H Q E h=>?_) (fun cdv A outer s H vs Q E hr h=>?_)
 ·obtain ⟨e,t,v,rfl,_⟩:=h
  rfl
 obtain ⟨e,t,v,rfl,he,q⟩:=h
 refine ⟨_,(pss_one (ps_xset (pv 0) (pv 1) rfl)),?_⟩
 exact ⟨_,rfl,_,rfl,e,c.NoKind,t,_,rfl,he,xc,fun d hd hne=>q d hd hne⟩
def tDisp1I (tk tv:TE):TE:=fun σ H Q=>∀ p,H p = none→tk σ (upd H p (.dK [])) fun kx H1=>tv σ H1 fun y H2=>∃ i,kx = .int i∧H2 p = some (.dK [])∧Q (.ref p) (upd H2 p (.dK [(.inl i,y)]))
theorem pe_disp1I {X:Cx} {pos:Pos} {k v:Expr} {tk tv:TE} (hk:PE X k tk) (hv:PE X v tv):PE X (.Dict [some k] [v] pos) (tDisp1I tk tv):=by
 intro pins s σ H Q I q
 have hn:=I.hok.fresh (Nat.le_refl s.heap.objs.size)
 have I1:=I.laid (a:=s.heap.objs.size) (o:=.dK []) (h':=s.heap.push { cls:=.type "dict",data:=.dict #[] }) (t':=s.toks) (fun _ _ q=>Heap.get?_push_of_some _ q) (Nat.le_refl _) (dk_none s.heap (inv_big I))
 refine wpAny_Dict_walk (knd:=mixKind X.prog X.w) rfl rfl nofun (by show 1≤15; decide) (pairTrees_cons_walk (thn (hk pins _ σ _ _ I1 (q _ hn)) fun u s1 ⟨kx,H1,I2,rk,q1⟩=>thn (hv pins s1 σ H1 _ I2 q1) fun w2 s2 ⟨y,H2,I3,ry,x,ek,e,q2⟩=>pairTrees_nil_walk ?_))
 subst ek
 obtain ⟨t,rfl⟩:=rk
 obtain ⟨z,hd,vs0,r0,dd⟩:=dk_at I3 e
 cases r0
 refine ⟨[(.inl x,w2)],⟨mixKind_int _ _ x t,rfl,True.intro⟩,dd,fun h' dd' hs=>⟨.ref s.heap.objs.size,_,?_,rfl,q2⟩⟩
 have he:∃ q,h'.get? s.heap.objs.size = some q:=let ⟨q,_,_,hq,_⟩:=dd'; ⟨q,hq⟩
 exact I3.write (x:=s.heap.objs.size) (e:=s.heap.objs.size) (by rw [e]; exact True.intro) (.inl rfl) (fun b q hb z=>(hs.2 b hb).trans z) he ⟨(by show 1≤sizeLine; decide),hd,[(.inl x,w2)],.cons ⟨rfl,ry⟩ .nil,dd'⟩
theorem ok_is_whole {f:Addr} {fd:FuncData} (F:Fun K "is_whole" "is_whole" s_is_whole f fd) (T:Txt K mg c) :FnOk P w K mg base CX0 1 f fd ["thing"] spWholeG:=by
 refine F.ok sc_is_whole (fun vs H Q E h=>?_) (fun cdv A outer s H vs Q E hr h=>?_)
 ·obtain ⟨x,rfl,_⟩:=h
  rfl
 obtain ⟨x,rfl,th,q⟩:=h
 refine ⟨_,(pss_one (ps_ret (pe_and (pe_callB call_isinst rfl T.n_isinstance boot_isinstance (pa_cons (pv 0) (pa_cons (pe_ty rfl T.n_int boot_int) pa_nil))) (pe_one (pe_not (pe_callB call_isinst rfl T.n_isinstance boot_isinstance (pa_cons (pv 0) (pa_cons (pe_ty rfl T.n_bool boot_bool) pa_nil)))))))),?_⟩
 cases th with
 | int i =>
  refine ⟨_,rfl,_,_,_,_,_,rfl,rfl,TyOf.int _,kit_int_int _,_,rfl,iteT ?_⟩
  exact ⟨_,rfl,_,_,_,_,_,rfl,rfl,TyOf.int _,kit_int_bool _,_,rfl,q⟩
 | bl b =>
  refine ⟨_,rfl,_,_,_,_,_,rfl,rfl,TyOf.bl _,kit_bl_int _,_,rfl,iteT ?_⟩
  exact ⟨_,rfl,_,_,_,_,_,rfl,rfl,TyOf.bl _,kit_bl_bl _,_,rfl,q⟩
 | str x=>exact ⟨_,rfl,_,_,_,_,_,rfl,rfl,TyOf.str _,kit_str_int _,_,rfl,iteF q⟩
 | non=>exact ⟨_,rfl,_,_,_,_,_,rfl,rfl,TyOf.non,kit_non_int _,_,rfl,iteF q⟩
 | lst h=>exact ⟨_,rfl,_,_,_,_,_,rfl,rfl,TyOf.lst h,kit_lst_int _,_,rfl,iteF q⟩
 | tup h=>exact ⟨_,rfl,_,_,_,_,_,rfl,rfl,TyOf.tup h,kit_tup_int _,_,rfl,iteF q⟩
 | dct h=>exact ⟨_,rfl,_,_,_,_,_,rfl,rfl,TyOf.dK h,kit_dct_int _,_,rfl,iteF q⟩
theorem ok_is_between {f:Addr} {fd:FuncData} (F:Fun K "is_between" "is_between" s_is_between f fd) (T:Txt K mg c) (H_is_whole:Has P w K mg base 1 "is_whole" ["thing"] spWholeG):FnOk P w K mg base CX0 2 f fd ["thing", "low", "high"] spBtwG:=by
 refine F.ok sc_is_between (fun vs H Q E h=>?_) (fun cdv A outer s H vs Q E hr h=>?_)
 ·obtain ⟨x,lo,hi,rfl,_⟩:=h
  rfl
 obtain ⟨x,lo,hi,rfl,th,q⟩:=h
 refine ⟨_,(pss_one (ps_ret (pe_and (pe_fn H_is_whole (hr.mono (by omega)) rfl (pa_cons (pv 0) pa_nil)) (pe_one (pe_chain op_le op_le (pv 1) (pv 0) (pv 2)))))),?_⟩
 refine ⟨_,rfl,x,rfl,th,_,rfl,?_⟩
 cases hi':isI x with
 | false =>
  refine iteF ?_
  rw [btw_not hi'] at q
  exact q
 | true =>
  refine iteT ?_
  cases x with
  | int i =>
   refine ⟨_,rfl,_,rfl,_,_,rfl,rfl,_,rfl,?_⟩
   by_cases c1:lo≤i
   ·refine iteD c1 ⟨_,rfl,_,_,rfl,rfl,?_⟩
    have e:btw (.int i) lo hi = decide (i≤hi):=by show (decide (lo≤i) && decide (i≤hi)) = _; rw [decide_eq_true c1,Bool.true_and]
    rw [e] at q
    exact q
   ·refine iteDN c1 ?_
    have e:btw (.int i) lo hi = false:=by show (decide (lo≤i) && decide (i≤hi)) = _; rw [decide_eq_false c1,Bool.false_and]
    rw [e] at q
    exact q
  | _=>cases hi'
theorem ok_need_width {f:Addr} {fd:FuncData} (F:Fun K "need_width" "need_width" s_need_width f fd) (T:Txt K mg c) (H_is_between:Has P w K mg base 2 "is_between" ["thing", "low", "high"] spBtwG) (X_NoWidth:XHas P w K mg base 1 "NoWidth" c.NoWidth "found"):FnOk P w K mg base (CX2 P w base) 3 f fd ["width"] (spNeedY c):=by
 refine Fun.okY F sc_need_width (fun vs H Q E h=>?_) (fun cdv A outer s H vs Q E hr h=>?_)
 ·obtain ⟨x,rfl,_⟩:=h
  rfl
 obtain ⟨x,rfl,th,qv,qe⟩:=h
 refine ⟨_,(pss_one (ps_if (pt_not (pt_val (pe_fn H_is_between (hr.mono (by omega)) rfl (pa_cons (pv 0) (pa_cons pe_int (pa_cons pe_int pa_nil))))))
   (pss_one (ps_raise1 X_NoWidth (hr.mono (by omega)) rfl (pa_cons (pv 0) pa_nil)))
   pss_nil)),?_⟩
 refine ⟨_,rfl,x,_,_,rfl,th,_,rfl,?_⟩
 cases hb:btw x 4 32 with
 | true=>exact iteF (qv hb H (Same.refl _))
 | false=>exact iteT ⟨_,rfl,_,rfl,fun d hd=>qe hb d _ upd_same (same_new hd _)⟩
theorem ok_figures_of {f:Addr} {fd:FuncData} (F:Fun K "figures_of" "figures_of" s_figures_of f fd) (T:Txt K mg c) (H_need_width:HasY P w K mg base 3 "need_width" ["width"] (spNeedY c)):FnOk P w K mg base (CX2 P w base) 4 f fd ["width", "bits"] (spNoW c 2):=by
 refine Fun.okY F sc_figures_of (fun vs H Q E h=>?_) (fun cdv A outer s H vs Q E hr h=>?_)
 ·obtain ⟨x,r,rfl,hl,_⟩:=h
  exact hl
 obtain ⟨x,r,rfl,hl,th,hb,qe⟩:=h
 obtain ⟨a,rfl⟩:∃ a,r = [a]:=by
  match r,hl with
  | [a],_=>exact ⟨_,rfl⟩
 refine ⟨_,(pss_cons (ps_expr (pe_fnYX H_need_width (hr.mono (by omega)) rfl (pa_cons (pv 0) pa_nil))) pss_never),?_⟩
 exact ⟨_,rfl,x,rfl,th,(fun h=>by rw [hb] at h; cases h),fun _=>qe⟩
theorem ok_bits_in {f:Addr} {fd:FuncData} (F:Fun K "bits_in" "bits_in" s_bits_in f fd) (T:Txt K mg c) (H_need_width:HasY P w K mg base 3 "need_width" ["width"] (spNeedY c)):FnOk P w K mg base (CX2 P w base) 4 f fd ["width", "text"] (spNoW c 2):=by
 refine Fun.okY F sc_bits_in (fun vs H Q E h=>?_) (fun cdv A outer s H vs Q E hr h=>?_)
 ·obtain ⟨x,r,rfl,hl,_⟩:=h
  exact hl
 obtain ⟨x,r,rfl,hl,th,hb,qe⟩:=h
 obtain ⟨a,rfl⟩:∃ a,r = [a]:=by
  match r,hl with
  | [a],_=>exact ⟨_,rfl⟩
 refine ⟨_,(pss_cons (ps_expr (pe_fnYX H_need_width (hr.mono (by omega)) rfl (pa_cons (pv 0) pa_nil))) pss_never),?_⟩
 exact ⟨_,rfl,x,rfl,th,(fun h=>by rw [hb] at h; cases h),fun _=>qe⟩
theorem ok_sum_of {f:Addr} {fd:FuncData} (F:Fun K "sum_of" "sum_of" s_sum_of f fd) (T:Txt K mg c) (H_need_width:HasY P w K mg base 3 "need_width" ["width"] (spNeedY c)):FnOk P w K mg base (CX2 P w base) 4 f fd ["width", "a", "b"] (spNoW c 3):=by
 refine Fun.okY F sc_sum_of (fun vs H Q E h=>?_) (fun cdv A outer s H vs Q E hr h=>?_)
 ·obtain ⟨x,r,rfl,hl,_⟩:=h
  exact hl
 obtain ⟨x,r,rfl,hl,th,hb,qe⟩:=h
 obtain ⟨a,b,rfl⟩:∃ a b,r = [a,b]:=by
  match r,hl with
  | [a,b],_=>exact ⟨_,_,rfl⟩
 refine ⟨_,(pss_cons (ps_expr (pe_fnYX H_need_width (hr.mono (by omega)) rfl (pa_cons (pv 0) pa_nil))) pss_never),?_⟩
 exact ⟨_,rfl,x,rfl,th,(fun h=>by rw [hb] at h; cases h),fun _=>qe⟩
theorem ok_gap_of {f:Addr} {fd:FuncData} (F:Fun K "gap_of" "gap_of" s_gap_of f fd) (T:Txt K mg c) (H_need_width:HasY P w K mg base 3 "need_width" ["width"] (spNeedY c)):FnOk P w K mg base (CX2 P w base) 4 f fd ["width", "a", "b"] (spNoW c 3):=by
 refine Fun.okY F sc_gap_of (fun vs H Q E h=>?_) (fun cdv A outer s H vs Q E hr h=>?_)
 ·obtain ⟨x,r,rfl,hl,_⟩:=h
  exact hl
 obtain ⟨x,r,rfl,hl,th,hb,qe⟩:=h
 obtain ⟨a,b,rfl⟩:∃ a b,r = [a,b]:=by
  match r,hl with
  | [a,b],_=>exact ⟨_,_,rfl⟩
 refine ⟨_,(pss_cons (ps_expr (pe_fnYX H_need_width (hr.mono (by omega)) rfl (pa_cons (pv 0) pa_nil))) pss_never),?_⟩
 exact ⟨_,rfl,x,rfl,th,(fun h=>by rw [hb] at h; cases h),fun _=>qe⟩
theorem ok_low_product {f:Addr} {fd:FuncData} (F:Fun K "low_product" "low_product" s_low_product f fd) (T:Txt K mg c) (H_need_width:HasY P w K mg base 3 "need_width" ["width"] (spNeedY c)):FnOk P w K mg base (CX2 P w base) 4 f fd ["width", "a", "b"] (spNoW c 3):=by
 refine Fun.okY F sc_low_product (fun vs H Q E h=>?_) (fun cdv A outer s H vs Q E hr h=>?_)
 ·obtain ⟨x,r,rfl,hl,_⟩:=h
  exact hl
 obtain ⟨x,r,rfl,hl,th,hb,qe⟩:=h
 obtain ⟨a,b,rfl⟩:∃ a b,r = [a,b]:=by
  match r,hl with
  | [a,b],_=>exact ⟨_,_,rfl⟩
 refine ⟨_,(pss_cons (ps_expr (pe_fnYX H_need_width (hr.mono (by omega)) rfl (pa_cons (pv 0) pa_nil))) pss_never),?_⟩
 exact ⟨_,rfl,x,rfl,th,(fun h=>by rw [hb] at h; cases h),fun _=>qe⟩
theorem ok_high_product {f:Addr} {fd:FuncData} (F:Fun K "high_product" "high_product" s_high_product f fd) (T:Txt K mg c) (H_need_width:HasY P w K mg base 3 "need_width" ["width"] (spNeedY c)):FnOk P w K mg base (CX2 P w base) 4 f fd ["width", "a", "b"] (spNoW c 3):=by
 refine Fun.okY F sc_high_product (fun vs H Q E h=>?_) (fun cdv A outer s H vs Q E hr h=>?_)
 ·obtain ⟨x,r,rfl,hl,_⟩:=h
  exact hl
 obtain ⟨x,r,rfl,hl,th,hb,qe⟩:=h
 obtain ⟨a,b,rfl⟩:∃ a b,r = [a,b]:=by
  match r,hl with
  | [a,b],_=>exact ⟨_,_,rfl⟩
 refine ⟨_,(pss_cons (ps_expr (pe_fnYX H_need_width (hr.mono (by omega)) rfl (pa_cons (pv 0) pa_nil))) pss_never),?_⟩
 exact ⟨_,rfl,x,rfl,th,(fun h=>by rw [hb] at h; cases h),fun _=>qe⟩
theorem ok_left {f:Addr} {fd:FuncData} (F:Fun K "left" "left" s_left f fd) (T:Txt K mg c) (H_need_width:HasY P w K mg base 3 "need_width" ["width"] (spNeedY c)):FnOk P w K mg base (CX2 P w base) 4 f fd ["width", "a", "k"] (spNoW c 3):=by
 refine Fun.okY F sc_left (fun vs H Q E h=>?_) (fun cdv A outer s H vs Q E hr h=>?_)
 ·obtain ⟨x,r,rfl,hl,_⟩:=h
  exact hl
 obtain ⟨x,r,rfl,hl,th,hb,qe⟩:=h
 obtain ⟨a,b,rfl⟩:∃ a b,r = [a,b]:=by
  match r,hl with
  | [a,b],_=>exact ⟨_,_,rfl⟩
 refine ⟨_,(pss_cons (ps_expr (pe_fnYX H_need_width (hr.mono (by omega)) rfl (pa_cons (pv 0) pa_nil))) pss_never),?_⟩
 exact ⟨_,rfl,x,rfl,th,(fun h=>by rw [hb] at h; cases h),fun _=>qe⟩
theorem ok_right {f:Addr} {fd:FuncData} (F:Fun K "right" "right" s_right f fd) (T:Txt K mg c) (H_need_width:HasY P w K mg base 3 "need_width" ["width"] (spNeedY c)):FnOk P w K mg base (CX2 P w base) 4 f fd ["width", "a", "k"] (spNoW c 3):=by
 refine Fun.okY F sc_right (fun vs H Q E h=>?_) (fun cdv A outer s H vs Q E hr h=>?_)
 ·obtain ⟨x,r,rfl,hl,_⟩:=h
  exact hl
 obtain ⟨x,r,rfl,hl,th,hb,qe⟩:=h
 obtain ⟨a,b,rfl⟩:∃ a b,r = [a,b]:=by
  match r,hl with
  | [a,b],_=>exact ⟨_,_,rfl⟩
 refine ⟨_,(pss_cons (ps_expr (pe_fnYX H_need_width (hr.mono (by omega)) rfl (pa_cons (pv 0) pa_nil))) pss_never),?_⟩
 exact ⟨_,rfl,x,rfl,th,(fun h=>by rw [hb] at h; cases h),fun _=>qe⟩
theorem ok_slide {f:Addr} {fd:FuncData} (F:Fun K "slide" "slide" s_slide f fd) (T:Txt K mg c) (H_need_width:HasY P w K mg base 3 "need_width" ["width"] (spNeedY c)):FnOk P w K mg base (CX2 P w base) 4 f fd ["width", "a", "k"] (spNoW c 3):=by
 refine Fun.okY F sc_slide (fun vs H Q E h=>?_) (fun cdv A outer s H vs Q E hr h=>?_)
 ·obtain ⟨x,r,rfl,hl,_⟩:=h
  exact hl
 obtain ⟨x,r,rfl,hl,th,hb,qe⟩:=h
 obtain ⟨a,b,rfl⟩:∃ a b,r = [a,b]:=by
  match r,hl with
  | [a,b],_=>exact ⟨_,_,rfl⟩
 refine ⟨_,(pss_cons (ps_expr (pe_fnYX H_need_width (hr.mono (by omega)) rfl (pa_cons (pv 0) pa_nil))) pss_never),?_⟩
 exact ⟨_,rfl,x,rfl,th,(fun h=>by rw [hb] at h; cases h),fun _=>qe⟩
theorem ok_Kind___init__ {f:Addr} {fd:FuncData} (F:Fun K "__init__" "Kind.__init__" s_Kind___init__ f fd) (T:Txt K mg c) :FnOk P w K mg base CX0 1 f fd ["self", "width", "point"] (spKinit K):=by
 refine F.ok sc_Kind___init__ (fun vs H Q E h=>?_) (fun cdv A outer s H vs Q E hr h=>?_)
 ·obtain ⟨x,C,dx,w0,p,rfl,_⟩:=h
  rfl
 obtain ⟨x,C,dx,w0,p,rfl,hx,cl,n1,n2,q⟩:=h
 refine ⟨_,(pss_cons (ps_fld (pv 0) (pv 1) rfl)
  (pss_one (ps_fld (pv 0) (pv 2) rfl))),?_⟩
 refine ⟨_,rfl,_,rfl,x,C,dx,_,rfl,hx,cl,n1,by decide,?_⟩
 refine ⟨_,rfl,_,rfl,x,C,dx,_,rfl,upd_same,cl,n2,(by show 1 < 1000; decide),?_⟩
 exact q _ (SameX.upd.trans SameX.upd) upd_same
theorem ok_Plain___init__ {f:Addr} {fd:FuncData} (F:Fun K "__init__" "Plain.__init__" s_Plain___init__ f fd) (T:Txt K mg c) (H_need_width:HasY P w K mg base 3 "need_width" ["width"] (spNeedY c)) (B_Kind___init__:BHas P w K mg base 1 "Kind" "__init__" ["self", "width", "point"] (spKinit K)):FnOk P w K mg base (CX2 P w base) 4 f fd ["self", "width"] (spMkY c 0):=by
 refine Fun.okY F sc_Plain___init__ (fun vs H Q E h=>?_) (fun cdv A outer s H vs Q E hr h=>?_)
 ·obtain ⟨x,dx,v,rfl,_⟩:=h
  rfl
 obtain ⟨x,dx,v,rfl,hx,th,qv,qe⟩:=h
 refine ⟨_,(pss_cons (ps_expr (pe_fnYX H_need_width (hr.mono (by omega)) rfl (pa_cons (pv 1) pa_nil)))
  (pss_one (ps_expr (pe_clsP B_Kind___init__ (hr.mono (by omega)) rfl (pa_cons (pv 0) (pa_cons (pv 1) (pa_cons pe_int pa_nil))))))),?_⟩
 refine ⟨_,rfl,v,rfl,th,fun hb H1 s1=>?_,qe⟩
 obtain ⟨w0,rfl,h1,h2⟩:=btw_int hb
 refine ⟨_,rfl,_,rfl,x,_,dx,_,_,rfl,s1 _ _ hx,T.cls 0,T.naw 0,T.nap 0,fun H' s' h'=>?_⟩
 exact qv w0 rfl h1 h2 H' ((SameX.of s1).trans s') ⟨dx,h'⟩
theorem ok_Signed___init__ {f:Addr} {fd:FuncData} (F:Fun K "__init__" "Signed.__init__" s_Signed___init__ f fd) (T:Txt K mg c) (H_need_width:HasY P w K mg base 3 "need_width" ["width"] (spNeedY c)) (B_Kind___init__:BHas P w K mg base 1 "Kind" "__init__" ["self", "width", "point"] (spKinit K)):FnOk P w K mg base (CX2 P w base) 4 f fd ["self", "width"] (spMkY c 1):=by
 refine Fun.okY F sc_Signed___init__ (fun vs H Q E h=>?_) (fun cdv A outer s H vs Q E hr h=>?_)
 ·obtain ⟨x,dx,v,rfl,_⟩:=h
  rfl
 obtain ⟨x,dx,v,rfl,hx,th,qv,qe⟩:=h
 refine ⟨_,(pss_cons (ps_expr (pe_fnYX H_need_width (hr.mono (by omega)) rfl (pa_cons (pv 1) pa_nil)))
  (pss_one (ps_expr (pe_clsP B_Kind___init__ (hr.mono (by omega)) rfl (pa_cons (pv 0) (pa_cons (pv 1) (pa_cons pe_int pa_nil))))))),?_⟩
 refine ⟨_,rfl,v,rfl,th,fun hb H1 s1=>?_,qe⟩
 obtain ⟨w0,rfl,h1,h2⟩:=btw_int hb
 refine ⟨_,rfl,_,rfl,x,_,dx,_,_,rfl,s1 _ _ hx,T.cls 1,T.naw 1,T.nap 1,fun H' s' h'=>?_⟩
 exact qv w0 rfl h1 h2 H' ((SameX.of s1).trans s') ⟨dx,h'⟩
theorem ok_Pointed___init__ {f:Addr} {fd:FuncData} (F:Fun K "__init__" "Pointed.__init__" s_Pointed___init__ f fd) (T:Txt K mg c) (H_need_width:HasY P w K mg base 3 "need_width" ["width"] (spNeedY c)) (H_is_between:Has P w K mg base 2 "is_between" ["thing", "low", "high"] spBtwG) (B_Kind___init__:BHas P w K mg base 1 "Kind" "__init__" ["self", "width", "point"] (spKinit K)) (X_NoKind:XHas P w K mg base 1 "NoKind" c.NoKind "found"):FnOk P w K mg base (CX2 P w base) 4 f fd ["self", "width", "point"] (spMkP c):=by
 refine Fun.okY F sc_Pointed___init__ (fun vs H Q E h=>?_) (fun cdv A outer s H vs Q E hr h=>?_)
 ·obtain ⟨x,dx,v,u,rfl,_⟩:=h
  rfl
 obtain ⟨x,dx,v,u,rfl,hx,th,tu,qv,qe,qk⟩:=h
 refine ⟨_,(pss_cons (ps_expr (pe_fnYX H_need_width (hr.mono (by omega)) rfl (pa_cons (pv 1) pa_nil)))
  (pss_cons (ps_if (pt_not (pt_val (pe_fn H_is_between (hr.mono (by omega)) rfl (pa_cons (pv 2) (pa_cons pe_int (pa_cons (pe_op op_sub (pv 1) pe_int) pa_nil))))))
   (pss_one (ps_raise1 X_NoKind (hr.mono (by omega)) rfl (pa_cons (pv 2) pa_nil)))
   pss_nil)
  (pss_one (ps_expr (pe_clsP B_Kind___init__ (hr.mono (by omega)) rfl (pa_cons (pv 0) (pa_cons (pv 1) (pa_cons (pv 2) pa_nil)))))))),?_⟩
 refine ⟨_,rfl,v,rfl,th,fun hb H1 s1=>?_,qe⟩
 obtain ⟨w0,rfl,h1,h2⟩:=btw_int hb
 refine ⟨_,rfl,_,rfl,_,_,rfl,rfl,u,_,_,rfl,tu.same s1,_,rfl,?_⟩
 cases hu:btw u 1 (w0 - 1) with
 | false=>exact iteT ⟨_,rfl,_,rfl,fun d hd=>qk w0 rfl h1 h2 hu d _ upd_same (s1.trans (same_new hd _))⟩
 | true =>
  obtain ⟨p,rfl,p1,p2⟩:=btw_int hu
  refine iteF ⟨_,rfl,_,rfl,_,rfl,x,_,dx,_,_,rfl,s1 _ _ hx,T.cls 2,T.naw 2,T.nap 2,fun H' s' h'=>?_⟩
  exact qv w0 p rfl rfl h1 h2 p1 p2 H' ((SameX.of s1).trans s') ⟨dx,h'⟩
theorem ok_half {f:Addr} {fd:FuncData} (F:Fun K "half" "half" s_half f fd) (T:Txt K mg c) :FnOk P w K mg base CX0 1 f fd ["width"] spHalf:=by
 refine F.ok sc_half (fun vs H Q E h=>?_) (fun cdv A outer s H vs Q E hr h=>?_)
 ·obtain ⟨w0,rfl,_⟩:=h
  rfl
 obtain ⟨w0,rfl,h1,h2,q⟩:=h
 refine ⟨_,(pss_one (ps_ret (pe_op op_shl pe_int (pe_op op_sub (pv 0) pe_int)))),?_⟩
 exact ⟨_,rfl,_,_,rfl,rfl,_,_,rfl,rfl,cpow1 (by omega) (by omega),q⟩
theorem ok_Plain_least {f:Addr} {fd:FuncData} (F:Fun K "least" "Plain.least" s_Plain_least f fd) (T:Txt K mg c) :FnOk P w K mg base CX0 2 f fd ["self"] (spLeast c 0):=by
 refine F.ok sc_Plain_least (fun vs H Q E h=>?_) (fun cdv A outer s H vs Q E hr h=>?_)
 ·obtain ⟨x,w0,p,rfl,_⟩:=h
  rfl
 obtain ⟨x,w0,p,rfl,ko,h1,h2,q⟩:=h
 refine ⟨_,(pss_one (ps_ret pe_int)),?_⟩
 exact q
theorem ok_Plain_greatest {f:Addr} {fd:FuncData} (F:Fun K "greatest" "Plain.greatest" s_Plain_greatest f fd) (T:Txt K mg c) :FnOk P w K mg base CX0 2 f fd ["self"] (spGreat c 0):=by
 refine F.ok sc_Plain_greatest (fun vs H Q E h=>?_) (fun cdv A outer s H vs Q E hr h=>?_)
 ·obtain ⟨x,w0,p,rfl,_⟩:=h
  rfl
 obtain ⟨x,w0,p,rfl,ko,h1,h2,q⟩:=h
 refine ⟨_,(pss_one (ps_ret (pe_op op_sub (pe_op op_shl pe_int (pe_fld (pv 0) rfl)) pe_int))),?_⟩
 obtain ⟨dx,hx⟩:=ko
 exact ⟨_,rfl,x,_,dx,_,_,rfl,hx,T.cls 0,T.naw 0,rfl,_,_,rfl,rfl,cpow1 (by omega) (by omega),_,_,rfl,rfl,q⟩
theorem ok_Signed_least {f:Addr} {fd:FuncData} (F:Fun K "least" "Signed.least" s_Signed_least f fd) (T:Txt K mg c) (H_half:Has P w K mg base 1 "half" ["width"] spHalf):FnOk P w K mg base CX0 2 f fd ["self"] (spLeast c 1):=by
 refine F.ok sc_Signed_least (fun vs H Q E h=>?_) (fun cdv A outer s H vs Q E hr h=>?_)
 ·obtain ⟨x,w0,p,rfl,_⟩:=h
  rfl
 obtain ⟨x,w0,p,rfl,ko,h1,h2,q⟩:=h
 refine ⟨_,(pss_one (ps_ret (pe_un un_neg (pe_fn H_half (hr.mono (by omega)) rfl (pa_cons (pe_fld (pv 0) rfl) pa_nil))))),?_⟩
 obtain ⟨dx,hx⟩:=ko
 exact ⟨_,rfl,x,_,dx,_,_,rfl,hx,T.cls 1,T.naw 1,rfl,_,rfl,h1,h2,_,rfl,q⟩
theorem ok_Signed_greatest {f:Addr} {fd:FuncData} (F:Fun K "greatest" "Signed.greatest" s_Signed_greatest f fd) (T:Txt K mg c) (H_half:Has P w K mg base 1 "half" ["width"] spHalf):FnOk P w K mg base CX0 2 f fd ["self"] (spGreat c 1):=by
 refine F.ok sc_Signed_greatest (fun vs H Q E h=>?_) (fun cdv A outer s H vs Q E hr h=>?_)
 ·obtain ⟨x,w0,p,rfl,_⟩:=h
  rfl
 obtain ⟨x,w0,p,rfl,ko,h1,h2,q⟩:=h
 refine ⟨_,(pss_one (ps_ret (pe_op op_sub (pe_fn H_half (hr.mono (by omega)) rfl (pa_cons (pe_fld (pv 0) rfl) pa_nil)) pe_int))),?_⟩
 obtain ⟨dx,hx⟩:=ko
 exact ⟨_,rfl,x,_,dx,_,_,rfl,hx,T.cls 1,T.naw 1,rfl,_,rfl,h1,h2,_,_,rfl,rfl,q⟩
theorem ok_Pointed_least {f:Addr} {fd:FuncData} (F:Fun K "least" "Pointed.least" s_Pointed_least f fd) (T:Txt K mg c) (H_half:Has P w K mg base 1 "half" ["width"] spHalf):FnOk P w K mg base CX0 2 f fd ["self"] (spLeast c 2):=by
 refine F.ok sc_Pointed_least (fun vs H Q E h=>?_) (fun cdv A outer s H vs Q E hr h=>?_)
 ·obtain ⟨x,w0,p,rfl,_⟩:=h
  rfl
 obtain ⟨x,w0,p,rfl,ko,h1,h2,q⟩:=h
 refine ⟨_,(pss_one (ps_ret (pe_un un_neg (pe_fn H_half (hr.mono (by omega)) rfl (pa_cons (pe_fld (pv 0) rfl) pa_nil))))),?_⟩
 obtain ⟨dx,hx⟩:=ko
 exact ⟨_,rfl,x,_,dx,_,_,rfl,hx,T.cls 2,T.naw 2,rfl,_,rfl,h1,h2,_,rfl,q⟩
theorem ok_Pointed_greatest {f:Addr} {fd:FuncData} (F:Fun K "greatest" "Pointed.greatest" s_Pointed_greatest f fd) (T:Txt K mg c) (H_half:Has P w K mg base 1 "half" ["width"] spHalf):FnOk P w K mg base CX0 2 f fd ["self"] (spGreat c 2):=by
 refine F.ok sc_Pointed_greatest (fun vs H Q E h=>?_) (fun cdv A outer s H vs Q E hr h=>?_)
 ·obtain ⟨x,w0,p,rfl,_⟩:=h
  rfl
 obtain ⟨x,w0,p,rfl,ko,h1,h2,q⟩:=h
 refine ⟨_,(pss_one (ps_ret (pe_op op_sub (pe_fn H_half (hr.mono (by omega)) rfl (pa_cons (pe_fld (pv 0) rfl) pa_nil)) pe_int))),?_⟩
 obtain ⟨dx,hx⟩:=ko
 exact ⟨_,rfl,x,_,dx,_,_,rfl,hx,T.cls 2,T.naw 2,rfl,_,rfl,h1,h2,_,_,rfl,rfl,q⟩
theorem ok_is_word {f:Addr} {fd:FuncData} (F:Fun K "is_word" "is_word" s_is_word f fd) (T:Txt K mg c) (H_is_between:Has P w K mg base 2 "is_between" ["thing", "low", "high"] spBtwG):FnOk P w K mg base CX0 3 f fd ["width", "thing"] spWordG:=by
 refine F.ok sc_is_word (fun vs H Q E h=>?_) (fun cdv A outer s H vs Q E hr h=>?_)
 ·obtain ⟨i,x,rfl,_⟩:=h
  rfl
 obtain ⟨i,x,rfl,h1,h2,th,q⟩:=h
 refine ⟨_,(pss_one (ps_ret (pe_fn H_is_between (hr.mono (by omega)) rfl (pa_cons (pv 1) (pa_cons pe_int (pa_cons (pe_op op_sub (pe_op op_shl pe_int (pv 0)) pe_int) pa_nil)))))),?_⟩
 exact ⟨_,rfl,_,rfl,_,_,rfl,rfl,cpow1 (by omega) (by omega),_,_,rfl,rfl,x,_,_,rfl,th,q⟩
theorem ok_Kind_count_of {f:Addr} {fd:FuncData} (F:Fun K "count_of" "Kind.count_of" s_Kind_count_of f fd) (T:Txt K mg c) (H_is_word:Has P w K mg base 3 "is_word" ["width", "thing"] spWordG) (X_NoWord:XHas P w K mg base 1 "NoWord" c.NoWord "found") (MG:∀ i,i < 3→MHas P w K mg base 2 (cOf c i) "greatest" ["self"] (spGreat c i)):FnOk P w K mg base (CX2 P w base) 4 f fd ["self", "bits"] (spCntY c):=by
 refine Fun.okY F sc_Kind_count_of (fun vs H Q E h=>?_) (fun cdv A outer s H vs Q E hr h=>?_)
 ·obtain ⟨kd,x,w0,p,v,rfl,_⟩:=h
  rfl
 obtain ⟨kd,x,w0,p,v,rfl,hk,ko,h1,h2,th,qv,qe⟩:=h
 refine ⟨_,(pss_cons (ps_if (pt_not (pt_val (pe_fn H_is_word (hr.mono (by omega)) rfl (pa_cons (pe_fld (pv 0) rfl) (pa_cons (pv 1) pa_nil)))))
   (pss_one (ps_raise1 X_NoWord (hr.mono (by omega)) rfl (pa_cons (pv 1) pa_nil)))
   pss_nil)
  (pss_one (ps_ret (pe_ifExp (pt_cmpR op_le (pv 1) (pe_methP0 (k:=2) (pv 0) (hr.mono (by omega))) (nomark _)) (pv 1) (pe_op op_sub (pv 1) (pe_op op_shl pe_int (pe_fld (pv 0) rfl))))))),?_⟩
 obtain ⟨dx,hx⟩:=id ko
 refine ⟨_,rfl,x,_,dx,_,_,rfl,hx,T.cls kd,T.naw kd,rfl,_,rfl,w0,v,rfl,h1,h2,th,_,rfl,?_⟩
 cases hb:btw v 0 (1 * 2 ^ w0.toNat - 1) with
 | false=>exact iteT ⟨_,rfl,_,rfl,fun d hd=>qe hb d _ upd_same (same_new hd _)⟩
 | true =>
  obtain ⟨b,rfl,b0,b1⟩:=btw_int hb
  have q:=qv b rfl b0 (by omega)
  unfold cnt at q
  refine iteF ⟨_,rfl,_,rfl,x,_,dx,_,_,_,rfl,hx,rfl,MG kd hk,x,w0,p,rfl,ko,h1,h2,_,_,rfl,rfl,_,rfl,?_⟩
  walk_at "c" <;> intro c0
  ·rw [if_pos c0] at q
   exact ⟨_,rfl,q⟩
  ·rw [if_neg c0] at q
   exact ⟨_,rfl,_,rfl,x,_,dx,_,_,rfl,hx,T.cls kd,T.naw kd,rfl,_,_,rfl,rfl,cpow1 (by omega) (by omega),_,_,rfl,rfl,q⟩
theorem ok_Kind_bits_of {f:Addr} {fd:FuncData} (F:Fun K "bits_of" "Kind.bits_of" s_Kind_bits_of f fd) (T:Txt K mg c) (H_is_between:Has P w K mg base 2 "is_between" ["thing", "low", "high"] spBtwG) (X_NoWord:XHas P w K mg base 1 "NoWord" c.NoWord "found") (ML:∀ i,i < 3→MHas P w K mg base 2 (cOf c i) "least" ["self"] (spLeast c i)) (MG:∀ i,i < 3→MHas P w K mg base 2 (cOf c i) "greatest" ["self"] (spGreat c i)):FnOk P w K mg base (CX2 P w base) 3 f fd ["self", "count"] (spBitsY c):=by
 refine Fun.okY F sc_Kind_bits_of (fun vs H Q E h=>?_) (fun cdv A outer s H vs Q E hr h=>?_)
 ·obtain ⟨kd,x,w0,p,v,rfl,_⟩:=h
  rfl
 obtain ⟨kd,x,w0,p,v,rfl,hk,ko,h1,h2,th,qv,qe⟩:=h
 refine ⟨_,(pss_cons (ps_if (pt_not (pt_val (pe_fn H_is_between (hr.mono (by omega)) rfl (pa_cons (pv 1) (pa_cons (pe_methP0 (k:=2) (pv 0) (hr.mono (by omega))) (pa_cons (pe_methP0 (k:=2) (pv 0) (hr.mono (by omega))) pa_nil))))))
   (pss_one (ps_raise1 X_NoWord (hr.mono (by omega)) rfl (pa_cons (pv 1) pa_nil)))
   pss_nil)
  (pss_one (ps_ret (pe_op op_mod (pv 1) (pe_op op_shl pe_int (pe_fld (pv 0) rfl)))))),?_⟩
 obtain ⟨dx,hx⟩:=id ko
 refine ⟨_,rfl,_,rfl,x,_,dx,_,_,_,rfl,hx,rfl,ML kd hk,x,w0,p,rfl,ko,h1,h2,_,rfl,x,_,dx,_,_,_,rfl,hx,rfl,MG kd hk,x,w0,p,rfl,ko,h1,h2,v,_,_,rfl,th,_,rfl,?_⟩
 cases hb:btw v (lo kd w0) (hi kd w0) with
 | false=>exact iteT ⟨_,rfl,_,rfl,fun d hd=>qe hb d _ upd_same (same_new hd _)⟩
 | true =>
  obtain ⟨n,rfl,n1,n2⟩:=btw_int hb
  exact iteF ⟨_,rfl,_,rfl,x,_,dx,_,_,rfl,hx,T.cls kd,T.naw kd,rfl,_,_,rfl,rfl,cpow1 (by omega) (by omega),_,_,rfl,rfl,p1_pos _,qv n rfl n1 n2⟩
theorem pw_nat (p:Nat):(1:Int) * 2 ^ ((p:Int)).toNat = ((2 ^ p:Nat):Int):=by rw [Int.one_mul,Int.toNat_natCast]; push_cast; rfl
theorem ok_figures_behind {f:Addr} {fd:FuncData} (F:Fun K "figures_behind" "figures_behind" s_figures_behind f fd) (T:Txt K mg c) :FnOk P w K mg base CX0 1 f fd ["rest", "point"] spFigB:=by
 refine F.ok sc_figures_behind (fun vs H Q E h=>?_) (fun cdv A outer s H vs Q E hr h=>?_)
 ·obtain ⟨r,p,rfl,_⟩:=h
  rfl
 obtain ⟨r,p,rfl,hr0,hp,q⟩:=h
 refine ⟨_,(pss_cons (ps_set (i:=2) sc_figures_behind.nd rfl (Or.inl rfl) (pe_lst pa_nil))
  (pss_cons (ps_while PassesOwn.never (pt_cmpR op_ne (pv 0) pe_int (nomark _))
   (pss_cons (ps_set (i:=0) sc_figures_behind.nd rfl (Or.inl rfl) (pe_op op_mul (pv 0) pe_int))
   (pss_cons (ps_expr (pe_bm PySem.F.plainAttrs_list PySem.F.slot_list_append PySem.F.type_list_append mt_append (pv 2) (pa_cons (pe_callTy call_strW rfl T.n_str boot_str (pa_cons (pe_op op_shr (pv 0) (pv 1)) pa_nil)) pa_nil)))
   (pss_one (ps_set (i:=0) sc_figures_behind.nd rfl (Or.inl rfl) (pe_op op_mod (pv 0) (pe_op op_shl pe_int (pv 1))))))))
  (pss_one (ps_ret (pe_bm PySem.F.plainAttrs_str PySem.F.slot_str_join PySem.F.type_str_join mt_join pe_str (pa_cons (pv 2) pa_nil)))))),?_⟩
 have L1000:(1000:Nat)≤sizeLine:=by decide
 have pb:(2:Nat) ^ p≤2147483648:=Nat.le_trans (Nat.pow_le_pow_right (by decide) hp) (by decide)
 refine ⟨(by show 0≤sizeLine; decide),fun l hl=>?_⟩
 refine while_by (fun σ G=>∃ (B:List Nat) (f r':Nat),σ = [some (.int (r':Int)),some (.int (p:Int)),some (.ref l)]∧G l = some (.lst ((oneS B).map V.str))∧fg p p r = B ++ fg p f r'∧FOk p f r'∧B.length + f = p∧Same H G) (fun _ G=>match G l with | some (.lst xs)=>100 - xs.length | _=>0) ⟨[],p,r,rfl,upd_same,rfl,FOk.start hr0,Nat.zero_add _,same_new hl _⟩ ?_ ?_
 ·rintro σ G ⟨B,f,r',rfl,gl,ef,fo,bl,SG⟩
  have lB:((oneS B).map V.str).length = B.length:=by rw [List.length_map,oneS,List.length_map]
  refine ⟨_,rfl,rfl,_,rfl,?_⟩
  by_cases c0:r' = 0
  ·subst c0
   refine iteNS rfl ?_
   have e0:fg p f 0 = []:=by cases f <;> rfl
   rw [e0,List.append_nil] at ef
   refine ⟨ty_str,_,rfl,_,l,oneS B,rfl,rfl,SqL.of gl,?_,q _ G ((join_one B).trans ef.symm) SG⟩
   rw [one_len,oneS,List.length_map]
   show B.length + B.length * 0≤_
   omega
  ·refine iteN (fun z=>c0 (by injection z with z; omega)) ?_
   cases f with
   | zero=>exact absurd fo.zero c0
   | succ f =>
   have nx:=fo.next
   have lt:=fo.lt
   have q9:r' * 10 / 2 ^ p < 10:=Nat.div_lt_of_lt_mul (Nat.mul_lt_mul_of_pos_right lt (by decide))
   have ed:((r':Int) * 10) / 2 ^ ((p:Int)).toNat = ((r' * 10 / 2 ^ p:Nat):Int):=by rw [Int.toNat_natCast]; push_cast; rfl
   have em:((r':Int) * 10) % (1 * 2 ^ ((p:Int)).toNat) = ((r' * 10 % 2 ^ p:Nat):Int):=by rw [pw_nat]; push_cast; rfl
   have ef':fg p (f + 1) r' = (48 + r' * 10 / 2 ^ p) :: fg p f (r' * 10 % 2 ^ p):=by simp only [fg,if_neg c0]
   refine ⟨_,rfl,_,_,rfl,rfl,.inr ⟨by decide,by decide⟩,?_⟩
   refine ⟨_,rfl,.inl ⟨rfl,_,SqL.of gl⟩,_,rfl,_,rfl,_,_,rfl,rfl,(by show (0:Int)≤(p:Int); omega),((r' * 10 / 2 ^ p:Nat):Int),congrArg (fun z=>[V.int z]) ed,by generalize r' * 10 / 2 ^ p = dd; omega,by generalize r' * 10 / 2 ^ p = dd at q9; omega,?_⟩
   rw [str_dig q9]
   refine ⟨l,_,_,rfl,rfl,gl,by rw [lB]; omega,?_⟩
   refine ⟨_,rfl,_,rfl,_,_,rfl,rfl,cpow1 (by omega) (by omega),_,_,rfl,rfl,p1_pos _,?_⟩
   refine ⟨⟨B ++ [48 + r' * 10 / 2 ^ p],f,r' * 10 % 2 ^ p,?_,?_,by rw [ef,ef',List.append_assoc]; rfl,nx,by rw [List.length_append,List.length_singleton]; omega,Same.updL SG hl⟩,?_⟩
   ·show [some (V.int (((r':Int) * 10) % (1 * 2 ^ ((p:Int)).toNat))),some (V.int (p:Int)),some (V.ref l)] = _
    rw [em]
   ·rw [upd_same,oneS,oneS,List.map_append,List.map_append]
    rfl
   ·rw [upd_same,gl]
    show 100 - (((oneS B).map V.str) ++ _).length < 100 - ((oneS B).map V.str).length
    rw [List.length_append,lB,List.length_singleton]
    omega
 ·rintro σ G Q1 Q2 m ⟨v,hv,f,b,hb,q⟩
  exact ⟨v,hv,f,b,hb,m _ _ q⟩
theorem shT_str {p:Nat} {M:Int} {sg u r:Str} (h1:sg.cps.toList = if decide (M < 0) = true then [45] else []) (h2:u.cps.toList = dgs (M.natAbs / 2 ^ p)) (h3:r.cps.toList = if fg p p (M.natAbs % 2 ^ p) = [] then [] else 46 :: fg p p (M.natAbs % 2 ^ p)):(sg ++ u ++ r:Str).cps.toList = shT p M:=by
 rw [app_list,app_list,h1,h2,h3,List.append_assoc]
 rfl
theorem ok_Kind_shown {f:Addr} {fd:FuncData} (F:Fun K "shown" "Kind.shown" s_Kind_shown f fd) (T:Txt K mg c) (H_figures_behind:Has P w K mg base 1 "figures_behind" ["rest", "point"] spFigB) (MC:∀ i,i < 3→MHasY P w K mg base 4 (cOf c i) "count_of" ["self", "bits"] (spCntY c)):FnOk P w K mg base (CX2 P w base) 5 f fd ["self", "bits"] (spAnyY c):=by
 refine Fun.okY F sc_Kind_shown (fun vs H Q E h=>?_) (fun cdv A outer s H vs Q E hr h=>?_)
 ·obtain ⟨kd,x,w',p,v,rfl,_⟩:=h
  rfl
 obtain ⟨kd,x,w',p,v,rfl,hk,ko,w0,w1,hp,th,qv,qe⟩:=h
 refine ⟨_,(pss_cons (ps_set (i:=2) sc_Kind_shown.nd rfl (Or.inl rfl) (pe_methY (k:=4) passY (pv 0) (hr.mono (by omega)) (pa_cons (pv 1) pa_nil)))
  (pss_cons (ps_set (i:=3) sc_Kind_shown.nd rfl (Or.inl rfl) (pe_ifExp (pt_cmpR op_lt (pv 2) pe_int (nomark _)) pe_str pe_str))
  (pss_cons (ps_set (i:=4) sc_Kind_shown.nd rfl (Or.inl rfl) (pe_callTy call_strW rfl T.n_str boot_str (pa_cons (pe_op op_shr (pe_callB call_abs rfl T.n_abs boot_abs (pa_cons (pv 2) pa_nil)) (pe_fld (pv 0) rfl)) pa_nil)))
  (pss_cons (ps_set (i:=5) sc_Kind_shown.nd rfl (Or.inl rfl) (pe_fn H_figures_behind (hr.mono (by omega)) rfl (pa_cons (pe_op op_mod (pe_callB call_abs rfl T.n_abs boot_abs (pa_cons (pv 2) pa_nil)) (pe_op op_shl pe_int (pe_fld (pv 0) rfl))) (pa_cons (pe_fld (pv 0) rfl) pa_nil))))
  (pss_one (ps_ret (pe_op op_add_str (pe_op op_add_str (pv 3) (pv 4)) (pe_ifExp (pt_txt (pv 5)) (pe_op op_add_str pe_str (pv 5)) pe_str)))))))),?_⟩
 have L1000:(1000:Nat)≤sizeLine:=by decide
 obtain ⟨dx,hx⟩:=id ko
 have PB:=pw_bounds w0 w1
 refine ⟨_,rfl,x,_,dx,_,_,_,rfl,hx,rfl,MC kd hk,_,rfl,kd,x,w',_,v,rfl,hk,ko,w0,w1,th,fun b eb b0 b1=>?_,qe⟩
 have q:∀ (z:Str) H',z.cps.toList = shT p (cnt kd w' b)→Same H H'→Q (.str z) H':=fun z H' _ s'=>qv b eb b0 b1 _ H' s'
 generalize eM:cnt kd w' b = M at q ⊢
 have eA:(if M < 0 then -M else M) = ((M.natAbs:Nat):Int):=by split <;> omega
 have eW:((M.natAbs:Nat):Int) / 2 ^ ((p:Int)).toNat = ((M.natAbs / 2 ^ p:Nat):Int):=by rw [Int.toNat_natCast]; push_cast; rfl
 have eR:((M.natAbs:Nat):Int) % (1 * 2 ^ ((p:Int)).toNat) = ((M.natAbs % 2 ^ p:Nat):Int):=by rw [pw_nat]; push_cast; rfl
 have Mb:M.natAbs≤4294967296:=by
  have hf:=pw_half w0
  rw [← eM]
  unfold cnt hi
  by_cases k:kd = 0
  ·rw [if_pos k]
   split <;> omega
  ·rw [if_neg k]
   split <;> omega
 have kb:M.natAbs / 2 ^ p≤4294967296:=Nat.le_trans (Nat.div_le_self _ _) Mb
 have lD:(dgs (M.natAbs / 2 ^ p)).length≤10:=dgs_len 9 _ (Nat.lt_of_le_of_lt kb (by decide))
 have lS:=str_len (Str.ofString (toString ((M.natAbs / 2 ^ p:Nat):Int)))
 rw [str_nat] at lS
 have fgl:=(fg_ok (FOk.start (Nat.mod_lt M.natAbs (Nat.two_pow_pos p)))).2.2.1
 refine ⟨_,rfl,_,_,rfl,rfl,_,rfl,?_⟩
 refine iteC (fun c0=>?_) (fun c0=>?_)
 all_goals
  refine ⟨_,rfl,_,rfl,_,rfl,x,_,dx,_,_,rfl,hx,T.cls kd,T.nap kd,rfl,_,_,rfl,rfl,(by omega),((M.natAbs / 2 ^ p:Nat):Int),congrArg (fun z=>[V.int z]) ((congrArg (· / 2 ^ ((p:Int)).toNat) eA).trans eW),by generalize M.natAbs / 2 ^ p = kk at kb; omega,by generalize M.natAbs / 2 ^ p = kk at kb; omega,?_⟩
  refine ⟨_,rfl,_,rfl,_,rfl,x,_,dx,_,_,rfl,hx,T.cls kd,T.nap kd,rfl,_,_,rfl,rfl,cpow1 (by omega) (by omega),_,_,rfl,rfl,p1_pos _,_,rfl,x,_,dx,_,_,rfl,hx,T.cls kd,T.nap kd,rfl,M.natAbs % 2 ^ p,p,congrArg (fun z=>[V.int z,V.int (p:Int)]) ((congrArg (· % (1 * 2 ^ ((p:Int)).toNat)) eA).trans eR),Nat.mod_lt _ (Nat.two_pow_pos p),hp,fun zb H1 eb s1=>?_⟩
  have lb:=str_len zb
  rw [eb] at lb
  have m1:(Str.ofString "-").length = 1:=by decide
  have m0:(Str.ofString "").length = 0:=by decide
  have md:(Str.ofString ".").length = 1:=by decide
  refine ⟨_,rfl,_,rfl,_,_,rfl,rfl,by omega,_,rfl,zb,rfl,by omega,?_⟩
  by_cases cz:zb.length = 0
  ·have ez:fg p p (M.natAbs % 2 ^ p) = []:=List.length_eq_zero_iff.mp (by omega)
   rw [decide_eq_false (fun z=>z cz)]
   refine iteF ⟨_,_,rfl,rfl,by rw [addL]; omega,q _ H1 (shT_str ?_ (str_nat _) (by rw [if_pos ez]; rfl)) s1⟩
   first | (rw [decide_eq_true c0]; rfl) | (rw [decide_eq_false c0]; rfl)
  ·have ez:fg p p (M.natAbs % 2 ^ p) ≠ []:=fun z=>cz (by rw [z] at lb; exact lb.symm)
   rw [decide_eq_true cz]
   refine iteT ⟨_,rfl,_,_,rfl,rfl,by omega,_,_,rfl,rfl,by rw [addL,addL]; omega,q _ H1 (shT_str ?_ (str_nat _) (by rw [if_neg ez,app_list,eb]; rfl)) s1⟩
   first | (rw [decide_eq_true c0]; rfl) | (rw [decide_eq_false c0]; rfl)
theorem ok_common_divisor {f:Addr} {fd:FuncData} (F:Fun K "common_divisor" "common_divisor" s_common_divisor f fd) (T:Txt K mg c) :FnOk P w K mg base CX0 1 f fd ["a", "b"] spGcd:=by
 refine F.ok sc_common_divisor (fun vs H Q E h=>?_) (fun cdv A outer s H vs Q E hr h=>?_)
 ·obtain ⟨a,b,rfl,_⟩:=h
  rfl
 obtain ⟨a,b,rfl,a0,b0,q⟩:=h
 refine ⟨_,(pss_cons (ps_while PassesOwn.never (pt_cmpR op_ne (pv 1) pe_int (nomark _))
   (pss_cons (ps_set (i:=2) sc_common_divisor.nd rfl (Or.inl rfl) (pe_op op_mod (pv 0) (pv 1)))
   (pss_cons (ps_set (i:=0) sc_common_divisor.nd rfl (Or.inl rfl) (pv 1))
   (pss_one (ps_set (i:=1) sc_common_divisor.nd rfl (Or.inl rfl) (pv 2))))))
  (pss_one (ps_ret (pv 0)))),?_⟩
 refine while_by (fun σ H1=>∃ (x y:Int) (z:Option V),σ = [some (.int x),some (.int y),z]∧H1 = H∧0≤x∧0≤y∧gcI x y = gcI a b) (fun σ _=>match σ with | [_,some (.int y),_]=>y.toNat | _=>0) ⟨a,b,none,rfl,rfl,a0,b0,rfl⟩ ?_ ?_
 ·rintro σ H1 ⟨x,y,z,rfl,rfl,x0,y0,e⟩
  refine ⟨_,rfl,rfl,_,rfl,?_⟩
  by_cases hc:y = 0
  ·subst hc
   refine iteNS rfl ?_
   refine ⟨_,rfl,?_⟩
   have ex:gcI x 0 = x:=by
    show ((Int.gcd x 0:Nat):Int) = x
    rw [Int.gcd_zero_right]
    omega
   rw [ex] at e
   rw [e]
   exact q
  ·refine iteN (fun e=>hc (by cases e; rfl)) ?_
   have y1:0 < y:=by omega
   refine ⟨_,rfl,_,rfl,_,_,rfl,rfl,y1,?_⟩
   refine ⟨_,rfl,?_⟩
   refine ⟨_,rfl,?_⟩
   have m0:=Int.emod_nonneg x (show y ≠ 0 by omega)
   have m1:=Int.emod_lt_of_pos x y1
   refine ⟨⟨y,x % y,_,rfl,rfl,by omega,m0,?_⟩,?_⟩
   ·rw [← e]
    exact congrArg _ (gcd_step x0 y1)
   ·show (x % y).toNat < y.toNat
    omega
 ·rintro σ H1 Q1 Q2 hQ ⟨v,hv,e,k,hk,q1⟩
  exact ⟨v,hv,e,k,hk,hQ _ _ q1⟩
theorem ok_fraction {f:Addr} {fd:FuncData} (F:Fun K "fraction" "fraction" s_fraction f fd) (T:Txt K mg c) (H_common_divisor:Has P w K mg base 1 "common_divisor" ["a", "b"] spGcd) (H_is_whole:Has P w K mg base 1 "is_whole" ["thing"] spWhole):FnOk P w K mg base CX0 2 f fd ["top", "bottom"] spFrac:=by
 refine F.ok sc_fraction (fun vs H Q E h=>?_) (fun cdv A outer s H vs Q E hr h=>?_)
 ·obtain ⟨n,p,rfl,_⟩:=h
  rfl
 obtain ⟨n,p,rfl,p0,hb,q⟩:=h
 refine ⟨_,(pss_cons (ps_if (PW.pt (pw_or (pt_not (pt_val (pe_fn H_is_whole (hr.mono (by omega)) rfl (pa_cons (pv 0) pa_nil)))) (pw_or (pt_not (pt_val (pe_fn H_is_whole (hr.mono (by omega)) rfl (pa_cons (pv 1) pa_nil)))) (pw_or1 (pt_cmpR op_eq (pv 1) pe_int (nomark _))))))
   (pss_one ps_never)
   pss_nil)
  (pss_cons (ps_set (i:=2) sc_fraction.nd rfl (Or.inl rfl) (pe_fn H_common_divisor (hr.mono (by omega)) rfl (pa_cons (pe_callB call_abs rfl T.n_abs boot_abs (pa_cons (pv 0) pa_nil)) (pa_cons (pe_callB call_abs rfl T.n_abs boot_abs (pa_cons (pv 1) pa_nil)) pa_nil))))
  (pss_cons (ps_if (pt_cmpR op_lt (pv 1) pe_int (nomark _))
   (pss_one (ps_set (i:=2) sc_fraction.nd rfl (Or.inl rfl) (pe_un un_neg (pv 2))))
   pss_nil)
  (pss_one (ps_ret (pe_tup (pa_cons (pe_op op_fdivB (pv 0) (pv 2)) (pa_cons (pe_op op_fdivB (pv 1) (pv 2)) pa_nil)))))))),?_⟩
 refine ⟨_,rfl,_,rfl,_,rfl,iteF ?_⟩
 refine ⟨_,rfl,_,rfl,_,rfl,iteF ?_⟩
 refine ⟨_,rfl,rfl,_,rfl,?_⟩
 refine iteE (fun e=>by cases e; omega) ?_
 have e1:(if n < 0 then -n else n) = (n.natAbs:Int):=by split <;> omega
 have e2:(if p < 0 then -p else p) = (p.natAbs:Int):=by split <;> omega
 have eg:gcI (if n < 0 then -n else n) (if p < 0 then -p else p) = gcI n p:=by
  rw [e1,e2]
  show ((Int.gcd _ _:Nat):Int) = ((Int.gcd _ _:Nat):Int)
  rw [gcd_abs]
 refine ⟨_,rfl,_,rfl,_,rfl,_,rfl,_,_,rfl,(by rw [e1]; omega),(by rw [e2]; omega),?_⟩
 rw [eg]
 have g0:0 < gcI n p:=gcd_pos (by omega)
 have gl:(gcI n p).natAbs.log2 < 9000:=by
  refine log_of_bits g0 (bits_le ?_ hb)
  have:=Int.gcd_le_natAbs_right n (show p ≠ 0 by omega)
  show (((Int.gcd n p:Nat):Int)).natAbs≤p.natAbs
  omega
 refine ⟨_,rfl,_,_,rfl,rfl,_,rfl,iteDN (show ¬ p < 0 by omega) ?_⟩
 refine ⟨_,rfl,_,rfl,_,_,rfl,rfl,⟨g0,gl⟩,_,rfl,_,rfl,_,_,rfl,rfl,⟨g0,gl⟩,(by show 2≤sizeLine; decide),fun t ht=>q t ht⟩
theorem ok_by_twos {f:Addr} {fd:FuncData} (F:Fun K "by_twos" "by_twos" s_by_twos f fd) (T:Txt K mg c) (H_fraction:Has P w K mg base 2 "fraction" ["top", "bottom"] spFrac):FnOk P w K mg base CX0 3 f fd ["number", "k"] spTwos:=by
 refine F.ok sc_by_twos (fun vs H Q E h=>?_) (fun cdv A outer s H vs Q E hr h=>?_)
 ·obtain ⟨n,p,rfl,_⟩:=h
  rfl
 obtain ⟨n,k,rfl,k0,k1,q⟩:=h
 refine ⟨_,(pss_one (ps_ret (pe_fn H_fraction (hr.mono (by omega)) rfl (pa_cons (pv 0) (pa_cons (pe_op op_shl pe_int (pv 1)) pa_nil))))),?_⟩
 refine ⟨_,rfl,_,rfl,_,_,rfl,rfl,cpow1 k0 (by omega),_,_,rfl,p1_pos _,Nat.le_trans (bits_pow k.toNat) (by omega),fun t ht=>q t ht⟩
theorem ok_Kind_value_of {f:Addr} {fd:FuncData} (F:Fun K "value_of" "Kind.value_of" s_Kind_value_of f fd) (T:Txt K mg c) (H_by_twos:Has P w K mg base 3 "by_twos" ["number", "k"] spTwos) (MC:∀ i,i < 3→MHasY P w K mg base 4 (cOf c i) "count_of" ["self", "bits"] (spCntY c)):FnOk P w K mg base (CX2 P w base) 5 f fd ["self", "bits"] (spAnyY c):=by
 refine Fun.okY F sc_Kind_value_of (fun vs H Q E h=>?_) (fun cdv A outer s H vs Q E hr h=>?_)
 ·obtain ⟨kd,x,w',p,v,rfl,_⟩:=h
  rfl
 obtain ⟨kd,x,w',p,v,rfl,hk,ko,w0,w1,hp,th,qv,qe⟩:=h
 refine ⟨_,(pss_one (ps_ret (pe_fn H_by_twos (hr.mono (by omega)) rfl (pa_cons (pe_methY (k:=4) passY (pv 0) (hr.mono (by omega)) (pa_cons (pv 1) pa_nil)) (pa_cons (pe_fld (pv 0) rfl) pa_nil))))),?_⟩
 obtain ⟨dx,hx⟩:=id ko
 exact ⟨_,rfl,x,_,dx,_,_,_,rfl,hx,rfl,MC kd hk,_,rfl,kd,x,w',_,v,rfl,hk,ko,w0,w1,th,fun b eb b0 b1=>⟨_,rfl,x,_,dx,_,_,rfl,hx,T.cls kd,T.nap kd,rfl,_,_,rfl,by omega,by omega,fun t ht=>qv b eb b0 b1 _ _ (same_new ht _)⟩,qe⟩
theorem ok__law_cell {f:Addr} {fd:FuncData} (F:Fun K "_law_cell" "_law_cell" s__law_cell f fd) (T:Txt K mg c) :FnOk P w K mg base CX0 1 f fd ["_law_script", "_law_k"] (spCell K):=by
 refine F.ok sc__law_cell (fun vs H Q E h=>?_) (fun cdv A outer s H vs Q E hr h=>?_)
 ·obtain ⟨a,ns,k,rfl,_⟩:=h
  rfl
 obtain ⟨a,ns,k,rfl,hS,h0,q⟩:=h
 refine ⟨_,(pss_cons (ps_if (pt_cmpR op_lt (pv 1) (pe_callB call_len_seq rfl T.n_len boot_len (pa_cons (pv 0) pa_nil)) (nomark _))
   (pss_one (ps_ret (pe_ix ix_list (pv 0) (pv 1) (fun _ _=>rfl))))
   pss_nil)
  (pss_one (ps_ret (pe_op op_add (pe_op op_mul pe_int (pv 1)) pe_int)))),?_⟩
 have hl:(ns.map V.int).length = ns.length:=List.length_map _
 refine ⟨_,rfl,_,rfl,a,_,rfl,.inl hS,_,_,rfl,rfl,_,rfl,?_⟩
 by_cases hc:k < (((ns.map V.int).length:Nat):Int)
 ·refine iteD hc ?_
  rw [hl] at hc
  have e:k = ((k.toNat:Nat):Int):=by omega
  have g:=getI ns k.toNat (by omega)
  rw [← e] at g
  exact ⟨_,rfl,_,rfl,a,_,_,_,rfl,rfl,hS,g,q _⟩
 ·refine iteDN hc ?_
  exact ⟨_,rfl,_,_,rfl,rfl,.inl ⟨by decide,by decide⟩,_,_,rfl,rfl,q _⟩
theorem ok__law_box {f:Addr} {fd:FuncData} (F:Fun K "_law_box" "_law_box" s__law_box f fd) (T:Txt K mg c) :FnOk P w K mg base CX0 1 f fd ["_law_cell_here"] spBox:=by
 refine F.ok sc__law_box (fun vs H Q E h=>?_) (fun cdv A outer s H vs Q E hr h=>?_)
 ·obtain ⟨c,rfl,_⟩:=h
  rfl
 obtain ⟨c,rfl,q⟩:=h
 refine ⟨_,(pss_one (ps_ret (pe_lst (pa_cons (pe_callB (call_max2 rfl) rfl T.n_max boot_max (pa_cons pe_int (pa_cons (pe_op op_sub (pv 0) (pe_op op_pow pe_int pe_int)) pa_nil))) (pa_cons (pe_op op_mod (pv 0) pe_int) (pa_cons pe_int pa_nil)))))),?_⟩
 refine ⟨_,rfl,_,_,rfl,rfl,⟨by decide,by decide,by decide⟩,_,_,rfl,rfl,_,_,rfl,?_⟩
 refine ⟨_,rfl,_,_,rfl,rfl,(by show (0:Int) < 2147483647; decide),(by show 3≤sizeLine; decide),fun p hp=>?_⟩
 exact q p _ hp ⟨_,_,_,upd_same⟩ (same_new hp _)
theorem ok__law_take {f:Addr} {fd:FuncData} (F:Fun K "_law_take" "_law_take" s__law_take f fd) (T:Txt K mg c) :FnOk P w K mg base CX0 1 f fd ["_law_box_here", "_law_many"] spTake:=by
 refine F.ok sc__law_take (fun vs H Q E h=>?_) (fun cdv A outer s H vs Q E hr h=>?_)
 ·obtain ⟨p,m,rfl,_⟩:=h
  rfl
 obtain ⟨p,m,rfl,⟨r,s1,c,hp⟩,h1,h2,q⟩:=h
 refine ⟨_,(pss_cons (ps_if (pt_cmpR op_gt (pe_ix ix_list (pv 0) pe_int (fun _ _=>rfl)) pe_int (nomark _))
   (pss_cons (ps_set (i:=2) sc__law_take.nd rfl (Or.inl rfl) (pe_op op_mod (pe_ix ix_list (pv 0) pe_int (fun _ _=>rfl)) (pv 1)))
   (pss_cons (ps_asg (pe_op op_fdivB (pe_ix ix_list (pv 0) pe_int (fun _ _=>rfl)) (pv 1)) (pg_sub (pv 0) pe_int set_list))
   (pss_one (ps_ret (pv 2)))))
   pss_nil)
  (pss_cons (ps_asg (pe_op op_add (pe_ix ix_list (pv 0) pe_int (fun _ _=>rfl)) pe_int) (pg_sub (pv 0) pe_int set_list))
  (pss_cons (ps_set (i:=3) sc__law_take.nd rfl (Or.inl rfl) (pe_op op_mod (pe_op op_mul (pe_op op_add (pe_op op_add (pe_ix ix_list (pv 0) pe_int (fun _ _=>rfl)) (pe_op op_mul pe_int (pe_ix ix_list (pv 0) pe_int (fun _ _=>rfl)))) pe_int) pe_int) pe_int))
  (pss_cons (ps_set (i:=3) sc__law_take.nd rfl (Or.inl rfl) (pe_op op_mod (pe_op op_add (pe_op op_add (pe_op op_mul (pv 3) (pv 3)) (pe_op op_mul pe_int (pe_ix ix_list (pv 0) pe_int (fun _ _=>rfl)))) pe_int) pe_int))
  (pss_one (ps_ret (pe_op op_mod (pe_op op_fdivB (pe_op op_mod (pe_op op_mul (pv 3) (pe_op op_add (pv 3) pe_int)) pe_int) pe_int) (pv 1)))))))),?_⟩
 refine ⟨_,rfl,p,_,_,_,rfl,rfl,SqL.of hp,rfl,_,_,rfl,rfl,_,rfl,?_⟩
 by_cases hc:0 < r
 ·refine iteD hc ?_
  refine ⟨_,rfl,p,_,_,_,rfl,rfl,SqL.of hp,rfl,_,rfl,_,_,rfl,rfl,h1,?_⟩
  refine ⟨_,rfl,p,_,_,_,rfl,rfl,SqL.of hp,rfl,_,rfl,_,_,rfl,rfl,⟨h1,log_small h1 h2⟩,?_⟩
  refine ⟨_,rfl,p,_,_,_,rfl,rfl,hp,rfl,?_⟩
  refine ⟨_,rfl,?_⟩
  exact q _ _ (Int.emod_nonneg _ (by omega)) (Int.emod_lt_of_pos _ h1) ⟨_,_,_,upd_same⟩ SameX.upd
 ·refine iteDN hc ?_
  refine ⟨_,rfl,p,_,_,_,rfl,rfl,SqL.of hp,rfl,_,_,rfl,rfl,?_⟩
  refine ⟨_,rfl,p,_,_,_,rfl,rfl,hp,rfl,?_⟩
  refine ⟨_,rfl,p,_,_,_,rfl,rfl,SqL.of upd_same,rfl,_,rfl,p,_,_,_,rfl,rfl,SqL.of upd_same,rfl,_,_,rfl,rfl,.inl ⟨by decide,by decide⟩,_,_,rfl,rfl,_,_,rfl,rfl,_,_,rfl,rfl,.inr ⟨by decide,by decide⟩,_,_,rfl,rfl,(by show (0:Int) < 2147483629; decide),?_⟩
  refine ⟨_,rfl,_,rfl,_,_,rfl,rfl,cmul_mod (by decide) (by decide),_,rfl,p,_,_,_,rfl,rfl,SqL.of upd_same,rfl,_,_,rfl,rfl,.inl ⟨by decide,by decide⟩,_,_,rfl,rfl,_,_,rfl,rfl,_,_,rfl,rfl,(by show (0:Int) < 2147483587; decide),?_⟩
  refine ⟨_,rfl,_,rfl,_,_,rfl,rfl,_,_,rfl,rfl,cmul_mod (by decide) (by decide),_,_,rfl,rfl,(by show (0:Int) < 2147483647; decide),_,_,rfl,rfl,⟨by decide,by decide⟩,_,rfl,_,_,rfl,rfl,h1,?_⟩
  exact q _ _ (Int.emod_nonneg _ (by omega)) (Int.emod_lt_of_pos _ h1) ⟨_,_,_,upd_same⟩ SameX.upd
def isB:V→Bool
 | .bl _=>true
 | _=>false
theorem kit_str_bl (K:PySem.W.Frag):PySem.W.kitOne K (.type "str") (.type "bool") = some false:=by with_unfolding_all rfl
theorem kit_non_bl (K:PySem.W.Frag):PySem.W.kitOne K (.type "NoneType") (.type "bool") = some false:=by with_unfolding_all rfl
theorem kit_lst_bl (K:PySem.W.Frag):PySem.W.kitOne K (.type "list") (.type "bool") = some false:=by with_unfolding_all rfl
theorem kit_tup_bl (K:PySem.W.Frag):PySem.W.kitOne K (.type "tuple") (.type "bool") = some false:=by with_unfolding_all rfl
theorem kit_dct_bl (K:PySem.W.Frag):PySem.W.kitOne K (.type "dict") (.type "bool") = some false:=by with_unfolding_all rfl
theorem Th.isbl {K:PySem.W.Frag} {H:Hp} {x:V} (t:Th H x):∃ ty,TyOf K H x ty∧PySem.W.kitOne K ty (.type "bool") = some (isB x):=by
 cases t with
 | int i=>exact ⟨_,TyOf.int _,kit_int_bool _⟩
 | bl b=>exact ⟨_,TyOf.bl _,kit_bl_bl _⟩
 | str x=>exact ⟨_,TyOf.str _,kit_str_bl _⟩
 | non=>exact ⟨_,TyOf.non,kit_non_bl _⟩
 | lst h=>exact ⟨_,TyOf.lst h,kit_lst_bl _⟩
 | tup h=>exact ⟨_,TyOf.tup h,kit_tup_bl _⟩
 | dct h=>exact ⟨_,TyOf.dK h,kit_dct_bl _⟩
structure Thn (H:Hp) (v:V):Prop where
 th:Th H v
 sm:Sm1 H v
theorem Thn.move {H H':Hp} {v:V} (t:Thn H v) (k:∀ a u,v = .ref a→(∀ ps,u ≠ .tbl ps)→H a = some u→H' a = some u):Thn H' v:=by
 obtain ⟨th,sm⟩:=t
 cases th with
 | int i=>exact ⟨.int i,fun _ _ e=>nomatch e⟩
 | bl i=>exact ⟨.bl i,fun _ _ e=>nomatch e⟩
 | str i=>exact ⟨.str i,fun _ _ e=>nomatch e⟩
 | non=>exact ⟨.non,fun _ _ e=>nomatch e⟩
 | @lst a xs h =>
  have h':=k a (.lst xs) rfl (fun _ z=>nomatch z) h
  exact ⟨.lst h',fun b kvs e h2=>by cases e; rw [h'] at h2; cases h2⟩
 | @tup a xs h =>
  have h':=k a (.tup xs) rfl (fun _ z=>nomatch z) h
  exact ⟨.tup h',fun b kvs e h2=>by cases e; rw [h'] at h2; cases h2⟩
 | @dct a kvs h =>
  have h':=k a (.dK kvs) rfl (fun _ z=>nomatch z) h
  exact ⟨.dct h',fun b kvs' e h2=>by cases e; rw [h'] at h2; cases h2; exact sm a _ rfl h⟩
theorem Thn.kp {H H':Hp} {v:V} (t:Thn H v) (k:Kp H H'):Thn H' v:=t.move fun a u _ n e=>k a u n e
theorem Thn.same {H H':Hp} {v:V} (t:Thn H v) (s:Same H H'):Thn H' v:=t.kp (Kp.of s)
theorem Thn.samX {H H':Hp} {v:V} {p:Addr} (t:Thn H v) (n:v ≠ .ref p) (s:SameX p H H'):Thn H' v:=t.move fun a u e _ h=>s a u (fun z=>n (z ▸ e)) h
def xOf (c:Ad):Nat→Addr
 | 0=>c.NoWidth
 | 1=>c.NoKind
 | _=>c.NoWord
def xwd:Nat→Str
 | 0=>"width"
 | 1=>"kind"
 | _=>"word"
def EX (c:Ad) (Q:VK):XK:=fun cls od H1=>∃ (i:Nat) (d:Addr) (u:V),i < 3∧cls = .ref (xOf c i)∧od = some d∧H1 d = some (.xd [("found",u)])∧∀ t H2,Same H1 H2→H2 t = some (.tup [.str (xwd i),u])→Q (.ref t) H2
def Tells (c:Ad) (L:LamD) (v:V) (H:Hp) (Q:VK):Prop:=∀ (E':XK) (Q':VK),(∀ cls od H1,EX c Q cls od H1→E' cls od H1)→(∀ u H1,Q .non H1→Q' u H1)→L.te E' (some v :: L.vals.map some) H Q'
def spTold (P:Program) (w:World) (K:PySem.W.Frag) (mg:Str→Option Value) (base:Heap) (c:Ad):List Env→Shared→Sp:=fun outer s vs H Q _=>∃ (L:LamD) (f:Addr) (v:V),vs = [.ref f,v]∧L.Good P w K mg base 6∧L.at H f∧Cells s.heap H (frs outer) L.cl L.ns L.vals∧Tells c L v H Q
def RT (P:Program) (w:World) (K:PySem.W.Frag) (mg:Str→Option Value) (base:Heap) (c:Ad) (N:List Str) (env:Env):L2.St→List V→Hp→VK→Prop:=fun σ vs H Q=>∃ (L:LamD) (f:Addr) (v:V),vs = [.ref f,v]∧L.Good P w K mg base 6∧L.at H f∧L.In N env σ∧Tells c L v H Q
theorem rt_told {X:Cx} {c:Ad} (hfn:∀ x,X.fn x = true):∀ pins σ H s vs Q,Inv X pins σ H s→RT X.prog X.w X.K X.mg X.base c X.N X.env σ vs H Q→spTold X.prog X.w X.K X.mg X.base c X.stack s vs H Q E0:=by
 rintro pins σ H s vs Q I ⟨L,f,v,e,g,at_,i,t⟩
 exact ⟨L,f,v,e,g,at_,i.cells I hfn,t⟩
def spIs:Sp:=fun vs H Q _=>∃ (t:Addr) (s:Str) (v:V),vs = [.ref t,.str s,v]∧H t = some (.tup [.str s,v])∧Thn H v∧Q (.bl true) H
def spNoWd:Sp:=fun vs H Q _=>∃ p:Addr,vs = [.ref p]∧Box H p∧∀ (v:V) H',Thn H' v→v ≠ .ref p→btw v 4 32 = false→Box H' p→SameX p H H'→Q v H'
def spNoPt:Sp:=fun vs H Q _=>∃ (p:Addr) (w:Int),vs = [.ref p,.int w]∧Box H p∧4≤w∧w≤32∧∀ (v:V) H',Thn H' v→v ≠ .ref p→btw v 1 (w - 1) = false→Box H' p→SameX p H H'→Q v H'
def spNoNr:Sp:=fun vs H Q _=>∃ (p:Addr) (a b:Int),vs = [.ref p,.int a,.int b]∧Box H p∧-4294967296≤a∧a≤b∧0≤b∧b≤4294967296∧∀ (v:V) H',Thn H' v→v ≠ .ref p→btw v a b = false→Box H' p→SameX p H H'→Q v H'
theorem exf_of {K:PySem.W.Frag} {mg:Str→Option Value} {c:Ad} (T:Txt K mg c):∀ i,ExF K (xOf c i)
 | 0=>⟨T.kf_ga_NoWidth,T.kf_gn_NoWidth,T.kf_gc_NoWidth,T.kf_mo_NoWidth,T.kf_mb_NoWidth⟩
 | 1=>⟨T.kf_ga_NoKind,T.kf_gn_NoKind,T.kf_gc_NoKind,T.kf_mo_NoKind,T.kf_mb_NoKind⟩
 | _ + 2=>⟨T.kf_ga_NoWord,T.kf_gn_NoWord,T.kf_gc_NoWord,T.kf_mo_NoWord,T.kf_mb_NoWord⟩
theorem exw_of {K:PySem.W.Frag} {mg:Str→Option Value} {c:Ad} (T:Txt K mg c):∀ i,PySem.W.exmOne K (.ref (xOf c i)) (.ref c.WiseError) = some true
 | 0=>exm_of T.kf_wc T.kf_wt T.kf_wm_NoWidth T.kf_wbE
 | 1=>exm_of T.kf_wc T.kf_wt T.kf_wm_NoKind T.kf_wbE
 | _ + 2=>exm_of T.kf_wc T.kf_wt T.kf_wm_NoWord T.kf_wbE
theorem ok__law_told {f:Addr} {fd:FuncData} (F:Fun K "_law_told" "_law_told" s__law_told f fd) (T:Txt K mg c) :FnOkS P w K mg base CX0 7 f fd ["_law_ask", "_law_thing"] (spTold P w K mg base c):=by
 refine F.okS sc__law_told (fun o s vs H Q E h=>?_) (fun cdv A outer s H vs Q E hr h=>?_)
 ·obtain ⟨L,f,v,rfl,_⟩:=h
  rfl
 obtain ⟨L,fa,v,rfl,g,at_,C,tell⟩:=h
 refine ⟨_,(pss_cons (ps_set (i:=2) sc__law_told.nd rfl (Or.inl rfl) pe_non)
  (pss_cons (ps_tryY (j:=3) (fun pins E=>(pss_one (ps_expr (pe_callVT (i:=0) rfl rfl hr rfl (Or.inl rfl) (pv 1))))) sc__law_told.nd rfl T.g_WiseError rfl rfl (fun a oe=>(pss_cons (ps_set (i:=2) sc__law_told.nd rfl (Or.inl rfl) (pe_tup (pa_cons pe_str (pa_cons pe_non pa_nil))))
    (pss_cons (ps_if (pt_val (pe_callB (call_isinstX (a:=a) (oe:=oe) (List.mem_cons_self ..)) rfl T.n_isinstance boot_isinstance (pa_cons (pv 3) (pa_cons (pe_cls rfl T.g_NoWidth) pa_nil))))
     (pss_one (ps_set (i:=2) sc__law_told.nd rfl (Or.inl rfl) (pe_tup (pa_cons pe_str (pa_cons (pe_xf (a:=a) (oe:=oe) (List.mem_cons_self ..) (pv 3) rfl) pa_nil)))))
     pss_nil)
    (pss_cons (ps_if (pt_val (pe_callB (call_isinstX (a:=a) (oe:=oe) (List.mem_cons_self ..)) rfl T.n_isinstance boot_isinstance (pa_cons (pv 3) (pa_cons (pe_cls rfl T.g_NoKind) pa_nil))))
     (pss_one (ps_set (i:=2) sc__law_told.nd rfl (Or.inl rfl) (pe_tup (pa_cons pe_str (pa_cons (pe_xf (a:=a) (oe:=oe) (List.mem_cons_self ..) (pv 3) rfl) pa_nil)))))
     pss_nil)
    (pss_one (ps_if (pt_val (pe_callB (call_isinstX (a:=a) (oe:=oe) (List.mem_cons_self ..)) rfl T.n_isinstance boot_isinstance (pa_cons (pv 3) (pa_cons (pe_cls rfl T.g_NoWord) pa_nil))))
     (pss_one (ps_set (i:=2) sc__law_told.nd rfl (Or.inl rfl) (pe_tup (pa_cons pe_str (pa_cons (pe_xf (a:=a) (oe:=oe) (List.mem_cons_self ..) (pv 3) rfl) pa_nil)))))
     pss_nil)))))))
  (pss_one (ps_ret (pv 2))))),?_⟩
 refine ⟨L,fa,rfl,(by exact LamD.Good.ok g hr C),at_,v,rfl,at_,tell _ _ ?_ ?_⟩
 ·rintro cls od H1 ⟨i,d,u,hi,rfl,rfl,hd,q⟩
  refine ⟨exw_of T i,fun ea oe hcl hdi hnc hea=>?_⟩
  refine ⟨sz2,fun t0 ht0=>?_⟩
  obtain ⟨G0,w0,s0,f0⟩:=newO ht0 (.tup [.str "another",.non])
  rw [w0]
  have hd0:=s0 _ _ hd
  match i,hi with
  | 0,_ =>
   refine ⟨_,rfl,c.NoWidth,_,_,_,rfl,hcl,exf_of T 0,rfl,kit_of T.kf_if_NoWidth T.kf_tf_NoWidth T.kf_m_NoWidth_NoWidth,_,rfl,iteT ?_⟩
   refine ⟨_,rfl,c.NoWidth,d,_,_,rfl,hcl,hdi,hnc,exf_of T 0,T.kf_hd_NoWidth,T.kf_nf_NoWidth,hd0,rfl,sz2,fun t1 ht1=>?_⟩
   obtain ⟨G1,w1,s1,f1⟩:=newO ht1 (.tup [.str "width",u])
   rw [w1]
   refine ⟨_,rfl,c.NoWidth,_,_,_,rfl,hcl,exf_of T 0,rfl,kit_apart T.kf_if_NoKind T.kf_tf_NoKind T.kf_m_NoWidth_NoKind T.kf_m_NoKind_NoKind,_,rfl,iteF ?_⟩
   refine ⟨_,rfl,c.NoWidth,_,_,_,rfl,hcl,exf_of T 0,rfl,kit_apart T.kf_if_NoWord T.kf_tf_NoWord T.kf_m_NoWidth_NoWord T.kf_m_NoWord_NoWord,_,rfl,iteF ?_⟩
   exact ⟨_,rfl,q t1 G1 (s0.trans s1) f1⟩
  | 1,_ =>
   refine ⟨_,rfl,c.NoKind,_,_,_,rfl,hcl,exf_of T 1,rfl,kit_apart T.kf_if_NoWidth T.kf_tf_NoWidth T.kf_m_NoKind_NoWidth T.kf_m_NoWidth_NoWidth,_,rfl,iteF ?_⟩
   refine ⟨_,rfl,c.NoKind,_,_,_,rfl,hcl,exf_of T 1,rfl,kit_of T.kf_if_NoKind T.kf_tf_NoKind T.kf_m_NoKind_NoKind,_,rfl,iteT ?_⟩
   refine ⟨_,rfl,c.NoKind,d,_,_,rfl,hcl,hdi,hnc,exf_of T 1,T.kf_hd_NoKind,T.kf_nf_NoKind,hd0,rfl,sz2,fun t1 ht1=>?_⟩
   obtain ⟨G1,w1,s1,f1⟩:=newO ht1 (.tup [.str "kind",u])
   rw [w1]
   refine ⟨_,rfl,c.NoKind,_,_,_,rfl,hcl,exf_of T 1,rfl,kit_apart T.kf_if_NoWord T.kf_tf_NoWord T.kf_m_NoKind_NoWord T.kf_m_NoWord_NoWord,_,rfl,iteF ?_⟩
   exact ⟨_,rfl,q t1 G1 (s0.trans s1) f1⟩
  | 2,_ =>
   refine ⟨_,rfl,c.NoWord,_,_,_,rfl,hcl,exf_of T 2,rfl,kit_apart T.kf_if_NoWidth T.kf_tf_NoWidth T.kf_m_NoWord_NoWidth T.kf_m_NoWidth_NoWidth,_,rfl,iteF ?_⟩
   refine ⟨_,rfl,c.NoWord,_,_,_,rfl,hcl,exf_of T 2,rfl,kit_apart T.kf_if_NoKind T.kf_tf_NoKind T.kf_m_NoWord_NoKind T.kf_m_NoKind_NoKind,_,rfl,iteF ?_⟩
   refine ⟨_,rfl,c.NoWord,_,_,_,rfl,hcl,exf_of T 2,rfl,kit_of T.kf_if_NoWord T.kf_tf_NoWord T.kf_m_NoWord_NoWord,_,rfl,iteT ?_⟩
   refine ⟨_,rfl,c.NoWord,d,_,_,rfl,hcl,hdi,hnc,exf_of T 2,T.kf_hd_NoWord,T.kf_nf_NoWord,hd0,rfl,sz2,fun t1 ht1=>?_⟩
   obtain ⟨G1,w1,s1,f1⟩:=newO ht1 (.tup [.str "word",u])
   rw [w1]
   exact ⟨_,rfl,q t1 G1 (s0.trans s1) f1⟩
 ·intro u H1 q
  exact ⟨_,rfl,q⟩
theorem ok__law_is {f:Addr} {fd:FuncData} (F:Fun K "_law_is" "_law_is" s__law_is f fd) (T:Txt K mg c) :FnOk P w K mg base CX0 1 f fd ["_law_told_here", "_law_kind", "_law_thing"] spIs:=by
 refine F.ok sc__law_is (fun vs H Q E h=>?_) (fun cdv A outer s H vs Q E hr h=>?_)
 ·obtain ⟨t,s,v,rfl,_⟩:=h
  rfl
 obtain ⟨t,z,v,rfl,ht,tg,q⟩:=h
 refine ⟨_,(pss_cons (ps_if (PW.pt (pw_or (pt_cmpR op_isN (pv 0) pe_non (nomark _)) (pw_or1 (pt_cmpR op_ne (pe_ix ix_tup (pv 0) pe_int (fun _ _=>rfl)) (pv 1) (nomark _)))))
   (pss_one (ps_ret pe_bl))
   pss_nil)
  (pss_one (ps_ret (pe_and (pe_cmpR op_eq (pe_callB call_isinst rfl T.n_isinstance boot_isinstance (pa_cons (pe_ix ix_tup (pv 0) pe_int (fun _ _=>rfl)) (pa_cons (pe_ty rfl T.n_bool boot_bool) pa_nil))) (pe_callB call_isinst rfl T.n_isinstance boot_isinstance (pa_cons (pv 2) (pa_cons (pe_ty rfl T.n_bool boot_bool) pa_nil))) (nomark _)) (pe_one (pe_cmpR (op_eqM (Nat.lt_of_succ_lt (hu_of hr))) (pe_ix ix_tup (pv 0) pe_int (fun _ _=>rfl)) (pv 2) (nomark _))))))),?_⟩
 obtain ⟨ty,t1,t2⟩:=tg.th.isbl (K:=K)
 refine ⟨_,rfl,rfl,_,rfl,iteDN (fun z=>nomatch z) ?_⟩
 refine ⟨_,rfl,t,_,_,_,rfl,rfl,SqT.of ht,rfl,_,rfl,rfl,_,rfl,iteNS rfl ?_⟩
 refine ⟨_,rfl,t,_,_,_,rfl,rfl,SqT.of ht,rfl,_,_,ty,_,_,rfl,rfl,t1,t2,_,rfl,_,_,ty,_,_,rfl,rfl,t1,t2,?_⟩
 refine ⟨by cases isB v <;> rfl,?_⟩
 rw [decide_eq_true rfl]
 exact ⟨_,rfl,iteT ⟨_,rfl,t,_,_,_,rfl,rfl,SqT.of ht,rfl,_,rfl,rfl,tg.th,tg.sm,q⟩⟩
theorem pickV {xs:List V} {k:Int} (h0:0≤k) (h1:k < xs.length) {Pr:V→Prop} (ha:∀ x ∈ xs,Pr x):∃ v,Pr v∧atI xs k = some v:=by
 have hk:k.toNat < xs.length:=by omega
 refine ⟨xs[k.toNat]'hk,ha _ (List.getElem_mem hk),?_⟩
 have:=atI_nat (List.getElem?_eq_getElem hk)
 rw [show ((k.toNat:Nat):Int) = k by omega] at this
 exact this
def AllV (Pr:V→Prop):List V→Prop
 | []=>True
 | x :: t=>Pr x∧AllV Pr t
theorem allV {Pr:V→Prop}:∀ {xs:List V},AllV Pr xs→∀ x ∈ xs,Pr x
 | [],_,_,h=>nomatch h
 | _ :: _,⟨a,b⟩,x,h=>(List.mem_cons.mp h).elim (fun e=>e ▸ a) (allV b x)
theorem newD {H:Hp} {p:Addr} (h:H p = none) (o o':HO):∃ G,upd (upd H p o) p o' = G∧Same H G∧G p = some o':=⟨_,rfl,fun b c e=>by have:=ne_of_none e h; rw [upd_ne this,upd_ne this]; exact e,upd_same⟩
structure Od (H:Hp) (p:Addr) (a b:Int) (v:V):Prop where
 tg:Thn H v
 ne:v ≠ .ref p
 no:btw v a b = false
theorem Od.int {H:Hp} {p:Addr} {a b i:Int} (h:i < a∨b < i):Od H p a b (.int i):=⟨⟨.int i,fun _ _ e=>nomatch e⟩,(fun e=>nomatch e),by
 show (decide (a≤i) && decide (i≤b)) = false
 rcases h with h | h
 ·rw [decide_eq_false (by omega)]; rfl
 ·rw [decide_eq_false (p:=i≤b) (by omega),Bool.and_false]⟩
theorem Od.bl {H:Hp} {p:Addr} {a b:Int} (i:Bool):Od H p a b (.bl i):=⟨⟨.bl i,fun _ _ e=>nomatch e⟩,(fun e=>nomatch e),rfl⟩
theorem Od.str {H:Hp} {p:Addr} {a b:Int} (i:Str):Od H p a b (.str i):=⟨⟨.str i,fun _ _ e=>nomatch e⟩,(fun e=>nomatch e),rfl⟩
theorem Od.non {H:Hp} {p:Addr} {a b:Int}:Od H p a b .non:=⟨⟨.non,fun _ _ e=>nomatch e⟩,(fun e=>nomatch e),rfl⟩
theorem Od.lst {H:Hp} {p l:Addr} {a b:Int} {xs:List V} (h:H l = some (.lst xs)) (n:V.ref l ≠ .ref p):Od H p a b (.ref l):=⟨⟨.lst h,fun c kvs e h2=>by cases e; rw [h] at h2; cases h2⟩,n,rfl⟩
theorem Od.tup {H:Hp} {p l:Addr} {a b:Int} {xs:List V} (h:H l = some (.tup xs)) (n:V.ref l ≠ .ref p):Od H p a b (.ref l):=⟨⟨.tup h,fun c kvs e h2=>by cases e; rw [h] at h2; cases h2⟩,n,rfl⟩
theorem Od.dct {H:Hp} {p l:Addr} {a b:Int} {xs:List (Key × V)} (h:H l = some (.dK xs)) (l1:xs.length≤1) (n:V.ref l ≠ .ref p):Od H p a b (.ref l):=⟨⟨.dct h,fun c kvs e h2=>by cases e; rw [h] at h2; cases h2; exact l1⟩,n,rfl⟩
theorem Box.no {H:Hp} {p l:Addr} (b:Box H p) (h:H l = none):V.ref l ≠ .ref p:=fun e=>by
 cases e
 obtain ⟨_,_,_,hb⟩:=b
 rw [hb] at h; cases h
theorem ok__law_no_width {f:Addr} {fd:FuncData} (F:Fun K "_law_no_width" "_law_no_width" s__law_no_width f fd) (T:Txt K mg c) (H__law_take:Has P w K mg base 1 "_law_take" ["_law_box_here", "_law_many"] spTake):FnOk P w K mg base CX0 2 f fd ["_law_box_here"] spNoWd:=by
 refine F.ok sc__law_no_width (fun vs H Q E h=>?_) (fun cdv A outer s H vs Q E hr h=>?_)
 ·obtain ⟨p,rfl,_⟩:=h
  rfl
 obtain ⟨p,rfl,bx,q⟩:=h
 refine slE ⟨_,(pss_consZ (slIn (ps_set (i:=1) sc__law_no_width.nd rfl (Or.inl rfl) (pe_op op_add pe_int (pe_fn H__law_take (hr.mono (by omega)) rfl (pa_cons (pv 0) (pa_cons (pe_op op_pow pe_int pe_int) pa_nil))))))
  (pss_consZ (ps_setS (i:=2) sc__law_no_width.nd rfl (Or.inl rfl) (pe_lstS (pa_consS pe_int (pa_consS pe_int (pa_consS pe_int (pa_consS pe_int (pa_consS (pe_op op_sub pe_int (pv 1)) (pa_consS (pv 1) (pa_consS (pe_op op_mul (pv 1) (pe_op op_pow pe_int pe_int)) (pa_consS pe_bl (pa_consS pe_non (pa_consS pe_str (pa_consZ (pe_lstS (pa_consS pe_int pa_nilS)) (pa_consZ (pe_tupZ (pa_consS pe_int pa_nilS)) (pa_consS (pe_disp1I pe_int pe_int) pa_nilS)))))))))))))))
  (pss_oneZ (slIn (ps_ret (pe_ix ix_list (pv 2) (pe_fn H__law_take (hr.mono (by omega)) rfl (pa_cons (pv 0) (pa_cons pe_int pa_nil))) (fun _ _=>rfl))))))),?_⟩
 refine ⟨_,rfl,_,_,rfl,rfl,⟨by decide,by decide,by decide⟩,p,_,rfl,bx,by decide,by decide,fun k H1 k0 k1 b1 x1=>⟨_,_,rfl,rfl,?_⟩⟩
 have e9:(10:Int) ^ (9:Int).toNat = 1000000000:=by decide
 have e20:(10:Int) ^ (20:Int).toNat = 100000000000000000000:=by decide
 rw [e9] at k1
 refine ⟨_,rfl,_,_,rfl,rfl,_,rfl,_,rfl,_,_,rfl,rfl,⟨by decide,by decide,by decide⟩,_,_,rfl,rfl,.inl ⟨by omega,by omega⟩,?_⟩
 refine ⟨(by show 1≤sizeLine; decide),fun l1 h1=>?_⟩
 obtain ⟨G1,w1,s1,f1⟩:=newO h1 (.lst [.int 8])
 rw [w1]
 refine ⟨(by show 1≤sizeLine; decide),fun l2 h2=>?_⟩
 obtain ⟨G2,w2,s2,f2⟩:=newO h2 (.tup [.int 8])
 rw [w2]
 refine fun l3 h3=>⟨_,rfl,upd_same,?_⟩
 obtain ⟨G3,w3,s3,f3⟩:=newD h3 (.dK []) (.dK [(.inl 8,.int 8)])
 rw [w3]
 refine ⟨(by show 13≤sizeLine; decide),fun l4 h4=>?_⟩
 obtain ⟨G4,w4,s4,f4⟩:=newO h4 (.lst [.int 3,.int 33,.int 0,.int 1,.int (0 - (33 + k)),.int (33 + k),.int ((33 + k) * 10 ^ (20:Int).toNat),.bl true,.non,.str "8",.ref l1,.ref l2,.ref l3])
 rw [w4]
 have B1:=b1.same s1
 have B2:=B1.same s2
 have B3:=B2.same s3
 refine ⟨_,rfl,_,rfl,p,_,rfl,B3.same s4,by decide,by decide,fun j H2 j0 j1 b2 x2=>?_⟩
 have S4:∀ a u,V.ref a ≠ .ref p→G4 a = some u→H2 a = some u:=fun a u n e=>x2 a u (fun z=>n (by rw [z])) e
 obtain ⟨v,o,ev⟩:=pickV (xs:=[.int 3,.int 33,.int 0,.int 1,.int (0 - (33 + k)),.int (33 + k),.int ((33 + k) * 10 ^ (20:Int).toNat),.bl true,.non,.str "8",.ref l1,.ref l2,.ref l3]) (Pr:=Od H2 p 4 32) j0 j1 (allV ⟨.int (by omega),.int (by omega),.int (by omega),.int (by omega),.int (by omega),.int (by omega),.int (by rw [e20]; omega),.bl _,.non,.str _,.lst (S4 _ _ (b1.no h1) (s4 _ _ (s3 _ _ (s2 _ _ f1)))) (b1.no h1),.tup (S4 _ _ (B1.no h2) (s4 _ _ (s3 _ _ f2))) (B1.no h2),.dct (S4 _ _ (B2.no h3) (s4 _ _ f3)) (by decide) (B2.no h3),trivial⟩)
 exact ⟨l4,_,_,_,rfl,rfl,SqL.of (S4 _ _ (B3.no h4) f4),ev,q v H2 o.tg o.ne o.no b2 (x1.trans ((SameX.of ((s1.trans s2).trans (s3.trans s4))).trans x2))⟩
theorem ok__law_no_point {f:Addr} {fd:FuncData} (F:Fun K "_law_no_point" "_law_no_point" s__law_no_point f fd) (T:Txt K mg c) (H__law_take:Has P w K mg base 1 "_law_take" ["_law_box_here", "_law_many"] spTake):FnOk P w K mg base CX0 2 f fd ["_law_box_here", "_law_width"] spNoPt:=by
 refine F.ok sc__law_no_point (fun vs H Q E h=>?_) (fun cdv A outer s H vs Q E hr h=>?_)
 ·obtain ⟨p,w,rfl,_⟩:=h
  rfl
 obtain ⟨p,w,rfl,bx,hw1,hw2,q⟩:=h
 refine slE ⟨_,(pss_consZ (slIn (ps_set (i:=2) sc__law_no_point.nd rfl (Or.inl rfl) (pe_op op_add (pv 1) (pe_fn H__law_take (hr.mono (by omega)) rfl (pa_cons (pv 0) (pa_cons (pe_op op_pow pe_int pe_int) pa_nil))))))
  (pss_consZ (ps_setS (i:=3) sc__law_no_point.nd rfl (Or.inl rfl) (pe_lstS (pa_consS pe_int (pa_consS (pv 1) (pa_consS (pe_op op_sub pe_int (pv 2)) (pa_consS (pv 2) (pa_consS (pe_op op_mul (pv 2) (pe_op op_pow pe_int pe_int)) (pa_consS pe_bl (pa_consS pe_non (pa_consS pe_str (pa_consZ (pe_lstS (pa_consS pe_int pa_nilS)) (pa_consZ (pe_tupZ (pa_consS pe_int pa_nilS)) (pa_consS pe_dnewK pa_nilS)))))))))))))
  (pss_oneZ (slIn (ps_ret (pe_ix ix_list (pv 3) (pe_fn H__law_take (hr.mono (by omega)) rfl (pa_cons (pv 0) (pa_cons pe_int pa_nil))) (fun _ _=>rfl))))))),?_⟩
 refine ⟨_,rfl,_,rfl,_,_,rfl,rfl,⟨by decide,by decide,by decide⟩,p,_,rfl,bx,by decide,by decide,fun k H1 k0 k1 b1 x1=>⟨_,_,rfl,rfl,?_⟩⟩
 have e9:(10:Int) ^ (9:Int).toNat = 1000000000:=by decide
 have e20:(10:Int) ^ (20:Int).toNat = 100000000000000000000:=by decide
 rw [e9] at k1
 refine ⟨_,rfl,_,rfl,_,_,rfl,rfl,_,rfl,_,rfl,_,_,rfl,rfl,⟨by decide,by decide,by decide⟩,_,_,rfl,rfl,.inl ⟨by omega,by omega⟩,?_⟩
 refine ⟨(by show 1≤sizeLine; decide),fun l1 h1=>?_⟩
 obtain ⟨G1,w1,s1,f1⟩:=newO h1 (.lst [.int 1])
 rw [w1]
 refine ⟨(by show 1≤sizeLine; decide),fun l2 h2=>?_⟩
 obtain ⟨G2,w2,s2,f2⟩:=newO h2 (.tup [.int 1])
 rw [w2]
 refine fun l3 h3=>?_
 obtain ⟨G3,w3,s3,f3⟩:=newO h3 (.dK [])
 rw [w3]
 refine ⟨(by show 11≤sizeLine; decide),fun l4 h4=>?_⟩
 obtain ⟨G4,w4,s4,f4⟩:=newO h4 (.lst [.int 0,.int w,.int (0 - (w + k)),.int (w + k),.int ((w + k) * 10 ^ (20:Int).toNat),.bl true,.non,.str "1",.ref l1,.ref l2,.ref l3])
 rw [w4]
 have B1:=b1.same s1
 have B2:=B1.same s2
 have B3:=B2.same s3
 refine ⟨_,rfl,_,rfl,p,_,rfl,B3.same s4,by decide,by decide,fun j H2 j0 j1 b2 x2=>?_⟩
 have S4:∀ a u,V.ref a ≠ .ref p→G4 a = some u→H2 a = some u:=fun a u n e=>x2 a u (fun z=>n (by rw [z])) e
 obtain ⟨v,o,ev⟩:=pickV (xs:=[.int 0,.int w,.int (0 - (w + k)),.int (w + k),.int ((w + k) * 10 ^ (20:Int).toNat),.bl true,.non,.str "1",.ref l1,.ref l2,.ref l3]) (Pr:=Od H2 p 1 (w - 1)) j0 j1 (allV ⟨.int (by omega),.int (by omega),.int (by omega),.int (by omega),.int (by rw [e20]; omega),.bl _,.non,.str _,.lst (S4 _ _ (b1.no h1) (s4 _ _ (s3 _ _ (s2 _ _ f1)))) (b1.no h1),.tup (S4 _ _ (B1.no h2) (s4 _ _ (s3 _ _ f2))) (B1.no h2),.dct (S4 _ _ (B2.no h3) (s4 _ _ f3)) (by decide) (B2.no h3),trivial⟩)
 exact ⟨l4,_,_,_,rfl,rfl,SqL.of (S4 _ _ (B3.no h4) f4),ev,q v H2 o.tg o.ne o.no b2 (x1.trans ((SameX.of ((s1.trans s2).trans (s3.trans s4))).trans x2))⟩
theorem ok__law_no_number {f:Addr} {fd:FuncData} (F:Fun K "_law_no_number" "_law_no_number" s__law_no_number f fd) (T:Txt K mg c) (H__law_take:Has P w K mg base 1 "_law_take" ["_law_box_here", "_law_many"] spTake):FnOk P w K mg base CX0 2 f fd ["_law_box_here", "_law_low", "_law_high"] spNoNr:=by
 refine F.ok sc__law_no_number (fun vs H Q E h=>?_) (fun cdv A outer s H vs Q E hr h=>?_)
 ·obtain ⟨p,a,b,rfl,_⟩:=h
  rfl
 obtain ⟨p,a,b,rfl,bx,ha,hab,hb0,hb,q⟩:=h
 refine slE ⟨_,(pss_consZ (slIn (ps_set (i:=3) sc__law_no_number.nd rfl (Or.inl rfl) (pe_op op_add pe_int (pe_fn H__law_take (hr.mono (by omega)) rfl (pa_cons (pv 0) (pa_cons (pe_op op_pow pe_int pe_int) pa_nil))))))
  (pss_consZ (ps_setS (i:=4) sc__law_no_number.nd rfl (Or.inl rfl) (pe_lstS (pa_consS (pe_op op_sub (pv 1) pe_int) (pa_consS (pe_op op_add (pv 2) pe_int) (pa_consS (pe_op op_sub (pv 1) (pv 3)) (pa_consS (pe_op op_add (pv 2) (pv 3)) (pa_consS (pe_op op_mul (pe_op op_add (pv 2) (pv 3)) (pe_op op_pow pe_int pe_int)) (pa_consS pe_bl (pa_consS pe_bl (pa_consS pe_non (pa_consS pe_str pa_nilS)))))))))))
  (pss_consZ (ps_setS (i:=4) sc__law_no_number.nd rfl (Or.inl rfl) (pe_opZ op_addL (slIn (pv 4)) (pe_lstS (pa_consZ (pe_lstS (pa_consS pe_int pa_nilS)) (pa_consZ (pe_tupZ (pa_consS pe_int pa_nilS)) (pa_consS pe_dnewK pa_nilS))))))
  (pss_oneZ (slIn (ps_ret (pe_ix ix_list (pv 4) (pe_fn H__law_take (hr.mono (by omega)) rfl (pa_cons (pv 0) (pa_cons pe_int pa_nil))) (fun _ _=>rfl)))))))),?_⟩
 refine ⟨_,rfl,_,_,rfl,rfl,⟨by decide,by decide,by decide⟩,p,_,rfl,bx,by decide,by decide,fun k H1 k0 k1 b1 x1=>⟨_,_,rfl,rfl,?_⟩⟩
 have e9:(10:Int) ^ (9:Int).toNat = 1000000000:=by decide
 have e20:(10:Int) ^ (20:Int).toNat = 100000000000000000000:=by decide
 rw [e9] at k1
 refine ⟨_,rfl,_,_,rfl,rfl,_,rfl,_,_,rfl,rfl,_,rfl,_,rfl,_,_,rfl,rfl,_,rfl,_,rfl,_,_,rfl,rfl,_,rfl,_,rfl,_,_,rfl,rfl,_,_,rfl,rfl,⟨by decide,by decide,by decide⟩,_,_,rfl,rfl,.inl ⟨by omega,by omega⟩,?_⟩
 refine ⟨(by show 9≤sizeLine; decide),fun l0 h0=>?_⟩
 obtain ⟨G0,w0,s0,f0⟩:=newO h0 (.lst [.int (a - 1),.int (b + 1),.int (a - (1 + k)),.int (b + (1 + k)),.int ((b + (1 + k)) * 10 ^ (20:Int).toNat),.bl true,.bl false,.non,.str "0"])
 rw [w0]
 have B0:=b1.same s0
 refine ⟨_,rfl,(by show 1≤sizeLine; decide),fun l1 h1=>?_⟩
 obtain ⟨G1,w1,s1,f1⟩:=newO h1 (.lst [.int 0])
 rw [w1]
 refine ⟨(by show 1≤sizeLine; decide),fun l2 h2=>?_⟩
 obtain ⟨G2,w2,s2,f2⟩:=newO h2 (.tup [.int 0])
 rw [w2]
 refine fun l3 h3=>?_
 obtain ⟨G3,w3,s3,f3⟩:=newO h3 (.dK [])
 rw [w3]
 refine ⟨(by show 3≤sizeLine; decide),fun l5 h5=>?_⟩
 obtain ⟨G5,w5,s5,f5⟩:=newO h5 (.lst [.ref l1,.ref l2,.ref l3])
 rw [w5]
 refine ⟨l0,l5,_,_,rfl,rfl,SqL.of (s5 _ _ (s3 _ _ (s2 _ _ (s1 _ _ f0)))),SqL.of f5,(by show 12≤sizeLine; decide),fun l4 h4=>?_⟩
 obtain ⟨G4,w4,s4,f4⟩:=newO h4 (.lst [.int (a - 1),.int (b + 1),.int (a - (1 + k)),.int (b + (1 + k)),.int ((b + (1 + k)) * 10 ^ (20:Int).toNat),.bl true,.bl false,.non,.str "0",.ref l1,.ref l2,.ref l3])
 have w4':upd G5 l4 (.lst ([.int (a - 1),.int (b + 1),.int (a - (1 + k)),.int (b + (1 + k)),.int ((b + (1 + k)) * 10 ^ (20:Int).toNat),.bl true,.bl false,.non,.str "0"] ++ [.ref l1,.ref l2,.ref l3])) = G4:=w4
 rw [w4']
 have B1:=B0.same s1
 have B2:=B1.same s2
 have B3:=(B2.same s3).same s5
 refine ⟨_,rfl,_,rfl,p,_,rfl,B3.same s4,by decide,by decide,fun j H2 j0 j1 b2 x2=>?_⟩
 have S4:∀ a u,V.ref a ≠ .ref p→G4 a = some u→H2 a = some u:=fun a u n e=>x2 a u (fun z=>n (by rw [z])) e
 obtain ⟨v,o,ev⟩:=pickV (xs:=[.int (a - 1),.int (b + 1),.int (a - (1 + k)),.int (b + (1 + k)),.int ((b + (1 + k)) * 10 ^ (20:Int).toNat),.bl true,.bl false,.non,.str "0",.ref l1,.ref l2,.ref l3]) (Pr:=Od H2 p a b) j0 j1 (allV ⟨.int (by omega),.int (by omega),.int (by omega),.int (by omega),.int (by rw [e20]; omega),.bl _,.bl _,.non,.str _,.lst (S4 _ _ (B0.no h1) (s4 _ _ (s5 _ _ (s3 _ _ (s2 _ _ f1))))) (B0.no h1),.tup (S4 _ _ (B1.no h2) (s4 _ _ (s5 _ _ (s3 _ _ f2)))) (B1.no h2),.dct (S4 _ _ (B2.no h3) (s4 _ _ (s5 _ _ f3))) (by decide) (B2.no h3),trivial⟩)
 exact ⟨l4,_,_,_,rfl,rfl,SqL.of (S4 _ _ (B3.no h4) f4),ev,q v H2 o.tg o.ne o.no b2 (x1.trans ((SameX.of ((s0.trans s1).trans ((s2.trans s3).trans (s5.trans s4)))).trans x2))⟩
def lamIn (st:Stmt) (i:Nat):Expr:=match (defBody st).getD i (.Pass ⟨0,0,0,0⟩) with
 | .Assign _ (.List (e :: _) _) _=>e
 | .Expr (.Call _ (e :: _) _ _) _=>e
 | .If (.UnaryOp _ (.Call _ (.Call _ (e :: _) _ _ :: _) _ _) _) _ _ _=>e
 | .Return (some (.Call _ (.Call _ (e :: _) _ _ :: _) _ _)) _=>e
 | .Return (some (.BoolOp _ (.Compare (.Call _ (e :: _) _ _) _ _ _ :: _) _)) _=>e
 | _=>.Constant .none 0 ⟨0,0,0,0⟩
abbrev qW:Str:=("_law_widths_refused":Str) ++ ".<locals>." ++ "<lambda>"
abbrev qR:Str:=("_law_words_refused":Str) ++ ".<locals>." ++ "<lambda>"
abbrev qP:Str:=("_law_points_refused":Str) ++ ".<locals>." ++ "<lambda>"
abbrev eW (i:Nat):Expr:=lamIn s__law_widths_refused i
abbrev eR (i:Nat):Expr:=lamIn s__law_words_refused i
abbrev eP:Expr:=lamIn s__law_points_refused 0
def Refu (c:Ad) (Pre:Hp→Prop) (v:V) (i:Nat) (L:LamD):Prop:=∀ (H:Hp) (E':XK) (Q':VK),Pre H→(∀ d H',H' d = some (.xd [("found",v)])→Same H H'→E' (.ref (xOf c i)) (some d) H')→L.te E' (some v :: L.vals.map some) H Q'
def Accs (Pre:Hp→Prop) (v:V) (L:LamD):Prop:=∀ (H:Hp) (E':XK) (Q':VK),Pre H→(∀ u H',Same H H'→Q' u H')→L.te E' (some v :: L.vals.map some) H Q'
def Ask (P:Program) (w:World) (K:PySem.W.Frag) (mg:Str→Option Value) (base:Heap) (N:List Str) (env:Env) (IC:L2.St→Prop) (R:LamD→Prop) (H:Hp) (f:Addr):Prop:=∃ L:LamD,L.Good P w K mg base 6∧L.at H f∧(∀ σ,IC σ→L.In N env σ)∧R L
theorem Ask.keep {P:Program} {w:World} {K:PySem.W.Frag} {mg:Str→Option Value} {base:Heap} {N:List Str} {env:Env} {IC:L2.St→Prop} {R:LamD→Prop} {H H':Hp} {f:Addr} (a:Ask P w K mg base N env IC R H f) (k:∀ a φ,H a = some (.ext φ)→H' a = some (.ext φ)):Ask P w K mg base N env IC R H' f :=
 let ⟨L,g,t,i,r⟩:=a; ⟨L,g,t.keep k,i,r⟩
theorem in_none {L:LamD} {N:List Str} {env:Env} {σ:L2.St} (h1:L.cl = []) (h2:L.ns = []):L.In N env σ:=⟨fun x c e=>(by rw [h1] at e; cases e),fun i y v e=>(by rw [h2] at e; simp at e)⟩
theorem in_one {L:LamD} {N:List Str} {env:Env} {σ:L2.St} {y:Str} {a:Addr} {v:V} {j:Nat} (h1:L.cl = [(y,a)]) (h2:L.ns = [y]) (h3:L.vals = [v]) (hc:env.cells.lookup y = some a) (hN:N[j]? = some y) (hk:env.kindOf y = some .cell) (hs:σ[j]? = some (some v)):L.In N env σ:=by
 refine ⟨fun x c e=>?_,fun i z u e1 e2=>?_⟩
 ·rw [h1] at e
  have m:=PySem.mem_of_lookup e
  rw [List.mem_singleton] at m
  cases m
  exact hc
 ·rw [h2] at e1
  rw [h3] at e2
  match i,e1,e2 with
  | 0,e1,e2 =>
   cases e1; cases e2
   exact ⟨j,a,hN,hs,hk,by rw [h1]; simp⟩
  | n + 1,e1,_=>simp at e1
theorem same_mk {H:Hp} {x dx:Addr} {o o':HO} (hx:H x = none) (hd:H dx = none) (n:dx ≠ x):Same H (upd (upd H dx o) x o'):=(same_new hd _).trans (same_new (by rw [upd_ne (Ne.symm n)]; exact hx) _)
theorem btw_no {w a b:Int} (h:btw (.int w) a b = false) (h1:a≤w) (h2:w≤b):False:=by
 have:(decide (a≤w) && decide (w≤b)) = false:=h
 rw [decide_eq_true h1,decide_eq_true h2] at this
 cases this
theorem cells_nil {names:List (Str × NameKind)} (h:∀ p ∈ names,p.2 ≠ .cell∧(p.2 = .free→p.1 ∈ ([]:List Str))):∀ y,(names.lookup y = some .cell∨names.lookup y = some .free)→∃ c,([]:List (Str × Addr)).lookup y = some c:=free_has (ns:=[]) rfl h
theorem tells_no {c:Ad} {Pre:Hp→Prop} {v:V} {i:Nat} {L:LamD} {H:Hp} {Q:VK} (r:Refu c Pre v i L) (p:Pre H) (hi:i < 3) (q:∀ t H2,Same H H2→H2 t = some (.tup [.str (xwd i),v])→Q (.ref t) H2):Tells c L v H Q:=fun E' Q' hE _ =>
 r H E' Q' p fun d H' hd s=>hE _ _ _ ⟨i,d,v,hi,rfl,rfl,hd,fun t H2 s2 ht=>q t H2 (s.trans s2) ht⟩
theorem tells_ok {c:Ad} {Pre:Hp→Prop} {v:V} {L:LamD} {H:Hp} {Q:VK} (r:Accs Pre v L) (p:Pre H) (q:∀ H2,Same H H2→Q .non H2):Tells c L v H Q:=fun E' Q' _ hQ=>r H E' Q' p fun u H' s=>hQ u H' (q H' s)
abbrev PreW (v pt:V) (H:Hp):Prop:=Thn H v∧Th H pt
abbrev AskW (P:Program) (w:World) (K:PySem.W.Frag) (mg:Str→Option Value) (base:Heap) (c:Ad) (n:Nat) (fa:Addr) (cdv:Value) (v pt:V):Hp→Addr→Prop:=Ask P w K mg base ["_law_thing", "_law_point", "_law_asks", "_law_ask"] (envOfC "_law_widths_refused" (defScope s__law_widths_refused) n fa cdv) (fun σ=>σ[1]? = some (some pt)) (Refu c (PreW v pt) v 0)
theorem askW0 (C_Plain:CHasY P w K mg base 4 c.Plain "Plain" ["self", "width"] (spMkY c 0)) {H:Hp} {g fa:Addr} {n:Nat} {cdv:Value} {v pt:V} (hv:btw v 4 32 = false) (clo:Clo "<lambda>" qW (lamA (eW 0)) (lamB (eW 0)) (lamS (eW 0)) [] H g):AskW P w K mg base c n fa cdv v pt H g:=by
 refine ⟨⟨"<lambda>",qW,lamA (eW 0),lamB (eW 0),lamS (eW 0),[],[],[], "_law_width",fun E=>tMake c.Plain (spMkY c 0) [] E (tCons (tVar 0) tNil)⟩,⟨rfl,fun _ _ _ _=>rfl,rfl,rfl,(show ∀ y ∈ (lamS (eW 0)).names,y.2 ≠ NameKind.cell by decide +kernel),rfl,rfl,(fun _ z=>nomatch z),(cells_nil (names:=(lamS (eW 0)).names) (by decide +kernel)),fun X e1 e2 e3 e4 e5 hr f' c' s' H' E=>?_⟩,clo,fun σ hs=>?_,?_⟩
 ·subst e1 e2 e3 e4 e5
  exact pe_mkY passLY C_Plain ((hr.deeper _).mono (by omega)) (by rfl) (pa_cons (pv 0) pa_nil)
 ·exact in_none rfl rfl
 ·intro H E' Q' ⟨th,tp⟩ hE
  refine ⟨_,rfl,fun x dx hx hdx ne=>?_⟩
  have S:=same_mk (o:=.own x) (o':=.ins c.Plain dx []) hx hdx ne
  exact ⟨x,dx,v,rfl,upd_same,th.th.same S,fun w0 e h1 h2=>(btw_no (e ▸ hv) h1 h2).elim,fun _ d H' hd s'=>hE d H' hd (S.trans s')⟩
theorem askW1 (C_Signed:CHasY P w K mg base 4 c.Signed "Signed" ["self", "width"] (spMkY c 1)) {H:Hp} {g fa:Addr} {n:Nat} {cdv:Value} {v pt:V} (hv:btw v 4 32 = false) (clo:Clo "<lambda>" qW (lamA (eW 1)) (lamB (eW 1)) (lamS (eW 1)) [] H g):AskW P w K mg base c n fa cdv v pt H g:=by
 refine ⟨⟨"<lambda>",qW,lamA (eW 1),lamB (eW 1),lamS (eW 1),[],[],[], "_law_width",fun E=>tMake c.Signed (spMkY c 1) [] E (tCons (tVar 0) tNil)⟩,⟨rfl,fun _ _ _ _=>rfl,rfl,rfl,(show ∀ y ∈ (lamS (eW 1)).names,y.2 ≠ NameKind.cell by decide +kernel),rfl,rfl,(fun _ z=>nomatch z),(cells_nil (names:=(lamS (eW 1)).names) (by decide +kernel)),fun X e1 e2 e3 e4 e5 hr f' c' s' H' E=>?_⟩,clo,fun σ hs=>?_,?_⟩
 ·subst e1 e2 e3 e4 e5
  exact pe_mkY passLY C_Signed ((hr.deeper _).mono (by omega)) (by rfl) (pa_cons (pv 0) pa_nil)
 ·exact in_none rfl rfl
 ·intro H E' Q' ⟨th,tp⟩ hE
  refine ⟨_,rfl,fun x dx hx hdx ne=>?_⟩
  have S:=same_mk (o:=.own x) (o':=.ins c.Signed dx []) hx hdx ne
  exact ⟨x,dx,v,rfl,upd_same,th.th.same S,fun w0 e h1 h2=>(btw_no (e ▸ hv) h1 h2).elim,fun _ d H' hd s'=>hE d H' hd (S.trans s')⟩
theorem askW2 (C_Pointed:CHasY P w K mg base 4 c.Pointed "Pointed" ["self", "width", "point"] (spMkP c)) {H:Hp} {g fa:Addr} {n:Nat} {cdv:Value} {v pt:V} (hv:btw v 4 32 = false) (clo:Clo "<lambda>" qW (lamA (eW 2)) (lamB (eW 2)) (lamS (eW 2)) [("_law_point",n + 1)] H g):AskW P w K mg base c n fa cdv v pt H g:=by
 refine ⟨⟨"<lambda>",qW,lamA (eW 2),lamB (eW 2),lamS (eW 2),[("_law_point",n + 1)],["_law_point"],[pt], "_law_width",fun E=>tMake c.Pointed (spMkP c) [] E (tCons (tVar 0) (tCons (tVar 1) tNil))⟩,⟨rfl,fun _ _ _ _=>rfl,rfl,rfl,(show ∀ y ∈ (lamS (eW 2)).names,y.2 ≠ NameKind.cell by decide +kernel),rfl,rfl,(show ∀ y ∈ [("_law_point":Str)],(lamS (eW 2)).names.lookup y = some .free by decide +kernel),(free_has (names:=(lamS (eW 2)).names) (ns:=["_law_point"]) rfl (by decide +kernel)),fun X e1 e2 e3 e4 e5 hr f' c' s' H' E=>?_⟩,clo,fun σ hs=>?_,?_⟩
 ·subst e1 e2 e3 e4 e5
  exact pe_mkY passLY C_Pointed ((hr.deeper _).mono (by omega)) (by rfl) (pa_cons (pv 0) (pa_cons (pv 1) pa_nil))
 ·exact in_one rfl rfl rfl rfl (j:=1) rfl rfl hs
 ·intro H E' Q' ⟨th,tp⟩ hE
  refine ⟨_,rfl,_,rfl,fun x dx hx hdx ne=>?_⟩
  have S:=same_mk (o:=.own x) (o':=.ins c.Pointed dx []) hx hdx ne
  exact ⟨x,dx,v,pt,rfl,upd_same,th.th.same S,tp.same S,fun w0 p0 e _ h1 h2=>(btw_no (e ▸ hv) h1 h2).elim,fun _ d H' hd s'=>hE d H' hd (S.trans s'),fun w0 e h1 h2=>(btw_no (e ▸ hv) h1 h2).elim⟩
theorem askW3 (H_need_width:HasY P w K mg base 3 "need_width" ["width"] (spNeedY c)) {H:Hp} {g fa:Addr} {n:Nat} {cdv:Value} {v pt:V} (hv:btw v 4 32 = false) (clo:Clo "<lambda>" qW (lamA (eW 3)) (lamB (eW 3)) (lamS (eW 3)) [] H g):AskW P w K mg base c n fa cdv v pt H g:=by
 refine ⟨⟨"<lambda>",qW,lamA (eW 3),lamB (eW 3),lamS (eW 3),[],[],[], "_law_width",fun E=>tCall (spNeedY c) [] E (tCons (tVar 0) tNil)⟩,⟨rfl,fun _ _ _ _=>rfl,rfl,rfl,(show ∀ y ∈ (lamS (eW 3)).names,y.2 ≠ NameKind.cell by decide +kernel),rfl,rfl,(fun _ z=>nomatch z),(cells_nil (names:=(lamS (eW 3)).names) (by decide +kernel)),fun X e1 e2 e3 e4 e5 hr f' c' s' H' E=>?_⟩,clo,fun σ hs=>?_,?_⟩
 ·subst e1 e2 e3 e4 e5
  exact pe_fnYP passLY H_need_width ((hr.deeper _).mono (by omega)) (by rfl) (pa_cons (pv 0) pa_nil)
 ·exact in_none rfl rfl
 ·intro H E' Q' ⟨th,tp⟩ hE
  exact ⟨_,rfl,v,rfl,th.th,(fun h=>by rw [hv] at h; cases h),fun _=>hE⟩
theorem askW4 (H_figures_of:HasY P w K mg base 4 "figures_of" ["width", "bits"] (spNoW c 2)) {H:Hp} {g fa:Addr} {n:Nat} {cdv:Value} {v pt:V} (hv:btw v 4 32 = false) (clo:Clo "<lambda>" qW (lamA (eW 4)) (lamB (eW 4)) (lamS (eW 4)) [] H g):AskW P w K mg base c n fa cdv v pt H g:=by
 refine ⟨⟨"<lambda>",qW,lamA (eW 4),lamB (eW 4),lamS (eW 4),[],[],[], "_law_width",fun E=>tCall (spNoW c 2) [] E (tCons (tVar 0) (tCons (tC (.int 1)) tNil))⟩,⟨rfl,fun _ _ _ _=>rfl,rfl,rfl,(show ∀ y ∈ (lamS (eW 4)).names,y.2 ≠ NameKind.cell by decide +kernel),rfl,rfl,(fun _ z=>nomatch z),(cells_nil (names:=(lamS (eW 4)).names) (by decide +kernel)),fun X e1 e2 e3 e4 e5 hr f' c' s' H' E=>?_⟩,clo,fun σ hs=>?_,?_⟩
 ·subst e1 e2 e3 e4 e5
  exact pe_fnYP passLY H_figures_of ((hr.deeper _).mono (by omega)) (by rfl) (pa_cons (pv 0) (pa_cons pe_int pa_nil))
 ·exact in_none rfl rfl
 ·intro H E' Q' ⟨th,tp⟩ hE
  exact ⟨_,rfl,v,_,rfl,rfl,th.th,hv,hE⟩
theorem askW5 (H_bits_in:HasY P w K mg base 4 "bits_in" ["width", "text"] (spNoW c 2)) {H:Hp} {g fa:Addr} {n:Nat} {cdv:Value} {v pt:V} (hv:btw v 4 32 = false) (clo:Clo "<lambda>" qW (lamA (eW 5)) (lamB (eW 5)) (lamS (eW 5)) [] H g):AskW P w K mg base c n fa cdv v pt H g:=by
 refine ⟨⟨"<lambda>",qW,lamA (eW 5),lamB (eW 5),lamS (eW 5),[],[],[], "_law_width",fun E=>tCall (spNoW c 2) [] E (tCons (tVar 0) (tCons (tC (.str "no word")) tNil))⟩,⟨rfl,fun _ _ _ _=>rfl,rfl,rfl,(show ∀ y ∈ (lamS (eW 5)).names,y.2 ≠ NameKind.cell by decide +kernel),rfl,rfl,(fun _ z=>nomatch z),(cells_nil (names:=(lamS (eW 5)).names) (by decide +kernel)),fun X e1 e2 e3 e4 e5 hr f' c' s' H' E=>?_⟩,clo,fun σ hs=>?_,?_⟩
 ·subst e1 e2 e3 e4 e5
  exact pe_fnYP passLY H_bits_in ((hr.deeper _).mono (by omega)) (by rfl) (pa_cons (pv 0) (pa_cons pe_str pa_nil))
 ·exact in_none rfl rfl
 ·intro H E' Q' ⟨th,tp⟩ hE
  exact ⟨_,rfl,v,_,rfl,rfl,th.th,hv,hE⟩
theorem askW6 (H_sum_of:HasY P w K mg base 4 "sum_of" ["width", "a", "b"] (spNoW c 3)) {H:Hp} {g fa:Addr} {n:Nat} {cdv:Value} {v pt:V} (hv:btw v 4 32 = false) (clo:Clo "<lambda>" qW (lamA (eW 6)) (lamB (eW 6)) (lamS (eW 6)) [] H g):AskW P w K mg base c n fa cdv v pt H g:=by
 refine ⟨⟨"<lambda>",qW,lamA (eW 6),lamB (eW 6),lamS (eW 6),[],[],[], "_law_width",fun E=>tCall (spNoW c 3) [] E (tCons (tVar 0) (tCons (tC (.int 1)) (tCons (tC (.int 2)) tNil)))⟩,⟨rfl,fun _ _ _ _=>rfl,rfl,rfl,(show ∀ y ∈ (lamS (eW 6)).names,y.2 ≠ NameKind.cell by decide +kernel),rfl,rfl,(fun _ z=>nomatch z),(cells_nil (names:=(lamS (eW 6)).names) (by decide +kernel)),fun X e1 e2 e3 e4 e5 hr f' c' s' H' E=>?_⟩,clo,fun σ hs=>?_,?_⟩
 ·subst e1 e2 e3 e4 e5
  exact pe_fnYP passLY H_sum_of ((hr.deeper _).mono (by omega)) (by rfl) (pa_cons (pv 0) (pa_cons pe_int (pa_cons pe_int pa_nil)))
 ·exact in_none rfl rfl
 ·intro H E' Q' ⟨th,tp⟩ hE
  exact ⟨_,rfl,v,_,rfl,rfl,th.th,hv,hE⟩
theorem askW7 (H_gap_of:HasY P w K mg base 4 "gap_of" ["width", "a", "b"] (spNoW c 3)) {H:Hp} {g fa:Addr} {n:Nat} {cdv:Value} {v pt:V} (hv:btw v 4 32 = false) (clo:Clo "<lambda>" qW (lamA (eW 7)) (lamB (eW 7)) (lamS (eW 7)) [] H g):AskW P w K mg base c n fa cdv v pt H g:=by
 refine ⟨⟨"<lambda>",qW,lamA (eW 7),lamB (eW 7),lamS (eW 7),[],[],[], "_law_width",fun E=>tCall (spNoW c 3) [] E (tCons (tVar 0) (tCons (tC (.int 1)) (tCons (tC (.int 2)) tNil)))⟩,⟨rfl,fun _ _ _ _=>rfl,rfl,rfl,(show ∀ y ∈ (lamS (eW 7)).names,y.2 ≠ NameKind.cell by decide +kernel),rfl,rfl,(fun _ z=>nomatch z),(cells_nil (names:=(lamS (eW 7)).names) (by decide +kernel)),fun X e1 e2 e3 e4 e5 hr f' c' s' H' E=>?_⟩,clo,fun σ hs=>?_,?_⟩
 ·subst e1 e2 e3 e4 e5
  exact pe_fnYP passLY H_gap_of ((hr.deeper _).mono (by omega)) (by rfl) (pa_cons (pv 0) (pa_cons pe_int (pa_cons pe_int pa_nil)))
 ·exact in_none rfl rfl
 ·intro H E' Q' ⟨th,tp⟩ hE
  exact ⟨_,rfl,v,_,rfl,rfl,th.th,hv,hE⟩
theorem askW8 (H_low_product:HasY P w K mg base 4 "low_product" ["width", "a", "b"] (spNoW c 3)) {H:Hp} {g fa:Addr} {n:Nat} {cdv:Value} {v pt:V} (hv:btw v 4 32 = false) (clo:Clo "<lambda>" qW (lamA (eW 8)) (lamB (eW 8)) (lamS (eW 8)) [] H g):AskW P w K mg base c n fa cdv v pt H g:=by
 refine ⟨⟨"<lambda>",qW,lamA (eW 8),lamB (eW 8),lamS (eW 8),[],[],[], "_law_width",fun E=>tCall (spNoW c 3) [] E (tCons (tVar 0) (tCons (tC (.int 1)) (tCons (tC (.int 2)) tNil)))⟩,⟨rfl,fun _ _ _ _=>rfl,rfl,rfl,(show ∀ y ∈ (lamS (eW 8)).names,y.2 ≠ NameKind.cell by decide +kernel),rfl,rfl,(fun _ z=>nomatch z),(cells_nil (names:=(lamS (eW 8)).names) (by decide +kernel)),fun X e1 e2 e3 e4 e5 hr f' c' s' H' E=>?_⟩,clo,fun σ hs=>?_,?_⟩
 ·subst e1 e2 e3 e4 e5
  exact pe_fnYP passLY H_low_product ((hr.deeper _).mono (by omega)) (by rfl) (pa_cons (pv 0) (pa_cons pe_int (pa_cons pe_int pa_nil)))
 ·exact in_none rfl rfl
 ·intro H E' Q' ⟨th,tp⟩ hE
  exact ⟨_,rfl,v,_,rfl,rfl,th.th,hv,hE⟩
theorem askW9 (H_high_product:HasY P w K mg base 4 "high_product" ["width", "a", "b"] (spNoW c 3)) {H:Hp} {g fa:Addr} {n:Nat} {cdv:Value} {v pt:V} (hv:btw v 4 32 = false) (clo:Clo "<lambda>" qW (lamA (eW 9)) (lamB (eW 9)) (lamS (eW 9)) [] H g):AskW P w K mg base c n fa cdv v pt H g:=by
 refine ⟨⟨"<lambda>",qW,lamA (eW 9),lamB (eW 9),lamS (eW 9),[],[],[], "_law_width",fun E=>tCall (spNoW c 3) [] E (tCons (tVar 0) (tCons (tC (.int 1)) (tCons (tC (.int 2)) tNil)))⟩,⟨rfl,fun _ _ _ _=>rfl,rfl,rfl,(show ∀ y ∈ (lamS (eW 9)).names,y.2 ≠ NameKind.cell by decide +kernel),rfl,rfl,(fun _ z=>nomatch z),(cells_nil (names:=(lamS (eW 9)).names) (by decide +kernel)),fun X e1 e2 e3 e4 e5 hr f' c' s' H' E=>?_⟩,clo,fun σ hs=>?_,?_⟩
 ·subst e1 e2 e3 e4 e5
  exact pe_fnYP passLY H_high_product ((hr.deeper _).mono (by omega)) (by rfl) (pa_cons (pv 0) (pa_cons pe_int (pa_cons pe_int pa_nil)))
 ·exact in_none rfl rfl
 ·intro H E' Q' ⟨th,tp⟩ hE
  exact ⟨_,rfl,v,_,rfl,rfl,th.th,hv,hE⟩
theorem askW10 (H_left:HasY P w K mg base 4 "left" ["width", "a", "k"] (spNoW c 3)) {H:Hp} {g fa:Addr} {n:Nat} {cdv:Value} {v pt:V} (hv:btw v 4 32 = false) (clo:Clo "<lambda>" qW (lamA (eW 10)) (lamB (eW 10)) (lamS (eW 10)) [] H g):AskW P w K mg base c n fa cdv v pt H g:=by
 refine ⟨⟨"<lambda>",qW,lamA (eW 10),lamB (eW 10),lamS (eW 10),[],[],[], "_law_width",fun E=>tCall (spNoW c 3) [] E (tCons (tVar 0) (tCons (tC (.int 1)) (tCons (tC (.int 2)) tNil)))⟩,⟨rfl,fun _ _ _ _=>rfl,rfl,rfl,(show ∀ y ∈ (lamS (eW 10)).names,y.2 ≠ NameKind.cell by decide +kernel),rfl,rfl,(fun _ z=>nomatch z),(cells_nil (names:=(lamS (eW 10)).names) (by decide +kernel)),fun X e1 e2 e3 e4 e5 hr f' c' s' H' E=>?_⟩,clo,fun σ hs=>?_,?_⟩
 ·subst e1 e2 e3 e4 e5
  exact pe_fnYP passLY H_left ((hr.deeper _).mono (by omega)) (by rfl) (pa_cons (pv 0) (pa_cons pe_int (pa_cons pe_int pa_nil)))
 ·exact in_none rfl rfl
 ·intro H E' Q' ⟨th,tp⟩ hE
  exact ⟨_,rfl,v,_,rfl,rfl,th.th,hv,hE⟩
theorem askW11 (H_right:HasY P w K mg base 4 "right" ["width", "a", "k"] (spNoW c 3)) {H:Hp} {g fa:Addr} {n:Nat} {cdv:Value} {v pt:V} (hv:btw v 4 32 = false) (clo:Clo "<lambda>" qW (lamA (eW 11)) (lamB (eW 11)) (lamS (eW 11)) [] H g):AskW P w K mg base c n fa cdv v pt H g:=by
 refine ⟨⟨"<lambda>",qW,lamA (eW 11),lamB (eW 11),lamS (eW 11),[],[],[], "_law_width",fun E=>tCall (spNoW c 3) [] E (tCons (tVar 0) (tCons (tC (.int 1)) (tCons (tC (.int 2)) tNil)))⟩,⟨rfl,fun _ _ _ _=>rfl,rfl,rfl,(show ∀ y ∈ (lamS (eW 11)).names,y.2 ≠ NameKind.cell by decide +kernel),rfl,rfl,(fun _ z=>nomatch z),(cells_nil (names:=(lamS (eW 11)).names) (by decide +kernel)),fun X e1 e2 e3 e4 e5 hr f' c' s' H' E=>?_⟩,clo,fun σ hs=>?_,?_⟩
 ·subst e1 e2 e3 e4 e5
  exact pe_fnYP passLY H_right ((hr.deeper _).mono (by omega)) (by rfl) (pa_cons (pv 0) (pa_cons pe_int (pa_cons pe_int pa_nil)))
 ·exact in_none rfl rfl
 ·intro H E' Q' ⟨th,tp⟩ hE
  exact ⟨_,rfl,v,_,rfl,rfl,th.th,hv,hE⟩
theorem askW12 (H_slide:HasY P w K mg base 4 "slide" ["width", "a", "k"] (spNoW c 3)) {H:Hp} {g fa:Addr} {n:Nat} {cdv:Value} {v pt:V} (hv:btw v 4 32 = false) (clo:Clo "<lambda>" qW (lamA (eW 12)) (lamB (eW 12)) (lamS (eW 12)) [] H g):AskW P w K mg base c n fa cdv v pt H g:=by
 refine ⟨⟨"<lambda>",qW,lamA (eW 12),lamB (eW 12),lamS (eW 12),[],[],[], "_law_width",fun E=>tCall (spNoW c 3) [] E (tCons (tVar 0) (tCons (tC (.int 1)) (tCons (tC (.int 2)) tNil)))⟩,⟨rfl,fun _ _ _ _=>rfl,rfl,rfl,(show ∀ y ∈ (lamS (eW 12)).names,y.2 ≠ NameKind.cell by decide +kernel),rfl,rfl,(fun _ z=>nomatch z),(cells_nil (names:=(lamS (eW 12)).names) (by decide +kernel)),fun X e1 e2 e3 e4 e5 hr f' c' s' H' E=>?_⟩,clo,fun σ hs=>?_,?_⟩
 ·subst e1 e2 e3 e4 e5
  exact pe_fnYP passLY H_slide ((hr.deeper _).mono (by omega)) (by rfl) (pa_cons (pv 0) (pa_cons pe_int (pa_cons pe_int pa_nil)))
 ·exact in_none rfl rfl
 ·intro H E' Q' ⟨th,tp⟩ hE
  exact ⟨_,rfl,v,_,rfl,rfl,th.th,hv,hE⟩
abbrev TB (P0 P1 P2:Addr) (H:Hp):Prop:=TabA P0 qW H∧TabA P1 qR H∧TabA P2 qP H
theorem TB.keep {P0 P1 P2:Addr} {H H':Hp} (t:TB P0 P1 P2 H) (h:∀ a ps,H a = some (.tbl ps)→H' a = some (.tbl ps)) (k:∀ a φ,H a = some (.ext φ)→H' a = some (.ext φ)):TB P0 P1 P2 H':=⟨t.1.keep (h _) k,t.2.1.keep (h _) k,t.2.2.keep (h _) k⟩
theorem TB.same {P0 P1 P2:Addr} {H H':Hp} (t:TB P0 P1 P2 H) (s:Same H H'):TB P0 P1 P2 H':=t.keep (fun _ _ e=>s _ _ e) fun _ _ e=>s _ _ e
theorem TB.upd {P0 P1 P2 l:Addr} {H:Hp} {xs ys:List V} (t:TB P0 P1 P2 H) (hl:H l = some (.lst xs)):TB P0 P1 P2 (L2.upd H l (.lst ys)):=t.keep (fun _ _ e=>by rw [upd_ne (fun z=>by rw [z,hl] at e; cases e)]; exact e) fun _ _ e=>by rw [upd_ne (fun z=>by rw [z,hl] at e; cases e)]; exact e
theorem TB.samX {P0 P1 P2 p:Addr} {H H':Hp} (t:TB P0 P1 P2 H) (b:Box H p) (s:SameX p H H'):TB P0 P1 P2 H':=by
 obtain ⟨_,_,_,hb⟩:=b
 exact t.keep (fun _ _ e=>s _ _ (fun z=>by rw [z,hb] at e; cases e) e) fun _ _ e=>s _ _ (fun z=>by rw [z,hb] at e; cases e) e
section
variable {P0 P1 P2:Addr} {H H':Hp}
theorem TB.l0 (t:TB P0 P1 P2 H) (ne:Apart [P0,P1,P2]) (h:∀ a u,a ≠ P0→H a = some u→H' a = some u) (t':TabA P0 qW H'):TB P0 P1 P2 H':=by
 simp only [Apart,List.nodup_cons,List.mem_cons,not_or,List.not_mem_nil,not_false_eq_true,and_true] at ne
 exact ⟨t',t.2.1.other (Ne.symm ne.1.1) t.1 h,t.2.2.other (Ne.symm ne.1.2) t.1 h⟩
theorem TB.l1 (t:TB P0 P1 P2 H) (ne:Apart [P0,P1,P2]) (h:∀ a u,a ≠ P1→H a = some u→H' a = some u) (t':TabA P1 qR H'):TB P0 P1 P2 H':=by
 simp only [Apart,List.nodup_cons,List.mem_cons,not_or,List.not_mem_nil,not_false_eq_true,and_true] at ne
 exact ⟨t.1.other ne.1.1 t.2.1 h,t',t.2.2.other (Ne.symm ne.2.1) t.2.1 h⟩
theorem TB.l2 (t:TB P0 P1 P2 H) (ne:Apart [P0,P1,P2]) (h:∀ a u,a ≠ P2→H a = some u→H' a = some u) (t':TabA P2 qP H'):TB P0 P1 P2 H':=by
 simp only [Apart,List.nodup_cons,List.mem_cons,not_or,List.not_mem_nil,not_false_eq_true,and_true] at ne
 exact ⟨t.1.other ne.1.2 t.2.2 h,t.2.1.other ne.2.1 t.2.2 h,t'⟩
end
structure JW (Ak:Hp→Addr→Prop) (P0 P1 P2:Addr) (H0 H:Hp) (l:Addr) (fs:List Addr) (n:Nat):Prop where
 at_:H l = some (.lst (fs.map V.ref))
 all:∀ f ∈ fs,Ak H f
 tb:TB P0 P1 P2 H
 kp:Kp H0 H
 fr:H0 l = none
 ln:fs.length = n
theorem JW.grow {Ak:Hp→Addr→Prop} {P0 P1 P2:Addr} {H0 H:Hp} {l:Addr} {fs:List Addr} {n:Nat} (j:JW Ak P0 P1 P2 H0 H l fs n) (hk:∀ H H' f,Ak H f→(∀ a φ,H a = some (.ext φ)→H' a = some (.ext φ))→Ak H' f) {f:Addr} {H1:Hp} (k1:Kp H H1) (t1:TB P0 P1 P2 H1) (a:Ak H1 f):H1 l = some (.lst (fs.map V.ref))∧(fs.map V.ref).length = n∧∃ fs',JW Ak P0 P1 P2 H0 (L2.upd H1 l (.lst (fs.map V.ref ++ [.ref f]))) l fs' (n + 1):=by
 have hl:H1 l = some (.lst (fs.map V.ref)):=k1 _ _ (fun _ z=>nomatch z) j.at_
 have kx:∀ a φ,H1 a = some (.ext φ)→L2.upd H1 l (.lst (fs.map V.ref ++ [.ref f])) a = some (.ext φ):=fun a φ e=>by rw [upd_ne (fun z=>by rw [z,hl] at e; cases e)]; exact e
 refine ⟨hl,by rw [List.length_map]; exact j.ln,fs ++ [f],⟨by rw [upd_same,List.map_append]; rfl,fun g hg=>?_,t1.upd hl,fun b u n e=>?_,j.fr,by rw [List.length_append,j.ln]; rfl⟩⟩
 ·rcases List.mem_append.mp hg with hg | hg
  ·exact hk _ _ _ (hk _ _ _ (j.all g hg) k1.ext) kx
  ·rw [List.mem_singleton.mp hg]
   exact hk _ _ _ a kx
 ·rw [upd_ne (fun z=>by rw [z,j.fr] at e; cases e)]
  exact k1 _ _ n (j.kp _ _ n e)
theorem new_of {P l:Addr} {q:Str} {H H1:Hp} (keep:∀ a u,a ≠ P→H a = some u→H1 a = some u) (t:TabA P q H1) (hl:H1 l = none):H l = none:=by
 cases e:H l with
 | none=>rfl
 | some o =>
  by_cases z:l = P
  ·obtain ⟨ps,e1,_⟩:=t
   rw [z,e1] at hl; cases hl
  ·rw [keep _ _ z e] at hl; cases hl
def spWRef (P0 P1 P2:Addr):Sp:=fun vs H Q _=>∃ v pt:V,vs = [v,pt]∧Thn H v∧Th H pt∧btw v 4 32 = false∧TB P0 P1 P2 H∧∀ H',Kp H H'→TB P0 P1 P2 H'→Q (.bl true) H'
theorem Th.kp {H H':Hp} {v:V} (t:Th H v) (k:Kp H H'):Th H' v:=by
 cases t with
 | int i=>exact .int i
 | bl i=>exact .bl i
 | str i=>exact .str i
 | non=>exact .non
 | lst h=>exact .lst (k _ _ (fun _ z=>nomatch z) h)
 | tup h=>exact .tup (k _ _ (fun _ z=>nomatch z) h)
 | dct h=>exact .dct (k _ _ (fun _ z=>nomatch z) h)
theorem ok__law_widths_refused {f:Addr} {fd:FuncData} (F:Fun K "_law_widths_refused" "_law_widths_refused" s__law_widths_refused f fd) (T:Txt K mg c) (H_need_width:HasY P w K mg base 3 "need_width" ["width"] (spNeedY c)) (H_figures_of:HasY P w K mg base 4 "figures_of" ["width", "bits"] (spNoW c 2)) (H_bits_in:HasY P w K mg base 4 "bits_in" ["width", "text"] (spNoW c 2)) (H_sum_of:HasY P w K mg base 4 "sum_of" ["width", "a", "b"] (spNoW c 3)) (H_gap_of:HasY P w K mg base 4 "gap_of" ["width", "a", "b"] (spNoW c 3)) (H_low_product:HasY P w K mg base 4 "low_product" ["width", "a", "b"] (spNoW c 3)) (H_high_product:HasY P w K mg base 4 "high_product" ["width", "a", "b"] (spNoW c 3)) (H_left:HasY P w K mg base 4 "left" ["width", "a", "k"] (spNoW c 3)) (H_right:HasY P w K mg base 4 "right" ["width", "a", "k"] (spNoW c 3)) (H_slide:HasY P w K mg base 4 "slide" ["width", "a", "k"] (spNoW c 3)) (H__law_is:Has P w K mg base 1 "_law_is" ["_law_told_here", "_law_kind", "_law_thing"] spIs) (H__law_told:HasS P w K mg base 7 "_law_told" ["_law_ask", "_law_thing"] (spTold P w K mg base c)) (C_Plain:CHasY P w K mg base 4 c.Plain "Plain" ["self", "width"] (spMkY c 0)) (C_Signed:CHasY P w K mg base 4 c.Signed "Signed" ["self", "width"] (spMkY c 1)) (C_Pointed:CHasY P w K mg base 4 c.Pointed "Pointed" ["self", "width", "point"] (spMkP c)) (B0:LamBase mg base cT0 PT0) (hcd:fd.code = .ref cT0) (hne:Apart [PT0,PT1,PT2]):FnOk P w K mg base CX0 8 f fd ["_law_thing", "_law_point"] (spWRef PT0 PT1 PT2):=by
 refine F.okC hcd sc__law_widths_refused (fun vs H Q E h=>?_) (fun A outer s H vs Q E hr h=>?_)
 ·obtain ⟨v,pt,rfl,_⟩:=h
  rfl
 obtain ⟨v,pt,rfl,tv,tp,hv,tb,q⟩:=h
 refine ⟨_,(pss_cons (ps_set (i:=2) sc__law_widths_refused.nd rfl (Or.inl rfl) (pe_lst (pa_cons (pe_lamA (params:=lamA (eW 0)) (body:=lamB (eW 0)) (scope:=lamS (eW 0)) (pos:=lamP (eW 0)) (qual:=qW) (cl:=[]) B0 rfl rfl rfl) pa_nil)))
  (pss_cons (ps_expr (pe_bm PySem.F.plainAttrs_list PySem.F.slot_list_append PySem.F.type_list_append mt_append (pv 2) (pa_cons (pe_lamA (params:=lamA (eW 1)) (body:=lamB (eW 1)) (scope:=lamS (eW 1)) (pos:=lamP (eW 1)) (qual:=qW) (cl:=[]) B0 rfl rfl rfl) pa_nil)))
  (pss_cons (ps_expr (pe_bm PySem.F.plainAttrs_list PySem.F.slot_list_append PySem.F.type_list_append mt_append (pv 2) (pa_cons (pe_lamA (params:=lamA (eW 2)) (body:=lamB (eW 2)) (scope:=lamS (eW 2)) (pos:=lamP (eW 2)) (qual:=qW) (cl:=[("_law_point",s.heap.objs.size + 1)]) B0 rfl rfl rfl) pa_nil)))
  (pss_cons (ps_expr (pe_bm PySem.F.plainAttrs_list PySem.F.slot_list_append PySem.F.type_list_append mt_append (pv 2) (pa_cons (pe_lamA (params:=lamA (eW 3)) (body:=lamB (eW 3)) (scope:=lamS (eW 3)) (pos:=lamP (eW 3)) (qual:=qW) (cl:=[]) B0 rfl rfl rfl) pa_nil)))
  (pss_cons (ps_expr (pe_bm PySem.F.plainAttrs_list PySem.F.slot_list_append PySem.F.type_list_append mt_append (pv 2) (pa_cons (pe_lamA (params:=lamA (eW 4)) (body:=lamB (eW 4)) (scope:=lamS (eW 4)) (pos:=lamP (eW 4)) (qual:=qW) (cl:=[]) B0 rfl rfl rfl) pa_nil)))
  (pss_cons (ps_expr (pe_bm PySem.F.plainAttrs_list PySem.F.slot_list_append PySem.F.type_list_append mt_append (pv 2) (pa_cons (pe_lamA (params:=lamA (eW 5)) (body:=lamB (eW 5)) (scope:=lamS (eW 5)) (pos:=lamP (eW 5)) (qual:=qW) (cl:=[]) B0 rfl rfl rfl) pa_nil)))
  (pss_cons (ps_expr (pe_bm PySem.F.plainAttrs_list PySem.F.slot_list_append PySem.F.type_list_append mt_append (pv 2) (pa_cons (pe_lamA (params:=lamA (eW 6)) (body:=lamB (eW 6)) (scope:=lamS (eW 6)) (pos:=lamP (eW 6)) (qual:=qW) (cl:=[]) B0 rfl rfl rfl) pa_nil)))
  (pss_cons (ps_expr (pe_bm PySem.F.plainAttrs_list PySem.F.slot_list_append PySem.F.type_list_append mt_append (pv 2) (pa_cons (pe_lamA (params:=lamA (eW 7)) (body:=lamB (eW 7)) (scope:=lamS (eW 7)) (pos:=lamP (eW 7)) (qual:=qW) (cl:=[]) B0 rfl rfl rfl) pa_nil)))
  (pss_cons (ps_expr (pe_bm PySem.F.plainAttrs_list PySem.F.slot_list_append PySem.F.type_list_append mt_append (pv 2) (pa_cons (pe_lamA (params:=lamA (eW 8)) (body:=lamB (eW 8)) (scope:=lamS (eW 8)) (pos:=lamP (eW 8)) (qual:=qW) (cl:=[]) B0 rfl rfl rfl) pa_nil)))
  (pss_cons (ps_expr (pe_bm PySem.F.plainAttrs_list PySem.F.slot_list_append PySem.F.type_list_append mt_append (pv 2) (pa_cons (pe_lamA (params:=lamA (eW 9)) (body:=lamB (eW 9)) (scope:=lamS (eW 9)) (pos:=lamP (eW 9)) (qual:=qW) (cl:=[]) B0 rfl rfl rfl) pa_nil)))
  (pss_cons (ps_expr (pe_bm PySem.F.plainAttrs_list PySem.F.slot_list_append PySem.F.type_list_append mt_append (pv 2) (pa_cons (pe_lamA (params:=lamA (eW 10)) (body:=lamB (eW 10)) (scope:=lamS (eW 10)) (pos:=lamP (eW 10)) (qual:=qW) (cl:=[]) B0 rfl rfl rfl) pa_nil)))
  (pss_cons (ps_expr (pe_bm PySem.F.plainAttrs_list PySem.F.slot_list_append PySem.F.type_list_append mt_append (pv 2) (pa_cons (pe_lamA (params:=lamA (eW 11)) (body:=lamB (eW 11)) (scope:=lamS (eW 11)) (pos:=lamP (eW 11)) (qual:=qW) (cl:=[]) B0 rfl rfl rfl) pa_nil)))
  (pss_cons (ps_expr (pe_bm PySem.F.plainAttrs_list PySem.F.slot_list_append PySem.F.type_list_append mt_append (pv 2) (pa_cons (pe_lamA (params:=lamA (eW 12)) (body:=lamB (eW 12)) (scope:=lamS (eW 12)) (pos:=lamP (eW 12)) (qual:=qW) (cl:=[]) B0 rfl rfl rfl) pa_nil)))
  (pss_cons (ps_for PassesOwn.never rfl (pi_list (pv 2)) (pg_name (i:=3) sc__law_widths_refused.nd rfl (Or.inl rfl))
   (pss_one (ps_if (pt_not (pt_val (pe_fn H__law_is (hr.mono (by omega)) rfl (pa_cons (pe_fnS H__law_told (hr.mono (by omega)) rfl (pa_cons (pv 3) (pa_cons (pv 0) pa_nil)) (rt_told (fun _=>rfl))) (pa_cons pe_str (pa_cons (pv 0) pa_nil))))))
    (pss_one (ps_ret pe_bl))
    pss_nil)))
  (pss_one (ps_ret pe_bl)))))))))))))))),?_⟩
 have hk:∀ H H' f',AskW P w K mg base c s.heap.objs.size f (.ref cT0) v pt H f'→(∀ a φ,H a = some (.ext φ)→H' a = some (.ext φ))→AskW P w K mg base c s.heap.objs.size f (.ref cT0) v pt H' f':=fun _ _ _ a k=>a.keep k
 refine ⟨tb.1,fun g1 H1 keep nf clo t1=>?_⟩
 have k1:=Kp.lam tb.1 keep
 have tb1:=tb.l0 hne keep t1
 have a1:=askW0 (pt:=pt) (fa:=f) (n:=s.heap.objs.size) (cdv:=.ref cT0) C_Plain hv clo
 refine ⟨(by show 1≤sizeLine; decide),fun l hl=>?_⟩
 have s1:=same_new hl (.lst [.ref g1])
 have J0:JW (AskW P w K mg base c s.heap.objs.size f (.ref cT0) v pt) PT0 PT1 PT2 H (upd H1 l (.lst [.ref g1])) l [g1] 1:=⟨upd_same,fun x hx=>(by rw [List.mem_singleton.mp hx]; exact a1.keep (Kp.of s1).ext),tb1.same s1,k1.trans (Kp.of s1),new_of keep t1 hl,rfl⟩
 obtain ⟨fs,J⟩:∃ fs,JW (AskW P w K mg base c s.heap.objs.size f (.ref cT0) v pt) PT0 PT1 PT2 H (upd H1 l (.lst [.ref g1])) l fs 1:=⟨_,J0⟩
 generalize upd H1 l (.lst [.ref g1]) = G at J ⊢
 clear J0 a1 k1 tb1 t1 clo nf keep s1 hl
 refine ⟨_,rfl,.inl ⟨rfl,_,SqL.of J.at_⟩,J.tb.1,fun g H1 keep nf clo t1=>?_⟩
 obtain ⟨hl1,ln1,fs1,J1⟩:=J.grow hk (Kp.lam J.tb.1 keep) (J.tb.l0 hne keep t1) (askW1 C_Signed hv clo)
 refine ⟨l,_,_,rfl,rfl,hl1,(by rw [ln1]; decide),?_⟩
 generalize upd H1 l _ = G1 at J1 ⊢
 clear hl1 ln1 t1 clo nf keep J G fs
 refine ⟨_,rfl,.inl ⟨rfl,_,SqL.of J1.at_⟩,J1.tb.1,fun g H1 keep nf clo t1=>?_⟩
 obtain ⟨hl1,ln1,fs2,J2⟩:=J1.grow hk (Kp.lam J1.tb.1 keep) (J1.tb.l0 hne keep t1) (askW2 C_Pointed hv clo)
 refine ⟨l,_,_,rfl,rfl,hl1,(by rw [ln1]; decide),?_⟩
 generalize upd H1 l _ = G2 at J2 ⊢
 clear hl1 ln1 t1 clo nf keep J1 G1 fs1
 refine ⟨_,rfl,.inl ⟨rfl,_,SqL.of J2.at_⟩,J2.tb.1,fun g H1 keep nf clo t1=>?_⟩
 obtain ⟨hl1,ln1,fs3,J3⟩:=J2.grow hk (Kp.lam J2.tb.1 keep) (J2.tb.l0 hne keep t1) (askW3 H_need_width hv clo)
 refine ⟨l,_,_,rfl,rfl,hl1,(by rw [ln1]; decide),?_⟩
 generalize upd H1 l _ = G3 at J3 ⊢
 clear hl1 ln1 t1 clo nf keep J2 G2 fs2
 refine ⟨_,rfl,.inl ⟨rfl,_,SqL.of J3.at_⟩,J3.tb.1,fun g H1 keep nf clo t1=>?_⟩
 obtain ⟨hl1,ln1,fs4,J4⟩:=J3.grow hk (Kp.lam J3.tb.1 keep) (J3.tb.l0 hne keep t1) (askW4 H_figures_of hv clo)
 refine ⟨l,_,_,rfl,rfl,hl1,(by rw [ln1]; decide),?_⟩
 generalize upd H1 l _ = G4 at J4 ⊢
 clear hl1 ln1 t1 clo nf keep J3 G3 fs3
 refine ⟨_,rfl,.inl ⟨rfl,_,SqL.of J4.at_⟩,J4.tb.1,fun g H1 keep nf clo t1=>?_⟩
 obtain ⟨hl1,ln1,fs5,J5⟩:=J4.grow hk (Kp.lam J4.tb.1 keep) (J4.tb.l0 hne keep t1) (askW5 H_bits_in hv clo)
 refine ⟨l,_,_,rfl,rfl,hl1,(by rw [ln1]; decide),?_⟩
 generalize upd H1 l _ = G5 at J5 ⊢
 clear hl1 ln1 t1 clo nf keep J4 G4 fs4
 refine ⟨_,rfl,.inl ⟨rfl,_,SqL.of J5.at_⟩,J5.tb.1,fun g H1 keep nf clo t1=>?_⟩
 obtain ⟨hl1,ln1,fs6,J6⟩:=J5.grow hk (Kp.lam J5.tb.1 keep) (J5.tb.l0 hne keep t1) (askW6 H_sum_of hv clo)
 refine ⟨l,_,_,rfl,rfl,hl1,(by rw [ln1]; decide),?_⟩
 generalize upd H1 l _ = G6 at J6 ⊢
 clear hl1 ln1 t1 clo nf keep J5 G5 fs5
 refine ⟨_,rfl,.inl ⟨rfl,_,SqL.of J6.at_⟩,J6.tb.1,fun g H1 keep nf clo t1=>?_⟩
 obtain ⟨hl1,ln1,fs7,J7⟩:=J6.grow hk (Kp.lam J6.tb.1 keep) (J6.tb.l0 hne keep t1) (askW7 H_gap_of hv clo)
 refine ⟨l,_,_,rfl,rfl,hl1,(by rw [ln1]; decide),?_⟩
 generalize upd H1 l _ = G7 at J7 ⊢
 clear hl1 ln1 t1 clo nf keep J6 G6 fs6
 refine ⟨_,rfl,.inl ⟨rfl,_,SqL.of J7.at_⟩,J7.tb.1,fun g H1 keep nf clo t1=>?_⟩
 obtain ⟨hl1,ln1,fs8,J8⟩:=J7.grow hk (Kp.lam J7.tb.1 keep) (J7.tb.l0 hne keep t1) (askW8 H_low_product hv clo)
 refine ⟨l,_,_,rfl,rfl,hl1,(by rw [ln1]; decide),?_⟩
 generalize upd H1 l _ = G8 at J8 ⊢
 clear hl1 ln1 t1 clo nf keep J7 G7 fs7
 refine ⟨_,rfl,.inl ⟨rfl,_,SqL.of J8.at_⟩,J8.tb.1,fun g H1 keep nf clo t1=>?_⟩
 obtain ⟨hl1,ln1,fs9,J9⟩:=J8.grow hk (Kp.lam J8.tb.1 keep) (J8.tb.l0 hne keep t1) (askW9 H_high_product hv clo)
 refine ⟨l,_,_,rfl,rfl,hl1,(by rw [ln1]; decide),?_⟩
 generalize upd H1 l _ = G9 at J9 ⊢
 clear hl1 ln1 t1 clo nf keep J8 G8 fs8
 refine ⟨_,rfl,.inl ⟨rfl,_,SqL.of J9.at_⟩,J9.tb.1,fun g H1 keep nf clo t1=>?_⟩
 obtain ⟨hl1,ln1,fs10,J10⟩:=J9.grow hk (Kp.lam J9.tb.1 keep) (J9.tb.l0 hne keep t1) (askW10 H_left hv clo)
 refine ⟨l,_,_,rfl,rfl,hl1,(by rw [ln1]; decide),?_⟩
 generalize upd H1 l _ = G10 at J10 ⊢
 clear hl1 ln1 t1 clo nf keep J9 G9 fs9
 refine ⟨_,rfl,.inl ⟨rfl,_,SqL.of J10.at_⟩,J10.tb.1,fun g H1 keep nf clo t1=>?_⟩
 obtain ⟨hl1,ln1,fs11,J11⟩:=J10.grow hk (Kp.lam J10.tb.1 keep) (J10.tb.l0 hne keep t1) (askW11 H_right hv clo)
 refine ⟨l,_,_,rfl,rfl,hl1,(by rw [ln1]; decide),?_⟩
 generalize upd H1 l _ = G11 at J11 ⊢
 clear hl1 ln1 t1 clo nf keep J10 G10 fs10
 refine ⟨_,rfl,.inl ⟨rfl,_,SqL.of J11.at_⟩,J11.tb.1,fun g H1 keep nf clo t1=>?_⟩
 obtain ⟨hl1,ln1,fs,J⟩:=J11.grow hk (Kp.lam J11.tb.1 keep) (J11.tb.l0 hne keep t1) (askW12 H_slide hv clo)
 refine ⟨l,_,_,rfl,rfl,hl1,(by rw [ln1]; decide),?_⟩
 generalize upd H1 l _ = G at J ⊢
 clear hl1 ln1 t1 clo nf keep J11 G11 fs11
 refine ⟨_,rfl,l,rfl,⟨_,SqL.of J.at_⟩,for_list (xs:=fs.map V.ref) (fun i σ G'=>∃ y:Option V,σ = [some v,some pt,some (.ref l),y]∧Same G G') ⟨_,rfl,Same.refl _⟩ ?_ ?_ ?_⟩
 ·rintro i σ G' _ ⟨y,rfl,sm⟩
  exact SqL.of (sm _ _ J.at_)
 ·rintro i x σ G' hx ⟨y,rfl,sm⟩
  obtain ⟨g,hg,rfl⟩:=List.mem_map.mp (List.mem_of_getElem? hx)
  obtain ⟨L,good,at_,inn,refu⟩:=J.all g hg
  have k2:=J.kp.trans (Kp.of sm)
  refine ⟨_,rfl,_,rfl,L,g,v,rfl,good,at_.keep (Kp.of sm).ext,inn _ rfl,tells_no refu ⟨tv.kp k2,tp.kp k2⟩ (by decide) fun t H2 s2 ht=>?_⟩
  exact ⟨_,rfl,t,_,v,rfl,ht,(tv.kp k2).same s2,_,rfl,iteF ⟨_,rfl,sm.trans s2⟩⟩
 ·rintro σ G' ⟨y,rfl,sm⟩
  exact q G' (J.kp.trans (Kp.of sm)) (J.tb.same sm)
def spPRef (P0 P1 P2:Addr):Sp:=fun vs H Q _=>∃ (w:Int) (v:V),vs = [.int w,v]∧4≤w∧w≤32∧Thn H v∧btw v 1 (w - 1) = false∧TB P0 P1 P2 H∧∀ H',Kp H H'→TB P0 P1 P2 H'→Q (.bl true) H'
theorem askP (C_Pointed:CHasY P w K mg base 4 c.Pointed "Pointed" ["self", "width", "point"] (spMkP c)) {H:Hp} {g fa:Addr} {n:Nat} {cdv:Value} {v:V} {w':Int} (w1:4≤w') (w2:w'≤32) (hv:btw v 1 (w' - 1) = false) (clo:Clo "<lambda>" qP (lamA eP) (lamB eP) (lamS eP) [("_law_width",n + 1)] H g):Ask P w K mg base ["_law_width", "_law_point"] (envOfC "_law_points_refused" (defScope s__law_points_refused) n fa cdv) (fun σ=>σ[0]? = some (some (.int w'))) (Refu c (fun H=>Thn H v) v 1) H g:=by
 refine ⟨⟨"<lambda>",qP,lamA eP,lamB eP,lamS eP,[("_law_width",n + 1)],["_law_width"],[.int w'], "_law_place",fun E=>tMake c.Pointed (spMkP c) [] E (tCons (tVar 1) (tCons (tVar 0) tNil))⟩,⟨rfl,fun _ _ _ _=>rfl,rfl,rfl,(show ∀ y ∈ (lamS eP).names,y.2 ≠ NameKind.cell by decide +kernel),rfl,rfl,(show ∀ y ∈ [("_law_width":Str)],(lamS eP).names.lookup y = some .free by decide +kernel),(free_has (names:=(lamS eP).names) (ns:=["_law_width"]) rfl (by decide +kernel)),fun X e1 e2 e3 e4 e5 hr f' c' s' H' E=>?_⟩,clo,fun σ hs=>?_,?_⟩
 ·subst e1 e2 e3 e4 e5
  exact pe_mkY passLY C_Pointed ((hr.deeper _).mono (by omega)) (by rfl) (pa_cons (pv 1) (pa_cons (pv 0) pa_nil))
 ·exact in_one rfl rfl rfl rfl (j:=0) rfl rfl hs
 ·intro H E' Q' th hE
  refine ⟨_,rfl,_,rfl,fun x dx hx hdx ne=>?_⟩
  have S:=same_mk (o:=.own x) (o':=.ins c.Pointed dx []) hx hdx ne
  refine ⟨x,dx,.int w',v,rfl,upd_same,.int w',th.th.same S,fun w0 p0 e e2 _ _ h3 h4=>?_,fun h=>(btw_no h w1 w2).elim,fun w0 e h1 h2 hu d H' hd s'=>hE d H' hd (S.trans s')⟩
  cases e
  exact (btw_no (e2 ▸ hv) h3 h4).elim
theorem ok__law_points_refused {f:Addr} {fd:FuncData} (F:Fun K "_law_points_refused" "_law_points_refused" s__law_points_refused f fd) (T:Txt K mg c) (H__law_is:Has P w K mg base 1 "_law_is" ["_law_told_here", "_law_kind", "_law_thing"] spIs) (H__law_told:HasS P w K mg base 7 "_law_told" ["_law_ask", "_law_thing"] (spTold P w K mg base c)) (C_Pointed:CHasY P w K mg base 4 c.Pointed "Pointed" ["self", "width", "point"] (spMkP c)) (B2:LamBase mg base cT2 PT2) (hcd:fd.code = .ref cT2) (hne:Apart [PT0,PT1,PT2]):FnOk P w K mg base CX0 8 f fd ["_law_width", "_law_point"] (spPRef PT0 PT1 PT2):=by
 refine F.okC hcd sc__law_points_refused (fun vs H Q E h=>?_) (fun A outer s H vs Q E hr h=>?_)
 ·obtain ⟨w',v,rfl,_⟩:=h
  rfl
 obtain ⟨w',v,rfl,w1,w2,tv,hv,tb,q⟩:=h
 refine ⟨_,(pss_one (ps_ret (pe_fn H__law_is (hr.mono (by omega)) rfl (pa_cons (pe_fnS H__law_told (hr.mono (by omega)) rfl (pa_cons (pe_lamA (params:=lamA eP) (body:=lamB eP) (scope:=lamS eP) (pos:=lamP eP) (qual:=qP) (cl:=[("_law_width",s.heap.objs.size + 1)]) B2 rfl rfl rfl) (pa_cons (pv 1) pa_nil)) (rt_told (fun _=>rfl))) (pa_cons pe_str (pa_cons (pv 1) pa_nil)))))),?_⟩
 refine ⟨tb.2.2,fun g H1 keep nf clo t1=>?_⟩
 have k1:=Kp.lam tb.2.2 keep
 have tb1:=tb.l2 hne keep t1
 obtain ⟨L,good,at_,inn,refu⟩:=askP (fa:=f) (n:=s.heap.objs.size) (cdv:=.ref cT2) C_Pointed w1 w2 hv clo
 refine ⟨_,rfl,L,g,v,rfl,good,at_,inn _ rfl,tells_no refu (tv.kp k1) (by decide) fun t H2 s2 ht=>?_⟩
 exact ⟨_,rfl,t,_,v,rfl,ht,(tv.kp k1).same s2,q H2 (k1.trans (Kp.of s2)) (tb1.same s2)⟩
def KpB (p:Addr) (H H':Hp):Prop:=∀ a u,a ≠ p→(∀ ps,u ≠ .tbl ps)→H a = some u→H' a = some u
theorem KpB.of {p:Addr} {H H':Hp} (k:Kp H H'):KpB p H H':=fun a u _ n e=>k a u n e
theorem KpB.ofX {p:Addr} {H H':Hp} (k:SameX p H H'):KpB p H H':=fun a u n _ e=>k a u n e
theorem KpB.trans {p:Addr} {H H1 H2:Hp} (h1:KpB p H H1) (h2:KpB p H1 H2):KpB p H H2:=fun a u m n e=>h2 a u m n (h1 a u m n e)
theorem KpB.ext {p:Addr} {H H':Hp} (k:KpB p H H') (b:Box H p):∀ a φ,H a = some (.ext φ)→H' a = some (.ext φ):=fun a φ e=>k a _ (fun z=>by
 obtain ⟨_,_,_,hb⟩:=b
 rw [z,hb] at e; cases e) (fun _ z=>nomatch z) e
theorem KO.kpB {c:Ad} {p x:Addr} {H H':Hp} {kd:Nat} {w q:Int} (k:KpB p H H') (b:Box H p) (o:KO c H x kd w q):KO c H' x kd w q:=by
 obtain ⟨dx,e⟩:=o
 exact ⟨dx,k x _ (fun z=>by
  obtain ⟨_,_,_,hb⟩:=b
  rw [z,hb] at e; cases e) (fun _ z=>nomatch z) e⟩
theorem KO.kp {c:Ad} {x:Addr} {H H':Hp} {kd:Nat} {w q:Int} (k:Kp H H') (o:KO c H x kd w q):KO c H' x kd w q:=by
 obtain ⟨dx,e⟩:=o
 exact ⟨dx,k x _ (fun _ z=>nomatch z) e⟩
theorem Box.kp {H H':Hp} {p:Addr} (b:Box H p) (k:Kp H H'):Box H' p:=by
 obtain ⟨r,s,t,hb⟩:=b
 exact ⟨r,s,t,k _ _ (fun _ z=>nomatch z) hb⟩
def spRRef (c:Ad) (P0 P1 P2:Addr):Sp:=fun vs H Q _=>∃ (p x:Addr) (a b z:Int) (kd:Nat) (w:Int) (pp:Nat),vs = [.ref p,.ref x,.int a,.int b,.int z]∧Box H p∧kd < 3∧KO c H x kd w (pp:Int)∧4≤w∧w≤32∧pp≤31∧a = lo kd w∧b = hi kd w∧z = 1 * 2 ^ w.toNat∧TB P0 P1 P2 H∧∀ H',KpB p H H'→Box H' p→TB P0 P1 P2 H'→Q (.bl true) H'
def PreK (c:Ad) (x:Addr) (kd:Nat) (w:Int) (pp:Nat) (H:Hp):Prop:=KO c H x kd w (pp:Int)
def RR (c:Ad) (x:Addr) (kd:Nat) (w:Int) (pp:Nat) (a b t:Int) (L:LamD):Prop:=(∀ v,btw v a b = false→Refu c (fun H=>Thn H v∧PreK c x kd w pp H) v 2 L)∧Accs (PreK c x kd w pp) (.int t) L
abbrev AskR (P:Program) (w:World) (K:PySem.W.Frag) (mg:Str→Option Value) (base:Heap) (c:Ad) (n:Nat) (fa:Addr) (cdv:Value) (x:Addr) (kd:Nat) (w':Int) (pp:Nat) (a b t:Int):Hp→Addr→Prop:=Ask P w K mg base ["_law_box_here", "_law_kind", "_law_low", "_law_high", "_law_size", "_law_asks", "_law_ask", "_law_thing"] (envOfC "_law_words_refused" (defScope s__law_words_refused) n fa cdv) (fun σ=>σ[1]? = some (some (.ref x))) (RR c x kd w' pp a b t)
theorem lo_hi (kd:Nat) {w:Int} (h:4≤w):lo kd w≤hi kd w:=by
 have h1:(0:Int) < 1 * 2 ^ w.toNat:=p1_pos _
 have h2:(0:Int) < 1 * 2 ^ (w - 1).toNat:=p1_pos _
 unfold lo hi
 by_cases k:kd = 0
 ·rw [if_pos k,if_pos k]; omega
 ·rw [if_neg k,if_neg k]; omega
theorem askR0  (MC:∀ i,i < 3→MHasY P w K mg base 4 (cOf c i) "count_of" ["self", "bits"] (spCntY c)) {H:Hp} {g fa x:Addr} {n:Nat} {cdv:Value} {kd:Nat} {w':Int} {pp:Nat} (hk:kd < 3) (w1:4≤w') (w2:w'≤32) (hp:pp≤31) (clo:Clo "<lambda>" qR (lamA (eR 0)) (lamB (eR 0)) (lamS (eR 0)) [("_law_kind",n + 1)] H g):AskR P w K mg base c n fa cdv x kd w' pp 0 (1 * 2 ^ w'.toNat - 1) (1 * 2 ^ w'.toNat - 1) H g:=by
 have PB:=pw_bounds w1 w2
 refine ⟨⟨"<lambda>",qR,lamA (eR 0),lamB (eR 0),lamS (eR 0),[("_law_kind",n + 1)],["_law_kind"],[.ref x], "_law_word",fun E=>tMethL P w K mg base E 4 "count_of" (tVar 1) (tCons (tVar 0) tNil)⟩,⟨rfl,fun _ _ _ _=>rfl,rfl,rfl,(show ∀ y ∈ (lamS (eR 0)).names,y.2 ≠ NameKind.cell by decide +kernel),rfl,rfl,(show ∀ y ∈ [("_law_kind":Str)],(lamS (eR 0)).names.lookup y = some .free by decide +kernel),(free_has (names:=(lamS (eR 0)).names) (ns:=["_law_kind"]) rfl (by decide +kernel)),fun X e1 e2 e3 e4 e5 hr f' c' s' H' E=>?_⟩,clo,fun σ hs=>?_,fun v hv H E' Q' ⟨th,ko⟩ hE=>?_,fun H E' Q' ko hQ=>?_⟩
 ·subst e1 e2 e3 e4 e5
  exact pe_methY passLY (pv 1) ((hr.deeper _).mono (by omega)) (pa_cons (pv 0) pa_nil)
 ·exact in_one rfl rfl rfl rfl (j:=1) rfl rfl hs
 ·obtain ⟨dx,hx⟩:=id ko
  exact ⟨_,rfl,x,_,dx,_,_,_,rfl,hx,rfl,MC kd hk,_,rfl,kd,x,w',_,v,rfl,hk,ko,w1,w2,th.th,fun b e b0 b1=>(btw_no (e ▸ hv) b0 (by omega)).elim,fun _=>hE⟩
 ·obtain ⟨dx,hx⟩:=id ko
  have hlh:lo kd w'≤hi kd w':=lo_hi kd w1
  exact ⟨_,rfl,x,_,dx,_,_,_,rfl,hx,rfl,MC kd hk,_,rfl,kd,x,w',_,_,rfl,hk,ko,w1,w2,.int _,fun b e b0 b1=>hQ _ _ (Same.refl _),fun h=>(btw_no h (by omega) (Int.le_refl _)).elim⟩
theorem askR1  (MV:∀ i,i < 3→MHasY P w K mg base 5 (cOf c i) "value_of" ["self", "bits"] (spAnyY c)) {H:Hp} {g fa x:Addr} {n:Nat} {cdv:Value} {kd:Nat} {w':Int} {pp:Nat} (hk:kd < 3) (w1:4≤w') (w2:w'≤32) (hp:pp≤31) (clo:Clo "<lambda>" qR (lamA (eR 1)) (lamB (eR 1)) (lamS (eR 1)) [("_law_kind",n + 1)] H g):AskR P w K mg base c n fa cdv x kd w' pp 0 (1 * 2 ^ w'.toNat - 1) (1 * 2 ^ w'.toNat - 1) H g:=by
 have PB:=pw_bounds w1 w2
 refine ⟨⟨"<lambda>",qR,lamA (eR 1),lamB (eR 1),lamS (eR 1),[("_law_kind",n + 1)],["_law_kind"],[.ref x], "_law_word",fun E=>tMethL P w K mg base E 5 "value_of" (tVar 1) (tCons (tVar 0) tNil)⟩,⟨rfl,fun _ _ _ _=>rfl,rfl,rfl,(show ∀ y ∈ (lamS (eR 1)).names,y.2 ≠ NameKind.cell by decide +kernel),rfl,rfl,(show ∀ y ∈ [("_law_kind":Str)],(lamS (eR 1)).names.lookup y = some .free by decide +kernel),(free_has (names:=(lamS (eR 1)).names) (ns:=["_law_kind"]) rfl (by decide +kernel)),fun X e1 e2 e3 e4 e5 hr f' c' s' H' E=>?_⟩,clo,fun σ hs=>?_,fun v hv H E' Q' ⟨th,ko⟩ hE=>?_,fun H E' Q' ko hQ=>?_⟩
 ·subst e1 e2 e3 e4 e5
  exact pe_methY passLY (pv 1) ((hr.deeper _).mono (by omega)) (pa_cons (pv 0) pa_nil)
 ·exact in_one rfl rfl rfl rfl (j:=1) rfl rfl hs
 ·obtain ⟨dx,hx⟩:=id ko
  exact ⟨_,rfl,x,_,dx,_,_,_,rfl,hx,rfl,MV kd hk,_,rfl,kd,x,w',pp,v,rfl,hk,ko,w1,w2,hp,th.th,fun b e b0 b1=>(btw_no (e ▸ hv) b0 (by omega)).elim,fun _=>hE⟩
 ·obtain ⟨dx,hx⟩:=id ko
  have hlh:lo kd w'≤hi kd w':=lo_hi kd w1
  exact ⟨_,rfl,x,_,dx,_,_,_,rfl,hx,rfl,MV kd hk,_,rfl,kd,x,w',pp,_,rfl,hk,ko,w1,w2,hp,.int _,fun b e b0 b1=>hQ,fun h=>(btw_no h (by omega) (Int.le_refl _)).elim⟩
theorem askR2  (MS:∀ i,i < 3→MHasY P w K mg base 5 (cOf c i) "shown" ["self", "bits"] (spAnyY c)) {H:Hp} {g fa x:Addr} {n:Nat} {cdv:Value} {kd:Nat} {w':Int} {pp:Nat} (hk:kd < 3) (w1:4≤w') (w2:w'≤32) (hp:pp≤31) (clo:Clo "<lambda>" qR (lamA (eR 2)) (lamB (eR 2)) (lamS (eR 2)) [("_law_kind",n + 1)] H g):AskR P w K mg base c n fa cdv x kd w' pp 0 (1 * 2 ^ w'.toNat - 1) (1 * 2 ^ w'.toNat - 1) H g:=by
 have PB:=pw_bounds w1 w2
 refine ⟨⟨"<lambda>",qR,lamA (eR 2),lamB (eR 2),lamS (eR 2),[("_law_kind",n + 1)],["_law_kind"],[.ref x], "_law_word",fun E=>tMethL P w K mg base E 5 "shown" (tVar 1) (tCons (tVar 0) tNil)⟩,⟨rfl,fun _ _ _ _=>rfl,rfl,rfl,(show ∀ y ∈ (lamS (eR 2)).names,y.2 ≠ NameKind.cell by decide +kernel),rfl,rfl,(show ∀ y ∈ [("_law_kind":Str)],(lamS (eR 2)).names.lookup y = some .free by decide +kernel),(free_has (names:=(lamS (eR 2)).names) (ns:=["_law_kind"]) rfl (by decide +kernel)),fun X e1 e2 e3 e4 e5 hr f' c' s' H' E=>?_⟩,clo,fun σ hs=>?_,fun v hv H E' Q' ⟨th,ko⟩ hE=>?_,fun H E' Q' ko hQ=>?_⟩
 ·subst e1 e2 e3 e4 e5
  exact pe_methY passLY (pv 1) ((hr.deeper _).mono (by omega)) (pa_cons (pv 0) pa_nil)
 ·exact in_one rfl rfl rfl rfl (j:=1) rfl rfl hs
 ·obtain ⟨dx,hx⟩:=id ko
  exact ⟨_,rfl,x,_,dx,_,_,_,rfl,hx,rfl,MS kd hk,_,rfl,kd,x,w',pp,v,rfl,hk,ko,w1,w2,hp,th.th,fun b e b0 b1=>(btw_no (e ▸ hv) b0 (by omega)).elim,fun _=>hE⟩
 ·obtain ⟨dx,hx⟩:=id ko
  have hlh:lo kd w'≤hi kd w':=lo_hi kd w1
  exact ⟨_,rfl,x,_,dx,_,_,_,rfl,hx,rfl,MS kd hk,_,rfl,kd,x,w',pp,_,rfl,hk,ko,w1,w2,hp,.int _,fun b e b0 b1=>hQ,fun h=>(btw_no h (by omega) (Int.le_refl _)).elim⟩
theorem askR5  (MB:∀ i,i < 3→MHasY P w K mg base 3 (cOf c i) "bits_of" ["self", "count"] (spBitsY c)) {H:Hp} {g fa x:Addr} {n:Nat} {cdv:Value} {kd:Nat} {w':Int} {pp:Nat} (hk:kd < 3) (w1:4≤w') (w2:w'≤32) (hp:pp≤31) (clo:Clo "<lambda>" qR (lamA (eR 5)) (lamB (eR 5)) (lamS (eR 5)) [("_law_kind",n + 1)] H g):AskR P w K mg base c n fa cdv x kd w' pp (lo kd w') (hi kd w') (lo kd w') H g:=by
 have PB:=pw_bounds w1 w2
 refine ⟨⟨"<lambda>",qR,lamA (eR 5),lamB (eR 5),lamS (eR 5),[("_law_kind",n + 1)],["_law_kind"],[.ref x], "_law_count",fun E=>tMethL P w K mg base E 3 "bits_of" (tVar 1) (tCons (tVar 0) tNil)⟩,⟨rfl,fun _ _ _ _=>rfl,rfl,rfl,(show ∀ y ∈ (lamS (eR 5)).names,y.2 ≠ NameKind.cell by decide +kernel),rfl,rfl,(show ∀ y ∈ [("_law_kind":Str)],(lamS (eR 5)).names.lookup y = some .free by decide +kernel),(free_has (names:=(lamS (eR 5)).names) (ns:=["_law_kind"]) rfl (by decide +kernel)),fun X e1 e2 e3 e4 e5 hr f' c' s' H' E=>?_⟩,clo,fun σ hs=>?_,fun v hv H E' Q' ⟨th,ko⟩ hE=>?_,fun H E' Q' ko hQ=>?_⟩
 ·subst e1 e2 e3 e4 e5
  exact pe_methY passLY (pv 1) ((hr.deeper _).mono (by omega)) (pa_cons (pv 0) pa_nil)
 ·exact in_one rfl rfl rfl rfl (j:=1) rfl rfl hs
 ·obtain ⟨dx,hx⟩:=id ko
  exact ⟨_,rfl,x,_,dx,_,_,_,rfl,hx,rfl,MB kd hk,_,rfl,kd,x,w',_,v,rfl,hk,ko,w1,w2,th.th,fun b e b0 b1=>(btw_no (e ▸ hv) b0 b1).elim,fun _=>hE⟩
 ·obtain ⟨dx,hx⟩:=id ko
  have hlh:lo kd w'≤hi kd w':=lo_hi kd w1
  exact ⟨_,rfl,x,_,dx,_,_,_,rfl,hx,rfl,MB kd hk,_,rfl,kd,x,w',_,_,rfl,hk,ko,w1,w2,.int _,fun b e b0 b1=>hQ _ _ (Same.refl _),fun h=>(btw_no h (Int.le_refl _) hlh).elim⟩
theorem askR6  (MB:∀ i,i < 3→MHasY P w K mg base 3 (cOf c i) "bits_of" ["self", "count"] (spBitsY c)) {H:Hp} {g fa x:Addr} {n:Nat} {cdv:Value} {kd:Nat} {w':Int} {pp:Nat} (hk:kd < 3) (w1:4≤w') (w2:w'≤32) (hp:pp≤31) (clo:Clo "<lambda>" qR (lamA (eR 6)) (lamB (eR 6)) (lamS (eR 6)) [("_law_kind",n + 1)] H g):AskR P w K mg base c n fa cdv x kd w' pp (lo kd w') (hi kd w') (lo kd w') H g:=by
 have PB:=pw_bounds w1 w2
 refine ⟨⟨"<lambda>",qR,lamA (eR 6),lamB (eR 6),lamS (eR 6),[("_law_kind",n + 1)],["_law_kind"],[.ref x], "_law_count",fun E=>tMethL P w K mg base E 3 "bits_of" (tVar 1) (tCons (tVar 0) tNil)⟩,⟨rfl,fun _ _ _ _=>rfl,rfl,rfl,(show ∀ y ∈ (lamS (eR 6)).names,y.2 ≠ NameKind.cell by decide +kernel),rfl,rfl,(show ∀ y ∈ [("_law_kind":Str)],(lamS (eR 6)).names.lookup y = some .free by decide +kernel),(free_has (names:=(lamS (eR 6)).names) (ns:=["_law_kind"]) rfl (by decide +kernel)),fun X e1 e2 e3 e4 e5 hr f' c' s' H' E=>?_⟩,clo,fun σ hs=>?_,fun v hv H E' Q' ⟨th,ko⟩ hE=>?_,fun H E' Q' ko hQ=>?_⟩
 ·subst e1 e2 e3 e4 e5
  exact pe_methY passLY (pv 1) ((hr.deeper _).mono (by omega)) (pa_cons (pv 0) pa_nil)
 ·exact in_one rfl rfl rfl rfl (j:=1) rfl rfl hs
 ·obtain ⟨dx,hx⟩:=id ko
  exact ⟨_,rfl,x,_,dx,_,_,_,rfl,hx,rfl,MB kd hk,_,rfl,kd,x,w',_,v,rfl,hk,ko,w1,w2,th.th,fun b e b0 b1=>(btw_no (e ▸ hv) b0 b1).elim,fun _=>hE⟩
 ·obtain ⟨dx,hx⟩:=id ko
  have hlh:lo kd w'≤hi kd w':=lo_hi kd w1
  exact ⟨_,rfl,x,_,dx,_,_,_,rfl,hx,rfl,MB kd hk,_,rfl,kd,x,w',_,_,rfl,hk,ko,w1,w2,.int _,fun b e b0 b1=>hQ _ _ (Same.refl _),fun h=>(btw_no h (Int.le_refl _) hlh).elim⟩
theorem ok__law_words_refused {f:Addr} {fd:FuncData} (F:Fun K "_law_words_refused" "_law_words_refused" s__law_words_refused f fd) (T:Txt K mg c) (H__law_no_number:Has P w K mg base 2 "_law_no_number" ["_law_box_here", "_law_low", "_law_high"] spNoNr) (H__law_is:Has P w K mg base 1 "_law_is" ["_law_told_here", "_law_kind", "_law_thing"] spIs) (H__law_told:HasS P w K mg base 7 "_law_told" ["_law_ask", "_law_thing"] (spTold P w K mg base c)) (MC:∀ i,i < 3→MHasY P w K mg base 4 (cOf c i) "count_of" ["self", "bits"] (spCntY c)) (MV:∀ i,i < 3→MHasY P w K mg base 5 (cOf c i) "value_of" ["self", "bits"] (spAnyY c)) (MS:∀ i,i < 3→MHasY P w K mg base 5 (cOf c i) "shown" ["self", "bits"] (spAnyY c)) (MB:∀ i,i < 3→MHasY P w K mg base 3 (cOf c i) "bits_of" ["self", "count"] (spBitsY c)) (ML:∀ i,i < 3→MHas P w K mg base 2 (cOf c i) "least" ["self"] (spLeast c i)) (B1:LamBase mg base cT1 PT1) (hcd:fd.code = .ref cT1) (hne:Apart [PT0,PT1,PT2]):FnOk P w K mg base CX0 8 f fd ["_law_box_here", "_law_kind", "_law_low", "_law_high", "_law_size"] (spRRef c PT0 PT1 PT2):=by
 refine F.okC hcd sc__law_words_refused (fun vs H Q E h=>?_) (fun A outer s H vs Q E hr h=>?_)
 ·obtain ⟨p,x,a,b,z,kd,w',pp,rfl,_⟩:=h
  rfl
 obtain ⟨p,x,a,b,z,kd,w',pp,rfl,bx,hk,ko,w1,w2,hp,rfl,rfl,rfl,tb,q⟩:=h
 refine ⟨_,(pss_cons (ps_set (i:=5) sc__law_words_refused.nd rfl (Or.inl rfl) (pe_lst (pa_cons (pe_lamA (params:=lamA (eR 0)) (body:=lamB (eR 0)) (scope:=lamS (eR 0)) (pos:=lamP (eR 0)) (qual:=qR) (cl:=[("_law_kind",s.heap.objs.size + 1)]) B1 rfl rfl rfl) pa_nil)))
  (pss_cons (ps_expr (pe_bm PySem.F.plainAttrs_list PySem.F.slot_list_append PySem.F.type_list_append mt_append (pv 5) (pa_cons (pe_lamA (params:=lamA (eR 1)) (body:=lamB (eR 1)) (scope:=lamS (eR 1)) (pos:=lamP (eR 1)) (qual:=qR) (cl:=[("_law_kind",s.heap.objs.size + 1)]) B1 rfl rfl rfl) pa_nil)))
  (pss_cons (ps_expr (pe_bm PySem.F.plainAttrs_list PySem.F.slot_list_append PySem.F.type_list_append mt_append (pv 5) (pa_cons (pe_lamA (params:=lamA (eR 2)) (body:=lamB (eR 2)) (scope:=lamS (eR 2)) (pos:=lamP (eR 2)) (qual:=qR) (cl:=[("_law_kind",s.heap.objs.size + 1)]) B1 rfl rfl rfl) pa_nil)))
  (pss_cons (ps_for PassesOwn.never rfl (pi_list (pv 5)) (pg_name (i:=6) sc__law_words_refused.nd rfl (Or.inl rfl))
   (pss_cons (ps_set (i:=7) sc__law_words_refused.nd rfl (Or.inl rfl) (pe_fn H__law_no_number (hr.mono (by omega)) rfl (pa_cons (pv 0) (pa_cons pe_int (pa_cons (pe_op op_sub (pv 4) pe_int) pa_nil)))))
   (pss_one (ps_if (PW.pt (pw_or (pt_not (pt_val (pe_fn H__law_is (hr.mono (by omega)) rfl (pa_cons (pe_fnS H__law_told (hr.mono (by omega)) rfl (pa_cons (pv 6) (pa_cons (pv 7) pa_nil)) (rt_told (fun _=>rfl))) (pa_cons pe_str (pa_cons (pv 7) pa_nil)))))) (pw_or1 (pt_cmpR op_notN (pe_fnS H__law_told (hr.mono (by omega)) rfl (pa_cons (pv 6) (pa_cons (pe_op op_sub (pv 4) pe_int) pa_nil)) (rt_told (fun _=>rfl))) pe_non (nomark _)))))
    (pss_one (ps_ret pe_bl))
    pss_nil))))
  (pss_cons (ps_set (i:=7) sc__law_words_refused.nd rfl (Or.inl rfl) (pe_fn H__law_no_number (hr.mono (by omega)) rfl (pa_cons (pv 0) (pa_cons (pv 2) (pa_cons (pv 3) pa_nil)))))
  (pss_cons (ps_if (pt_not (pt_val (pe_fn H__law_is (hr.mono (by omega)) rfl (pa_cons (pe_fnS H__law_told (hr.mono (by omega)) rfl (pa_cons (pe_lamA (params:=lamA (eR 5)) (body:=lamB (eR 5)) (scope:=lamS (eR 5)) (pos:=lamP (eR 5)) (qual:=qR) (cl:=[("_law_kind",s.heap.objs.size + 1)]) B1 rfl rfl rfl) (pa_cons (pv 7) pa_nil)) (rt_told (fun _=>rfl))) (pa_cons pe_str (pa_cons (pv 7) pa_nil))))))
   (pss_one (ps_ret pe_bl))
   pss_nil)
  (pss_one (ps_ret (pe_and (pe_cmpR op_isN (pe_fnS H__law_told (hr.mono (by omega)) rfl (pa_cons (pe_lamA (params:=lamA (eR 6)) (body:=lamB (eR 6)) (scope:=lamS (eR 6)) (pos:=lamP (eR 6)) (qual:=qR) (cl:=[("_law_kind",s.heap.objs.size + 1)]) B1 rfl rfl rfl) (pa_cons (pv 2) pa_nil)) (rt_told (fun _=>rfl))) pe_non (nomark _)) (pe_one (pe_cmpR op_eq (pe_methP0 (k:=2) (pv 1) (hr.mono (by omega))) (pv 2) (nomark _)))))))))))),?_⟩
 have PB:=pw_bounds w1 w2
 have LH:=lo_hi kd w1
 have hkA:∀ H H' f',AskR P w K mg base c s.heap.objs.size f (.ref cT1) x kd w' pp 0 (1 * 2 ^ w'.toNat - 1) (1 * 2 ^ w'.toNat - 1) H f'→(∀ a φ,H a = some (.ext φ)→H' a = some (.ext φ))→AskR P w K mg base c s.heap.objs.size f (.ref cT1) x kd w' pp 0 (1 * 2 ^ w'.toNat - 1) (1 * 2 ^ w'.toNat - 1) H' f':=fun _ _ _ a k=>a.keep k
 refine ⟨tb.2.1,fun g1 H1 keep nf clo t1=>?_⟩
 have k1:=Kp.lam tb.2.1 keep
 have tb1:=tb.l1 hne keep t1
 have a1:=askR0 (fa:=f) (n:=s.heap.objs.size) (cdv:=.ref cT1) (x:=x) (pp:=pp) MC hk w1 w2 hp clo
 refine ⟨(by show 1≤sizeLine; decide),fun l hl=>?_⟩
 have s1:=same_new hl (.lst [.ref g1])
 have J0:JW (AskR P w K mg base c s.heap.objs.size f (.ref cT1) x kd w' pp 0 (1 * 2 ^ w'.toNat - 1) (1 * 2 ^ w'.toNat - 1)) PT0 PT1 PT2 H (upd H1 l (.lst [.ref g1])) l [g1] 1:=⟨upd_same,fun x hx=>(by rw [List.mem_singleton.mp hx]; exact a1.keep (Kp.of s1).ext),tb1.same s1,k1.trans (Kp.of s1),new_of keep t1 hl,rfl⟩
 obtain ⟨fs,J⟩:∃ fs,JW (AskR P w K mg base c s.heap.objs.size f (.ref cT1) x kd w' pp 0 (1 * 2 ^ w'.toNat - 1) (1 * 2 ^ w'.toNat - 1)) PT0 PT1 PT2 H (upd H1 l (.lst [.ref g1])) l fs 1:=⟨_,J0⟩
 generalize upd H1 l (.lst [.ref g1]) = G at J ⊢
 clear J0 a1 k1 tb1 t1 clo nf keep s1 hl
 refine ⟨_,rfl,.inl ⟨rfl,_,SqL.of J.at_⟩,J.tb.2.1,fun g H1 keep nf clo t1=>?_⟩
 obtain ⟨hl1,ln1,fs1,J1⟩:=J.grow hkA (Kp.lam J.tb.2.1 keep) (J.tb.l1 hne keep t1) (askR1 MV hk w1 w2 hp clo)
 refine ⟨l,_,_,rfl,rfl,hl1,(by rw [ln1]; decide),?_⟩
 generalize upd H1 l _ = G1 at J1 ⊢
 clear hl1 ln1 t1 clo nf keep J G fs
 refine ⟨_,rfl,.inl ⟨rfl,_,SqL.of J1.at_⟩,J1.tb.2.1,fun g H1 keep nf clo t1=>?_⟩
 obtain ⟨hl1,ln1,fs,J⟩:=J1.grow hkA (Kp.lam J1.tb.2.1 keep) (J1.tb.l1 hne keep t1) (askR2 MS hk w1 w2 hp clo)
 refine ⟨l,_,_,rfl,rfl,hl1,(by rw [ln1]; decide),?_⟩
 generalize upd H1 l _ = G at J ⊢
 clear hl1 ln1 t1 clo nf keep J1 G1 fs1
 have bG:=bx.kp J.kp
 have koG:=KO.kp J.kp ko
 have nl:l ≠ p:=fun z=>by
  obtain ⟨_,_,_,hb⟩:=bx
  have:=J.fr
  rw [z,hb] at this; cases this
 refine ⟨_,rfl,l,rfl,⟨_,SqL.of J.at_⟩,for_list (xs:=fs.map V.ref) (fun i σ G'=>∃ y6 y7:Option V,σ = [some (.ref p),some (.ref x),some (.int (lo kd w')),some (.int (hi kd w')),some (.int (1 * 2 ^ w'.toNat)),some (.ref l),y6,y7]∧KpB p G G'∧Box G' p∧TB PT0 PT1 PT2 G') ⟨_,_,rfl,KpB.of (Kp.refl _),bG,J.tb⟩ ?_ ?_ ?_⟩
 ·rintro i σ G' _ ⟨y6,y7,rfl,kb,b',tb'⟩
  exact SqL.of (kb _ _ nl (fun _ z=>nomatch z) J.at_)
 ·rintro i x' σ G' hx ⟨y6,y7,rfl,kb,b',tb'⟩
  obtain ⟨g,hg,rfl⟩:=List.mem_map.mp (List.mem_of_getElem? hx)
  obtain ⟨L,good,at_,inn,refu,accs⟩:=J.all g hg
  refine ⟨_,rfl,_,rfl,_,_,rfl,rfl,p,_,_,rfl,b',by omega,by omega,by omega,by omega,fun v H1 tg ne no b1 x1=>?_⟩
  have kb1:=kb.trans (KpB.ofX x1)
  have tb1:=tb'.samX b' x1
  have at1:=at_.keep (kb1.ext bG)
  have ko1:=KO.kpB kb1 bG koG
  refine ⟨_,rfl,_,rfl,L,g,v,rfl,good,at1,inn _ rfl,tells_no (refu v no) ⟨tg,ko1⟩ (by decide) fun t H2 s2 ht=>?_⟩
  have ko2:=KO.kp (Kp.of s2) ko1
  refine ⟨_,rfl,t,_,v,rfl,ht,tg.same s2,_,rfl,iteF ⟨_,rfl,_,rfl,_,_,rfl,rfl,L,g,_,rfl,good,at1.keep (Kp.of s2).ext,inn _ rfl,tells_ok accs ko2 fun H3 s3=>?_⟩⟩
  refine ⟨rfl,_,rfl,iteNS rfl ?_⟩
  exact ⟨_,_,rfl,kb1.trans (KpB.of (Kp.of (s2.trans s3))),(b1.same s2).same s3,(tb1.same s2).same s3⟩
 ·rintro σ G' ⟨y6,y7,rfl,kb,b',tb'⟩
  have lob:-4294967296≤lo kd w'∧0≤hi kd w'∧hi kd w'≤4294967296:=by
   have hf:=pw_half w1
   have h2:(0:Int) < 1 * 2 ^ (w' - 1).toNat:=p1_pos _
   unfold lo hi
   by_cases k:kd = 0
   ·rw [if_pos k,if_pos k]; omega
   ·rw [if_neg k,if_neg k]; omega
  have kb0:KpB p H G':=(KpB.of J.kp).trans kb
  refine ⟨_,rfl,_,rfl,_,rfl,p,_,_,rfl,b',lob.1,LH,lob.2.1,lob.2.2,fun v H1 tg ne no b1 x1=>?_⟩
  have kb1:=kb0.trans (KpB.ofX x1)
  have tb1:=tb'.samX b' x1
  refine ⟨tb1.2.1,fun g H2 keep nf clo t2=>?_⟩
  have k2:=Kp.lam tb1.2.1 keep
  have tb2:=tb1.l1 hne keep t2
  have b2:=b1.kp k2
  have kb2:=kb1.trans (KpB.of k2)
  have ko2:=KO.kpB kb2 bx ko
  have tg2:=tg.kp k2
  obtain ⟨L,good,at_,inn,refu,accs⟩:=askR5 (fa:=f) (n:=s.heap.objs.size) (cdv:=.ref cT1) (x:=x) (pp:=pp) MB hk w1 w2 hp clo
  refine ⟨_,rfl,L,g,v,rfl,good,at_,inn _ rfl,tells_no (refu v no) ⟨tg2,ko2⟩ (by decide) fun t H3 s3 ht=>?_⟩
  refine ⟨_,rfl,t,_,v,rfl,ht,tg2.same s3,_,rfl,iteF ?_⟩
  have tb3:=tb2.same s3
  have kb3:=kb2.trans (KpB.of (Kp.of s3))
  have b3:=b2.same s3
  clear tg2 tb2 kb2 b2 refu accs inn good at_ clo t2 keep tb1 kb1 b1 kb0 ko2 nf ht
  refine ⟨tb3.2.1,fun g4 H4 keep nf clo t4=>?_⟩
  have k4:=Kp.lam tb3.2.1 keep
  have tb4:=tb3.l1 hne keep t4
  have b4:=b3.kp k4
  have kb4:=kb3.trans (KpB.of k4)
  have ko4:=KO.kpB kb4 bx ko
  obtain ⟨L4,good,at_,inn,refu,accs⟩:=askR6 (fa:=f) (n:=s.heap.objs.size) (cdv:=.ref cT1) (x:=x) (pp:=pp) MB hk w1 w2 hp clo
  refine ⟨_,rfl,L4,g4,_,rfl,good,at_,inn _ rfl,tells_ok accs ko4 fun H5 s5=>?_⟩
  have ko5:=KO.kp (Kp.of s5) ko4
  obtain ⟨dx,hx⟩:=id ko5
  refine ⟨rfl,_,rfl,iteD rfl ?_⟩
  refine ⟨_,rfl,x,_,dx,_,_,_,rfl,hx,rfl,ML kd hk,x,w',_,rfl,ko5,w1,w2,_,rfl,rfl,?_⟩
  rw [decide_eq_true rfl]
  exact q H5 (kb4.trans (KpB.of (Kp.of s5))) (b4.same s5) (tb4.same s5)
def spLaw (K:PySem.W.Frag) (P0 P1 P2:Addr):Sp:=fun vs H Q _=>∃ (a:Addr) (ns:List Int),vs = [.ref a]∧SqL K H a (ns.map V.int)∧ns.length≤63∧TB P0 P1 P2 H∧∀ H',Q (.bl true) H'
structure LS (P0 P1 P2 p:Addr) (H2 H:Hp):Prop where
 kp:Kp H2 H
 tb:TB P0 P1 P2 H
 bx:Box H p
 fr:H2 p = none
section
variable {P0 P1 P2 p:Addr} {H2 H H':Hp}
theorem LS.same (l:LS P0 P1 P2 p H2 H) (s:Same H H'):LS P0 P1 P2 p H2 H':=⟨l.kp.trans (Kp.of s),l.tb.same s,l.bx.same s,l.fr⟩
theorem LS.on (l:LS P0 P1 P2 p H2 H) (k:Kp H H') (t:TB P0 P1 P2 H'):LS P0 P1 P2 p H2 H':=⟨l.kp.trans k,t,l.bx.kp k,l.fr⟩
theorem LS.onB (l:LS P0 P1 P2 p H2 H) (k:KpB p H H') (b:Box H' p) (t:TB P0 P1 P2 H'):LS P0 P1 P2 p H2 H':=⟨fun a u n e=>k a u (fun z=>by rw [z,l.fr] at e; cases e) n (l.kp a u n e),t,b,l.fr⟩
theorem LS.samX (l:LS P0 P1 P2 p H2 H) (x:SameX p H H') (b:Box H' p):LS P0 P1 P2 p H2 H':=l.onB (KpB.ofX x) b (l.tb.samX l.bx x)
end
theorem same_init {H H':Hp} {x dx:Addr} {o o':HO} (hx:H x = none) (hd:H dx = none) (n:dx ≠ x) (s:SameX x (upd (upd H dx o) x o') H'):Same H H':=fun a u e=>s a u (ne_of_none e hx) (same_mk hx hd n a u e)
theorem SqL.kp {K:PySem.W.Frag} {H H':Hp} {a:Addr} {xs:List V} (s:SqL K H a xs) (k:Kp H H'):SqL K H' a xs:=by
 rcases s with (h | ⟨o,h⟩) | h
 ·exact .inl (.inl (k _ _ (fun _ z=>nomatch z) h))
 ·exact .inl (.inr ⟨o,k _ _ (fun _ z=>nomatch z) h⟩)
 ·exact .inr h
theorem ok_law {f:Addr} {fd:FuncData} (F:Fun K "law" "law" s_law f fd) (T:Txt K mg c) (H__law_box:Has P w K mg base 1 "_law_box" ["_law_cell_here"] spBox) (H__law_cell:Has P w K mg base 1 "_law_cell" ["_law_script", "_law_k"] (spCell K)) (H__law_take:Has P w K mg base 1 "_law_take" ["_law_box_here", "_law_many"] spTake) (H__law_widths_refused:Has P w K mg base 8 "_law_widths_refused" ["_law_thing", "_law_point"] (spWRef PT0 PT1 PT2)) (H__law_points_refused:Has P w K mg base 8 "_law_points_refused" ["_law_width", "_law_point"] (spPRef PT0 PT1 PT2)) (H__law_words_refused:Has P w K mg base 8 "_law_words_refused" ["_law_box_here", "_law_kind", "_law_low", "_law_high", "_law_size"] (spRRef c PT0 PT1 PT2)) (H_need_width:HasY P w K mg base 3 "need_width" ["width"] (spNeedY c)) (H__law_no_width:Has P w K mg base 2 "_law_no_width" ["_law_box_here"] spNoWd) (H__law_no_point:Has P w K mg base 2 "_law_no_point" ["_law_box_here", "_law_width"] spNoPt) (C_Signed:CHasY P w K mg base 4 c.Signed "Signed" ["self", "width"] (spMkY c 1)) (C_Pointed:CHasY P w K mg base 4 c.Pointed "Pointed" ["self", "width", "point"] (spMkP c)) (C_Plain:CHasY P w K mg base 4 c.Plain "Plain" ["self", "width"] (spMkY c 0)):FnOk P w K mg base CX0 9 f fd ["_law_script"] (spLaw K PT0 PT1 PT2):=by
 refine F.ok sc_law (fun vs H Q E h=>?_) (fun cdv A outer s H vs Q E hr h=>?_)
 ·obtain ⟨a,ns,rfl,_⟩:=h
  rfl
 obtain ⟨a,ns,rfl,hS,hlen,tb,q⟩:=h
 refine ⟨_,(pss_cons (ps_for PassesOwn.never rfl (pi_range1 rfl T.n_range (pa_cons (pe_callB (call_max2 rfl) rfl T.n_max boot_max (pa_cons pe_int (pa_cons (pe_callB (call_min2 rfl) rfl T.n_min boot_min (pa_cons (pe_callB call_len_seq rfl T.n_len boot_len (pa_cons (pv 0) pa_nil)) (pa_cons pe_int pa_nil))) pa_nil))) pa_nil)) (pg_name (i:=1) sc_law.nd rfl (Or.inl rfl))
   (pss_cons (ps_set (i:=2) sc_law.nd rfl (Or.inl rfl) (pe_fn H__law_box (hr.mono (by omega)) rfl (pa_cons (pe_fn H__law_cell (hr.mono (by omega)) rfl (pa_cons (pv 0) (pa_cons (pv 1) pa_nil))) pa_nil)))
   (pss_cons (ps_set (i:=3) sc_law.nd rfl (Or.inl rfl) (pe_op op_add pe_int (pe_fn H__law_take (hr.mono (by omega)) rfl (pa_cons (pv 2) (pa_cons pe_int pa_nil)))))
   (pss_cons (ps_set (i:=4) sc_law.nd rfl (Or.inl rfl) (pe_op op_shl pe_int (pe_op op_sub (pv 3) pe_int)))
   (pss_cons (ps_if (pt_not (pt_val (pe_fn H__law_widths_refused (hr.mono (by omega)) rfl (pa_cons (pe_fn H__law_no_width (hr.mono (by omega)) rfl (pa_cons (pv 2) pa_nil)) (pa_cons (pe_ix ix_list (pe_lst (pa_cons pe_int (pa_cons pe_non (pa_cons pe_str pa_nil)))) (pe_fn H__law_take (hr.mono (by omega)) rfl (pa_cons (pv 2) (pa_cons pe_int pa_nil))) (fun _ _=>rfl)) pa_nil)))))
    (pss_one (ps_ret pe_bl))
    pss_nil)
   (pss_cons (ps_if (pt_not (pt_val (pe_fn H__law_points_refused (hr.mono (by omega)) rfl (pa_cons (pv 3) (pa_cons (pe_fn H__law_no_point (hr.mono (by omega)) rfl (pa_cons (pv 2) (pa_cons (pv 3) pa_nil))) pa_nil)))))
    (pss_one (ps_ret pe_bl))
    pss_nil)
   (pss_cons (ps_if (pt_not (pt_val (pe_fn H__law_words_refused (hr.mono (by omega)) rfl (pa_cons (pv 2) (pa_cons (pe_mkY passYN C_Plain (hr.mono (by omega)) rfl (pa_cons (pv 3) pa_nil)) (pa_cons pe_int (pa_cons (pe_op op_sub (pe_op op_mul pe_int (pv 4)) pe_int) (pa_cons (pe_op op_mul pe_int (pv 4)) pa_nil))))))))
    (pss_one (ps_ret pe_bl))
    pss_nil)
   (pss_cons (ps_for PassesOwn.never rfl (pi_list (pe_lst (pa_cons (pe_mkY passYN C_Signed (hr.mono (by omega)) rfl (pa_cons (pv 3) pa_nil)) (pa_cons (pe_mkY passYN C_Pointed (hr.mono (by omega)) rfl (pa_cons (pv 3) (pa_cons (pe_op op_add pe_int (pe_fn H__law_take (hr.mono (by omega)) rfl (pa_cons (pv 2) (pa_cons (pe_op op_sub (pv 3) pe_int) pa_nil)))) pa_nil))) pa_nil)))) (pg_name (i:=5) sc_law.nd rfl (Or.inl rfl))
    (pss_one (ps_if (pt_not (pt_val (pe_fn H__law_words_refused (hr.mono (by omega)) rfl (pa_cons (pv 2) (pa_cons (pv 5) (pa_cons (pe_op op_sub pe_int (pv 4)) (pa_cons (pe_op op_sub (pv 4) pe_int) (pa_cons (pe_op op_mul pe_int (pv 4)) pa_nil))))))))
     (pss_one (ps_ret pe_bl))
     pss_nil)))
   (pss_one (ps_if (pt_cmpR op_notN (pe_fnYN H_need_width (hr.mono (by omega)) rfl (pa_cons (pv 3) pa_nil)) pe_non (nomark _))
    (pss_one (ps_ret pe_bl))
    pss_nil))))))))))
  (pss_one (ps_ret pe_bl))),?_⟩
 have hl:(ns.map V.int).length = ns.length:=List.length_map _
 refine ⟨_,rfl,a,_,rfl,.inl hS,_,_,rfl,_,_,rfl,_,rfl,(by rw [hl]; split <;> (try split) <;> omega),(by rw [hl]; split <;> (try split) <;> omega),for_range (fun i σ H2=>∃ y1 y2 y3 y4 y5:Option V,σ = [some (.ref a),y1,y2,y3,y4,y5]∧SqL K H2 a (ns.map V.int)∧TB PT0 PT1 PT2 H2) ⟨_,_,_,_,_,rfl,hS,tb⟩ ?_ ?_⟩
 ·clear hS tb
  rintro i σ H2 hi2 ⟨y1,y2,y3,y4,y5,rfl,hS,tb⟩
  refine ⟨_,rfl,_,rfl,a,ns,_,rfl,hS,by omega,fun c0=>⟨c0,rfl,fun p H3 hp b3 s3=>?_⟩⟩
  have l3:LS PT0 PT1 PT2 p H2 H3:=⟨Kp.of s3,tb.same s3,b3,hp⟩
  refine ⟨_,rfl,p,_,rfl,b3,by decide,by decide,fun d H4 d0 d1 b4 x4=>⟨_,_,rfl,rfl,?_⟩⟩
  have l4:=l3.samX x4 b4
  clear l3 s3 b3 x4 b4
  have w1:4≤4 + d:=by omega
  have w2:4 + d≤32:=by omega
  have hf:=pw_half w1
  have PB:=pw_bounds w1 w2
  refine ⟨_,rfl,_,_,rfl,rfl,_,_,rfl,rfl,cpow1 (by omega) (by omega),?_⟩
  refine ⟨_,rfl,p,rfl,l4.bx,fun v H5 tg ne no b5 x5=>?_⟩
  have l5:=l4.samX x5 b5
  clear l4 x5 b5
  refine ⟨(by show 3≤sizeLine; decide),fun l hl=>?_⟩
  obtain ⟨G5,w5,s5,f5⟩:=newO hl (.lst [.int 1,.non,.str "1"])
  rw [w5]
  have l6:=l5.same s5
  refine ⟨_,rfl,p,_,rfl,l6.bx,by decide,by decide,fun j H6 j0 j1 b6 x6=>?_⟩
  obtain ⟨pt,tp,ev⟩:=pickV (xs:=[.int 1,.non,.str "1"]) (Pr:=Th H6) j0 j1 (allV ⟨.int 1,.non,.str _,trivial⟩)
  have l7:=l6.samX x6 b6
  refine ⟨l,_,_,_,rfl,rfl,SqL.of (x6 _ _ (fun z=>l5.bx.no hl (by rw [z])) f5),ev,v,pt,rfl,(tg.same s5).samX ne x6,tp,no,l7.tb,fun H7 k7 tb7=>⟨_,rfl,iteF ?_⟩⟩
  have l8:=l7.on k7 tb7
  clear l5 l6 l7 k7 tb7 x6 b6 tg s5 w5 f5
  refine ⟨_,rfl,_,rfl,_,rfl,p,_,rfl,l8.bx,w1,w2,fun v2 H8 tg ne no b8 x8=>?_⟩
  have l9:=l8.samX x8 b8
  refine ⟨_,v2,rfl,w1,w2,tg,no,l9.tb,fun H9 k9 tb9=>⟨_,rfl,iteF ?_⟩⟩
  have m1:=l9.on k9 tb9
  clear l8 l9 k9 tb9 x8 b8 tg
  refine ⟨_,rfl,_,rfl,fun x dx hx hdx nx=>⟨x,dx,_,rfl,upd_same,.int _,fun w0 e _ _ H10 sx ko=>⟨rfl,?_⟩,fun h=>(btw_no h w1 w2).elim⟩⟩
  cases e
  have m2:=m1.same (same_init hx hdx nx sx)
  refine ⟨_,rfl,_,_,rfl,rfl,.inl ⟨by decide,by decide⟩,_,_,rfl,rfl,_,rfl,_,_,rfl,rfl,.inl ⟨by decide,by decide⟩,?_⟩
  refine ⟨p,x,_,_,_,0,_,0,rfl,m2.bx,by decide,ko,w1,w2,by decide,rfl,?_,?_,m2.tb,fun H11 k11 b11 tb11=>⟨_,rfl,iteF ?_⟩⟩
  ·show 2 * (1 * 2 ^ (4 + d - 1).toNat) - 1 = 1 * 2 ^ (4 + d).toNat - 1
   omega
  ·show 2 * (1 * 2 ^ (4 + d - 1).toNat) = 1 * 2 ^ (4 + d).toNat
   omega
  have m3:=m2.onB k11 b11 tb11
  clear m1 m2 k11 b11 tb11 ko sx hx hdx
  refine ⟨_,rfl,fun x1 dx1 hx hdx nx=>⟨x1,dx1,_,rfl,upd_same,.int _,fun w0 e _ _ H12 sx ko1=>⟨rfl,?_⟩,fun h=>(btw_no h w1 w2).elim⟩⟩
  cases e
  have m4:=m3.same (same_init hx hdx nx sx)
  clear m3 sx hx hdx nx
  refine ⟨_,rfl,_,rfl,_,rfl,_,_,rfl,rfl,p,_,rfl,m4.bx,by omega,by omega,fun d2 H13 d20 d21 b13 x13=>⟨_,_,rfl,rfl,fun x2 dx2 hx hdx nx=>⟨x2,dx2,_,_,rfl,upd_same,.int _,.int _,fun w0 p0 e e2 _ _ _ _ H14 sx ko2=>⟨rfl,?_⟩,fun h=>(btw_no h w1 w2).elim,fun w0 e _ _ hu=>?_⟩⟩⟩
  rotate_left
  ·cases e
   exact (btw_no hu (by omega) (by omega)).elim
  cases e
  cases e2
  have s14:=same_init hx hdx nx sx
  have m5:=(m4.samX x13 b13).same s14
  have kb14:KpB p H12 H14:=(KpB.ofX x13).trans (KpB.of (Kp.of s14))
  refine ⟨(by show 2≤sizeLine; decide),fun l2 hl2=>?_⟩
  obtain ⟨G,wG,sG,fG⟩:=newO hl2 (.lst [.ref x1,.ref x2])
  rw [wG]
  have m6:=m5.same sG
  have ko1':=KO.kp (Kp.of sG) (KO.kpB kb14 m4.bx ko1)
  have ko2':=KO.kp (Kp.of sG) ko2
  have n2:l2 ≠ p:=fun z=>m5.bx.no hl2 (by rw [z])
  obtain ⟨pn,hpn⟩:∃ n:Nat,1 + d2 = (n:Int):=⟨(1 + d2).toNat,by omega⟩
  have pn31:pn≤31:=by omega
  rw [hpn] at ko2'
  clear ko1 ko2 kb14 sx s14 hx hdx nx x13 b13 m4 m5 wG
  refine ⟨l2,rfl,⟨_,SqL.of fG⟩,for_list (xs:=[.ref x1,.ref x2]) (fun j σ G'=>∃ z1 z5:Option V,σ = [some (.ref a),z1,some (.ref p),some (.int (4 + d)),some (.int (1 * 2 ^ (4 + d - 1).toNat)),z5]∧KpB p G G'∧LS PT0 PT1 PT2 p H2 G') ⟨_,_,rfl,KpB.of (Kp.refl _),m6⟩ ?_ ?_ ?_⟩
  ·rintro j σ G' _ ⟨z1,z5,rfl,kb,ls⟩
   exact SqL.of (kb _ _ n2 (fun _ z=>nomatch z) fG)
  ·rintro j x' σ G' hx ⟨z1,z5,rfl,kb,ls⟩
   obtain ⟨xx,kd,pq,rfl,hkd,hk0,hpq,ko⟩:∃ (xx:Addr) (kd pq:Nat),x' = .ref xx∧kd < 3∧kd ≠ 0∧pq≤31∧KO c G' xx kd (4 + d) (pq:Int):=by
    match j,hx with
    | 0,hx =>
     cases hx
     exact ⟨x1,1,0,rfl,by decide,by decide,by decide,KO.kpB kb m6.bx ko1'⟩
    | 1,hx =>
     cases hx
     exact ⟨x2,2,pn,rfl,by decide,by decide,pn31,KO.kpB kb m6.bx ko2'⟩
    | n + 2,hx=>cases hx
   refine ⟨_,rfl,_,rfl,_,rfl,_,_,rfl,rfl,_,rfl,_,_,rfl,rfl,_,rfl,_,_,rfl,rfl,.inl ⟨by decide,by decide⟩,?_⟩
   refine ⟨p,xx,_,_,_,kd,_,pq,rfl,ls.bx,hkd,ko,w1,w2,hpq,?_,?_,?_,ls.tb,fun H11 k11 b11 tb11=>⟨_,rfl,iteF ⟨_,_,rfl,kb.trans k11,ls.onB k11 b11 tb11⟩⟩⟩
   ·rw [lo,if_neg hk0]
    omega
   ·rw [hi,if_neg hk0]
   ·omega
  ·rintro σ G' ⟨z1,z5,rfl,kb,ls⟩
   refine ⟨_,rfl,_,rfl,.int _,fun _ H15 s15=>?_,fun h=>(btw_no h w1 w2).elim⟩
   refine ⟨rfl,_,rfl,iteNS rfl ?_⟩
   have m7:=ls.same s15
   exact ⟨_,_,_,_,_,rfl,SqL.kp hS m7.kp,m7.tb⟩
 ·rintro σ H2 ⟨y1,y2,y3,y4,y5,rfl,hS,tb⟩
  exact q H2
end
theorem all_mk {l:PySem.W.OpenLaw} {w:World} {K:PySem.W.Frag} {h:Heap} {mg:Str→Option Value} {fa f1 f2 f3 f4 f5 f6 f7 f8 f9 f10 f11 f12 f13 f14 f15 f16 f17 f18 f19 f20 f21 f22 f23 f24 f25 f26 f27 f28 f29 f30 f31 f32 f33 f34 f35 f36 f37 f38 f39 f40 f41 f42 f43 f44 f45 f46 f47 c_Kind c_Plain c_Signed c_Pointed c_NoWidth c_NoWord c_NoKind c_WiseError:Addr} (X:K.In h) (G:h.Ns mainGlobals mg) (hfa:mg "law" = some (.ref fa))
  {od1 an1 od2 an2 od3 an3 od4 an4 od5 an5 od6 an6 od7 an7 od8 an8 od9 an9 od10 an10 od11 an11 od12 an12 od13 an13 od14 an14 od15 an15 od16 an16 od17 an17 od18 an18 od19 an19 od20 an20 od21 an21 od22 an22 od23 an23 od24 an24 od25 an25 od26 an26 od27 an27 od28 an28 od29 an29 od30 an30 od31 an31 od32 an32 od33 an33 od34 an34 od35 an35 od36 an36 od37 an37 od38 an38 od39 an39 od40 an40 od41 an41 od42 an42 od43 an43 od44 an44 od45 an45 od46 an46 od47 an47:Option Addr} {sl1 sl2 sl3 sl4 sl5 sl6 sl7 sl8 sl9 sl10 sl11 sl12 sl13 sl14 sl15 sl16 sl17 sl18 sl19 sl20 sl21 sl22 sl23 sl24 sl25 sl26 sl27 sl28 sl29 sl30 sl31 sl32 sl33 sl34 sl35 sl36 sl37 sl38 sl39 sl40 sl41 sl42 sl43 sl44 sl45 sl46 sl47:Array (Option Value)} {oc1 kV1 dc1 pm1 cd1 ct1 oc2 kV2 dc2 pm2 cd2 ct2 oc3 kV3 dc3 pm3 cd3 ct3 oc4 kV4 dc4 pm4 cd4 ct4 oc5 kV5 dc5 pm5 cd5 ct5 oc6 kV6 dc6 pm6 cd6 ct6 oc7 kV7 dc7 pm7 cd7 ct7 oc8 kV8 dc8 pm8 cd8 ct8 oc9 kV9 dc9 pm9 cd9 ct9 oc10 kV10 dc10 pm10 cd10 ct10 oc11 kV11 dc11 pm11 cd11 ct11 oc12 kV12 dc12 pm12 cd12 ct12 oc13 kV13 dc13 pm13 cd13 ct13 oc14 kV14 dc14 pm14 cd14 ct14 oc15 kV15 dc15 pm15 cd15 ct15 oc16 kV16 dc16 pm16 cd16 ct16 oc17 kV17 dc17 pm17 cd17 ct17 oc18 kV18 dc18 pm18 cd18 ct18 oc19 kV19 dc19 pm19 cd19 ct19 oc20 kV20 dc20 pm20 cd20 ct20 oc21 kV21 dc21 pm21 cd21 ct21 oc22 kV22 dc22 pm22 cd22 ct22 oc23 kV23 dc23 pm23 cd23 ct23 oc24 kV24 dc24 pm24 cd24 ct24 oc25 kV25 dc25 pm25 cd25 ct25 oc26 kV26 dc26 pm26 cd26 ct26 oc27 kV27 dc27 pm27 cd27 ct27 oc28 kV28 dc28 pm28 cd28 ct28 oc29 kV29 dc29 pm29 cd29 ct29 oc30 kV30 dc30 pm30 cd30 ct30 oc31 kV31 dc31 pm31 cd31 ct31 oc32 kV32 dc32 pm32 cd32 ct32 oc33 kV33 dc33 pm33 cd33 ct33 oc34 kV34 dc34 pm34 cd34 ct34 oc35 kV35 dc35 pm35 cd35 ct35 oc36 kV36 dc36 pm36 cd36 ct36 oc37 kV37 dc37 pm37 cd37 ct37 oc38 kV38 dc38 pm38 cd38 ct38 oc39 kV39 dc39 pm39 cd39 ct39 oc40 kV40 dc40 pm40 cd40 ct40 oc41 kV41 dc41 pm41 cd41 ct41 oc42 kV42 dc42 pm42 cd42 ct42 oc43 kV43 dc43 pm43 cd43 ct43 oc44 kV44 dc44 pm44 cd44 ct44 oc45 kV45 dc45 pm45 cd45 ct45 oc46 kV46 dc46 pm46 cd46 ct46 oc47 kV47 dc47 pm47 cd47 ct47:Value}
  (a1:PySem.W.findIn K (.ref c_NoWidth) "__init__" = some (some (.ref f1))) (i1:PySem.W.isFn K (.ref f1) = true)
  (l1:K.lookup f1 = some ⟨oc1,od1,.func (PySem.W.fnOf "__init__" "NoWidth.__init__" (defArgs s_NoWidth___init__) (defBody s_NoWidth___init__) (defScope s_NoWidth___init__) .none kV1 dc1 pm1 an1 cd1 ct1),sl1⟩) (c1:PySem.W.codeIn K cd1 "NoWidth.__init__" = true) (k1:PySem.W.keepIn K (.ref f1) = true)
  (a2:PySem.W.findIn K (.ref c_NoWord) "__init__" = some (some (.ref f2))) (i2:PySem.W.isFn K (.ref f2) = true)
  (l2:K.lookup f2 = some ⟨oc2,od2,.func (PySem.W.fnOf "__init__" "NoWord.__init__" (defArgs s_NoWord___init__) (defBody s_NoWord___init__) (defScope s_NoWord___init__) .none kV2 dc2 pm2 an2 cd2 ct2),sl2⟩) (c2:PySem.W.codeIn K cd2 "NoWord.__init__" = true) (k2:PySem.W.keepIn K (.ref f2) = true)
  (a3:PySem.W.findIn K (.ref c_NoKind) "__init__" = some (some (.ref f3))) (i3:PySem.W.isFn K (.ref f3) = true)
  (l3:K.lookup f3 = some ⟨oc3,od3,.func (PySem.W.fnOf "__init__" "NoKind.__init__" (defArgs s_NoKind___init__) (defBody s_NoKind___init__) (defScope s_NoKind___init__) .none kV3 dc3 pm3 an3 cd3 ct3),sl3⟩) (c3:PySem.W.codeIn K cd3 "NoKind.__init__" = true) (k3:PySem.W.keepIn K (.ref f3) = true)
  (a4:PySem.W.nsIn K mainGlobals "is_whole" = some (some (.ref f4)))
  (l4:K.lookup f4 = some ⟨oc4,od4,.func (PySem.W.fnOf "is_whole" "is_whole" (defArgs s_is_whole) (defBody s_is_whole) (defScope s_is_whole) .none kV4 dc4 pm4 an4 cd4 ct4),sl4⟩) (c4:PySem.W.codeIn K cd4 "is_whole" = true) (k4:PySem.W.keepIn K (.ref f4) = true)
  (a5:PySem.W.nsIn K mainGlobals "is_between" = some (some (.ref f5)))
  (l5:K.lookup f5 = some ⟨oc5,od5,.func (PySem.W.fnOf "is_between" "is_between" (defArgs s_is_between) (defBody s_is_between) (defScope s_is_between) .none kV5 dc5 pm5 an5 cd5 ct5),sl5⟩) (c5:PySem.W.codeIn K cd5 "is_between" = true) (k5:PySem.W.keepIn K (.ref f5) = true)
  (a6:PySem.W.nsIn K mainGlobals "need_width" = some (some (.ref f6)))
  (l6:K.lookup f6 = some ⟨oc6,od6,.func (PySem.W.fnOf "need_width" "need_width" (defArgs s_need_width) (defBody s_need_width) (defScope s_need_width) .none kV6 dc6 pm6 an6 cd6 ct6),sl6⟩) (c6:PySem.W.codeIn K cd6 "need_width" = true) (k6:PySem.W.keepIn K (.ref f6) = true)
  (a7:PySem.W.nsIn K mainGlobals "is_word" = some (some (.ref f7)))
  (l7:K.lookup f7 = some ⟨oc7,od7,.func (PySem.W.fnOf "is_word" "is_word" (defArgs s_is_word) (defBody s_is_word) (defScope s_is_word) .none kV7 dc7 pm7 an7 cd7 ct7),sl7⟩) (c7:PySem.W.codeIn K cd7 "is_word" = true) (k7:PySem.W.keepIn K (.ref f7) = true)
  (a8:PySem.W.nsIn K mainGlobals "figures_of" = some (some (.ref f8)))
  (l8:K.lookup f8 = some ⟨oc8,od8,.func (PySem.W.fnOf "figures_of" "figures_of" (defArgs s_figures_of) (defBody s_figures_of) (defScope s_figures_of) .none kV8 dc8 pm8 an8 cd8 ct8),sl8⟩) (c8:PySem.W.codeIn K cd8 "figures_of" = true) (k8:PySem.W.keepIn K (.ref f8) = true)
  (a9:PySem.W.nsIn K mainGlobals "bits_in" = some (some (.ref f9)))
  (l9:K.lookup f9 = some ⟨oc9,od9,.func (PySem.W.fnOf "bits_in" "bits_in" (defArgs s_bits_in) (defBody s_bits_in) (defScope s_bits_in) .none kV9 dc9 pm9 an9 cd9 ct9),sl9⟩) (c9:PySem.W.codeIn K cd9 "bits_in" = true) (k9:PySem.W.keepIn K (.ref f9) = true)
  (a10:PySem.W.nsIn K mainGlobals "sum_of" = some (some (.ref f10)))
  (l10:K.lookup f10 = some ⟨oc10,od10,.func (PySem.W.fnOf "sum_of" "sum_of" (defArgs s_sum_of) (defBody s_sum_of) (defScope s_sum_of) .none kV10 dc10 pm10 an10 cd10 ct10),sl10⟩) (c10:PySem.W.codeIn K cd10 "sum_of" = true) (k10:PySem.W.keepIn K (.ref f10) = true)
  (a11:PySem.W.nsIn K mainGlobals "gap_of" = some (some (.ref f11)))
  (l11:K.lookup f11 = some ⟨oc11,od11,.func (PySem.W.fnOf "gap_of" "gap_of" (defArgs s_gap_of) (defBody s_gap_of) (defScope s_gap_of) .none kV11 dc11 pm11 an11 cd11 ct11),sl11⟩) (c11:PySem.W.codeIn K cd11 "gap_of" = true) (k11:PySem.W.keepIn K (.ref f11) = true)
  (a12:PySem.W.nsIn K mainGlobals "low_product" = some (some (.ref f12)))
  (l12:K.lookup f12 = some ⟨oc12,od12,.func (PySem.W.fnOf "low_product" "low_product" (defArgs s_low_product) (defBody s_low_product) (defScope s_low_product) .none kV12 dc12 pm12 an12 cd12 ct12),sl12⟩) (c12:PySem.W.codeIn K cd12 "low_product" = true) (k12:PySem.W.keepIn K (.ref f12) = true)
  (a13:PySem.W.nsIn K mainGlobals "high_product" = some (some (.ref f13)))
  (l13:K.lookup f13 = some ⟨oc13,od13,.func (PySem.W.fnOf "high_product" "high_product" (defArgs s_high_product) (defBody s_high_product) (defScope s_high_product) .none kV13 dc13 pm13 an13 cd13 ct13),sl13⟩) (c13:PySem.W.codeIn K cd13 "high_product" = true) (k13:PySem.W.keepIn K (.ref f13) = true)
  (a14:PySem.W.nsIn K mainGlobals "left" = some (some (.ref f14)))
  (l14:K.lookup f14 = some ⟨oc14,od14,.func (PySem.W.fnOf "left" "left" (defArgs s_left) (defBody s_left) (defScope s_left) .none kV14 dc14 pm14 an14 cd14 ct14),sl14⟩) (c14:PySem.W.codeIn K cd14 "left" = true) (k14:PySem.W.keepIn K (.ref f14) = true)
  (a15:PySem.W.nsIn K mainGlobals "right" = some (some (.ref f15)))
  (l15:K.lookup f15 = some ⟨oc15,od15,.func (PySem.W.fnOf "right" "right" (defArgs s_right) (defBody s_right) (defScope s_right) .none kV15 dc15 pm15 an15 cd15 ct15),sl15⟩) (c15:PySem.W.codeIn K cd15 "right" = true) (k15:PySem.W.keepIn K (.ref f15) = true)
  (a16:PySem.W.nsIn K mainGlobals "slide" = some (some (.ref f16)))
  (l16:K.lookup f16 = some ⟨oc16,od16,.func (PySem.W.fnOf "slide" "slide" (defArgs s_slide) (defBody s_slide) (defScope s_slide) .none kV16 dc16 pm16 an16 cd16 ct16),sl16⟩) (c16:PySem.W.codeIn K cd16 "slide" = true) (k16:PySem.W.keepIn K (.ref f16) = true)
  (a17:PySem.W.nsIn K mainGlobals "common_divisor" = some (some (.ref f17)))
  (l17:K.lookup f17 = some ⟨oc17,od17,.func (PySem.W.fnOf "common_divisor" "common_divisor" (defArgs s_common_divisor) (defBody s_common_divisor) (defScope s_common_divisor) .none kV17 dc17 pm17 an17 cd17 ct17),sl17⟩) (c17:PySem.W.codeIn K cd17 "common_divisor" = true) (k17:PySem.W.keepIn K (.ref f17) = true)
  (a18:PySem.W.nsIn K mainGlobals "fraction" = some (some (.ref f18)))
  (l18:K.lookup f18 = some ⟨oc18,od18,.func (PySem.W.fnOf "fraction" "fraction" (defArgs s_fraction) (defBody s_fraction) (defScope s_fraction) .none kV18 dc18 pm18 an18 cd18 ct18),sl18⟩) (c18:PySem.W.codeIn K cd18 "fraction" = true) (k18:PySem.W.keepIn K (.ref f18) = true)
  (a19:PySem.W.nsIn K mainGlobals "by_twos" = some (some (.ref f19)))
  (l19:K.lookup f19 = some ⟨oc19,od19,.func (PySem.W.fnOf "by_twos" "by_twos" (defArgs s_by_twos) (defBody s_by_twos) (defScope s_by_twos) .none kV19 dc19 pm19 an19 cd19 ct19),sl19⟩) (c19:PySem.W.codeIn K cd19 "by_twos" = true) (k19:PySem.W.keepIn K (.ref f19) = true)
  (a20:PySem.W.findIn K (.ref c_Kind) "__init__" = some (some (.ref f20))) (i20:PySem.W.isFn K (.ref f20) = true)
  (l20:K.lookup f20 = some ⟨oc20,od20,.func (PySem.W.fnOf "__init__" "Kind.__init__" (defArgs s_Kind___init__) (defBody s_Kind___init__) (defScope s_Kind___init__) .none kV20 dc20 pm20 an20 cd20 ct20),sl20⟩) (c20:PySem.W.codeIn K cd20 "Kind.__init__" = true) (k20:PySem.W.keepIn K (.ref f20) = true)
  (a21:PySem.W.findIn K (.ref c_Plain) "count_of" = some (some (.ref f21))) (i21:PySem.W.isFn K (.ref f21) = true) (h_Signed_count_of:PySem.W.findIn K (.ref c_Signed) "count_of" = some (some (.ref f21))) (h_Pointed_count_of:PySem.W.findIn K (.ref c_Pointed) "count_of" = some (some (.ref f21)))
  (l21:K.lookup f21 = some ⟨oc21,od21,.func (PySem.W.fnOf "count_of" "Kind.count_of" (defArgs s_Kind_count_of) (defBody s_Kind_count_of) (defScope s_Kind_count_of) .none kV21 dc21 pm21 an21 cd21 ct21),sl21⟩) (c21:PySem.W.codeIn K cd21 "Kind.count_of" = true) (k21:PySem.W.keepIn K (.ref f21) = true)
  (a22:PySem.W.findIn K (.ref c_Plain) "bits_of" = some (some (.ref f22))) (i22:PySem.W.isFn K (.ref f22) = true) (h_Signed_bits_of:PySem.W.findIn K (.ref c_Signed) "bits_of" = some (some (.ref f22))) (h_Pointed_bits_of:PySem.W.findIn K (.ref c_Pointed) "bits_of" = some (some (.ref f22)))
  (l22:K.lookup f22 = some ⟨oc22,od22,.func (PySem.W.fnOf "bits_of" "Kind.bits_of" (defArgs s_Kind_bits_of) (defBody s_Kind_bits_of) (defScope s_Kind_bits_of) .none kV22 dc22 pm22 an22 cd22 ct22),sl22⟩) (c22:PySem.W.codeIn K cd22 "Kind.bits_of" = true) (k22:PySem.W.keepIn K (.ref f22) = true)
  (a23:PySem.W.findIn K (.ref c_Plain) "value_of" = some (some (.ref f23))) (i23:PySem.W.isFn K (.ref f23) = true) (h_Signed_value_of:PySem.W.findIn K (.ref c_Signed) "value_of" = some (some (.ref f23))) (h_Pointed_value_of:PySem.W.findIn K (.ref c_Pointed) "value_of" = some (some (.ref f23)))
  (l23:K.lookup f23 = some ⟨oc23,od23,.func (PySem.W.fnOf "value_of" "Kind.value_of" (defArgs s_Kind_value_of) (defBody s_Kind_value_of) (defScope s_Kind_value_of) .none kV23 dc23 pm23 an23 cd23 ct23),sl23⟩) (c23:PySem.W.codeIn K cd23 "Kind.value_of" = true) (k23:PySem.W.keepIn K (.ref f23) = true)
  (a24:PySem.W.findIn K (.ref c_Plain) "shown" = some (some (.ref f24))) (i24:PySem.W.isFn K (.ref f24) = true) (h_Signed_shown:PySem.W.findIn K (.ref c_Signed) "shown" = some (some (.ref f24))) (h_Pointed_shown:PySem.W.findIn K (.ref c_Pointed) "shown" = some (some (.ref f24)))
  (l24:K.lookup f24 = some ⟨oc24,od24,.func (PySem.W.fnOf "shown" "Kind.shown" (defArgs s_Kind_shown) (defBody s_Kind_shown) (defScope s_Kind_shown) .none kV24 dc24 pm24 an24 cd24 ct24),sl24⟩) (c24:PySem.W.codeIn K cd24 "Kind.shown" = true) (k24:PySem.W.keepIn K (.ref f24) = true)
  (a25:PySem.W.findIn K (.ref c_Plain) "__init__" = some (some (.ref f25))) (i25:PySem.W.isFn K (.ref f25) = true)
  (l25:K.lookup f25 = some ⟨oc25,od25,.func (PySem.W.fnOf "__init__" "Plain.__init__" (defArgs s_Plain___init__) (defBody s_Plain___init__) (defScope s_Plain___init__) .none kV25 dc25 pm25 an25 cd25 ct25),sl25⟩) (c25:PySem.W.codeIn K cd25 "Plain.__init__" = true) (k25:PySem.W.keepIn K (.ref f25) = true)
  (a26:PySem.W.findIn K (.ref c_Plain) "least" = some (some (.ref f26))) (i26:PySem.W.isFn K (.ref f26) = true)
  (l26:K.lookup f26 = some ⟨oc26,od26,.func (PySem.W.fnOf "least" "Plain.least" (defArgs s_Plain_least) (defBody s_Plain_least) (defScope s_Plain_least) .none kV26 dc26 pm26 an26 cd26 ct26),sl26⟩) (c26:PySem.W.codeIn K cd26 "Plain.least" = true) (k26:PySem.W.keepIn K (.ref f26) = true)
  (a27:PySem.W.findIn K (.ref c_Plain) "greatest" = some (some (.ref f27))) (i27:PySem.W.isFn K (.ref f27) = true)
  (l27:K.lookup f27 = some ⟨oc27,od27,.func (PySem.W.fnOf "greatest" "Plain.greatest" (defArgs s_Plain_greatest) (defBody s_Plain_greatest) (defScope s_Plain_greatest) .none kV27 dc27 pm27 an27 cd27 ct27),sl27⟩) (c27:PySem.W.codeIn K cd27 "Plain.greatest" = true) (k27:PySem.W.keepIn K (.ref f27) = true)
  (a28:PySem.W.findIn K (.ref c_Signed) "__init__" = some (some (.ref f28))) (i28:PySem.W.isFn K (.ref f28) = true)
  (l28:K.lookup f28 = some ⟨oc28,od28,.func (PySem.W.fnOf "__init__" "Signed.__init__" (defArgs s_Signed___init__) (defBody s_Signed___init__) (defScope s_Signed___init__) .none kV28 dc28 pm28 an28 cd28 ct28),sl28⟩) (c28:PySem.W.codeIn K cd28 "Signed.__init__" = true) (k28:PySem.W.keepIn K (.ref f28) = true)
  (a29:PySem.W.findIn K (.ref c_Signed) "least" = some (some (.ref f29))) (i29:PySem.W.isFn K (.ref f29) = true)
  (l29:K.lookup f29 = some ⟨oc29,od29,.func (PySem.W.fnOf "least" "Signed.least" (defArgs s_Signed_least) (defBody s_Signed_least) (defScope s_Signed_least) .none kV29 dc29 pm29 an29 cd29 ct29),sl29⟩) (c29:PySem.W.codeIn K cd29 "Signed.least" = true) (k29:PySem.W.keepIn K (.ref f29) = true)
  (a30:PySem.W.findIn K (.ref c_Signed) "greatest" = some (some (.ref f30))) (i30:PySem.W.isFn K (.ref f30) = true)
  (l30:K.lookup f30 = some ⟨oc30,od30,.func (PySem.W.fnOf "greatest" "Signed.greatest" (defArgs s_Signed_greatest) (defBody s_Signed_greatest) (defScope s_Signed_greatest) .none kV30 dc30 pm30 an30 cd30 ct30),sl30⟩) (c30:PySem.W.codeIn K cd30 "Signed.greatest" = true) (k30:PySem.W.keepIn K (.ref f30) = true)
  (a31:PySem.W.findIn K (.ref c_Pointed) "__init__" = some (some (.ref f31))) (i31:PySem.W.isFn K (.ref f31) = true)
  (l31:K.lookup f31 = some ⟨oc31,od31,.func (PySem.W.fnOf "__init__" "Pointed.__init__" (defArgs s_Pointed___init__) (defBody s_Pointed___init__) (defScope s_Pointed___init__) .none kV31 dc31 pm31 an31 cd31 ct31),sl31⟩) (c31:PySem.W.codeIn K cd31 "Pointed.__init__" = true) (k31:PySem.W.keepIn K (.ref f31) = true)
  (a32:PySem.W.findIn K (.ref c_Pointed) "least" = some (some (.ref f32))) (i32:PySem.W.isFn K (.ref f32) = true)
  (l32:K.lookup f32 = some ⟨oc32,od32,.func (PySem.W.fnOf "least" "Pointed.least" (defArgs s_Pointed_least) (defBody s_Pointed_least) (defScope s_Pointed_least) .none kV32 dc32 pm32 an32 cd32 ct32),sl32⟩) (c32:PySem.W.codeIn K cd32 "Pointed.least" = true) (k32:PySem.W.keepIn K (.ref f32) = true)
  (a33:PySem.W.findIn K (.ref c_Pointed) "greatest" = some (some (.ref f33))) (i33:PySem.W.isFn K (.ref f33) = true)
  (l33:K.lookup f33 = some ⟨oc33,od33,.func (PySem.W.fnOf "greatest" "Pointed.greatest" (defArgs s_Pointed_greatest) (defBody s_Pointed_greatest) (defScope s_Pointed_greatest) .none kV33 dc33 pm33 an33 cd33 ct33),sl33⟩) (c33:PySem.W.codeIn K cd33 "Pointed.greatest" = true) (k33:PySem.W.keepIn K (.ref f33) = true)
  (a34:PySem.W.nsIn K mainGlobals "half" = some (some (.ref f34)))
  (l34:K.lookup f34 = some ⟨oc34,od34,.func (PySem.W.fnOf "half" "half" (defArgs s_half) (defBody s_half) (defScope s_half) .none kV34 dc34 pm34 an34 cd34 ct34),sl34⟩) (c34:PySem.W.codeIn K cd34 "half" = true) (k34:PySem.W.keepIn K (.ref f34) = true)
  (a35:PySem.W.nsIn K mainGlobals "figures_behind" = some (some (.ref f35)))
  (l35:K.lookup f35 = some ⟨oc35,od35,.func (PySem.W.fnOf "figures_behind" "figures_behind" (defArgs s_figures_behind) (defBody s_figures_behind) (defScope s_figures_behind) .none kV35 dc35 pm35 an35 cd35 ct35),sl35⟩) (c35:PySem.W.codeIn K cd35 "figures_behind" = true) (k35:PySem.W.keepIn K (.ref f35) = true)
  (a36:PySem.W.nsIn K mainGlobals "_law_cell" = some (some (.ref f36)))
  (l36:K.lookup f36 = some ⟨oc36,od36,.func (PySem.W.fnOf "_law_cell" "_law_cell" (defArgs s__law_cell) (defBody s__law_cell) (defScope s__law_cell) .none kV36 dc36 pm36 an36 cd36 ct36),sl36⟩) (c36:PySem.W.codeIn K cd36 "_law_cell" = true) (k36:PySem.W.keepIn K (.ref f36) = true)
  (a37:PySem.W.nsIn K mainGlobals "_law_box" = some (some (.ref f37)))
  (l37:K.lookup f37 = some ⟨oc37,od37,.func (PySem.W.fnOf "_law_box" "_law_box" (defArgs s__law_box) (defBody s__law_box) (defScope s__law_box) .none kV37 dc37 pm37 an37 cd37 ct37),sl37⟩) (c37:PySem.W.codeIn K cd37 "_law_box" = true) (k37:PySem.W.keepIn K (.ref f37) = true)
  (a38:PySem.W.nsIn K mainGlobals "_law_take" = some (some (.ref f38)))
  (l38:K.lookup f38 = some ⟨oc38,od38,.func (PySem.W.fnOf "_law_take" "_law_take" (defArgs s__law_take) (defBody s__law_take) (defScope s__law_take) .none kV38 dc38 pm38 an38 cd38 ct38),sl38⟩) (c38:PySem.W.codeIn K cd38 "_law_take" = true) (k38:PySem.W.keepIn K (.ref f38) = true)
  (a39:PySem.W.nsIn K mainGlobals "_law_told" = some (some (.ref f39)))
  (l39:K.lookup f39 = some ⟨oc39,od39,.func (PySem.W.fnOf "_law_told" "_law_told" (defArgs s__law_told) (defBody s__law_told) (defScope s__law_told) .none kV39 dc39 pm39 an39 cd39 ct39),sl39⟩) (c39:PySem.W.codeIn K cd39 "_law_told" = true) (k39:PySem.W.keepIn K (.ref f39) = true)
  (a40:PySem.W.nsIn K mainGlobals "_law_is" = some (some (.ref f40)))
  (l40:K.lookup f40 = some ⟨oc40,od40,.func (PySem.W.fnOf "_law_is" "_law_is" (defArgs s__law_is) (defBody s__law_is) (defScope s__law_is) .none kV40 dc40 pm40 an40 cd40 ct40),sl40⟩) (c40:PySem.W.codeIn K cd40 "_law_is" = true) (k40:PySem.W.keepIn K (.ref f40) = true)
  (a41:PySem.W.nsIn K mainGlobals "_law_no_width" = some (some (.ref f41)))
  (l41:K.lookup f41 = some ⟨oc41,od41,.func (PySem.W.fnOf "_law_no_width" "_law_no_width" (defArgs s__law_no_width) (defBody s__law_no_width) (defScope s__law_no_width) .none kV41 dc41 pm41 an41 cd41 ct41),sl41⟩) (c41:PySem.W.codeIn K cd41 "_law_no_width" = true) (k41:PySem.W.keepIn K (.ref f41) = true)
  (a42:PySem.W.nsIn K mainGlobals "_law_no_point" = some (some (.ref f42)))
  (l42:K.lookup f42 = some ⟨oc42,od42,.func (PySem.W.fnOf "_law_no_point" "_law_no_point" (defArgs s__law_no_point) (defBody s__law_no_point) (defScope s__law_no_point) .none kV42 dc42 pm42 an42 cd42 ct42),sl42⟩) (c42:PySem.W.codeIn K cd42 "_law_no_point" = true) (k42:PySem.W.keepIn K (.ref f42) = true)
  (a43:PySem.W.nsIn K mainGlobals "_law_no_number" = some (some (.ref f43)))
  (l43:K.lookup f43 = some ⟨oc43,od43,.func (PySem.W.fnOf "_law_no_number" "_law_no_number" (defArgs s__law_no_number) (defBody s__law_no_number) (defScope s__law_no_number) .none kV43 dc43 pm43 an43 cd43 ct43),sl43⟩) (c43:PySem.W.codeIn K cd43 "_law_no_number" = true) (k43:PySem.W.keepIn K (.ref f43) = true)
  (a44:PySem.W.nsIn K mainGlobals "_law_widths_refused" = some (some (.ref f44)))
  (l44:K.lookup f44 = some ⟨oc44,od44,.func (PySem.W.fnOf "_law_widths_refused" "_law_widths_refused" (defArgs s__law_widths_refused) (defBody s__law_widths_refused) (defScope s__law_widths_refused) .none kV44 dc44 pm44 an44 cd44 ct44),sl44⟩) (c44:PySem.W.codeIn K cd44 "_law_widths_refused" = true) (k44:PySem.W.keepIn K (.ref f44) = true)
  (a45:PySem.W.nsIn K mainGlobals "_law_words_refused" = some (some (.ref f45)))
  (l45:K.lookup f45 = some ⟨oc45,od45,.func (PySem.W.fnOf "_law_words_refused" "_law_words_refused" (defArgs s__law_words_refused) (defBody s__law_words_refused) (defScope s__law_words_refused) .none kV45 dc45 pm45 an45 cd45 ct45),sl45⟩) (c45:PySem.W.codeIn K cd45 "_law_words_refused" = true) (k45:PySem.W.keepIn K (.ref f45) = true)
  (a46:PySem.W.nsIn K mainGlobals "_law_points_refused" = some (some (.ref f46)))
  (l46:K.lookup f46 = some ⟨oc46,od46,.func (PySem.W.fnOf "_law_points_refused" "_law_points_refused" (defArgs s__law_points_refused) (defBody s__law_points_refused) (defScope s__law_points_refused) .none kV46 dc46 pm46 an46 cd46 ct46),sl46⟩) (c46:PySem.W.codeIn K cd46 "_law_points_refused" = true) (k46:PySem.W.keepIn K (.ref f46) = true)
  (a47:PySem.W.nsIn K mainGlobals "law" = some (some (.ref f47)))
  (l47:K.lookup f47 = some ⟨oc47,od47,.func (PySem.W.fnOf "law" "law" (defArgs s_law) (defBody s_law) (defScope s_law) .none kV47 dc47 pm47 an47 cd47 ct47),sl47⟩) (c47:PySem.W.codeIn K cd47 "law" = true) (k47:PySem.W.keepIn K (.ref f47) = true)
  (aC_Kind:PySem.W.nsIn K mainGlobals "Kind" = some (some (.ref c_Kind))) (pg_Kind:PySem.W.plainGet K c_Kind Str.empty = true) (hd_Kind:PySem.W.hasDictIn K c_Kind = true) (po_Kind:PySem.W.plainOver K c_Kind = true) (sa_Kind:PySem.W.findIn K (.ref c_Kind) "__setattr__" = some (some (.builtin "object.__setattr__")))
  (rd_Kind:PySem.W.readsIn K c_Kind (.type "type") = true) (ga_Kind:PySem.W.specialIn K (.ref c_Kind) "__getattribute__" = some (some (.builtin "type.__getattribute__"))) (fn_Kind___init__:PySem.W.findCls K (.ref c_Kind) (.type "type") "__init__" = some (.val (.ref f20)))
  (aC_Plain:PySem.W.nsIn K mainGlobals "Plain" = some (some (.ref c_Plain))) (pg_Plain:PySem.W.plainGet K c_Plain Str.empty = true) (hd_Plain:PySem.W.hasDictIn K c_Plain = true) (po_Plain:PySem.W.plainOver K c_Plain = true) (sa_Plain:PySem.W.findIn K (.ref c_Plain) "__setattr__" = some (some (.builtin "object.__setattr__")))
  (mk_Plain:PySem.W.makesIn K c_Plain = true) (kc_Plain:PySem.W.keepIn K (.ref c_Plain) = true)
  (na_Plain_width:PySem.W.findIn K (.ref c_Plain) "width" = some none)
  (na_Plain_point:PySem.W.findIn K (.ref c_Plain) "point" = some none)
  (aC_Signed:PySem.W.nsIn K mainGlobals "Signed" = some (some (.ref c_Signed))) (pg_Signed:PySem.W.plainGet K c_Signed Str.empty = true) (hd_Signed:PySem.W.hasDictIn K c_Signed = true) (po_Signed:PySem.W.plainOver K c_Signed = true) (sa_Signed:PySem.W.findIn K (.ref c_Signed) "__setattr__" = some (some (.builtin "object.__setattr__")))
  (mk_Signed:PySem.W.makesIn K c_Signed = true) (kc_Signed:PySem.W.keepIn K (.ref c_Signed) = true)
  (na_Signed_width:PySem.W.findIn K (.ref c_Signed) "width" = some none)
  (na_Signed_point:PySem.W.findIn K (.ref c_Signed) "point" = some none)
  (aC_Pointed:PySem.W.nsIn K mainGlobals "Pointed" = some (some (.ref c_Pointed))) (pg_Pointed:PySem.W.plainGet K c_Pointed Str.empty = true) (hd_Pointed:PySem.W.hasDictIn K c_Pointed = true) (po_Pointed:PySem.W.plainOver K c_Pointed = true) (sa_Pointed:PySem.W.findIn K (.ref c_Pointed) "__setattr__" = some (some (.builtin "object.__setattr__")))
  (mk_Pointed:PySem.W.makesIn K c_Pointed = true) (kc_Pointed:PySem.W.keepIn K (.ref c_Pointed) = true)
  (na_Pointed_width:PySem.W.findIn K (.ref c_Pointed) "width" = some none)
  (na_Pointed_point:PySem.W.findIn K (.ref c_Pointed) "point" = some none)
  (aC_NoWidth:PySem.W.nsIn K mainGlobals "NoWidth" = some (some (.ref c_NoWidth)))
  (aC_NoWord:PySem.W.nsIn K mainGlobals "NoWord" = some (some (.ref c_NoWord)))
  (aC_NoKind:PySem.W.nsIn K mainGlobals "NoKind" = some (some (.ref c_NoKind)))
  (aC_WiseError:PySem.W.nsIn K mainGlobals "WiseError" = some (some (.ref c_WiseError)))
  (xe_NoWidth:excFn K c_NoWidth f1 = true) (xs_NoWidth:PySem.W.findIn K (.ref c_NoWidth) "__setattr__" = some (some (.builtin "object.__setattr__"))) (xm_NoWidth:PySem.W.mroIn K c_NoWidth (.type "object") = some true) (xn_NoWidth:PySem.W.findIn K (.ref c_NoWidth) "found" = some none) (xf_NoWidth:PySem.W.typeIn K (.ref f1) = some (.type "function")) (xk_NoWidth:PySem.W.keepIn K (.ref c_NoWidth) = true)
  (xe_NoWord:excFn K c_NoWord f2 = true) (xs_NoWord:PySem.W.findIn K (.ref c_NoWord) "__setattr__" = some (some (.builtin "object.__setattr__"))) (xm_NoWord:PySem.W.mroIn K c_NoWord (.type "object") = some true) (xn_NoWord:PySem.W.findIn K (.ref c_NoWord) "found" = some none) (xf_NoWord:PySem.W.typeIn K (.ref f2) = some (.type "function")) (xk_NoWord:PySem.W.keepIn K (.ref c_NoWord) = true)
  (xe_NoKind:excFn K c_NoKind f3 = true) (xs_NoKind:PySem.W.findIn K (.ref c_NoKind) "__setattr__" = some (some (.builtin "object.__setattr__"))) (xm_NoKind:PySem.W.mroIn K c_NoKind (.type "object") = some true) (xn_NoKind:PySem.W.findIn K (.ref c_NoKind) "found" = some none) (xf_NoKind:PySem.W.typeIn K (.ref f3) = some (.type "function")) (xk_NoKind:PySem.W.keepIn K (.ref c_NoKind) = true)
  {tN_LONGEST_SHOWN:Tok} (aN_LONGEST_SHOWN:PySem.W.nsIn K mainGlobals "LONGEST_SHOWN" = some (some (.int 43 tN_LONGEST_SHOWN)))
  (kf_dc_Plain:PySem.W.findIn K (.ref c_Plain) "__class__" = some (some (.builtin "object.__class__")))
  (kf_mo_Plain:PySem.W.mroIn K c_Plain (.type "object") = some true)
  (kf_ik_Plain:PySem.W.mroIn K c_Plain (.ref c_Kind) = some true)
  (kf_dc_Signed:PySem.W.findIn K (.ref c_Signed) "__class__" = some (some (.builtin "object.__class__")))
  (kf_mo_Signed:PySem.W.mroIn K c_Signed (.type "object") = some true)
  (kf_ik_Signed:PySem.W.mroIn K c_Signed (.ref c_Kind) = some true)
  (kf_dc_Pointed:PySem.W.findIn K (.ref c_Pointed) "__class__" = some (some (.builtin "object.__class__")))
  (kf_mo_Pointed:PySem.W.mroIn K c_Pointed (.type "object") = some true)
  (kf_ik_Pointed:PySem.W.mroIn K c_Pointed (.ref c_Kind) = some true)
  (kf_kc:PySem.W.isClsIn K c_Kind = true)
  (kf_kt:PySem.W.typeIn K (.ref c_Kind) = some (.type "type"))
  (kf_og:PySem.W.specialIn K (.builtin "object.__class__") "__get__" = some (some (.builtin "getset_descriptor.__get__")))
  (kf_ot:PySem.W.takesIn K (.builtin "object.__class__") = some true)
  (kf_kc_Plain:PySem.W.isClsIn K c_Plain = true)
  (kf_kt_Plain:PySem.W.typeIn K (.ref c_Plain) = some (.type "type"))
  (kf_m_Plain_Plain:PySem.W.mroIn K c_Plain (.ref c_Plain) = some true)
  (kf_m_Plain_Signed:PySem.W.mroIn K c_Plain (.ref c_Signed) = some false)
  (kf_m_Plain_Pointed:PySem.W.mroIn K c_Plain (.ref c_Pointed) = some false)
  (kf_kc_Signed:PySem.W.isClsIn K c_Signed = true)
  (kf_kt_Signed:PySem.W.typeIn K (.ref c_Signed) = some (.type "type"))
  (kf_m_Signed_Plain:PySem.W.mroIn K c_Signed (.ref c_Plain) = some false)
  (kf_m_Signed_Signed:PySem.W.mroIn K c_Signed (.ref c_Signed) = some true)
  (kf_m_Signed_Pointed:PySem.W.mroIn K c_Signed (.ref c_Pointed) = some false)
  (kf_kc_Pointed:PySem.W.isClsIn K c_Pointed = true)
  (kf_kt_Pointed:PySem.W.typeIn K (.ref c_Pointed) = some (.type "type"))
  (kf_m_Pointed_Plain:PySem.W.mroIn K c_Pointed (.ref c_Plain) = some false)
  (kf_m_Pointed_Signed:PySem.W.mroIn K c_Pointed (.ref c_Signed) = some false)
  (kf_m_Pointed_Pointed:PySem.W.mroIn K c_Pointed (.ref c_Pointed) = some true)
  (kf_if_NoWidth:PySem.W.isClsIn K c_NoWidth = true)
  (kf_if_NoWord:PySem.W.isClsIn K c_NoWord = true)
  (kf_if_NoKind:PySem.W.isClsIn K c_NoKind = true)
  (kf_tf_NoWidth:PySem.W.typeIn K (.ref c_NoWidth) = some (.type "type"))
  (kf_tf_NoWord:PySem.W.typeIn K (.ref c_NoWord) = some (.type "type"))
  (kf_tf_NoKind:PySem.W.typeIn K (.ref c_NoKind) = some (.type "type"))
  (kf_mf_NoWidth:PySem.W.mroIn K c_NoWidth (.ref c_NoWidth) = some true)
  (kf_mf_NoWord:PySem.W.mroIn K c_NoWord (.ref c_NoWord) = some true)
  (kf_mf_NoKind:PySem.W.mroIn K c_NoKind (.ref c_NoKind) = some true)
  (kf_wb_NoWidth:PySem.W.mroIn K c_NoWidth (.type "BaseException") = some true)
  (kf_wb_NoWord:PySem.W.mroIn K c_NoWord (.type "BaseException") = some true)
  (kf_wb_NoKind:PySem.W.mroIn K c_NoKind (.type "BaseException") = some true)
  (kf_ga_NoWidth:PySem.W.findIn K (.ref c_NoWidth) "__getattribute__" = some (some (.builtin "BaseException.__getattribute__")))
  (kf_ga_NoWord:PySem.W.findIn K (.ref c_NoWord) "__getattribute__" = some (some (.builtin "BaseException.__getattribute__")))
  (kf_ga_NoKind:PySem.W.findIn K (.ref c_NoKind) "__getattribute__" = some (some (.builtin "BaseException.__getattribute__")))
  (kf_gn_NoWidth:PySem.W.findIn K (.ref c_NoWidth) "__getattr__" = some none)
  (kf_gn_NoWord:PySem.W.findIn K (.ref c_NoWord) "__getattr__" = some none)
  (kf_gn_NoKind:PySem.W.findIn K (.ref c_NoKind) "__getattr__" = some none)
  (kf_gc_NoWidth:PySem.W.findIn K (.ref c_NoWidth) "__class__" = some (some (.builtin "object.__class__")))
  (kf_gc_NoWord:PySem.W.findIn K (.ref c_NoWord) "__class__" = some (some (.builtin "object.__class__")))
  (kf_gc_NoKind:PySem.W.findIn K (.ref c_NoKind) "__class__" = some (some (.builtin "object.__class__")))
  (kf_mo_NoWidth:PySem.W.mroIn K c_NoWidth (.type "object") = some true)
  (kf_mo_NoWord:PySem.W.mroIn K c_NoWord (.type "object") = some true)
  (kf_mo_NoKind:PySem.W.mroIn K c_NoKind (.type "object") = some true)
  (kf_mb_NoWidth:PySem.W.mroIn K c_NoWidth (.type "BaseException") = some true)
  (kf_mb_NoWord:PySem.W.mroIn K c_NoWord (.type "BaseException") = some true)
  (kf_mb_NoKind:PySem.W.mroIn K c_NoKind (.type "BaseException") = some true)
  (kf_hd_NoWidth:PySem.W.hasDictIn K c_NoWidth = true)
  (kf_hd_NoWord:PySem.W.hasDictIn K c_NoWord = true)
  (kf_hd_NoKind:PySem.W.hasDictIn K c_NoKind = true)
  (kf_nf_NoWidth:PySem.W.findIn K (.ref c_NoWidth) "found" = some none)
  (kf_nf_NoWord:PySem.W.findIn K (.ref c_NoWord) "found" = some none)
  (kf_nf_NoKind:PySem.W.findIn K (.ref c_NoKind) "found" = some none)
  (kf_wm_NoWidth:PySem.W.mroIn K c_NoWidth (.ref c_WiseError) = some true)
  (kf_wm_NoWord:PySem.W.mroIn K c_NoWord (.ref c_WiseError) = some true)
  (kf_wm_NoKind:PySem.W.mroIn K c_NoKind (.ref c_WiseError) = some true)
  (kf_wt:PySem.W.typeIn K (.ref c_WiseError) = some (.type "type"))
  (kf_wc:PySem.W.isClsIn K c_WiseError = true)
  (kf_m_NoWidth_NoWidth:PySem.W.mroIn K c_NoWidth (.ref c_NoWidth) = some true)
  (kf_m_NoWidth_NoWord:PySem.W.mroIn K c_NoWidth (.ref c_NoWord) = some false)
  (kf_m_NoWidth_NoKind:PySem.W.mroIn K c_NoWidth (.ref c_NoKind) = some false)
  (kf_m_NoWord_NoWidth:PySem.W.mroIn K c_NoWord (.ref c_NoWidth) = some false)
  (kf_m_NoWord_NoWord:PySem.W.mroIn K c_NoWord (.ref c_NoWord) = some true)
  (kf_m_NoWord_NoKind:PySem.W.mroIn K c_NoWord (.ref c_NoKind) = some false)
  (kf_m_NoKind_NoWidth:PySem.W.mroIn K c_NoKind (.ref c_NoWidth) = some false)
  (kf_m_NoKind_NoWord:PySem.W.mroIn K c_NoKind (.ref c_NoWord) = some false)
  (kf_m_NoKind_NoKind:PySem.W.mroIn K c_NoKind (.ref c_NoKind) = some true)
  (kf_wbE:PySem.W.mroIn K c_WiseError (.type "BaseException") = some true)
  {cT0 PT0:Addr} (hcT0:cd44 = .ref cT0)
  {cT1 PT1:Addr} (hcT1:cd45 = .ref cT1)
  {cT2 PT2:Addr} (hcT2:cd46 = .ref cT2)
  (hne:Apart [PT0,PT1,PT2])
  (z_isinstance:PySem.W.nsIn K mainGlobals "isinstance" = some none) (z_int:PySem.W.nsIn K mainGlobals "int" = some none) (z_bool:PySem.W.nsIn K mainGlobals "bool" = some none) (z_str:PySem.W.nsIn K mainGlobals "str" = some none) (z_tuple:PySem.W.nsIn K mainGlobals "tuple" = some none) (z_list:PySem.W.nsIn K mainGlobals "list" = some none) (z_len:PySem.W.nsIn K mainGlobals "len" = some none) (z_max:PySem.W.nsIn K mainGlobals "max" = some none) (z_min:PySem.W.nsIn K mainGlobals "min" = some none) (z_range:PySem.W.nsIn K mainGlobals "range" = some none) (z_abs:PySem.W.nsIn K mainGlobals "abs" = some none) :
  ∃ fd:FuncData,(∀ (s:Shared) (v:Value),BindsTo s fd ⟨[v],[]⟩ [("_law_script",v)])∧∀ base:Heap,K.In base→base.Ns mainGlobals mg→(∀ t ∈ [(cT0,PT0),(cT1,PT1),(cT2,PT2)],LamBase mg base t.1 t.2)→FnOk l.prog w K mg base CX0 9 fa fd ["_law_script"] ((spLaw K PT0 PT1 PT2)):=by
 have e:=hfa.symm.trans (PySem.W.mg_of X G a47)
 cases e
 have T:Txt K mg ⟨c_Kind,c_Plain,c_Signed,c_Pointed,c_NoWidth,c_NoWord,c_NoKind,c_WiseError⟩:=⟨PySem.W.mg_none_of X G z_isinstance,PySem.W.mg_none_of X G z_int,PySem.W.mg_none_of X G z_bool,PySem.W.mg_none_of X G z_str,PySem.W.mg_none_of X G z_tuple,PySem.W.mg_none_of X G z_list,PySem.W.mg_none_of X G z_len,PySem.W.mg_none_of X G z_max,PySem.W.mg_none_of X G z_min,PySem.W.mg_none_of X G z_range,PySem.W.mg_none_of X G z_abs,PySem.W.mg_of X G aC_Kind,⟨pg_Kind,hd_Kind,po_Kind,sa_Kind⟩,PySem.W.mg_of X G aC_Plain,⟨pg_Plain,hd_Plain,po_Plain,sa_Plain⟩,na_Plain_width,na_Plain_point,PySem.W.mg_of X G aC_Signed,⟨pg_Signed,hd_Signed,po_Signed,sa_Signed⟩,na_Signed_width,na_Signed_point,PySem.W.mg_of X G aC_Pointed,⟨pg_Pointed,hd_Pointed,po_Pointed,sa_Pointed⟩,na_Pointed_width,na_Pointed_point,PySem.W.mg_of X G aC_NoWidth,PySem.W.mg_of X G aC_NoWord,PySem.W.mg_of X G aC_NoKind,PySem.W.mg_of X G aC_WiseError,⟨_,PySem.W.mg_of X G aN_LONGEST_SHOWN⟩,kf_dc_Plain,kf_mo_Plain,kf_ik_Plain,kf_dc_Signed,kf_mo_Signed,kf_ik_Signed,kf_dc_Pointed,kf_mo_Pointed,kf_ik_Pointed,kf_kc,kf_kt,kf_og,kf_ot,kf_kc_Plain,kf_kt_Plain,kf_m_Plain_Plain,kf_m_Plain_Signed,kf_m_Plain_Pointed,kf_kc_Signed,kf_kt_Signed,kf_m_Signed_Plain,kf_m_Signed_Signed,kf_m_Signed_Pointed,kf_kc_Pointed,kf_kt_Pointed,kf_m_Pointed_Plain,kf_m_Pointed_Signed,kf_m_Pointed_Pointed,kf_if_NoWidth,kf_if_NoWord,kf_if_NoKind,kf_tf_NoWidth,kf_tf_NoWord,kf_tf_NoKind,kf_mf_NoWidth,kf_mf_NoWord,kf_mf_NoKind,kf_wb_NoWidth,kf_wb_NoWord,kf_wb_NoKind,kf_ga_NoWidth,kf_ga_NoWord,kf_ga_NoKind,kf_gn_NoWidth,kf_gn_NoWord,kf_gn_NoKind,kf_gc_NoWidth,kf_gc_NoWord,kf_gc_NoKind,kf_mo_NoWidth,kf_mo_NoWord,kf_mo_NoKind,kf_mb_NoWidth,kf_mb_NoWord,kf_mb_NoKind,kf_hd_NoWidth,kf_hd_NoWord,kf_hd_NoKind,kf_nf_NoWidth,kf_nf_NoWord,kf_nf_NoKind,kf_wm_NoWidth,kf_wm_NoWord,kf_wm_NoKind,kf_wt,kf_wc,kf_m_NoWidth_NoWidth,kf_m_NoWidth_NoWord,kf_m_NoWidth_NoKind,kf_m_NoWord_NoWidth,kf_m_NoWord_NoWord,kf_m_NoWord_NoKind,kf_m_NoKind_NoWidth,kf_m_NoKind_NoWord,kf_m_NoKind_NoKind,kf_wbE⟩
 have F1:=fun_mk (st:=s_NoWidth___init__) l1 c1 k1
 have b1:=F1.binds (ps:=["self", "found"]) fun _ _ _ _ _ _ us hl=>match us,hl with | [_,_],_=>rfl
 have F2:=fun_mk (st:=s_NoWord___init__) l2 c2 k2
 have b2:=F2.binds (ps:=["self", "found"]) fun _ _ _ _ _ _ us hl=>match us,hl with | [_,_],_=>rfl
 have F3:=fun_mk (st:=s_NoKind___init__) l3 c3 k3
 have b3:=F3.binds (ps:=["self", "found"]) fun _ _ _ _ _ _ us hl=>match us,hl with | [_,_],_=>rfl
 have F4:=fun_mk (st:=s_is_whole) l4 c4 k4
 have b4:=F4.binds (ps:=["thing"]) fun _ _ _ _ _ _ us hl=>match us,hl with | [_],_=>rfl
 have F5:=fun_mk (st:=s_is_between) l5 c5 k5
 have b5:=F5.binds (ps:=["thing", "low", "high"]) fun _ _ _ _ _ _ us hl=>match us,hl with | [_,_,_],_=>rfl
 have F6:=fun_mk (st:=s_need_width) l6 c6 k6
 have b6:=F6.binds (ps:=["width"]) fun _ _ _ _ _ _ us hl=>match us,hl with | [_],_=>rfl
 have F7:=fun_mk (st:=s_is_word) l7 c7 k7
 have b7:=F7.binds (ps:=["width", "thing"]) fun _ _ _ _ _ _ us hl=>match us,hl with | [_,_],_=>rfl
 have F8:=fun_mk (st:=s_figures_of) l8 c8 k8
 have b8:=F8.binds (ps:=["width", "bits"]) fun _ _ _ _ _ _ us hl=>match us,hl with | [_,_],_=>rfl
 have F9:=fun_mk (st:=s_bits_in) l9 c9 k9
 have b9:=F9.binds (ps:=["width", "text"]) fun _ _ _ _ _ _ us hl=>match us,hl with | [_,_],_=>rfl
 have F10:=fun_mk (st:=s_sum_of) l10 c10 k10
 have b10:=F10.binds (ps:=["width", "a", "b"]) fun _ _ _ _ _ _ us hl=>match us,hl with | [_,_,_],_=>rfl
 have F11:=fun_mk (st:=s_gap_of) l11 c11 k11
 have b11:=F11.binds (ps:=["width", "a", "b"]) fun _ _ _ _ _ _ us hl=>match us,hl with | [_,_,_],_=>rfl
 have F12:=fun_mk (st:=s_low_product) l12 c12 k12
 have b12:=F12.binds (ps:=["width", "a", "b"]) fun _ _ _ _ _ _ us hl=>match us,hl with | [_,_,_],_=>rfl
 have F13:=fun_mk (st:=s_high_product) l13 c13 k13
 have b13:=F13.binds (ps:=["width", "a", "b"]) fun _ _ _ _ _ _ us hl=>match us,hl with | [_,_,_],_=>rfl
 have F14:=fun_mk (st:=s_left) l14 c14 k14
 have b14:=F14.binds (ps:=["width", "a", "k"]) fun _ _ _ _ _ _ us hl=>match us,hl with | [_,_,_],_=>rfl
 have F15:=fun_mk (st:=s_right) l15 c15 k15
 have b15:=F15.binds (ps:=["width", "a", "k"]) fun _ _ _ _ _ _ us hl=>match us,hl with | [_,_,_],_=>rfl
 have F16:=fun_mk (st:=s_slide) l16 c16 k16
 have b16:=F16.binds (ps:=["width", "a", "k"]) fun _ _ _ _ _ _ us hl=>match us,hl with | [_,_,_],_=>rfl
 have F17:=fun_mk (st:=s_common_divisor) l17 c17 k17
 have b17:=F17.binds (ps:=["a", "b"]) fun _ _ _ _ _ _ us hl=>match us,hl with | [_,_],_=>rfl
 have F18:=fun_mk (st:=s_fraction) l18 c18 k18
 have b18:=F18.binds (ps:=["top", "bottom"]) fun _ _ _ _ _ _ us hl=>match us,hl with | [_,_],_=>rfl
 have F19:=fun_mk (st:=s_by_twos) l19 c19 k19
 have b19:=F19.binds (ps:=["number", "k"]) fun _ _ _ _ _ _ us hl=>match us,hl with | [_,_],_=>rfl
 have F20:=fun_mk (st:=s_Kind___init__) l20 c20 k20
 have b20:=F20.binds (ps:=["self", "width", "point"]) fun _ _ _ _ _ _ us hl=>match us,hl with | [_,_,_],_=>rfl
 have F21:=fun_mk (st:=s_Kind_count_of) l21 c21 k21
 have b21:=F21.binds (ps:=["self", "bits"]) fun _ _ _ _ _ _ us hl=>match us,hl with | [_,_],_=>rfl
 have F22:=fun_mk (st:=s_Kind_bits_of) l22 c22 k22
 have b22:=F22.binds (ps:=["self", "count"]) fun _ _ _ _ _ _ us hl=>match us,hl with | [_,_],_=>rfl
 have F23:=fun_mk (st:=s_Kind_value_of) l23 c23 k23
 have b23:=F23.binds (ps:=["self", "bits"]) fun _ _ _ _ _ _ us hl=>match us,hl with | [_,_],_=>rfl
 have F24:=fun_mk (st:=s_Kind_shown) l24 c24 k24
 have b24:=F24.binds (ps:=["self", "bits"]) fun _ _ _ _ _ _ us hl=>match us,hl with | [_,_],_=>rfl
 have F25:=fun_mk (st:=s_Plain___init__) l25 c25 k25
 have b25:=F25.binds (ps:=["self", "width"]) fun _ _ _ _ _ _ us hl=>match us,hl with | [_,_],_=>rfl
 have F26:=fun_mk (st:=s_Plain_least) l26 c26 k26
 have b26:=F26.binds (ps:=["self"]) fun _ _ _ _ _ _ us hl=>match us,hl with | [_],_=>rfl
 have F27:=fun_mk (st:=s_Plain_greatest) l27 c27 k27
 have b27:=F27.binds (ps:=["self"]) fun _ _ _ _ _ _ us hl=>match us,hl with | [_],_=>rfl
 have F28:=fun_mk (st:=s_Signed___init__) l28 c28 k28
 have b28:=F28.binds (ps:=["self", "width"]) fun _ _ _ _ _ _ us hl=>match us,hl with | [_,_],_=>rfl
 have F29:=fun_mk (st:=s_Signed_least) l29 c29 k29
 have b29:=F29.binds (ps:=["self"]) fun _ _ _ _ _ _ us hl=>match us,hl with | [_],_=>rfl
 have F30:=fun_mk (st:=s_Signed_greatest) l30 c30 k30
 have b30:=F30.binds (ps:=["self"]) fun _ _ _ _ _ _ us hl=>match us,hl with | [_],_=>rfl
 have F31:=fun_mk (st:=s_Pointed___init__) l31 c31 k31
 have b31:=F31.binds (ps:=["self", "width", "point"]) fun _ _ _ _ _ _ us hl=>match us,hl with | [_,_,_],_=>rfl
 have F32:=fun_mk (st:=s_Pointed_least) l32 c32 k32
 have b32:=F32.binds (ps:=["self"]) fun _ _ _ _ _ _ us hl=>match us,hl with | [_],_=>rfl
 have F33:=fun_mk (st:=s_Pointed_greatest) l33 c33 k33
 have b33:=F33.binds (ps:=["self"]) fun _ _ _ _ _ _ us hl=>match us,hl with | [_],_=>rfl
 have F34:=fun_mk (st:=s_half) l34 c34 k34
 have b34:=F34.binds (ps:=["width"]) fun _ _ _ _ _ _ us hl=>match us,hl with | [_],_=>rfl
 have F35:=fun_mk (st:=s_figures_behind) l35 c35 k35
 have b35:=F35.binds (ps:=["rest", "point"]) fun _ _ _ _ _ _ us hl=>match us,hl with | [_,_],_=>rfl
 have F36:=fun_mk (st:=s__law_cell) l36 c36 k36
 have b36:=F36.binds (ps:=["_law_script", "_law_k"]) fun _ _ _ _ _ _ us hl=>match us,hl with | [_,_],_=>rfl
 have F37:=fun_mk (st:=s__law_box) l37 c37 k37
 have b37:=F37.binds (ps:=["_law_cell_here"]) fun _ _ _ _ _ _ us hl=>match us,hl with | [_],_=>rfl
 have F38:=fun_mk (st:=s__law_take) l38 c38 k38
 have b38:=F38.binds (ps:=["_law_box_here", "_law_many"]) fun _ _ _ _ _ _ us hl=>match us,hl with | [_,_],_=>rfl
 have F39:=fun_mk (st:=s__law_told) l39 c39 k39
 have b39:=F39.binds (ps:=["_law_ask", "_law_thing"]) fun _ _ _ _ _ _ us hl=>match us,hl with | [_,_],_=>rfl
 have F40:=fun_mk (st:=s__law_is) l40 c40 k40
 have b40:=F40.binds (ps:=["_law_told_here", "_law_kind", "_law_thing"]) fun _ _ _ _ _ _ us hl=>match us,hl with | [_,_,_],_=>rfl
 have F41:=fun_mk (st:=s__law_no_width) l41 c41 k41
 have b41:=F41.binds (ps:=["_law_box_here"]) fun _ _ _ _ _ _ us hl=>match us,hl with | [_],_=>rfl
 have F42:=fun_mk (st:=s__law_no_point) l42 c42 k42
 have b42:=F42.binds (ps:=["_law_box_here", "_law_width"]) fun _ _ _ _ _ _ us hl=>match us,hl with | [_,_],_=>rfl
 have F43:=fun_mk (st:=s__law_no_number) l43 c43 k43
 have b43:=F43.binds (ps:=["_law_box_here", "_law_low", "_law_high"]) fun _ _ _ _ _ _ us hl=>match us,hl with | [_,_,_],_=>rfl
 have F44:=fun_mk (st:=s__law_widths_refused) l44 c44 k44
 have b44:=F44.binds (ps:=["_law_thing", "_law_point"]) fun _ _ _ _ _ _ us hl=>match us,hl with | [_,_],_=>rfl
 have F45:=fun_mk (st:=s__law_words_refused) l45 c45 k45
 have b45:=F45.binds (ps:=["_law_box_here", "_law_kind", "_law_low", "_law_high", "_law_size"]) fun _ _ _ _ _ _ us hl=>match us,hl with | [_,_,_,_,_],_=>rfl
 have F46:=fun_mk (st:=s__law_points_refused) l46 c46 k46
 have b46:=F46.binds (ps:=["_law_width", "_law_point"]) fun _ _ _ _ _ _ us hl=>match us,hl with | [_,_],_=>rfl
 have F47:=fun_mk (st:=s_law) l47 c47 k47
 refine ⟨PySem.W.fnOf "law" "law" (defArgs s_law) (defBody s_law) (defScope s_law) .none kV47 dc47 pm47 an47 cd47 ct47,fun s v=>.of_eq rfl,fun base _ _ LB=>?_⟩
 have B0:LamBase mg base cT0 PT0:=LB (cT0,PT0) (List.mem_of_elem_eq_true (by simp))
 have B1:LamBase mg base cT1 PT1:=LB (cT1,PT1) (List.mem_of_elem_eq_true (by simp))
 have B2:LamBase mg base cT2 PT2:=LB (cT2,PT2) (List.mem_of_elem_eq_true (by simp))
 have Q_NoWidth:XCls K c_NoWidth f1 "found":=⟨xe_NoWidth,xs_NoWidth,xm_NoWidth,xn_NoWidth,xf_NoWidth,xk_NoWidth⟩
 have X_NoWidth:XHas l.prog w K mg base 1 "NoWidth" c_NoWidth "found":=⟨_,_,_,_,ok_NoWidth___init__ F1 T Q_NoWidth,b1,Q_NoWidth,PySem.W.mg_of X G aC_NoWidth⟩
 have Q_NoWord:XCls K c_NoWord f2 "found":=⟨xe_NoWord,xs_NoWord,xm_NoWord,xn_NoWord,xf_NoWord,xk_NoWord⟩
 have X_NoWord:XHas l.prog w K mg base 1 "NoWord" c_NoWord "found":=⟨_,_,_,_,ok_NoWord___init__ F2 T Q_NoWord,b2,Q_NoWord,PySem.W.mg_of X G aC_NoWord⟩
 have Q_NoKind:XCls K c_NoKind f3 "found":=⟨xe_NoKind,xs_NoKind,xm_NoKind,xn_NoKind,xf_NoKind,xk_NoKind⟩
 have X_NoKind:XHas l.prog w K mg base 1 "NoKind" c_NoKind "found":=⟨_,_,_,_,ok_NoKind___init__ F3 T Q_NoKind,b3,Q_NoKind,PySem.W.mg_of X G aC_NoKind⟩
 have B_Kind___init__:BHas l.prog w K mg base 1 "Kind" "__init__" ["self", "width", "point"] (spKinit K):=⟨c_Kind,_,_,⟨rd_Kind,ga_Kind,fn_Kind___init__,rfl,k20⟩,ok_Kind___init__ F20 T ,b20,PySem.W.mg_of X G aC_Kind⟩
 have H_is_whole:Has l.prog w K mg base 1 "is_whole" ["thing"] spWholeG:=⟨_,_,ok_is_whole F4 T ,b4,k4,PySem.W.mg_of X G a4⟩
 have W_is_whole:Has l.prog w K mg base 1 "is_whole" ["thing"] spWhole:=H_is_whole.imp imp_whole
 have H_is_between:Has l.prog w K mg base 2 "is_between" ["thing", "low", "high"] spBtwG:=⟨_,_,ok_is_between F5 T H_is_whole,b5,k5,PySem.W.mg_of X G a5⟩
 have H_is_word:Has l.prog w K mg base 3 "is_word" ["width", "thing"] spWordG:=⟨_,_,ok_is_word F7 T H_is_between,b7,k7,PySem.W.mg_of X G a7⟩
 have H_common_divisor:Has l.prog w K mg base 1 "common_divisor" ["a", "b"] spGcd:=⟨_,_,ok_common_divisor F17 T ,b17,k17,PySem.W.mg_of X G a17⟩
 have H_fraction:Has l.prog w K mg base 2 "fraction" ["top", "bottom"] spFrac:=⟨_,_,ok_fraction F18 T H_common_divisor W_is_whole,b18,k18,PySem.W.mg_of X G a18⟩
 have H_by_twos:Has l.prog w K mg base 3 "by_twos" ["number", "k"] spTwos:=⟨_,_,ok_by_twos F19 T H_fraction,b19,k19,PySem.W.mg_of X G a19⟩
 have H_figures_behind:Has l.prog w K mg base 1 "figures_behind" ["rest", "point"] spFigB:=⟨_,_,ok_figures_behind F35 T ,b35,k35,PySem.W.mg_of X G a35⟩
 have H_need_width:HasY l.prog w K mg base 3 "need_width" ["width"] (spNeedY ⟨c_Kind,c_Plain,c_Signed,c_Pointed,c_NoWidth,c_NoWord,c_NoKind,c_WiseError⟩):=⟨_,_,ok_need_width F6 T H_is_between X_NoWidth,b6,k6,PySem.W.mg_of X G a6⟩
 have C_Plain:CHasY l.prog w K mg base 4 c_Plain "Plain" ["self", "width"] (spMkY ⟨c_Kind,c_Plain,c_Signed,c_Pointed,c_NoWidth,c_NoWord,c_NoKind,c_WiseError⟩ 0):=⟨_,_,⟨mk_Plain,a25,i25,kc_Plain⟩,ok_Plain___init__ F25 T H_need_width B_Kind___init__,b25,PySem.W.mg_of X G aC_Plain⟩
 have M_Plain_least:MHas l.prog w K mg base 2 c_Plain "least" ["self"] (spLeast ⟨c_Kind,c_Plain,c_Signed,c_Pointed,c_NoWidth,c_NoWord,c_NoKind,c_WiseError⟩ 0):=⟨T.cl_Plain,_,_,⟨a26,i26,k26⟩,ok_Plain_least F26 T ,b26⟩
 have M_Plain_greatest:MHas l.prog w K mg base 2 c_Plain "greatest" ["self"] (spGreat ⟨c_Kind,c_Plain,c_Signed,c_Pointed,c_NoWidth,c_NoWord,c_NoKind,c_WiseError⟩ 0):=⟨T.cl_Plain,_,_,⟨a27,i27,k27⟩,ok_Plain_greatest F27 T ,b27⟩
 have C_Signed:CHasY l.prog w K mg base 4 c_Signed "Signed" ["self", "width"] (spMkY ⟨c_Kind,c_Plain,c_Signed,c_Pointed,c_NoWidth,c_NoWord,c_NoKind,c_WiseError⟩ 1):=⟨_,_,⟨mk_Signed,a28,i28,kc_Signed⟩,ok_Signed___init__ F28 T H_need_width B_Kind___init__,b28,PySem.W.mg_of X G aC_Signed⟩
 have H_half:Has l.prog w K mg base 1 "half" ["width"] spHalf:=⟨_,_,ok_half F34 T ,b34,k34,PySem.W.mg_of X G a34⟩
 have M_Signed_least:MHas l.prog w K mg base 2 c_Signed "least" ["self"] (spLeast ⟨c_Kind,c_Plain,c_Signed,c_Pointed,c_NoWidth,c_NoWord,c_NoKind,c_WiseError⟩ 1):=⟨T.cl_Signed,_,_,⟨a29,i29,k29⟩,ok_Signed_least F29 T H_half,b29⟩
 have M_Signed_greatest:MHas l.prog w K mg base 2 c_Signed "greatest" ["self"] (spGreat ⟨c_Kind,c_Plain,c_Signed,c_Pointed,c_NoWidth,c_NoWord,c_NoKind,c_WiseError⟩ 1):=⟨T.cl_Signed,_,_,⟨a30,i30,k30⟩,ok_Signed_greatest F30 T H_half,b30⟩
 have C_Pointed:CHasY l.prog w K mg base 4 c_Pointed "Pointed" ["self", "width", "point"] (spMkP ⟨c_Kind,c_Plain,c_Signed,c_Pointed,c_NoWidth,c_NoWord,c_NoKind,c_WiseError⟩):=⟨_,_,⟨mk_Pointed,a31,i31,kc_Pointed⟩,ok_Pointed___init__ F31 T H_need_width H_is_between B_Kind___init__ X_NoKind,b31,PySem.W.mg_of X G aC_Pointed⟩
 have M_Pointed_least:MHas l.prog w K mg base 2 c_Pointed "least" ["self"] (spLeast ⟨c_Kind,c_Plain,c_Signed,c_Pointed,c_NoWidth,c_NoWord,c_NoKind,c_WiseError⟩ 2):=⟨T.cl_Pointed,_,_,⟨a32,i32,k32⟩,ok_Pointed_least F32 T H_half,b32⟩
 have M_Pointed_greatest:MHas l.prog w K mg base 2 c_Pointed "greatest" ["self"] (spGreat ⟨c_Kind,c_Plain,c_Signed,c_Pointed,c_NoWidth,c_NoWord,c_NoKind,c_WiseError⟩ 2):=⟨T.cl_Pointed,_,_,⟨a33,i33,k33⟩,ok_Pointed_greatest F33 T H_half,b33⟩
 have ML:∀ i,i < 3→MHas l.prog w K mg base 2 (cOf ⟨c_Kind,c_Plain,c_Signed,c_Pointed,c_NoWidth,c_NoWord,c_NoKind,c_WiseError⟩ i) "least" ["self"] (spLeast ⟨c_Kind,c_Plain,c_Signed,c_Pointed,c_NoWidth,c_NoWord,c_NoKind,c_WiseError⟩ i):=fun i hi=>by
  rcases (by omega:i = 0∨i = 1∨i = 2) with rfl | rfl | rfl
  ·exact M_Plain_least
  ·exact M_Signed_least
  ·exact M_Pointed_least
 have MG:∀ i,i < 3→MHas l.prog w K mg base 2 (cOf ⟨c_Kind,c_Plain,c_Signed,c_Pointed,c_NoWidth,c_NoWord,c_NoKind,c_WiseError⟩ i) "greatest" ["self"] (spGreat ⟨c_Kind,c_Plain,c_Signed,c_Pointed,c_NoWidth,c_NoWord,c_NoKind,c_WiseError⟩ i):=fun i hi=>by
  rcases (by omega:i = 0∨i = 1∨i = 2) with rfl | rfl | rfl
  ·exact M_Plain_greatest
  ·exact M_Signed_greatest
  ·exact M_Pointed_greatest
 have Z_MB:=ok_Kind_bits_of F22 T H_is_between X_NoWord ML MG
 have MB:∀ i,i < 3→MHasY l.prog w K mg base 3 (cOf ⟨c_Kind,c_Plain,c_Signed,c_Pointed,c_NoWidth,c_NoWord,c_NoKind,c_WiseError⟩ i) "bits_of" ["self", "count"] (spBitsY ⟨c_Kind,c_Plain,c_Signed,c_Pointed,c_NoWidth,c_NoWord,c_NoKind,c_WiseError⟩):=fun i hi=>by
  rcases (by omega:i = 0∨i = 1∨i = 2) with rfl | rfl | rfl
  ·exact ⟨T.cl_Plain,_,_,⟨a22,i22,k22⟩,Z_MB,b22⟩
  ·exact ⟨T.cl_Signed,_,_,⟨h_Signed_bits_of,i22,k22⟩,Z_MB,b22⟩
  ·exact ⟨T.cl_Pointed,_,_,⟨h_Pointed_bits_of,i22,k22⟩,Z_MB,b22⟩
 have Z_MC:=ok_Kind_count_of F21 T H_is_word X_NoWord MG
 have MC:∀ i,i < 3→MHasY l.prog w K mg base 4 (cOf ⟨c_Kind,c_Plain,c_Signed,c_Pointed,c_NoWidth,c_NoWord,c_NoKind,c_WiseError⟩ i) "count_of" ["self", "bits"] (spCntY ⟨c_Kind,c_Plain,c_Signed,c_Pointed,c_NoWidth,c_NoWord,c_NoKind,c_WiseError⟩):=fun i hi=>by
  rcases (by omega:i = 0∨i = 1∨i = 2) with rfl | rfl | rfl
  ·exact ⟨T.cl_Plain,_,_,⟨a21,i21,k21⟩,Z_MC,b21⟩
  ·exact ⟨T.cl_Signed,_,_,⟨h_Signed_count_of,i21,k21⟩,Z_MC,b21⟩
  ·exact ⟨T.cl_Pointed,_,_,⟨h_Pointed_count_of,i21,k21⟩,Z_MC,b21⟩
 have Z_MV:=ok_Kind_value_of F23 T H_by_twos MC
 have MV:∀ i,i < 3→MHasY l.prog w K mg base 5 (cOf ⟨c_Kind,c_Plain,c_Signed,c_Pointed,c_NoWidth,c_NoWord,c_NoKind,c_WiseError⟩ i) "value_of" ["self", "bits"] (spAnyY ⟨c_Kind,c_Plain,c_Signed,c_Pointed,c_NoWidth,c_NoWord,c_NoKind,c_WiseError⟩):=fun i hi=>by
  rcases (by omega:i = 0∨i = 1∨i = 2) with rfl | rfl | rfl
  ·exact ⟨T.cl_Plain,_,_,⟨a23,i23,k23⟩,Z_MV,b23⟩
  ·exact ⟨T.cl_Signed,_,_,⟨h_Signed_value_of,i23,k23⟩,Z_MV,b23⟩
  ·exact ⟨T.cl_Pointed,_,_,⟨h_Pointed_value_of,i23,k23⟩,Z_MV,b23⟩
 have Z_MS:=ok_Kind_shown F24 T H_figures_behind MC
 have MS:∀ i,i < 3→MHasY l.prog w K mg base 5 (cOf ⟨c_Kind,c_Plain,c_Signed,c_Pointed,c_NoWidth,c_NoWord,c_NoKind,c_WiseError⟩ i) "shown" ["self", "bits"] (spAnyY ⟨c_Kind,c_Plain,c_Signed,c_Pointed,c_NoWidth,c_NoWord,c_NoKind,c_WiseError⟩):=fun i hi=>by
  rcases (by omega:i = 0∨i = 1∨i = 2) with rfl | rfl | rfl
  ·exact ⟨T.cl_Plain,_,_,⟨a24,i24,k24⟩,Z_MS,b24⟩
  ·exact ⟨T.cl_Signed,_,_,⟨h_Signed_shown,i24,k24⟩,Z_MS,b24⟩
  ·exact ⟨T.cl_Pointed,_,_,⟨h_Pointed_shown,i24,k24⟩,Z_MS,b24⟩
 have H__law_box:Has l.prog w K mg base 1 "_law_box" ["_law_cell_here"] spBox:=⟨_,_,ok__law_box F37 T ,b37,k37,PySem.W.mg_of X G a37⟩
 have H__law_cell:Has l.prog w K mg base 1 "_law_cell" ["_law_script", "_law_k"] (spCell K):=⟨_,_,ok__law_cell F36 T ,b36,k36,PySem.W.mg_of X G a36⟩
 have H__law_take:Has l.prog w K mg base 1 "_law_take" ["_law_box_here", "_law_many"] spTake:=⟨_,_,ok__law_take F38 T ,b38,k38,PySem.W.mg_of X G a38⟩
 have H_figures_of:HasY l.prog w K mg base 4 "figures_of" ["width", "bits"] (spNoW ⟨c_Kind,c_Plain,c_Signed,c_Pointed,c_NoWidth,c_NoWord,c_NoKind,c_WiseError⟩ 2):=⟨_,_,ok_figures_of F8 T H_need_width,b8,k8,PySem.W.mg_of X G a8⟩
 have H_bits_in:HasY l.prog w K mg base 4 "bits_in" ["width", "text"] (spNoW ⟨c_Kind,c_Plain,c_Signed,c_Pointed,c_NoWidth,c_NoWord,c_NoKind,c_WiseError⟩ 2):=⟨_,_,ok_bits_in F9 T H_need_width,b9,k9,PySem.W.mg_of X G a9⟩
 have H_sum_of:HasY l.prog w K mg base 4 "sum_of" ["width", "a", "b"] (spNoW ⟨c_Kind,c_Plain,c_Signed,c_Pointed,c_NoWidth,c_NoWord,c_NoKind,c_WiseError⟩ 3):=⟨_,_,ok_sum_of F10 T H_need_width,b10,k10,PySem.W.mg_of X G a10⟩
 have H_gap_of:HasY l.prog w K mg base 4 "gap_of" ["width", "a", "b"] (spNoW ⟨c_Kind,c_Plain,c_Signed,c_Pointed,c_NoWidth,c_NoWord,c_NoKind,c_WiseError⟩ 3):=⟨_,_,ok_gap_of F11 T H_need_width,b11,k11,PySem.W.mg_of X G a11⟩
 have H_low_product:HasY l.prog w K mg base 4 "low_product" ["width", "a", "b"] (spNoW ⟨c_Kind,c_Plain,c_Signed,c_Pointed,c_NoWidth,c_NoWord,c_NoKind,c_WiseError⟩ 3):=⟨_,_,ok_low_product F12 T H_need_width,b12,k12,PySem.W.mg_of X G a12⟩
 have H_high_product:HasY l.prog w K mg base 4 "high_product" ["width", "a", "b"] (spNoW ⟨c_Kind,c_Plain,c_Signed,c_Pointed,c_NoWidth,c_NoWord,c_NoKind,c_WiseError⟩ 3):=⟨_,_,ok_high_product F13 T H_need_width,b13,k13,PySem.W.mg_of X G a13⟩
 have H_left:HasY l.prog w K mg base 4 "left" ["width", "a", "k"] (spNoW ⟨c_Kind,c_Plain,c_Signed,c_Pointed,c_NoWidth,c_NoWord,c_NoKind,c_WiseError⟩ 3):=⟨_,_,ok_left F14 T H_need_width,b14,k14,PySem.W.mg_of X G a14⟩
 have H_right:HasY l.prog w K mg base 4 "right" ["width", "a", "k"] (spNoW ⟨c_Kind,c_Plain,c_Signed,c_Pointed,c_NoWidth,c_NoWord,c_NoKind,c_WiseError⟩ 3):=⟨_,_,ok_right F15 T H_need_width,b15,k15,PySem.W.mg_of X G a15⟩
 have H_slide:HasY l.prog w K mg base 4 "slide" ["width", "a", "k"] (spNoW ⟨c_Kind,c_Plain,c_Signed,c_Pointed,c_NoWidth,c_NoWord,c_NoKind,c_WiseError⟩ 3):=⟨_,_,ok_slide F16 T H_need_width,b16,k16,PySem.W.mg_of X G a16⟩
 have H__law_is:Has l.prog w K mg base 1 "_law_is" ["_law_told_here", "_law_kind", "_law_thing"] spIs:=⟨_,_,ok__law_is F40 T ,b40,k40,PySem.W.mg_of X G a40⟩
 have H__law_told:HasS l.prog w K mg base 7 "_law_told" ["_law_ask", "_law_thing"] (spTold l.prog w K mg base ⟨c_Kind,c_Plain,c_Signed,c_Pointed,c_NoWidth,c_NoWord,c_NoKind,c_WiseError⟩):=⟨_,_,ok__law_told F39 T ,b39,k39,PySem.W.mg_of X G a39⟩
 have H__law_widths_refused:Has l.prog w K mg base 8 "_law_widths_refused" ["_law_thing", "_law_point"] (spWRef PT0 PT1 PT2):=⟨_,_,ok__law_widths_refused F44 T H_need_width H_figures_of H_bits_in H_sum_of H_gap_of H_low_product H_high_product H_left H_right H_slide H__law_is H__law_told C_Plain C_Signed C_Pointed B0 hcT0 hne,b44,k44,PySem.W.mg_of X G a44⟩
 have H__law_points_refused:Has l.prog w K mg base 8 "_law_points_refused" ["_law_width", "_law_point"] (spPRef PT0 PT1 PT2):=⟨_,_,ok__law_points_refused F46 T H__law_is H__law_told C_Pointed B2 hcT2 hne,b46,k46,PySem.W.mg_of X G a46⟩
 have H__law_no_number:Has l.prog w K mg base 2 "_law_no_number" ["_law_box_here", "_law_low", "_law_high"] spNoNr:=⟨_,_,ok__law_no_number F43 T H__law_take,b43,k43,PySem.W.mg_of X G a43⟩
 have H__law_words_refused:Has l.prog w K mg base 8 "_law_words_refused" ["_law_box_here", "_law_kind", "_law_low", "_law_high", "_law_size"] (spRRef ⟨c_Kind,c_Plain,c_Signed,c_Pointed,c_NoWidth,c_NoWord,c_NoKind,c_WiseError⟩ PT0 PT1 PT2):=⟨_,_,ok__law_words_refused F45 T H__law_no_number H__law_is H__law_told MC MV MS MB ML B1 hcT1 hne,b45,k45,PySem.W.mg_of X G a45⟩
 have H__law_no_width:Has l.prog w K mg base 2 "_law_no_width" ["_law_box_here"] spNoWd:=⟨_,_,ok__law_no_width F41 T H__law_take,b41,k41,PySem.W.mg_of X G a41⟩
 have H__law_no_point:Has l.prog w K mg base 2 "_law_no_point" ["_law_box_here", "_law_width"] spNoPt:=⟨_,_,ok__law_no_point F42 T H__law_take,b42,k42,PySem.W.mg_of X G a42⟩
 exact ok_law F47 T H__law_box H__law_cell H__law_take H__law_widths_refused H__law_points_refused H__law_words_refused H_need_width H__law_no_width H__law_no_point C_Signed C_Pointed C_Plain
theorem walk {l:PySem.W.OpenLaw} {q:Program} {loose:List Str} {XP:(Str→Option Value)→Heap→Prop} {YP:World→Heap→Prop} {d:DefRec} {K:Params→PySem.W.Frag} {cT0 PT0 cT1 PT1 cT2 PT2:Addr} (hn:l.most = some 63) (hdf:d.params.defaults = [])
  (hY:∀ (w:World) (h:Heap),YP w h→(K w.params).In h)
  (hT0:∀ (w:World) (lo:List Str) (mean:ExcName→Option Value) (mg mb:Str→Option Value) (h:Heap),Top q lo mean mg mb h→(K w.params).In h→PySem.W.CodeHd h cT0 PT0∧h.get? PT0 = some (PySem.W.tabObj #[])) (hTK0:∀ w:World,(K w.params).lookup PT0 = none)
  (hT1:∀ (w:World) (lo:List Str) (mean:ExcName→Option Value) (mg mb:Str→Option Value) (h:Heap),Top q lo mean mg mb h→(K w.params).In h→PySem.W.CodeHd h cT1 PT1∧h.get? PT1 = some (PySem.W.tabObj #[])) (hTK1:∀ w:World,(K w.params).lookup PT1 = none)
  (hT2:∀ (w:World) (lo:List Str) (mean:ExcName→Option Value) (mg mb:Str→Option Value) (h:Heap),Top q lo mean mg mb h→(K w.params).In h→PySem.W.CodeHd h cT2 PT2∧h.get? PT2 = some (PySem.W.tabObj #[])) (hTK2:∀ w:World,(K w.params).lookup PT2 = none)
  (F:∀ (w:World) (mg:Str→Option Value) (fa:Addr) (h:Heap),(K w.params).In h→h.Ns mainGlobals mg→mg d.name = some (.ref fa) →
   ∃ fd:FuncData,(∀ (s:Shared) (u:Value),BindsTo s fd ⟨[u],[]⟩ [("_law_script",u)])∧∀ base:Heap,(K w.params).In base→base.Ns mainGlobals mg→(∀ t ∈ [(cT0,PT0),(cT1,PT1),(cT2,PT2)],LamBase mg base t.1 t.2)→FnOk l.prog w (K w.params) mg base CX0 9 fa fd ["_law_script"] (spLaw (K w.params) PT0 PT1 PT2)) :
  PySem.W.WalkO q loose XP YP l.row.toRowW d [] (fun f vs=>PySem.call f vs) :=
 L2.walk_ofT (n:=63) (k:=9) (x:="_law_script") (CX:=fun _=>CX0) (sp:=fun w=>spLaw (K w.params) PT0 PT1 PT2) [(cT0,PT0),(cT1,PT1),(cT2,PT2)] hn (by decide) hdf ⟨rfl,by decide,by decide,rfl⟩ hY (fun w lo mean mg mb h T X=>List.forall_mem_cons.mpr ⟨hT0 w lo mean mg mb h T X,List.forall_mem_cons.mpr ⟨hT1 w lo mean mg mb h T X,List.forall_mem_cons.mpr ⟨hT2 w lo mean mg mb h T X,fun _ z=>nomatch z⟩⟩⟩) (fun w=>List.forall_mem_cons.mpr ⟨hTK0 w,List.forall_mem_cons.mpr ⟨hTK1 w,List.forall_mem_cons.mpr ⟨hTK2 w,fun _ z=>nomatch z⟩⟩⟩) F (fun _ _ a ns hl hT hS=>⟨a,ns,rfl,hS,hl,⟨tabA_nil (hT (cT0,PT0) (by simp)),tabA_nil (hT (cT1,PT1) (by simp)),tabA_nil (hT (cT2,PT2) (by simp))⟩,fun _=>rfl⟩) fun _ _ _ _ _ z=>z
end Ow
open PySem PySem.W PyProof.Rows
def PySem.W.Fast.tw10489629334623615820:Nat:=0
def PySem.W.Fast.tw15211282763607123942:Nat:=0
def PySem.W.Fast.tw10783732757718961064:Nat:=0
def PySem.W.Fast.tw7072266520491161534:Nat:=0
def PySem.W.Fast.tw1161591750499991709:Nat:=0
def PySem.W.Fast.tw7030750213959602133:Nat:=0
def PySem.W.Fast.tw17471978287730376000:Nat:=0
def PySem.W.Fast.tw13521337950024646572:Nat:=0
def PySem.W.Fast.tw8855195779739314678:Nat:=0
def PySem.W.Fast.tw855099594861632819:Nat:=0
def PySem.W.Fast.tw3206273271024356225:Nat:=0
def PySem.W.Fast.tw14101546452226954870:Nat:=0
def PySem.W.Fast.tw14596726298531446061:Nat:=0
def PySem.W.Fast.tw9449003702025925197:Nat:=0
def PySem.W.Fast.tw17110998770910580568:Nat:=0
def PySem.W.Fast.tw4464640009132252060:Nat:=0
def PySem.W.Fast.tw4035320777788155780:Nat:=0
def PySem.W.Fast.tw4096476556184984746:Nat:=0
def PySem.W.Fast.tw15479229913429746401:Nat:=0
def PySem.W.Fast.tw14889286175451985885:Nat:=0
def PySem.W.Fast.tw2813179642371795845:Nat:=0
def PySem.W.Fast.tw15887899864046560206:Nat:=0
def PySem.W.Fast.tw13118092828123780573:Nat:=0
def PySem.W.Fast.tw15418551384920585527:Nat:=0
def PySem.W.Fast.tw545419186421993777:Nat:=0
def PySem.W.Fast.tw16429759279919176347:Nat:=0
def PySem.W.Fast.tw14554729850223027660:Nat:=0
def PySem.W.Fast.tw15411936655112439712:Nat:=0
def PySem.W.Fast.tw5486543590336862676:Nat:=0
def PySem.W.Fast.tw17014045534903253652:Nat:=0
def PySem.W.Fast.tw6722397611848864431:Nat:=0
def PySem.W.Fast.tw15104385184432883605:Nat:=0
set_option maxRecDepth 100000 in
set_option maxHeartbeats 0 in
theorem PySem.Challenge.cw_overwise_k07_no_widths_no_words_holds : PySem.Challenge.rw_overwise_k07_no_widths_no_words.Holds := by
 w_on; o_law; k_head; (case hw=>w_witness2)
 k_fill
 refine Ow.walk (l:=PySem.Challenge.rw_overwise_k07_no_widths_no_words) (cT0:=519) (PT0:=515) (cT1:=526) (PT1:=522) (cT2:=533) (PT2:=529) rfl rfl (fun w h Y=>PySem.W.km_in_of Y) (fun w lo mean mg mb h T X=>PySem.W.tab_of (x:=PySem.Str.ofString "_law_widths_refused") T X rfl (by kernel_rfl)) (fun w=>by kernel_rfl) (fun w lo mean mg mb h T X=>PySem.W.tab_of (x:=PySem.Str.ofString "_law_words_refused") T X rfl (by kernel_rfl)) (fun w=>by kernel_rfl) (fun w lo mean mg mb h T X=>PySem.W.tab_of (x:=PySem.Str.ofString "_law_points_refused") T X rfl (by kernel_rfl)) (fun w=>by kernel_rfl) ?F
 case F =>
  intro w mg fa h KX G hmg
  refine' Ow.all_mk KX G hmg ?a1 ?i1 ?l1 ?c1 ?k1 ?a2 ?i2 ?l2 ?c2 ?k2 ?a3 ?i3 ?l3 ?c3 ?k3 ?a4 ?l4 ?c4 ?k4 ?a5 ?l5 ?c5 ?k5 ?a6 ?l6 ?c6 ?k6 ?a7 ?l7 ?c7 ?k7 ?a8 ?l8 ?c8 ?k8 ?a9 ?l9 ?c9 ?k9 ?a10 ?l10 ?c10 ?k10 ?a11 ?l11 ?c11 ?k11 ?a12 ?l12 ?c12 ?k12 ?a13 ?l13 ?c13 ?k13 ?a14 ?l14 ?c14 ?k14 ?a15 ?l15 ?c15 ?k15 ?a16 ?l16 ?c16 ?k16 ?a17 ?l17 ?c17 ?k17 ?a18 ?l18 ?c18 ?k18 ?a19 ?l19 ?c19 ?k19 ?a20 ?i20 ?l20 ?c20 ?k20 ?a21 ?i21 ?h_Signed_count_of ?h_Pointed_count_of ?l21 ?c21 ?k21 ?a22 ?i22 ?h_Signed_bits_of ?h_Pointed_bits_of ?l22 ?c22 ?k22 ?a23 ?i23 ?h_Signed_value_of ?h_Pointed_value_of ?l23 ?c23 ?k23 ?a24 ?i24 ?h_Signed_shown ?h_Pointed_shown ?l24 ?c24 ?k24 ?a25 ?i25 ?l25 ?c25 ?k25 ?a26 ?i26 ?l26 ?c26 ?k26 ?a27 ?i27 ?l27 ?c27 ?k27 ?a28 ?i28 ?l28 ?c28 ?k28 ?a29 ?i29 ?l29 ?c29 ?k29 ?a30 ?i30 ?l30 ?c30 ?k30 ?a31 ?i31 ?l31 ?c31 ?k31 ?a32 ?i32 ?l32 ?c32 ?k32 ?a33 ?i33 ?l33 ?c33 ?k33 ?a34 ?l34 ?c34 ?k34 ?a35 ?l35 ?c35 ?k35 ?a36 ?l36 ?c36 ?k36 ?a37 ?l37 ?c37 ?k37 ?a38 ?l38 ?c38 ?k38 ?a39 ?l39 ?c39 ?k39 ?a40 ?l40 ?c40 ?k40 ?a41 ?l41 ?c41 ?k41 ?a42 ?l42 ?c42 ?k42 ?a43 ?l43 ?c43 ?k43 ?a44 ?l44 ?c44 ?k44 ?a45 ?l45 ?c45 ?k45 ?a46 ?l46 ?c46 ?k46 ?a47 ?l47 ?c47 ?k47 ?aC_Kind ?pg_Kind ?hd_Kind ?po_Kind ?sa_Kind ?rd_Kind ?ga_Kind ?fn_Kind___init__ ?aC_Plain ?pg_Plain ?hd_Plain ?po_Plain ?sa_Plain ?mk_Plain ?kc_Plain ?na_Plain_width ?na_Plain_point ?aC_Signed ?pg_Signed ?hd_Signed ?po_Signed ?sa_Signed ?mk_Signed ?kc_Signed ?na_Signed_width ?na_Signed_point ?aC_Pointed ?pg_Pointed ?hd_Pointed ?po_Pointed ?sa_Pointed ?mk_Pointed ?kc_Pointed ?na_Pointed_width ?na_Pointed_point ?aC_NoWidth ?aC_NoWord ?aC_NoKind ?aC_WiseError ?xe_NoWidth ?xs_NoWidth ?xm_NoWidth ?xn_NoWidth ?xf_NoWidth ?xk_NoWidth ?xe_NoWord ?xs_NoWord ?xm_NoWord ?xn_NoWord ?xf_NoWord ?xk_NoWord ?xe_NoKind ?xs_NoKind ?xm_NoKind ?xn_NoKind ?xf_NoKind ?xk_NoKind     ?aN_LONGEST_SHOWN ?kf_dc_Plain ?kf_mo_Plain ?kf_ik_Plain ?kf_dc_Signed ?kf_mo_Signed ?kf_ik_Signed ?kf_dc_Pointed ?kf_mo_Pointed ?kf_ik_Pointed ?kf_kc ?kf_kt ?kf_og ?kf_ot ?kf_kc_Plain ?kf_kt_Plain ?kf_m_Plain_Plain ?kf_m_Plain_Signed ?kf_m_Plain_Pointed ?kf_kc_Signed ?kf_kt_Signed ?kf_m_Signed_Plain ?kf_m_Signed_Signed ?kf_m_Signed_Pointed ?kf_kc_Pointed ?kf_kt_Pointed ?kf_m_Pointed_Plain ?kf_m_Pointed_Signed ?kf_m_Pointed_Pointed ?kf_if_NoWidth ?kf_if_NoWord ?kf_if_NoKind ?kf_tf_NoWidth ?kf_tf_NoWord ?kf_tf_NoKind ?kf_mf_NoWidth ?kf_mf_NoWord ?kf_mf_NoKind ?kf_wb_NoWidth ?kf_wb_NoWord ?kf_wb_NoKind ?kf_ga_NoWidth ?kf_ga_NoWord ?kf_ga_NoKind ?kf_gn_NoWidth ?kf_gn_NoWord ?kf_gn_NoKind ?kf_gc_NoWidth ?kf_gc_NoWord ?kf_gc_NoKind ?kf_mo_NoWidth ?kf_mo_NoWord ?kf_mo_NoKind ?kf_mb_NoWidth ?kf_mb_NoWord ?kf_mb_NoKind ?kf_hd_NoWidth ?kf_hd_NoWord ?kf_hd_NoKind ?kf_nf_NoWidth ?kf_nf_NoWord ?kf_nf_NoKind ?kf_wm_NoWidth ?kf_wm_NoWord ?kf_wm_NoKind ?kf_wt ?kf_wc ?kf_m_NoWidth_NoWidth ?kf_m_NoWidth_NoWord ?kf_m_NoWidth_NoKind ?kf_m_NoWord_NoWidth ?kf_m_NoWord_NoWord ?kf_m_NoWord_NoKind ?kf_m_NoKind_NoWidth ?kf_m_NoKind_NoWord ?kf_m_NoKind_NoKind ?kf_wbE ?hcT0 ?hcT1 ?hcT2 ?hne ?z_isinstance ?z_int ?z_bool ?z_str ?z_tuple ?z_list ?z_len ?z_max ?z_min ?z_range ?z_abs
  (case aC_NoWidth=>k_is)
  (case aC_NoWord=>k_is)
  (case aC_NoKind=>k_is)
  (case aC_WiseError=>k_is)
  (case aC_Kind=>k_is); (case pg_Kind=>k_is); (case hd_Kind=>k_is); (case po_Kind=>k_is); (case sa_Kind=>k_is)
  (case rd_Kind=>k_is); (case ga_Kind=>k_is); (case fn_Kind___init__=>k_is)
  (case aC_Plain=>k_is); (case pg_Plain=>k_is); (case hd_Plain=>k_is); (case po_Plain=>k_is); (case sa_Plain=>k_is)
  (case mk_Plain=>k_is); (case kc_Plain=>k_is)
  (case na_Plain_width=>k_is)
  (case na_Plain_point=>k_is)
  (case aC_Signed=>k_is); (case pg_Signed=>k_is); (case hd_Signed=>k_is); (case po_Signed=>k_is); (case sa_Signed=>k_is)
  (case mk_Signed=>k_is); (case kc_Signed=>k_is)
  (case na_Signed_width=>k_is)
  (case na_Signed_point=>k_is)
  (case aC_Pointed=>k_is); (case pg_Pointed=>k_is); (case hd_Pointed=>k_is); (case po_Pointed=>k_is); (case sa_Pointed=>k_is)
  (case mk_Pointed=>k_is); (case kc_Pointed=>k_is)
  (case na_Pointed_width=>k_is)
  (case na_Pointed_point=>k_is)
  (case a1=>k_is); (case i1=>k_is); (case l1=>k_is); (case c1=>k_is); (case k1=>k_is)
  (case a2=>k_is); (case i2=>k_is); (case l2=>k_is); (case c2=>k_is); (case k2=>k_is)
  (case a3=>k_is); (case i3=>k_is); (case l3=>k_is); (case c3=>k_is); (case k3=>k_is)
  (case a4=>k_is); (case l4=>k_is); (case c4=>k_is); (case k4=>k_is)
  (case a5=>k_is); (case l5=>k_is); (case c5=>k_is); (case k5=>k_is)
  (case a6=>k_is); (case l6=>k_is); (case c6=>k_is); (case k6=>k_is)
  (case a7=>k_is); (case l7=>k_is); (case c7=>k_is); (case k7=>k_is)
  (case a8=>k_is); (case l8=>k_is); (case c8=>k_is); (case k8=>k_is)
  (case a9=>k_is); (case l9=>k_is); (case c9=>k_is); (case k9=>k_is)
  (case a10=>k_is); (case l10=>k_is); (case c10=>k_is); (case k10=>k_is)
  (case a11=>k_is); (case l11=>k_is); (case c11=>k_is); (case k11=>k_is)
  (case a12=>k_is); (case l12=>k_is); (case c12=>k_is); (case k12=>k_is)
  (case a13=>k_is); (case l13=>k_is); (case c13=>k_is); (case k13=>k_is)
  (case a14=>k_is); (case l14=>k_is); (case c14=>k_is); (case k14=>k_is)
  (case a15=>k_is); (case l15=>k_is); (case c15=>k_is); (case k15=>k_is)
  (case a16=>k_is); (case l16=>k_is); (case c16=>k_is); (case k16=>k_is)
  (case a17=>k_is); (case l17=>k_is); (case c17=>k_is); (case k17=>k_is)
  (case a18=>k_is); (case l18=>k_is); (case c18=>k_is); (case k18=>k_is)
  (case a19=>k_is); (case l19=>k_is); (case c19=>k_is); (case k19=>k_is)
  (case a20=>k_is); (case i20=>k_is); (case l20=>k_is); (case c20=>k_is); (case k20=>k_is)
  (case a21=>k_is); (case i21=>k_is); (case h_Signed_count_of=>k_is); (case h_Pointed_count_of=>k_is); (case l21=>k_is); (case c21=>k_is); (case k21=>k_is)
  (case a22=>k_is); (case i22=>k_is); (case h_Signed_bits_of=>k_is); (case h_Pointed_bits_of=>k_is); (case l22=>k_is); (case c22=>k_is); (case k22=>k_is)
  (case a23=>k_is); (case i23=>k_is); (case h_Signed_value_of=>k_is); (case h_Pointed_value_of=>k_is); (case l23=>k_is); (case c23=>k_is); (case k23=>k_is)
  (case a24=>k_is); (case i24=>k_is); (case h_Signed_shown=>k_is); (case h_Pointed_shown=>k_is); (case l24=>k_is); (case c24=>k_is); (case k24=>k_is)
  (case a25=>k_is); (case i25=>k_is); (case l25=>k_is); (case c25=>k_is); (case k25=>k_is)
  (case a26=>k_is); (case i26=>k_is); (case l26=>k_is); (case c26=>k_is); (case k26=>k_is)
  (case a27=>k_is); (case i27=>k_is); (case l27=>k_is); (case c27=>k_is); (case k27=>k_is)
  (case a28=>k_is); (case i28=>k_is); (case l28=>k_is); (case c28=>k_is); (case k28=>k_is)
  (case a29=>k_is); (case i29=>k_is); (case l29=>k_is); (case c29=>k_is); (case k29=>k_is)
  (case a30=>k_is); (case i30=>k_is); (case l30=>k_is); (case c30=>k_is); (case k30=>k_is)
  (case a31=>k_is); (case i31=>k_is); (case l31=>k_is); (case c31=>k_is); (case k31=>k_is)
  (case a32=>k_is); (case i32=>k_is); (case l32=>k_is); (case c32=>k_is); (case k32=>k_is)
  (case a33=>k_is); (case i33=>k_is); (case l33=>k_is); (case c33=>k_is); (case k33=>k_is)
  (case a34=>k_is); (case l34=>k_is); (case c34=>k_is); (case k34=>k_is)
  (case a35=>k_is); (case l35=>k_is); (case c35=>k_is); (case k35=>k_is)
  (case a36=>k_is); (case l36=>k_is); (case c36=>k_is); (case k36=>k_is)
  (case a37=>k_is); (case l37=>k_is); (case c37=>k_is); (case k37=>k_is)
  (case a38=>k_is); (case l38=>k_is); (case c38=>k_is); (case k38=>k_is)
  (case a39=>k_is); (case l39=>k_is); (case c39=>k_is); (case k39=>k_is)
  (case a40=>k_is); (case l40=>k_is); (case c40=>k_is); (case k40=>k_is)
  (case a41=>k_is); (case l41=>k_is); (case c41=>k_is); (case k41=>k_is)
  (case a42=>k_is); (case l42=>k_is); (case c42=>k_is); (case k42=>k_is)
  (case a43=>k_is); (case l43=>k_is); (case c43=>k_is); (case k43=>k_is)
  (case a44=>k_is); (case l44=>k_is); (case c44=>k_is); (case k44=>k_is)
  (case a45=>k_is); (case l45=>k_is); (case c45=>k_is); (case k45=>k_is)
  (case a46=>k_is); (case l46=>k_is); (case c46=>k_is); (case k46=>k_is)
  (case a47=>k_is); (case l47=>k_is); (case c47=>k_is); (case k47=>k_is)
  (case xe_NoWidth=>kernel_rfl); (case xs_NoWidth=>k_is); (case xm_NoWidth=>k_is); (case xn_NoWidth=>k_is); (case xf_NoWidth=>k_is); (case xk_NoWidth=>k_is)
  (case xe_NoWord=>kernel_rfl); (case xs_NoWord=>k_is); (case xm_NoWord=>k_is); (case xn_NoWord=>k_is); (case xf_NoWord=>k_is); (case xk_NoWord=>k_is)
  (case xe_NoKind=>kernel_rfl); (case xs_NoKind=>k_is); (case xm_NoKind=>k_is); (case xn_NoKind=>k_is); (case xf_NoKind=>k_is); (case xk_NoKind=>k_is)
  (case aN_LONGEST_SHOWN=>k_is)
  (case kf_dc_Plain=>k_is)
  (case kf_mo_Plain=>k_is)
  (case kf_ik_Plain=>k_is)
  (case kf_dc_Signed=>k_is)
  (case kf_mo_Signed=>k_is)
  (case kf_ik_Signed=>k_is)
  (case kf_dc_Pointed=>k_is)
  (case kf_mo_Pointed=>k_is)
  (case kf_ik_Pointed=>k_is)
  (case kf_kc=>k_is)
  (case kf_kt=>k_is)
  (case kf_og=>k_is)
  (case kf_ot=>k_is)
  (case kf_kc_Plain=>k_is)
  (case kf_kt_Plain=>k_is)
  (case kf_m_Plain_Plain=>k_is)
  (case kf_m_Plain_Signed=>k_is)
  (case kf_m_Plain_Pointed=>k_is)
  (case kf_kc_Signed=>k_is)
  (case kf_kt_Signed=>k_is)
  (case kf_m_Signed_Plain=>k_is)
  (case kf_m_Signed_Signed=>k_is)
  (case kf_m_Signed_Pointed=>k_is)
  (case kf_kc_Pointed=>k_is)
  (case kf_kt_Pointed=>k_is)
  (case kf_m_Pointed_Plain=>k_is)
  (case kf_m_Pointed_Signed=>k_is)
  (case kf_m_Pointed_Pointed=>k_is)
  (case kf_if_NoWidth=>k_is)
  (case kf_if_NoWord=>k_is)
  (case kf_if_NoKind=>k_is)
  (case kf_tf_NoWidth=>k_is)
  (case kf_tf_NoWord=>k_is)
  (case kf_tf_NoKind=>k_is)
  (case kf_mf_NoWidth=>k_is)
  (case kf_mf_NoWord=>k_is)
  (case kf_mf_NoKind=>k_is)
  (case kf_wb_NoWidth=>k_is)
  (case kf_wb_NoWord=>k_is)
  (case kf_wb_NoKind=>k_is)
  (case kf_ga_NoWidth=>k_is)
  (case kf_ga_NoWord=>k_is)
  (case kf_ga_NoKind=>k_is)
  (case kf_gn_NoWidth=>k_is)
  (case kf_gn_NoWord=>k_is)
  (case kf_gn_NoKind=>k_is)
  (case kf_gc_NoWidth=>k_is)
  (case kf_gc_NoWord=>k_is)
  (case kf_gc_NoKind=>k_is)
  (case kf_mo_NoWidth=>k_is)
  (case kf_mo_NoWord=>k_is)
  (case kf_mo_NoKind=>k_is)
  (case kf_mb_NoWidth=>k_is)
  (case kf_mb_NoWord=>k_is)
  (case kf_mb_NoKind=>k_is)
  (case kf_hd_NoWidth=>k_is)
  (case kf_hd_NoWord=>k_is)
  (case kf_hd_NoKind=>k_is)
  (case kf_nf_NoWidth=>k_is)
  (case kf_nf_NoWord=>k_is)
  (case kf_nf_NoKind=>k_is)
  (case kf_wm_NoWidth=>k_is)
  (case kf_wm_NoWord=>k_is)
  (case kf_wm_NoKind=>k_is)
  (case kf_wt=>k_is)
  (case kf_wc=>k_is)
  (case kf_m_NoWidth_NoWidth=>k_is)
  (case kf_m_NoWidth_NoWord=>k_is)
  (case kf_m_NoWidth_NoKind=>k_is)
  (case kf_m_NoWord_NoWidth=>k_is)
  (case kf_m_NoWord_NoWord=>k_is)
  (case kf_m_NoWord_NoKind=>k_is)
  (case kf_m_NoKind_NoWidth=>k_is)
  (case kf_m_NoKind_NoWord=>k_is)
  (case kf_m_NoKind_NoKind=>k_is)
  (case kf_wbE=>k_is)
  (case hcT0=>exact rfl)
  (case hcT1=>exact rfl)
  (case hcT2=>exact rfl)
  (case hne=>exact (by decide))
  (case z_isinstance=>k_is)
  (case z_int=>k_is)
  (case z_bool=>k_is)
  (case z_str=>k_is)
  (case z_tuple=>k_is)
  (case z_list=>k_is)
  (case z_len=>k_is)
  (case z_max=>k_is)
  (case z_min=>k_is)
  (case z_range=>k_is)
  (case z_abs=>k_is)
