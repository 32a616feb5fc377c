import PyProof.Rows.All
import Wide.All
import OpenK.AllK
import Wide.FinOn
import Lean
import PyProof.EqAt
import PyProof.EqKinds
import PyProof.TupleCall
import KE.BitLaws
import KE.IntBitsLaws
import KE.KIntText
import PySem.Challenge.RW_overwise_k68_too_much
set_option Elab.async false
set_option linter.all false
set_option maxRecDepth 100000
open PySem.W (findIn keepIn Frag fnOf codeIn mg_of nsIn isFn kitOne mroIn hasDictIn plainGet plainOver makesIn typeIn mg_none_of isClsIn instObj exmOne)
namespace L2
open PySem PySem.Spec PyProof.Rows
abbrev Key:=Sum Int Str
def oh:Key->Value->Bool
 | .inl k,v=>Value.isInt k v
 | .inr x,v=>Value.isStrOf x v
def keyH (w:World):Key->Int
 | .inl k=>hashInt k
 | .inr x=>hashStr w x
theorem aY:∀ {k:Key} {v:Value},oh k v = true->(∃ i t,k = Sum.inl i/\v = Value.int i t)\/(∃ x t,k = Sum.inr x/\v = Value.str x t)
 | .inl i,v,h=>by
  obtain ⟨t,e⟩:=Value.isInt_shape (k:=i) (v:=v) h
  exact .inl ⟨i,t,rfl,e⟩
 | .inr x,v,h=>by
  obtain ⟨t,e⟩:=Value.isStrOf_shape (x:=x) (v:=v) h
  exact .inr ⟨x,t,rfl,e⟩
theorem o0 (i:Int) (t:Tok):oh (.inl i) (.int i t) = true:=by simp [oh,Value.isInt]
theorem qj (x:Str) (t:Tok):oh (.inr x) (.str x t) = true:=by simp [oh,Value.isStrOf]
theorem key_ll (a b:Int):decide ((Sum.inl a:Key) = Sum.inl b) = (a == b):=by
 by_cases e:a = b
 ·subst e; simp
 ·have h:¬ (Sum.inl a:Key) = Sum.inl b:=fun q=>e (Sum.inl.inj q)
  rw [decide_eq_false h]
  exact (beq_eq_false_iff_ne.mpr e).symm
theorem key_rr (a b:Str):decide ((Sum.inr a:Key) = Sum.inr b) = decide (a = b):=by
 by_cases e:a = b
 ·subst e; simp
 ·have h:¬ (Sum.inr a:Key) = Sum.inr b:=fun q=>e (Sum.inr.inj q)
  rw [decide_eq_false h,decide_eq_false e]
theorem key_lr (a:Int) (b:Str):decide ((Sum.inl a:Key) = Sum.inr b) = false:=decide_eq_false (fun q=>nomatch q)
theorem key_rl (a:Str) (b:Int):decide ((Sum.inr a:Key) = Sum.inl b) = false:=decide_eq_false (fun q=>nomatch q)
def be (prog:Program) (w:World):PySem.KeyKind prog w Key where
 is:=oh
 hash:=keyH w
 inj:=fun v a b ha hb=>by
  rcases aY ha with ⟨i,t,rfl,rfl⟩ | ⟨x,t,rfl,rfl⟩
  ·rcases aY hb with ⟨j,u,rfl,e⟩ | ⟨y,u,rfl,e⟩
   ·injection e with e1 _; rw [e1]
   ·exact nomatch e
  ·rcases aY hb with ⟨j,u,rfl,e⟩ | ⟨y,u,rfl,e⟩
   ·exact nomatch e
   ·injection e with e1 _; rw [e1]
 byValue:=fun k v h=>by
  rcases aY h with ⟨i,t,rfl,rfl⟩ | ⟨x,t,rfl,rfl⟩ <;> rfl
 pyHash:=fun hv h=>by
  rcases aY hv with ⟨i,t,rfl,rfl⟩ | ⟨x,t,rfl,rfl⟩
  ·exact wpAny_pyHash_int h
  ·exact wpAny_pyHash_str h
 eqBool:=fun hu hv h=>by
  rcases aY hu with ⟨i,t,rfl,rfl⟩ | ⟨x,t,rfl,rfl⟩
  ·rcases aY hv with ⟨j,u,rfl,rfl⟩ | ⟨y,u,rfl,rfl⟩
   ·rw [key_ll] at h; exact wpAny_eqBool_int h
   ·rw [key_lr] at h; exact SeqAt.EqAt.int_str i t y u _ _ _ _ h
  ·rcases aY hv with ⟨j,u,rfl,rfl⟩ | ⟨y,u,rfl,rfl⟩
   ·rw [key_rl] at h; exact SeqAt.EqAt.str_int x t j u _ _ _ _ h
   ·rw [key_rr] at h; exact wpAny_eqBool_str h
 «strs»:=fun k x t v h=>by
  rcases aY h with ⟨i,u,rfl,e⟩ | ⟨y,u,rfl,e⟩
  ·exact nomatch e
  ·injection e with e1 _
   subst e1
   cases v <;> rfl
theorem lT (prog:Program) (w:World) (i:Int) (t:Tok):(be prog w).is (.inl i) (.int i t) = true:=o0 i t
theorem mv (prog:Program) (w:World) (x:Str) (t:Tok):(be prog w).is (.inr x) (.str x t) = true:=qj x t
end L2
namespace L2
open PySem PySem.Spec PyProof.Rows
inductive V where
 | non | bl (b:Bool) | int (i:Int) | str (x:Str) | byt (b:Array UInt8) | flt (b:UInt64) | ref (a:Addr) | ty (n:String)
 deriving DecidableEq
def RelV:V->Value->Prop
 | .non,u=>u = Value.none
 | .bl b,u=>u = Value.bool b
 | .int i,u=>∃ t,u = Value.int i t
 | .str x,u=>∃ t,u = Value.str x t
 | .byt b,u=>∃ t,u = Value.bytes b t
 | .flt b,u=>∃ t,u = Value.float b t
 | .ref a,u=>u = Value.ref a
 | .ty n,u=>u = Value.type n
abbrev Vals:List V->List Value->Prop:=Paired RelV
theorem Vals.length {xs:List V} {us:List Value} (r:Vals xs us):xs.length = us.length:=Paired.length r
theorem Vals.get:∀ {xs:List V} {us:List Value} {i:Nat} {x:V},Vals xs us->xs[i]? = some x->∃ u,us[i]? = some u/\RelV x u
 | _,_,_,_,.nil,e=>by simp at e
 | _,_,0,_,.cons r _,e=>by simp at e; subst e; exact ⟨_,rfl,r⟩
 | _,_,i + 1,x,.cons _ t,e=>by
  obtain ⟨u,h1,h2⟩:=Vals.get (i:=i) (x:=x) t (by simpa using e)
  exact ⟨u,by simpa using h1,h2⟩
theorem Vals.set {x:V} {u:Value} (r:RelV x u):∀ {xs:List V} {us:List Value} (i:Nat),Vals xs us->Vals (xs.set i x) (us.set i u)
 | _,_,_,.nil=>.nil
 | _,_,0,.cons _ t=>.cons r t
 | _,_,i + 1,.cons q t=>.cons q (Vals.set r i t)
theorem Vals.append:∀ {xs ys:List V} {us ws:List Value},Vals xs us->Vals ys ws->Vals (xs ++ ys) (us ++ ws)
 | _,_,_,_,.nil,s=>s
 | _,_,_,_,.cons r t,s=>.cons r (Vals.append t s)
theorem Vals.take:∀ {xs:List V} {us:List Value} (n:Nat),Vals xs us->Vals (xs.take n) (us.take n)
 | _,_,0,_=>.nil
 | _,_,_ + 1,.nil=>.nil
 | _,_,n + 1,.cons r t=>.cons r (Vals.take n t)
theorem Vals.drop:∀ {xs:List V} {us:List Value} (n:Nat),Vals xs us->Vals (xs.drop n) (us.drop n)
 | _,_,0,r=>r
 | _,_,_ + 1,.nil=>.nil
 | _,_,n + 1,.cons _ t=>Vals.drop n t
def RelO:Option V->Option Value->Prop
 | some v,some u=>RelV v u
 | none,none=>True
 | _,_=>False
def KV {κ:Type}:List (κ × V)->List (κ × Value)->Prop:=Paired fun (p:κ × V) (q:κ × Value)=>p.1 = q.1/\RelV p.2 q.2
def kV:Key->V
 | .inl i=>.int i
 | .inr x=>.str x
inductive HO where
 /-- a list -/
 | lst (xs:List V)
 /-- a tuple (never changes) -/
 | tup (xs:List V)
 /-- a dict whose keys are ints and texts; one whose keys are tuples of ints and texts (the empty one is both) -/
 | dK (kvs:List (Key × V)) | dT (kvs:List (List Key × V))
 /-- a set of ints: its members,its size -/
 | set (S:Int->Bool) (n:Nat)
 /-- an instance of the class at C,its dict at dx,its attributes -/
 | ins (C dx:Addr) (fs:List (Str × V))
 /-- the dict of the instance at x -/
 | own (x:Addr)
 /-- the dict of an exception -/
 | xd (fs:List (Str × V))
 /-- a bound method,f of x -/
 | met (f x:Addr)
 /-- a range object lo,lo + 1,.. below hi -/
 | rng (lo hi:Int)
 /-- a thing that is known to the object (the script; a dict while a loop walks it): read,never written while it is so -/
 | frz (o:Obj) (u:HO)
 /-- a code object's table -/
 | tbl (ps:Array Value)
 /-- any other thing,by what is true of its one object (a def of one's own: SetO a S n:=HO.ext fun h=>..) -/
 | ext (φ:Heap->Prop)
abbrev Hp:=Addr->Option HO
def upd (H:Hp) (a:Addr) (o:HO):Hp:=fun b=>if b = a then some o else H b
theorem ac {H:Hp} {a:Addr} {o:HO}:upd H a o a = some o:=by unfold upd; rw [if_pos rfl]
theorem ai {H:Hp} {a b:Addr} {o:HO} (h:b ≠ a):upd H a o b = H b:=by unfold upd; rw [if_neg h]
theorem ne_of {H:Hp} {a b:Addr} {o u:HO} (h:H a = some o) (h':H b = some u) (d:o ≠ u):a ≠ b:=by
 intro e; subst e; rw [h] at h'; exact d (Option.some.inj h')
theorem aE {H:Hp} {a b:Addr} {o:HO} (h:H a = some o) (h':H b = none):a ≠ b:=by
 intro e; subst e; rw [h] at h'; cases h'
section
variable (P:Program) (w:World)
def ObjOk (H:Hp) (h:Heap) (a:Addr):HO->Prop
 | .lst xs=>xs.length<=sizeLine/\∃ (its:List Value) (n:Nat),Vals xs its/\h.get? a = some { cls:=.type "list",data:=.seq its.toArray n }
 | .tup xs=>xs.length<=sizeLine/\∃ its:List Value,Vals xs its/\IsTup h a its.toArray
 | .dK kvs=>kvs.length<=sizeLine/\(a == sysModules) = false/\∃ vs,KV kvs vs/\h.DictOf (be P w) a vs
 | .dT kvs=>kvs.length<=sizeLine/\(a == sysModules) = false/\∃ xs:List (List Key × Addr × Value),
   Paired (fun (p:List Key × V) (q:List Key × Addr × Value)=>p.1 = q.1/\H q.2.1 = some (.tup (p.1.map kV))/\RelV p.2 q.2.2) kvs xs /\
   ∃ o es ep,h.get? a = some o/\o.ExactDict/\o.data = .dict es ep/\es.toList = xs.map (entryOfKey (tupleKind (be P w)))/\(xs.map (·.1)).Nodup
 | .set S n=>h.SetOf (intKind P w) a S n
 | .ins C dx fs=>H dx = some (.own a)/\fs.length<=1000/\dx ≠ a/\h.get? a = some (instObj C dx) /\
   ∃ mA,h.Ns1 dx mA/\(∀ f,RelO (fs.lookup f) (mA f))/\PySem.Within mA (fs.map (·.1))
 | .own _=>∃ o,h.get? a = some o
 | .xd fs=>∃ mA,h.Ns1 a mA/\∀ f,RelO (fs.lookup f) (mA f)
 | .rng lo hi=>∃ t u v,h.get? a = some { cls:=.type "range",data:=.fields #[.int lo t,.int hi u,.int 1 v] }
 | .frz o u=>h.get? a = some o/\ObjOk H h a u
 | .tbl ps=>h.get? a = some { cls:=.none,data:=.fields ps }
 | .met f x=>h.get? a = some (PySem.W.methodObj (.ref f) (.ref x))
 | .ext φ=>φ h/\(∃ o,h.get? a = some o)/\∀ h1 h2:Heap,φ h1->(∀ o,h1.get? a = some o->h2.get? a = some o)->φ h2
def HOk (H:Hp) (h:Heap):Prop:=∀ a o,H a = some o->ObjOk P w H h a o
end
section
variable {P:Program} {w:World} {H H':Hp} {h h':Heap} {a:Addr} {o:HO}
theorem ObjOk.lt (x:ObjOk P w H h a o):a < h.objs.size:=by
 cases o with
 | lst xs=>obtain ⟨_,_,_,_,e⟩:=x; exact Heap.lt_size e
 | tup xs=>obtain ⟨_,_,_,p⟩:=x; exact p.lt
 | dK kvs=>obtain ⟨_,_,_,_,o,_,_,e,_⟩:=x; exact Heap.lt_size e
 | dT kvs=>obtain ⟨_,_,_,_,o,_,_,e,_⟩:=x; exact Heap.lt_size e
 | set S n=>obtain ⟨o,_,_,_,e,_⟩:=x; exact Heap.lt_size e
 | ins C dx fs=>obtain ⟨_,_,_,e,_⟩:=x; exact Heap.lt_size e
 | own y=>obtain ⟨_,e⟩:=x; exact Heap.lt_size e
 | xd fs=>obtain ⟨_,⟨_,_,_,e,_⟩,_⟩:=x; exact Heap.lt_size e
 | rng lo hi=>obtain ⟨_,_,_,e⟩:=x; exact Heap.lt_size e
 | frz ob u=>obtain ⟨e,_⟩:=x; exact Heap.lt_size e
 | tbl ps=>exact Heap.lt_size (show h.get? a = some _ from x)
 | met f y=>exact Heap.lt_size (show h.get? a = some _ from x)
 | ext φ=>obtain ⟨_,⟨_,e⟩,_⟩:=x; exact Heap.lt_size e
theorem Paired.mapP {α β:Type} {F G:α->β->Prop}:∀ {l₁:List α} {l₂:List β},Paired F l₁ l₂->(∀ a b,F a b->G a b)->Paired G l₁ l₂
 | _,_,.nil,_=>.nil
 | _,_,.cons r t,f=>.cons (f _ _ r) (Paired.mapP t f)
theorem ObjOk.stay (x:ObjOk P w H h a o) (k:∀ b u,(b = a\/H b = some (.own a))->h.get? b = some u->h'.get? b = some u)
  (ho:∀ b,H b = some (.own a)->H' b = some (.own a)) (ht:∀ b xs,H b = some (.tup xs)->H' b = some (.tup xs)):ObjOk P w H' h' a o:=by
 induction o with
 | lst xs=>obtain ⟨z,its,n,r,e⟩:=x; exact ⟨z,its,n,r,k _ _ (.inl rfl) e⟩
 | tup xs=>obtain ⟨z,its,r,ob,e,c⟩:=x; exact ⟨z,its,r,ob,k _ _ (.inl rfl) e,c⟩
 | dK kvs=>obtain ⟨z,y,vs,r,ob,es,ep,e,c⟩:=x; exact ⟨z,y,vs,r,ob,es,ep,k _ _ (.inl rfl) e,c⟩
 | dT kvs =>
  obtain ⟨z,y,xs,r,ob,es,ep,e,c⟩:=x
  exact ⟨z,y,xs,Paired.mapP r fun p q z=>⟨z.1,ht _ _ z.2.1,z.2.2⟩,ob,es,ep,k _ _ (.inl rfl) e,c⟩
 | set S n=>obtain ⟨ob,es,ep,t,e,c⟩:=x; exact ⟨ob,es,ep,t,k _ _ (.inl rfl) e,c⟩
 | ins C dx fs =>
  obtain ⟨d,z,ne,e,mA,⟨od,es,ep,e2,c⟩,r⟩:=x
  exact ⟨ho _ d,z,ne,k _ _ (.inl rfl) e,mA,⟨od,es,ep,k _ _ (.inr d) e2,c⟩,r⟩
 | own y=>obtain ⟨ob,e⟩:=x; exact ⟨ob,k _ _ (.inl rfl) e⟩
 | xd fs=>obtain ⟨mA,⟨od,es,ep,e,c⟩,r⟩:=x; exact ⟨mA,⟨od,es,ep,k _ _ (.inl rfl) e,c⟩,r⟩
 | rng lo hi=>obtain ⟨t,u,v,e⟩:=x; exact ⟨t,u,v,k _ _ (.inl rfl) e⟩
 | frz ob u ih=>obtain ⟨e,q⟩:=x; exact ⟨k _ _ (.inl rfl) e,ih q⟩
 | tbl ps =>
  have e:h.get? a = some { cls:=.none,data:=.fields ps }:=x
  show h'.get? a = some { cls:=.none,data:=.fields ps }
  exact k a _ (.inl rfl) e
 | met f y =>
  have e:h.get? a = some (PySem.W.methodObj (.ref f) (.ref y)):=x
  show h'.get? a = some (PySem.W.methodObj (.ref f) (.ref y))
  exact k a _ (.inl rfl) e
 | ext φ=>obtain ⟨p,⟨o,e⟩,st⟩:=x; exact ⟨st _ _ p fun o q=>k _ _ (.inl rfl) q,⟨o,k _ _ (.inl rfl) e⟩,st⟩
theorem HOk.lt (x:HOk P w H h) (e:H a = some o):a < h.objs.size:=(x a o e).lt
theorem HOk.fresh (x:HOk P w H h) (e:h.objs.size<=a):H a = none:=by
 cases q:H a with
 | none=>rfl
 | some u=>exact absurd (Nat.lt_of_lt_of_le (x.lt q) e) (Nat.lt_irrefl _)
theorem HOk.kept (x:HOk P w H h) (k:∀ b u,h.get? b = some u->h'.get? b = some u):HOk P w H h':=fun a o e =>
 (x a o e).stay (fun b u _ q=>k b u q) (fun _ q=>q) fun _ _ q=>q
theorem HOk.laid (x:HOk P w H h) (k:∀ b u,h.get? b = some u->h'.get? b = some u) (hp:h.objs.size<=a) (new:ObjOk P w (upd H a o) h' a o):HOk P w (upd H a o) h':=fun b u e=>by
 have hn:=x.fresh hp
 by_cases hb:b = a
 ·subst hb; rw [ac] at e; cases e; exact new
 ·rw [ai hb] at e
  exact (x b u e).stay (fun c v _ q=>k c v q) (fun c q=>by rw [ai (aE q hn)]; exact q) fun c xs q=>by rw [ai (aE q hn)]; exact q
end
def Rd (H:Hp) (a:Addr) (u:HO):Prop:=H a = some u\/∃ o,H a = some (.frz o u)
theorem Rd.ok {P:Program} {w:World} {H:Hp} {h:Heap} {a:Addr} {u:HO} (r:Rd H a u) (x:HOk P w H h):ObjOk P w H h a u:=by
 rcases r with r | ⟨o,r⟩
 ·exact x a u r
 ·obtain ⟨_,q⟩:=x a _ r
  exact q
def Mut:Option HO->Prop
 | some (.lst _)=>True
 | some (.dK _)=>True
 | some (.dT _)=>True
 | some (.set _ _)=>True
 | some (.ins _ _ _)=>True
 | some (.ext _)=>True
 | _=>False
section
variable {P:Program} {w:World} {H:Hp} {h h':Heap} {x e:Addr} {o':HO}
theorem HOk.write (ok:HOk P w H h) (mu:Mut (H x)) (he:e = x\/H e = some (.own x)) (k:∀ b u,b ≠ e->h.get? b = some u->h'.get? b = some u) (heo:∃ u,h'.get? e = some u)
  (new:ObjOk P w (upd H x o') h' x o'):HOk P w (upd H x o') h':=fun b u q=>by
 have nown:∀ c y,H c = some (.own y)->c ≠ x:=fun c y r z=>by subst z; rw [r] at mu; exact mu
 have ntup:∀ c xs,H c = some (.tup xs)->c ≠ x:=fun c xs r z=>by subst z; rw [r] at mu; exact mu
 by_cases hb:b = x
 ·subst hb; rw [ac] at q; cases q; exact new
 ·rw [ai hb] at q
  by_cases hbe:b = e
  ·have q':H b = some (.own x):=by
    rcases he with z | z
    ·exact absurd (hbe.trans z) hb
    ·rw [hbe]; exact z
   rw [q] at q'; cases q'
   obtain ⟨v,hv⟩:=heo
   exact ⟨v,by rw [hbe]; exact hv⟩
  ·refine (ok b u q).stay (fun c v hc r=>k c v ?_ r) (fun c r=>by rw [ai (nown c b r)]; exact r) fun c xs r=>by rw [ai (ntup c xs r)]; exact r
   rcases hc with rfl | hc
   ·exact hbe
   ·rintro rfl
    rcases he with z | z
    ·exact nown c b hc z
    ·rw [hc] at z; cases z; exact hb rfl
end
structure Un (fs ex:List Addr) (H H':Hp) (h h':Heap):Prop where
 keep:∀ b o,h.get? b = some o->H b = none->b ∉ fs->b ∉ ex->h'.get? b = some o
 slot:∀ b o,h.get? b = some o->H b = none->b ∈ fs->b ∉ ex->∃ sl,h'.get? b = some { o with slots:=sl }
 free:∀ b o,h.get? b = some o->H b = none->b ∉ ex->H' b = none
 there:∀ b o,h.get? b = some o->b ∉ ex->∃ o',h'.get? b = some o'
 tups:∀ b xs,H b = some (.tup xs)->H' b = some (.tup xs)
 frzs:∀ b o u,H b = some (.frz o u)->H' b = some (.frz o u)
 tbls:∀ b ps,H b = some (.tbl ps)->∃ more,H' b = some (.tbl (ps ++ more))
section
variable {fs fs' ex ex':List Addr} {H H1 H2:Hp} {h h1 h2 h':Heap} {a x e:Addr} {o:HO}
theorem Un.any (u:Un fs ex H H1 h h1) {b:Addr} {ob:Obj} (q:h.get? b = some ob) (n:H b = none) (hx:b ∉ ex):∃ sl,h1.get? b = some { ob with slots:=sl }:=by
 by_cases hb:b ∈ fs
 ·exact u.slot b ob q n hb hx
 ·exact ⟨ob.slots,u.keep b ob q n hb hx⟩
theorem Un.kept (k:∀ b u,h.get? b = some u->h'.get? b = some u):Un fs ex H H h h' :=
 ⟨fun b ob q _ _ _=>k b ob q,fun b ob q _ _ _=>⟨ob.slots,k b ob q⟩,fun _ _ _ n _=>n,fun b ob q _=>⟨ob,k b ob q⟩,fun _ _ q=>q,fun _ _ _ q=>q,fun _ ps q=>⟨#[],by rw [q]; simp⟩⟩
theorem Un.refl:Un fs ex H H h h:=Un.kept fun _ _ q=>q
theorem Un.laid (k:∀ b u,h.get? b = some u->h'.get? b = some u) (hp:h.objs.size<=a) (hn:H a = none):Un fs ex H (upd H a o) h h' where
 keep:=fun b u q _ _ _=>k b u q
 slot:=fun b u q _ _ _=>⟨u.slots,k b u q⟩
 free:=fun b u q n _=>by rw [ai (Nat.ne_of_lt (Nat.lt_of_lt_of_le (Heap.lt_size q) hp))]; exact n
 there:=fun b u q _=>⟨u,k b u q⟩
 tups:=fun b xs q=>by rw [ai (aE q hn)]; exact q
 frzs:=fun b u xs q=>by rw [ai (aE q hn)]; exact q
 tbls:=fun b ps q=>⟨#[],by rw [ai (aE q hn),q]; simp⟩
theorem Un.write (mu:Mut (H x)) (he:e = x\/H e = some (.own x)) (k:∀ b u,b ≠ e->h.get? b = some u->h'.get? b = some u) (heo:∃ u,h'.get? e = some u):Un fs ex H (upd H x o) h h':=by
 have hx:∀ b,H b = none->b ≠ x:=fun b n z=>by subst z; rw [n] at mu; exact mu
 have hb:∀ b,H b = none->b ≠ e:=fun b n z=>by
  subst z
  rcases he with r | r
  ·exact hx b n r
  ·rw [n] at r; cases r
 have hm:∀ b u,H b = some u->¬ Mut (some u)->b ≠ x:=fun b u q nm z=>by subst z; rw [q] at mu; exact nm mu
 refine ⟨fun b u q n _ _=>k b u (hb b n) q,fun b u q n _ _=>⟨u.slots,k b u (hb b n) q⟩,fun b u q n _=>by rw [ai (hx b n)]; exact n,fun b u q _=>?_,
  fun b xs q=>by rw [ai (hm b _ q fun z=>z)]; exact q,fun b u xs q=>by rw [ai (hm b _ q fun z=>z)]; exact q,fun b ps q=>⟨#[],by rw [ai (hm b _ q fun z=>z),q]; simp⟩⟩
 by_cases hbe:b = e
 ·subst hbe; exact heo
 ·exact ⟨u,k b u hbe q⟩
end
def trk (h:Heap) (H:Hp):List Addr:=(List.range h.objs.size).filter fun a=>(H a).isSome
def hidT (h:Heap) (H:Hp):Heap:=PySem.W.hideAll h (trk h H)
theorem qb (h:Heap) (H:Hp):(hidT h H).objs.size = h.objs.size:=PySem.W.hideAll_size _ _
theorem hidT_get {h:Heap} {H:Hp} {b:Addr} {o:Obj} (e:h.get? b = some o) (n:H b = none):(hidT h H).get? b = some o :=
 PySem.W.hideAll_get _ e fun hm=>by
  have q:(H b).isSome = true:=(List.mem_filter.mp hm).2
  rw [n] at q; simp at q
theorem of_hidT {h:Heap} {H:Hp} {b:Addr} {o:Obj} (e:(hidT h H).get? b = some o):h.get? b = some o/\H b = none:=by
 have e':h.get? b = some o:=PySem.W.of_hideAll (trk h H) e
 refine ⟨e',?_⟩
 cases q:H b with
 | none=>rfl
 | some x =>
  have hm:b ∈ trk h H:=List.mem_filter.mpr ⟨List.mem_range.mpr (Heap.lt_size e'),by simp [q]⟩
  have z:(hidT h H).get? b = none:=PySem.W.hideAll_none (trk h H) hm
  rw [z] at e; cases e
end L2
namespace L2
open PySem PySem.Spec PyProof.Rows
structure Mod (K:Frag) (mg:Str->Option Value) (base:Heap):Prop where
 kin:K.In base
 glob:base.Ns mainGlobals mg
 blt:∃ mb,base.Ns builtinsNs mb/\∀ x:Str,x ≠ "__name__"->mb x = bootBuiltins x
 nolimit:base.NoLimit
structure Cx where
 prog:Program
 w:World
 K:Frag
 mg:Str->Option Value
 base:Heap
 A:Around
 N:List Str
 s₀:Shared
 H₀:Hp
 env:Env
 outer:List Env
 stack:List Env
 ex:List Addr
 fn:Str->Bool
 calm:Bool
 pn:List (Addr × Obj)
 xe:Value->Shared->Prop
def frs (l:List Env):List Addr:=l.filterMap (·.frame)
abbrev Cx.fs (X:Cx):List Addr:=frs X.outer
def Vis (sc:Scope) (x:Str):Prop:=sc.names.lookup x = some .local\/sc.names.lookup x = some .cell\/sc.names.lookup x = some .free
def Loc (sc:Scope) (x:Str):Prop:=sc.names.lookup x = some .local\/sc.names.lookup x = some .cell
def Look (env:Env) (h:Heap) (m:Str->Option Value) (x:Str) (u:Value):Prop :=
 (env.kindOf x = some .local/\m x = some u)\/((env.kindOf x = some .cell\/env.kindOf x = some .free)/\∃ c,env.cells.lookup x = some c/\h.IsCell c (some u))
structure Cx.Ok (X:Cx):Prop where
 mod:Mod X.K X.mg X.base
 kind:X.env.scope.kind = .function
 glob:X.env.globals = mainGlobals
 blt:X.env.builtins = builtinsNs
 above:X.s₀.heap.objs.size<=X.env.locals
 inj:∀ x y c,X.env.cells.lookup x = some c->X.env.cells.lookup y = some c->x = y
 has:∀ x,(X.env.kindOf x = some .cell\/X.env.kindOf x = some .free)->∃ c,X.env.cells.lookup x = some c
 cab:∀ x c,X.fn x = true->X.env.cells.lookup x = some c->X.s₀.heap.objs.size<=c
 hd:X.calm = true->X.A.handled = none
 frames:X.A.frames = some X.stack
 stk:X.stack = X.outer\/(X.stack = X.env :: X.outer/\X.env.frame = some X.env.locals)
 exf:∀ b ∈ X.ex,b ≠ X.env.locals/\∀ x c,X.env.cells.lookup x = some c->c ≠ b
 bs:∀ b o,X.base.get? b = some o->X.s₀.heap.get? b = some o/\X.H₀ b = none
 bsz:X.base.objs.size<=X.s₀.heap.objs.size
 noex:∀ b o,X.base.get? b = some o->b ∉ X.ex
 exfs:∀ b ∈ X.ex,b ∉ X.fs
 funs:X.s₀.heap.FunFrames X.base X.outer
 frf:∀ b ∈ X.fs,X.H₀ b = none
structure Inv (X:Cx) (pins:List (Addr × Obj)) (σ:List (Option V)) (H:Hp) (s:Shared):Prop where
 ok:X.Ok
 os:s.os = X.s₀.os
 bare:AllBare s.gens
 base:Un X.fs X.ex X.H₀ H X.s₀.heap s.heap
 loc:∃ m,s.heap.Ns X.env.locals m/\∀ (i:Nat) (x:Str) (v:V),X.N[i]? = some x->σ[i]? = some (some v)->Vis X.env.scope x->∃ u,RelV v u/\Look X.env s.heap m x u
 cell:∀ x c,X.env.cells.lookup x = some c->∃ v,s.heap.IsCell c v
 free:H X.env.locals = none
 freeC:∀ x c,X.env.cells.lookup x = some c->H c = none
 pin:∀ p ∈ X.pn ++ pins,s.heap.get? p.1 = some p.2/\H p.1 = none/\p.1 ≠ X.env.locals/\p.1 ∉ X.fs/\∀ v,p.2.data ≠ .cell v
 hok:HOk X.prog X.w H s.heap
 len:σ.length = X.N.length
section
variable {X:Cx} {pins:List (Addr × Obj)} {σ:List (Option V)} {H H':Hp} {s:Shared} {h':Heap}
theorem Cx.Ok.nofr (ok:X.Ok) {b:Addr} {o:Obj} (e:X.base.get? b = some o):b ∉ X.fs:=fun hb=>by
 have:=(ok.funs.mem hb).1
 rw [e] at this; cases this
theorem Inv.bs (I:Inv X pins σ H s):∀ b o,X.base.get? b = some o->s.heap.get? b = some o/\H b = none:=fun b o e =>
 ⟨I.base.keep b o (I.ok.bs b o e).1 (I.ok.bs b o e).2 (I.ok.nofr e) (I.ok.noex b o e),I.base.free b o (I.ok.bs b o e).1 (I.ok.bs b o e).2 (I.ok.noex b o e)⟩
theorem Inv.bk (I:Inv X pins σ H s):∀ b o,X.base.get? b = some o->s.heap.get? b = some o:=fun b o e=>(I.bs b o e).1
theorem Inv.mod (I:Inv X pins σ H s):Mod X.K X.mg X.base:=I.ok.mod
theorem Inv.kIn (I:Inv X pins σ H s):X.K.In s.heap:=I.ok.mod.kin.keeps I.bk
theorem Inv.lt (I:Inv X pins σ H s):X.env.locals < s.heap.objs.size:=let ⟨_,hn,_⟩:=I.loc; hn.lt
theorem Inv.sz (I:Inv X pins σ H s):X.s₀.heap.objs.size<=s.heap.objs.size:=Nat.le_trans I.ok.above (Nat.le_of_lt I.lt)
theorem Inv.nofs (I:Inv X pins σ H s) {a:Addr} (h:s.heap.objs.size<=a):a ∉ X.fs:=fun hb=>by
 obtain ⟨_,o,ho,_⟩:=I.ok.funs.mem hb
 exact absurd (Nat.lt_of_lt_of_le (Heap.lt_size ho) (Nat.le_trans I.sz h)) (Nat.lt_irrefl _)
theorem Inv.cne (I:Inv X pins σ H s):∀ x c,X.env.cells.lookup x = some c->c ≠ X.env.locals:=fun x c e z=>by
 obtain ⟨v,o,ho,hd⟩:=I.cell x c e
 obtain ⟨m,⟨o',es,ep,ho',hd',_⟩,_⟩:=I.loc
 rw [z,ho'] at ho; cases ho; rw [hd'] at hd; cases hd
theorem Inv.funs (I:Inv X pins σ H s):s.heap.FunFrames X.base X.outer:=by
 have all:∀ (l:List Env),(∀ b ∈ frs l,b ∈ X.fs)->X.s₀.heap.FunFrames X.base l->s.heap.FunFrames X.base l:=by
  intro l
  induction l with
  | nil=>intro _ _; trivial
  | cons env r ih =>
   intro hs hl
   obtain ⟨hk,⟨L,o,hf,hn,ho,hd⟩,hr⟩:=hl
   have hL:L ∈ X.fs:=hs L (by unfold frs; rw [List.filterMap_cons,hf]; exact List.mem_cons_self)
   obtain ⟨sl,e⟩:=I.base.slot L o ho (I.ok.frf L hL) hL fun z=>I.ok.exfs L z hL
   exact ⟨hk,⟨L,_,hf,hn,e,hd⟩,ih (fun b hb=>hs b (by unfold frs; rw [List.filterMap_cons,hf]; exact List.mem_cons_of_mem _ hb)) hr⟩
 exact all X.outer (fun _ hb=>hb) I.ok.funs
theorem Inv.stack (I:Inv X pins σ H s):s.heap.FunFrames X.base X.stack:=by
 rcases I.ok.stk with e | ⟨e,hf⟩
 ·rw [e]; exact I.funs
 ·rw [e]
  obtain ⟨m,hn,_⟩:=I.loc
  refine .cons (by rw [I.ok.kind]; decide) hf hn ?_ I.funs
  exact Heap.get?_none_of_le (Nat.le_trans I.ok.bsz I.ok.above)
theorem Inv.stkSub (I:Inv X pins σ H s):∀ b ∈ frs X.stack,b ∈ X.env.locals :: X.fs:=fun b hb=>by
 rcases I.ok.stk with e | ⟨e,hf⟩
 ·rw [e] at hb; exact List.mem_cons_of_mem _ hb
 ·rw [e] at hb
  unfold frs at hb
  rw [List.filterMap_cons,hf] at hb
  exact hb
theorem Inv.stkFree (I:Inv X pins σ H s):∀ b ∈ frs X.stack,H b = none:=fun b hb=>by
 rcases List.mem_cons.mp (I.stkSub b hb) with e | hb
 ·rw [e]; exact I.free
 ·obtain ⟨_,o,ho,_⟩:=I.ok.funs.mem hb
  exact I.base.free b o ho (I.ok.frf b hb) fun z=>I.ok.exfs b z hb
theorem Inv.step {g':Array GenState} {t':Nat} {d':Drawn} {ch:List Addr} (I:Inv X pins σ H s)
  (hch:∀ b ∈ ch,(b ∈ X.ex\/X.s₀.heap.objs.size<=b)/\b ≠ X.env.locals/\(∀ x c,X.env.cells.lookup x = some c->c ≠ b)/\∀ p ∈ X.pn ++ pins,p.1 ≠ b)
  (keep:∀ b o,b ≠ X.env.locals->b ∉ X.fs->b ∉ ch->s.heap.get? b = some o->H b = none->h'.get? b = some o)
  (slot:∀ b o,b ≠ X.env.locals->b ∈ X.fs->b ∉ ch->s.heap.get? b = some o->H b = none->∃ sl,h'.get? b = some { o with slots:=sl }) (free:∀ b o,b ∉ ch->s.heap.get? b = some o->H b = none->H' b = none)
  (there:∀ b o,b ∉ ch->s.heap.get? b = some o->∃ o',h'.get? b = some o')
  (tups:∀ b xs,H b = some (.tup xs)->H' b = some (.tup xs)) (frzs:∀ b o u,H b = some (.frz o u)->H' b = some (.frz o u)) (tbls:∀ b ps,H b = some (.tbl ps)->∃ more,H' b = some (.tbl (ps ++ more)))
  (ns:∀ m,s.heap.Ns X.env.locals m->h'.Ns X.env.locals m) (hok:HOk X.prog X.w H' h') (hg:AllBare g') :
  Inv X pins σ H' { s with heap:=h',gens:=g',drawn:=d',toks:=t' }:=by
 have neL:∀ b o,X.s₀.heap.get? b = some o->b ≠ X.env.locals:=fun b o e=>Nat.ne_of_lt (Nat.lt_of_lt_of_le (Heap.lt_size e) I.ok.above)
 have neC:∀ b o,X.s₀.heap.get? b = some o->b ∉ X.ex->b ∉ ch:=fun b o e hx hb=>by
  rcases (hch b hb).1 with z | z
  ·exact hx z
  ·exact absurd (Nat.lt_of_lt_of_le (Heap.lt_size e) z) (Nat.lt_irrefl _)
 have cellK:∀ x c,X.env.cells.lookup x = some c->∀ v,s.heap.IsCell c v->h'.IsCell c v:=fun x c e v ⟨o,ho,hd⟩=>by
  have nch:c ∉ ch:=fun z=>(hch c z).2.2.1 x c e rfl
  by_cases hc:c ∈ X.fs
  ·obtain ⟨sl,q⟩:=slot c o (I.cne x c e) hc nch ho (I.freeC x c e)
   exact ⟨_,q,hd⟩
  ·exact ⟨o,keep c o (I.cne x c e) hc nch ho (I.freeC x c e),hd⟩
 refine ⟨I.ok,I.os,hg,⟨fun b o e n hb hx=>?_,fun b o e n hb hx=>?_,fun b o e n hx=>?_,fun b o e hx=>?_,fun b xs e=>tups b xs (I.base.tups b xs e),fun b o xs e=>frzs b o xs (I.base.frzs b o xs e),fun b ps e=>?_⟩,?_,fun x c e=>?_,?_,fun x c e=>?_,fun p hp=>?_,hok,I.len⟩
 ·exact keep b o (neL b o e) hb (neC b o e hx) (I.base.keep b o e n hb hx) (I.base.free b o e n hx)
 ·obtain ⟨sl,e1⟩:=I.base.slot b o e n hb hx
  obtain ⟨sl',e2⟩:=slot b _ (neL b o e) hb (neC b o e hx) e1 (I.base.free b o e n hx)
  exact ⟨sl',e2⟩
 ·obtain ⟨o',e1⟩:=I.base.there b o e hx
  exact free b o' (neC b o e hx) e1 (I.base.free b o e n hx)
 ·obtain ⟨o',e1⟩:=I.base.there b o e hx
  exact there b o' (neC b o e hx) e1
 ·obtain ⟨m1,e1⟩:=I.base.tbls b ps e
  obtain ⟨m2,e2⟩:=tbls b _ e1
  exact ⟨m1 ++ m2,by rw [e2,Array.append_assoc]⟩
 ·obtain ⟨m,hn,hl⟩:=I.loc
  refine ⟨m,ns m hn,fun i x v e1 e2 e3=>?_⟩
  obtain ⟨u,r,l⟩:=hl i x v e1 e2 e3
  refine ⟨u,r,?_⟩
  rcases l with l | ⟨k,c,e,z⟩
  ·exact .inl l
  ·exact .inr ⟨k,c,e,cellK x c e _ z⟩
 ·obtain ⟨v,z⟩:=I.cell x c e
  exact ⟨v,cellK x c e v z⟩
 ·obtain ⟨m,⟨o,_,_,ho,_⟩,_⟩:=I.loc
  exact free _ o (fun z=>(hch _ z).2.1 rfl) ho I.free
 ·obtain ⟨v,o,ho,hd⟩:=I.cell x c e
  exact free c o (fun z=>(hch c z).2.2.1 x c e rfl) ho (I.freeC x c e)
 ·obtain ⟨e,n,ne,nf,d⟩:=I.pin p hp
  have nch:p.1 ∉ ch:=fun z=>(hch p.1 z).2.2.2 p hp rfl
  exact ⟨keep p.1 p.2 ne nf nch e n,free p.1 p.2 nch e n,ne,nf,d⟩
theorem Inv.un {t':Nat} (I:Inv X pins σ H s) (u:Un X.fs [] H H' s.heap h') (hok:HOk X.prog X.w H' h'):Inv X pins σ H' { s with heap:=h',toks:=t' }:=by
 obtain ⟨m,⟨o,es,ep,ho,r⟩,_⟩:=id I.loc
 obtain ⟨sl,hL⟩:=u.any ho I.free (by simp)
 exact I.step (g':=s.gens) (d':=s.drawn) (ch:=[]) (fun _ z=>nomatch z) (fun b o _ hb _ e n=>u.keep b o e n hb (by simp)) (fun b o _ hb _ e n=>u.slot b o e n hb (by simp)) (fun b o _ e n=>u.free b o e n (by simp)) (fun b o _ e=>u.there b o e (by simp)) u.tups u.frzs u.tbls (fun m' hm=>by
  obtain ⟨o',es',ep',ho',r'⟩:=hm
  rw [ho] at ho'; cases ho'
  exact ⟨_,es',ep',hL,r'⟩) hok I.bare
theorem Inv.call {g':Array GenState} {t':Nat} {d':Drawn} {ch:List Addr} (I:Inv X pins σ H s) (u:Un (frs X.stack) ch H H' s.heap h') (hok:HOk X.prog X.w H' h') (hg:AllBare g')
  (hch:∀ b ∈ ch,(b ∈ X.ex\/X.s₀.heap.objs.size<=b)/\b ≠ X.env.locals/\(∀ x c,X.env.cells.lookup x = some c->c ≠ b)/\∀ p ∈ X.pn ++ pins,p.1 ≠ b) :
  Inv X pins σ H' { s with heap:=h',gens:=g',drawn:=d',toks:=t' }:=by
 obtain ⟨m,⟨o,es,ep,ho,r⟩,_⟩:=id I.loc
 obtain ⟨sl,hL⟩:=u.any ho I.free fun z=>(hch _ z).2.1 rfl
 exact I.step (ch:=ch) hch (fun b o hL hb hc e n=>u.keep b o e n (fun z=>(List.mem_cons.mp (I.stkSub b z)).elim hL hb) hc) (fun b o _ _ hc e n=>u.any e n hc) (fun b o hc e n=>u.free b o e n hc) (fun b o hc e=>u.there b o e hc) u.tups u.frzs u.tbls (fun m' hm=>by
  obtain ⟨o',es',ep',ho',r'⟩:=hm
  rw [ho] at ho'; cases ho'
  exact ⟨_,es',ep',hL,r'⟩) hok hg
theorem Inv.turned {t':Nat} {it:Addr} (I:Inv X pins σ H s) (k:∀ b o,b ≠ it->s.heap.get? b = some o->h'.get? b = some o) (hn:H it = none) (hL:it ≠ X.env.locals)
  (h1:it ∈ X.ex\/X.s₀.heap.objs.size<=it) (h2:∀ x c,X.env.cells.lookup x = some c->c ≠ it) (h3:∀ p ∈ X.pn ++ pins,p.1 ≠ it):Inv X pins σ H { s with heap:=h',toks:=t' }:=by
 have nit:∀ b u,H b = some u->b ≠ it:=fun b u e z=>by rw [z,hn] at e; cases e
 refine I.step (g':=s.gens) (d':=s.drawn) (ch:=[it]) (fun b hb=>?_) (fun b o _ _ hc e _=>k b o (fun z=>hc (by simp [z])) e) (fun b o _ _ hc e _=>⟨o.slots,k b o (fun z=>hc (by simp [z])) e⟩) (fun _ _ _ _ n=>n)
  (fun b o hc e=>⟨o,k b o (fun z=>hc (by simp [z])) e⟩) (fun _ _ e=>e) (fun _ _ _ e=>e) (fun b ps e=>⟨#[],by rw [e]; simp⟩) (fun m hm=>?_) (fun b u e=>?_) I.bare
 ·have e:b = it:=by simpa using hb
  subst e
  exact ⟨h1,hL,h2,h3⟩
 ·obtain ⟨o,es,ep,ho,r⟩:=hm
  exact ⟨o,es,ep,k _ o (Ne.symm hL) ho,r⟩
 ·refine (I.hok b u e).stay (fun c v hc q=>k c v ?_ q) (fun _ q=>q) fun _ _ q=>q
  rcases hc with z | z
  ·rw [z]; exact nit b u e
  ·exact nit c _ z
theorem Inv.tok (I:Inv X pins σ H s) (t:Nat):Inv X pins σ H { s with toks:=t }:=I.un (h':=s.heap) (t':=t) Un.refl I.hok
theorem Inv.kept {t':Nat} (I:Inv X pins σ H s) (k:∀ b u,s.heap.get? b = some u->h'.get? b = some u):Inv X pins σ H { s with heap:=h',toks:=t' }:=I.un (Un.kept k) (I.hok.kept k)
theorem Inv.laid {a:Addr} {o:HO} {t':Nat} (I:Inv X pins σ H s) (k:∀ b u,s.heap.get? b = some u->h'.get? b = some u) (hp:s.heap.objs.size<=a) (new:ObjOk X.prog X.w (upd H a o) h' a o) :
  Inv X pins σ (upd H a o) { s with heap:=h',toks:=t' }:=I.un (Un.laid k hp (I.hok.fresh hp)) (I.hok.laid k hp new)
theorem Inv.write {x e:Addr} {o:HO} {t':Nat} (I:Inv X pins σ H s) (mu:Mut (H x)) (he:e = x\/H e = some (.own x)) (k:∀ b u,b ≠ e->s.heap.get? b = some u->h'.get? b = some u) (heo:∃ u,h'.get? e = some u)
  (new:ObjOk X.prog X.w (upd H x o) h' x o):Inv X pins σ (upd H x o) { s with heap:=h',toks:=t' }:=I.un (Un.write mu he k heo) (I.hok.write mu he k heo new)
theorem Inv.pins_of {pins':List (Addr × Obj)} (I:Inv X pins σ H s) (h:∀ p ∈ pins',s.heap.get? p.1 = some p.2/\H p.1 = none/\p.1 ≠ X.env.locals/\p.1 ∉ X.fs/\∀ v,p.2.data ≠ .cell v):Inv X pins' σ H s :=
 ⟨I.ok,I.os,I.bare,I.base,I.loc,I.cell,I.free,I.freeC,fun p hp=>(List.mem_append.mp hp).elim (fun z=>I.pin p (List.mem_append_left _ z)) (h p),I.hok,I.len⟩
theorem jX {N:List Str} (hN:N.Nodup) {i j:Nat} {x:Str} (a:N[i]? = some x) (b:N[j]? = some x):i = j:=by
 obtain ⟨h1,e1⟩:=List.getElem?_eq_some_iff.mp a
 obtain ⟨h2,e2⟩:=List.getElem?_eq_some_iff.mp b
 exact (List.getElem_inj hN).mp (e1.trans e2.symm)
theorem lF {M:Model} {A:Around} {E:Value->Shared->Prop} {i:Nat} {x:Str} {v:V} {u:Value} {Q:Unit->Shared->Prop} (I:Inv X pins σ H s) (hN:X.N.Nodup) (hi:X.N[i]? = some x) (hx:Loc X.env.scope x) (r:RelV v u)
  (h:∀ s',Inv X pins (σ.set i (some v)) H s'->(∃ a,Heap.SameBut a s.heap s'.heap/\(a = X.env.locals\/X.env.cells.lookup x = some a))->Q () s') (hf:X.fn x = true\/X.env.scope.names.lookup x = some .local:=by first | exact .inl rfl | exact .inr rfl | assumption):wpAny M A (storeName X.env x u) Q E s:=by
 obtain ⟨m,hn,hl⟩:=id I.loc
 have hcls:(X.env.scope.kind == .class || (X.env.scope.kind == .module && X.env.locals != X.env.globals)) = false:=by rw [I.ok.kind]; rfl
 have hiσ:i < σ.length:=by rw [I.len]; exact (List.getElem?_eq_some_iff.mp hi).1
 have cne:=I.cne
 have tracked:∀ {a:Addr} {h':Heap},(∃ o,s.heap.get? a = some o/\H a = none)->Heap.SameBut a s.heap h'->HOk X.prog X.w H h':=fun {a h'} ha hs b ob e=>by
  obtain ⟨_,_,hfree⟩:=ha
  refine (I.hok b ob e).stay (fun c w' hc q=>(hs.2 c ?_).trans q) (fun _ q=>q) fun _ _ q=>q
  rintro rfl
  rcases hc with rfl | hc
  ·rw [hfree] at e; cases e
  ·rw [hfree] at hc; cases hc
 rcases hx with hk | hk
 ·refine wpAny_storeName_local hk hn (fun h' hn' hs=>?_) hcls
  obtain ⟨oL,_,_,hoL,_⟩:=id hn
  refine h _ ⟨I.ok,I.os,I.bare,⟨fun b o e n hb hx=>?_,fun b o e n hb hx=>?_,I.base.free,fun b o e hx=>?_,I.base.tups,I.base.frzs,I.base.tbls⟩,⟨_,hn',fun j y v' e1 e2 e3=>?_⟩,fun y c e=>?_,I.free,I.freeC,fun p hp=>?_,tracked ⟨oL,hoL,I.free⟩ hs,by simpa using I.len⟩ ⟨_,hs,.inl rfl⟩
  ·exact (hs.2 b (Nat.ne_of_lt (Nat.lt_of_lt_of_le (Heap.lt_size e) I.ok.above))).trans (I.base.keep b o e n hb hx)
  ·obtain ⟨sl,e1⟩:=I.base.slot b o e n hb hx
   exact ⟨sl,(hs.2 b (Nat.ne_of_lt (Nat.lt_of_lt_of_le (Heap.lt_size e) I.ok.above))).trans e1⟩
  ·obtain ⟨o',e1⟩:=I.base.there b o e hx
   exact ⟨o',(hs.2 b (Nat.ne_of_lt (Nat.lt_of_lt_of_le (Heap.lt_size e) I.ok.above))).trans e1⟩
  ·by_cases hj:j = i
   ·subst hj
    rw [hi] at e1; cases e1
    rw [List.getElem?_set_self hiσ] at e2
    cases e2
    exact ⟨u,r,.inl ⟨hk,by simp⟩⟩
   ·rw [List.getElem?_set_ne (Ne.symm hj)] at e2
    obtain ⟨u',r',q⟩:=hl j y v' e1 e2 e3
    refine ⟨u',r',?_⟩
    rcases q with ⟨k,e⟩ | ⟨k,c,e,z⟩
    ·refine .inl ⟨k,?_⟩
     have:y ≠ x:=fun e=>hj (jX hN e1 (e ▸ hi))
     simp [this,e]
    ·exact .inr ⟨k,c,e,z.sameBut hs (cne y c e)⟩
  ·obtain ⟨w',z⟩:=I.cell y c e
   exact ⟨w',z.sameBut hs (cne y c e)⟩
  ·obtain ⟨e,n,ne,nf,d⟩:=I.pin p hp
   exact ⟨(hs.2 p.1 ne).trans e,n,ne,nf,d⟩
 ·have hfn:X.fn x = true:=by
   rcases hf with z | z
   ·exact z
   ·rw [z] at hk; cases hk
  obtain ⟨c,hc⟩:=I.ok.has x (.inl hk)
  obtain ⟨w',z⟩:=I.cell x c hc
  refine wpAny_storeName_cell I.ok.kind hk hc z (fun h' hc' hs=>?_)
  obtain ⟨oc,hoc,hocd⟩:=id z
  refine h { s with heap:=h' } ⟨I.ok,I.os,I.bare,⟨fun b o e n hb hx=>?_,fun b o e n hb hx=>?_,I.base.free,fun b o e hx=>?_,I.base.tups,I.base.frzs,I.base.tbls⟩,⟨m,hn.sameBut hs (Ne.symm (cne x c hc)),fun j y v' e1 e2 e3=>?_⟩,fun y c' e=>?_,I.free,I.freeC,fun p hp=>?_,tracked ⟨oc,hoc,I.freeC x c hc⟩ hs,by simpa using I.len⟩ ⟨c,hs,.inr hc⟩
  ·exact (hs.2 b (Nat.ne_of_lt (Nat.lt_of_lt_of_le (Heap.lt_size e) (I.ok.cab x c hfn hc)))).trans (I.base.keep b o e n hb hx)
  ·obtain ⟨sl,e1⟩:=I.base.slot b o e n hb hx
   exact ⟨sl,(hs.2 b (Nat.ne_of_lt (Nat.lt_of_lt_of_le (Heap.lt_size e) (I.ok.cab x c hfn hc)))).trans e1⟩
  ·obtain ⟨o',e1⟩:=I.base.there b o e hx
   exact ⟨o',(hs.2 b (Nat.ne_of_lt (Nat.lt_of_lt_of_le (Heap.lt_size e) (I.ok.cab x c hfn hc)))).trans e1⟩
  ·by_cases hj:j = i
   ·subst hj
    rw [hi] at e1; cases e1
    rw [List.getElem?_set_self hiσ] at e2
    cases e2
    exact ⟨u,r,.inr ⟨.inl hk,c,hc,hc'⟩⟩
   ·rw [List.getElem?_set_ne (Ne.symm hj)] at e2
    obtain ⟨u',r',q⟩:=hl j y v' e1 e2 e3
    refine ⟨u',r',?_⟩
    rcases q with q | ⟨k,c',e,z'⟩
    ·exact .inl q
    ·refine .inr ⟨k,c',e,z'.sameBut hs ?_⟩
     rintro rfl
     exact hj (jX hN e1 (I.ok.inj _ _ _ e hc ▸ hi))
  ·by_cases hcc:c' = c
   ·subst hcc; exact ⟨_,hc'⟩
   ·obtain ⟨w2,z2⟩:=I.cell y c' e
    exact ⟨w2,z2.sameBut hs hcc⟩
  ·obtain ⟨e,n,ne,nf,d⟩:=I.pin p hp
   refine ⟨(hs.2 p.1 ?_).trans e,n,ne,nf,d⟩
   intro q
   rw [q,hoc] at e
   have q':oc = p.2:=Option.some.inj e
   exact d w' (by rw [<- q']; exact hocd)
theorem gh {M:Model} {A:Around} {E:Value->Shared->Prop} {i:Nat} {x:Str} {v:V} {u:Value} {Q:Unit->Shared->Prop} (I:Inv X pins σ H s) (hN:X.N.Nodup) (hi:X.N[i]? = some x) (hx:Loc X.env.scope x) (r:RelV v u)
  (h:∀ s',Inv X pins (σ.set i (some v)) H s'->Q () s') (hf:X.fn x = true\/X.env.scope.names.lookup x = some .local:=by first | exact .inl rfl | exact .inr rfl | assumption):wpAny M A (storeName X.env x u) Q E s :=
 lF I hN hi hx r (fun s' I' _=>h s' I') hf
theorem Inv.call' {s':Shared} {ch:List Addr} (I:Inv X pins σ H s) (ho:s'.os = s.os) (u:Un (frs X.stack) ch H H' s.heap s'.heap) (hok:HOk X.prog X.w H' s'.heap) (hg:AllBare s'.gens)
  (hch:∀ b ∈ ch,(b ∈ X.ex\/X.s₀.heap.objs.size<=b)/\b ≠ X.env.locals/\(∀ x c,X.env.cells.lookup x = some c->c ≠ b)/\∀ p ∈ X.pn ++ pins,p.1 ≠ b):Inv X pins σ H' s':=by
 obtain ⟨h',g',d',t',o'⟩:=s'
 have e:o' = s.os:=ho
 subst e
 exact I.call (g':=g') (t':=t') (d':=d') u hok hg hch
end
abbrev XK:=Value->Option Addr->Hp->Prop
abbrev St:=List (Option V)
abbrev VK:=V->Hp->Prop
abbrev TE:=St->Hp->VK->Prop
abbrev TT:=St->Hp->(Bool->Hp->Prop)->Prop
abbrev TA:=St->Hp->(List V->Hp->Prop)->Prop
structure Ends where
 nx:St->Hp->Prop
 rt:VK
 bk:St->Hp->Prop:=fun _ _=>False
 ct:St->Hp->Prop:=fun _ _=>False
abbrev TS:=Ends->St->Hp->Prop
def EP (X:Cx) (pins:List (Addr × Obj)) (σ:St) (Q:VK) (u:Value) (s':Shared):Prop:=∃ v H',Inv X pins σ H' s'/\RelV v u/\Q v H'
def TP (X:Cx) (pins:List (Addr × Obj)) (σ:St) (Q:Bool->Hp->Prop) (b:Bool) (s':Shared):Prop:=∃ H',Inv X pins σ H' s'/\Q b H'
def AP (X:Cx) (pins:List (Addr × Obj)) (σ:St) (Q:List V->Hp->Prop) (us:List Value) (s':Shared):Prop:=∃ vs H',Inv X pins σ H' s'/\Vals vs us/\Q vs H'
def SP (X:Cx) (pins:List (Addr × Obj)) (D:Ends) (f:Flow) (s':Shared):Prop :=
 match f with
 | .next=>∃ σ' H',Inv X pins σ' H' s'/\D.nx σ' H'
 | .brk=>∃ σ' H',Inv X pins σ' H' s'/\D.bk σ' H'
 | .cont=>∃ σ' H',Inv X pins σ' H' s'/\D.ct σ' H'
 | .ret u=>∃ v σ' H',Inv X pins σ' H' s'/\RelV v u/\D.rt v H'
def PE (X:Cx) (e:Expr) (t:TE):Prop :=
 ∀ (pins:List (Addr × Obj)) (s:Shared) (σ:St) (H:Hp) (Q:VK),Inv X pins σ H s->t σ H Q->wpAny (model X.prog X.w) X.A (eval e X.env) (EP X pins σ Q) X.xe s
def PT (X:Cx) (e:Expr) (t:TT):Prop :=
 ∀ (pins:List (Addr × Obj)) (s:Shared) (σ:St) (H:Hp) (Q:Bool->Hp->Prop),Inv X pins σ H s->t σ H Q->wpAny (model X.prog X.w) X.A (isTrue e X.env (eval e X.env)) (TP X pins σ Q) X.xe s
def PW (X:Cx) (e:Expr) (t:TT):Prop :=
 ∀ (whole:Sem Value) (pins:List (Addr × Obj)) (s:Shared) (σ:St) (H:Hp) (Q:Bool->Hp->Prop),Inv X pins σ H s->t σ H Q->wpAny (model X.prog X.w) X.A (isTrue e X.env whole) (TP X pins σ Q) X.xe s
theorem PW.pt {X:Cx} {e:Expr} {t:TT} (h:PW X e t):PT X e t:=h _
def PA (X:Cx) (es:List Expr) (t:TA):Prop :=
 ∀ (pos:Pos) (pins:List (Addr × Obj)) (s:Shared) (σ:St) (H:Hp) (Q:List V->Hp->Prop),Inv X pins σ H s->t σ H Q->wpAny (model X.prog X.w) X.A (spliced (backTo pos (starEach es X.env))) (AP X pins σ Q) X.xe s
def PS (X:Cx) (st:Stmt) (t:TS):Prop :=
 ∀ (pins:List (Addr × Obj)) (s:Shared) (σ:St) (H:Hp) (D:Ends),Inv X pins σ H s->t D σ H->wpAny (model X.prog X.w) X.A (exec st X.env) (SP X pins D) X.xe s
def PSs (X:Cx) (st:List Stmt) (t:TS):Prop :=
 ∀ (pins:List (Addr × Obj)) (s:Shared) (σ:St) (H:Hp) (D:Ends),Inv X pins σ H s->t D σ H->wpAny (model X.prog X.w) X.A (execs st X.env) (SP X pins D) X.xe s
theorem thn {α:Type} {t:Sem α} {Q Q':α->Shared->Prop} {M:Model} {A:Around} {E:Value->Shared->Prop} {s:Shared} (h:wpAny M A t Q E s) (hQ:∀ a s,Q a s->Q' a s):wpAny M A t Q' E s:=wpAny_mono h hQ fun _ _ x=>x
end L2
namespace L2
open PySem PySem.Spec PyProof.Rows
section
variable {X:Cx}
def tVar (i:Nat):TE:=fun σ H Q=>∃ v,σ[i]? = some (some v)/\Q v H
def tC (v:V):TE:=fun _ H Q=>Q v H
theorem pe_var {i:Nat} {x:Str} {pos:Pos} (hN:X.N[i]? = some x) (hv:Vis X.env.scope x) (hd:(x == ("__debug__":Str)) = false:=by decide) (hcd:(x == ("__classdict__":Str)) = false:=by decide):PE X (.Name x pos) (tVar i):=by
 intro pins s σ H Q I h
 obtain ⟨v,e,h⟩:=h
 obtain ⟨m,hn,hl⟩:=I.loc
 obtain ⟨u,r,l⟩:=hl i x v hN e hv
 have fin:EP X pins σ Q u s:=⟨v,H,I,r,h⟩
 rcases l with ⟨hk,hm⟩ | ⟨hk,c,hc,hcell⟩
 ·exact wpAny_Name (wpAny_loadName_local I.ok.kind hk hn hm fin) hd
 ·rcases hk with hk | hk
  ·exact wpAny_Name (wpAny_loadName_cell I.ok.kind hk hc hcell fin) hd
  ·exact wpAny_Name (wpAny_loadName_free I.ok.kind hk hc hcell fin hcd) hd
theorem ah {i j pos}:PE X (.Constant (.int i) j pos) (tC (.int i)):=fun _ _ _ H _ I h=>wpAny_Constant_int ⟨.int i,H,I.tok _,⟨_,rfl⟩,h⟩
theorem dA {b j pos}:PE X (.Constant (.bool b) j pos) (tC (.bl b)):=fun _ _ _ H _ I h=>Constant_bool ⟨.bl b,H,I,rfl,h⟩
theorem aR {j pos}:PE X (.Constant .none j pos) (tC .non):=fun _ _ _ H _ I h=>Constant_none ⟨.non,H,I,rfl,h⟩
theorem av {x j pos}:PE X (.Constant (.str x) j pos) (tC (.str x)):=fun _ _ _ H _ I h=>Calls.Constant_str ⟨.str x,H,I.tok _,⟨_,rfl⟩,h⟩
def Gl (X:Cx) (x:Str):Prop:=X.env.kindOf x = some .globalImplicit
theorem dW {E:Value->Shared->Prop} {pins:List (Addr × Obj)} {s:Shared} {σ:St} {H:Hp} {x:Str} {u:Value} {pos:Pos} {Q:Value->Shared->Prop} (I:Inv X pins σ H s) (hg:Gl X x) (hm:X.mg x = some u) (h:Q u s)
  (hd:(x == ("__debug__":Str)) = false:=by decide):wpAny (model X.prog X.w) X.A (eval (.Name x pos) X.env) Q E s :=
 Calls.Name_function_global I.ok.kind hg (Calls.loadGlobal_global (by rw [I.ok.glob]; exact I.mod.glob.keeps I.bk) hm h) hd
theorem iA {E:Value->Shared->Prop} {pins:List (Addr × Obj)} {s:Shared} {σ:St} {H:Hp} {x:Str} {u:Value} {pos:Pos} {Q:Value->Shared->Prop} (I:Inv X pins σ H s) (hg:Gl X x) (hm:X.mg x = none) (hv:bootBuiltins x = some u) (h:Q u s)
  (hn:x ≠ "__name__":=by decide) (hd:(x == ("__debug__":Str)) = false:=by decide):wpAny (model X.prog X.w) X.A (eval (.Name x pos) X.env) Q E s:=by
 obtain ⟨mb,h1,h2⟩:=I.mod.blt
 exact Calls.Name_function_global I.ok.kind hg (Calls.loadGlobal_builtin (by rw [I.ok.glob]; exact I.mod.glob.keeps I.bk) hm (by rw [I.ok.blt]; exact h1.keeps I.bk) ((h2 x hn).trans hv) h) hd
theorem mj {x:Str} {v:V} {u:Value} {pos:Pos} (hg:Gl X x) (hm:X.mg x = some u) (r:RelV v u) (hd:(x == ("__debug__":Str)) = false:=by decide):PE X (.Name x pos) (tC v) :=
 fun _ _ _ H _ I h=>dW I hg hm ⟨v,H,I,r,h⟩ hd
theorem pe_bltn {x:Str} {v:V} {u:Value} {pos:Pos} (hg:Gl X x) (hm:X.mg x = none) (hv:bootBuiltins x = some u) (r:RelV v u) (hn:x ≠ "__name__":=by decide) (hd:(x == ("__debug__":Str)) = false:=by decide):PE X (.Name x pos) (tC v) :=
 fun _ _ _ H _ I h=>iA I hg hm hv ⟨v,H,I,r,h⟩ hn hd
variable {a b:Expr} {ta tb:TE} {pos:Pos}
def tB (t:TE):TT:=fun σ H Q=>t σ H fun x H1=>∃ c,x = .bl c/\Q c H1
theorem bD {e:Expr} {t:TE} (h:PE X e t) (he:∀ whole,isTrue e X.env whole = (do let v <- whole; standAt e.pos; holding [v] (truthy v)):=by intro _; rfl):PT X e (tB t):=by
 intro pins s σ H Q I hw
 refine isTrue_plain (thn (h pins s σ H _ I hw) fun v s1 ⟨x,H1,I1,r1,q1⟩=>?_) (he _)
 obtain ⟨d,rfl,q⟩:=q1
 cases r1
 exact wpAny_truthy_bool ⟨H1,I1,q⟩
variable {tA tB':TT} {rest:List Expr}
def tAnd (t u:TT):TT:=fun σ H Q=>t σ H fun c H1=>if c = true then u σ H1 Q else Q false H1
def tOr (t u:TT):TT:=fun σ H Q=>t σ H fun c H1=>if c = true then Q true H1 else u σ H1 Q
def tNot (t:TT):TT:=fun σ H Q=>t σ H fun c H1=>Q (!c) H1
theorem dE (ha:PT X a tA):PW X (.BoolOp .And [a] pos) tA:=by
 intro wh pins s σ H Q I h
 refine isTrue_and (thn (ha pins s σ H Q I h) fun c s1 e=>?_)
 cases c with
 | true=>exact isTrue_and_nil e
 | false=>exact e
theorem di (ha:PT X a tA):PW X (.BoolOp .Or [a] pos) tA:=by
 intro wh pins s σ H Q I h
 refine isTrue_or (thn (ha pins s σ H Q I h) fun c s1 e=>?_)
 cases c with
 | false=>exact isTrue_or_nil e
 | true=>exact e
theorem eF (ha:PT X a tA) (hb:PW X (.BoolOp .And (b :: rest) pos) tB'):PW X (.BoolOp .And (a :: b :: rest) pos) (tAnd tA tB'):=by
 intro wh pins s σ H Q I h
 refine isTrue_and (thn (ha pins s σ H _ I h) fun c s1 ⟨H1,I1,q1⟩=>?_)
 cases c with
 | true=>exact hb wh pins s1 σ H1 Q I1 q1
 | false=>exact ⟨H1,I1,q1⟩
theorem dS (ha:PT X a tA) (hb:PW X (.BoolOp .Or (b :: rest) pos) tB'):PW X (.BoolOp .Or (a :: b :: rest) pos) (tOr tA tB'):=by
 intro wh pins s σ H Q I h
 refine isTrue_or (thn (ha pins s σ H _ I h) fun c s1 ⟨H1,I1,q1⟩=>?_)
 cases c with
 | true=>exact ⟨H1,I1,q1⟩
 | false=>exact hb wh pins s1 σ H1 Q I1 q1
theorem bV (ha:PT X a tA):PT X (.UnaryOp .Not a pos) (tNot tA):=by
 intro pins s σ H Q I h
 exact isTrue_not (ha pins s σ H (fun c H1=>Q (!c) H1) I h)
def tAndV (ta tb:TE):TE:=fun σ H Q=>ta σ H fun x H1=>∃ c,x = .bl c/\if c = true then tb σ H1 Q else Q (.bl false) H1
def tOrV (ta tb:TE):TE:=fun σ H Q=>ta σ H fun x H1=>∃ c,x = .bl c/\if c = true then Q (.bl true) H1 else tb σ H1 Q
def tNotV (ta:TE):TE:=fun σ H Q=>ta σ H fun x H1=>∃ c,x = .bl c/\Q (.bl (!c)) H1
theorem hG {op} {t:TE} (h:PE X a t):PE X (.BoolOp op [a] pos) t:=fun pins s σ H Q I hw=>BoolOp_one (h pins s σ H Q I hw)
theorem fV (ha:PE X a ta) (hb:PE X (.BoolOp .And (b :: rest) pos) tb):PE X (.BoolOp .And (a :: b :: rest) pos) (tAndV ta tb):=by
 intro pins s σ H Q I h
 refine BoolOp_and (thn (ha pins s σ H _ I h) fun v s1 ⟨x,H1,I1,r1,q1⟩=>?_)
 obtain ⟨c,rfl,q1⟩:=q1
 cases r1
 refine wpAny_truthy_bool ?_
 cases c with
 | true=>exact hb pins s1 σ H1 Q I1 q1
 | false=>exact ⟨.bl false,H1,I1,rfl,q1⟩
theorem pe_or (ha:PE X a ta) (hb:PE X (.BoolOp .Or (b :: rest) pos) tb):PE X (.BoolOp .Or (a :: b :: rest) pos) (tOrV ta tb):=by
 intro pins s σ H Q I h
 refine BoolOp_or (thn (ha pins s σ H _ I h) fun v s1 ⟨x,H1,I1,r1,q1⟩=>?_)
 obtain ⟨c,rfl,q1⟩:=q1
 cases r1
 refine wpAny_truthy_bool ?_
 cases c with
 | false=>exact hb pins s1 σ H1 Q I1 q1
 | true=>exact ⟨.bl true,H1,I1,rfl,q1⟩
theorem pe_not (ha:PE X a ta):PE X (.UnaryOp .Not a pos) (tNotV ta):=by
 intro pins s σ H Q I h
 refine UnaryOp_ (thn (ha pins s σ H _ I h) fun v s1 ⟨x,H1,I1,r1,q1⟩=>?_)
 obtain ⟨c,rfl,q1⟩:=q1
 cases r1
 exact not_of (wpAny_truthy_bool ⟨.bl (!c),H1,I1,rfl,q1⟩)
def tIf (t:TT) (ta tb:TE):TE:=fun σ H Q=>t σ H fun c H1=>if c = true then ta σ H1 Q else tb σ H1 Q
theorem bn {c:Expr} (hc:PT X c tA) (ha:PE X a ta) (hb:PE X b tb):PE X (.IfExp c a b pos) (tIf tA ta tb):=by
 intro pins s σ H Q I h
 refine wpAny_IfExp (thn (hc pins s σ H _ I h) fun d s1 ⟨H1,I1,q1⟩=>?_)
 cases d with
 | true=>exact ha pins s1 σ H1 Q I1 q1
 | false=>exact hb pins s1 σ H1 Q I1 q1
end
end L2
namespace L2
open PySem PySem.Spec PyProof.Rows
def SqL (K:Frag) (H:Hp) (a:Addr) (xs:List V):Prop :=
 Rd H a (.lst xs) \/
  ∃ (o:Obj) (its:Array Value) (n:Nat),K.lookup a = some o/\o.cls = .type "list"/\o.dict = none/\o.data = .seq its n/\its.size<=sizeLine/\Vals xs its.toList
def SqT (K:Frag) (H:Hp) (a:Addr) (xs:List V):Prop :=
 Rd H a (.tup xs) \/
  ∃ (o:Obj) (its:Array Value) (n:Nat),K.lookup a = some o/\o.cls = .type "tuple"/\o.data = .seq its n/\its.size<=sizeLine/\Vals xs its.toList
def absV:Value->Option V
 | .none=>some .non
 | .bool b=>some (.bl b)
 | .int i _=>some (.int i)
 | .str x _=>some (.str x)
 | .bytes b _=>some (.byt b)
 | .float b _=>some (.flt b)
 | .ref a=>some (.ref a)
 | .type n=>some (.ty n)
 | _=>none
theorem RelV.abs {x:V} {u:Value} (r:RelV x u):absV u = some x:=by
 cases x with
 | non=>cases r; rfl
 | bl _=>cases r; rfl
 | int _=>obtain ⟨t,rfl⟩:=r; rfl
 | str _=>obtain ⟨t,rfl⟩:=r; rfl
 | byt _=>obtain ⟨t,rfl⟩:=r; rfl
 | flt _=>obtain ⟨t,rfl⟩:=r; rfl
 | ref _=>cases r; rfl
 | ty _=>cases r; rfl
theorem RelV.inj {x y:V} {u:Value} (r:RelV x u) (q:RelV y u):x = y:=Option.some.inj (r.abs.symm.trans q.abs)
theorem Vals.inj:∀ {xs ys:List V} {us:List Value},Vals xs us->Vals ys us->xs = ys
 | _,_,_,.nil,.nil=>rfl
 | _,_,_,.cons r t,.cons r' t'=>by rw [r.inj r',Vals.inj t t']
section
variable {X:Cx} {pins:List (Addr × Obj)} {σ:St} {H:Hp} {s:Shared} {a:Addr} {xs ys:List V}
theorem SqL.of {K:Frag} (h:H a = some (.lst xs)):SqL K H a xs:=.inl (.inl h)
theorem SqT.of {K:Frag} (h:H a = some (.tup xs)):SqT K H a xs:=.inl (.inl h)
theorem Inv.list (I:Inv X pins σ H s) (h:SqL X.K H a xs):∃ its:List Value,Vals xs its/\PlainL s.heap a its.toArray/\xs.length<=sizeLine:=by
 rcases h with h | ⟨o,its,n,hk,hc,hd,hs,hz,r⟩
 ·obtain ⟨z,its,n,r,e⟩:=h.ok I.hok
  exact ⟨its,r,⟨_,n,e,rfl,rfl,rfl⟩,z⟩
 ·refine ⟨its.toList,r,⟨o,n,I.kIn a o hk,hc,hd,by simpa using hs⟩,?_⟩
  have e:=r.length
  simp only [Array.length_toList] at e
  omega
theorem Inv.tuple (I:Inv X pins σ H s) (h:SqT X.K H a xs):∃ its:List Value,Vals xs its/\IsTup s.heap a its.toArray/\xs.length<=sizeLine:=by
 rcases h with h | ⟨o,its,n,hk,hc,hs,hz,r⟩
 ·obtain ⟨z,its,r,p⟩:=h.ok I.hok
  exact ⟨its,r,p,z⟩
 ·refine ⟨its.toList,r,⟨o,I.kIn a o hk,hc,n,by simpa using hs⟩,?_⟩
  have e:=r.length
  simp only [Array.length_toList] at e
  omega
theorem Inv.list_inj (I:Inv X pins σ H s) (h:SqL X.K H a xs) (h':SqL X.K H a ys):xs = ys:=by
 obtain ⟨its,r,⟨o,n,e,_,_,d⟩,_⟩:=I.list h
 obtain ⟨its',r',⟨o',n',e',_,_,d'⟩,_⟩:=I.list h'
 rw [e] at e'; cases e'
 rw [d] at d'
 injection d' with d1 _
 have:its = its':=by simpa using congrArg Array.toList d1
 subst this
 exact r.inj r'
theorem Inv.tuple_inj (I:Inv X pins σ H s) (h:SqT X.K H a xs) (h':SqT X.K H a ys):xs = ys:=by
 obtain ⟨its,r,⟨o,e,_,n,d⟩,_⟩:=I.tuple h
 obtain ⟨its',r',⟨o',e',_,n',d'⟩,_⟩:=I.tuple h'
 rw [e] at e'; cases e'
 rw [d] at d'
 injection d' with d1 _
 have:its = its':=by simpa using congrArg Array.toList d1
 subst this
 exact r.inj r'
end
abbrev Cx.wish (X:Cx) (E:Value->Shared->Prop):Cx:={ X with xe:=E }
abbrev Cx.nox (X:Cx):Cx:=X.wish fun _ _=>False
theorem Cx.Ok.wish {X:Cx} (ok:X.Ok) (E:Value->Shared->Prop):(X.wish E).Ok :=
 ⟨ok.mod,ok.kind,ok.glob,ok.blt,ok.above,ok.inj,ok.has,ok.cab,ok.hd,ok.frames,ok.stk,ok.exf,ok.bs,ok.bsz,ok.noex,ok.exfs,ok.funs,ok.frf⟩
theorem Cx.Ok.unwish {X:Cx} {E:Value->Shared->Prop} (ok:(X.wish E).Ok):X.Ok :=
 ⟨ok.mod,ok.kind,ok.glob,ok.blt,ok.above,ok.inj,ok.has,ok.cab,ok.hd,ok.frames,ok.stk,ok.exf,ok.bs,ok.bsz,ok.noex,ok.exfs,ok.funs,ok.frf⟩
section
variable {X:Cx} {pins:List (Addr × Obj)} {σ:St} {H:Hp} {s:Shared} {E:Value->Shared->Prop}
theorem Inv.wish (I:Inv X pins σ H s) (E:Value->Shared->Prop):Inv (X.wish E) pins σ H s:=⟨I.ok.wish E,I.os,I.bare,I.base,I.loc,I.cell,I.free,I.freeC,I.pin,I.hok,I.len⟩
theorem Inv.unwish (I:Inv (X.wish E) pins σ H s):Inv X pins σ H s:=⟨I.ok.unwish,I.os,I.bare,I.base,I.loc,I.cell,I.free,I.freeC,I.pin,I.hok,I.len⟩
theorem SP.unwish {D:Ends} {f:Flow} {s':Shared} (h:SP (X.wish E) pins D f s'):SP X pins D f s':=by
 cases f with
 | next=>obtain ⟨σ',H',I,q⟩:=h; exact ⟨σ',H',I.unwish,q⟩
 | brk=>obtain ⟨σ',H',I,q⟩:=h; exact ⟨σ',H',I.unwish,q⟩
 | cont=>obtain ⟨σ',H',I,q⟩:=h; exact ⟨σ',H',I.unwish,q⟩
 | ret u=>obtain ⟨v,σ',H',I,r,q⟩:=h; exact ⟨v,σ',H',I.unwish,r,q⟩
theorem PSs.nox {st:List Stmt} {t:TS} (h:PSs X.nox st t):PSs X st t:=fun pins s σ H D I hw =>
 wpAny_mono (h pins s σ H D (I.wish _) hw) (fun _ _ q=>q.unwish) fun _ _ z=>False.elim z
end
section
variable {X:Cx} {st:Stmt} {rest:List Stmt} {t u:TS} {e:Expr} {te:TE} {pos:Pos}
def tNext:TS:=fun D σ H=>D.nx σ H
def tSeq (t u:TS):TS:=fun D σ H=>t { D with nx:=u D } σ H
theorem az:PSs X [] tNext:=fun _ _ σ H _ I h=>wpAny_execs_nil ⟨σ,H,I,h⟩
theorem ae (h1:PS X st t) (h2:PSs X rest u):PSs X (st :: rest) (tSeq t u):=by
 intro pins s σ H D I h
 refine wpAny_execs_cons (thn (h1 pins s σ H { D with nx:=u D } I h) fun f s1 q=>?_)
 cases f with
 | next =>
  obtain ⟨σ',H',I',q⟩:=q
  exact h2 pins s1 σ' H' D I' q
 | ret v=>exact q
 | brk=>exact q
 | cont=>exact q
theorem aj (h1:PS X st t):PSs X [st] t:=by
 intro pins s σ H D I h
 refine wpAny_execs_cons (thn (h1 pins s σ H D I h) fun f s1 q=>?_)
 cases f with
 | next=>exact wpAny_execs_nil q
 | ret v=>exact q
 | brk=>exact q
 | cont=>exact q
theorem Inv.quiet {pins:List (Addr × Obj)} {σ:St} {H:Hp} {s:Shared} (I:Inv X pins σ H s):interactive X.env = false:=by simp [interactive,I.ok.kind]
def tDrop (te:TE):TS:=fun D σ H=>te σ H fun _ H1=>D.nx σ H1
theorem aV (he:PE X e te) (hs:swapsWith e none pos.line X.env = pure false:=by rfl):PS X (.Expr e pos) (tDrop te):=by
 intro pins s σ H D I h
 exact wpAny_Expr_any (thn (he pins s σ H _ I h) fun v s1 ⟨x,H1,I1,r1,q1⟩=>⟨σ,H1,I1,q1⟩) I.quiet hs
def tRet (te:TE):TS:=fun D σ H=>te σ H D.rt
theorem aB (he:PE X e te):PS X (.Return (some e) pos) (tRet te):=by
 intro pins s σ H D I h
 exact wpAny_Return_some (thn (he pins s σ H _ I h) fun v s1 ⟨x,H1,I1,r1,q1⟩=>⟨x,σ,H1,I1,r1,q1⟩)
def tIfS (c:TT) (t u:TS):TS:=fun D σ H=>c σ H fun b H1=>if b = true then t D σ H1 else u D σ H1
theorem aK {c:Expr} {a b:List Stmt} {tc:TT} (hc:PT X c tc) (ha:PSs X a t) (hb:PSs X b u):PS X (.If c a b pos) (tIfS tc t u):=by
 intro pins s σ H D I h
 refine wpAny_If (thn (hc pins s σ H _ I h) fun d s1 ⟨H1,I1,q1⟩=>?_)
 cases d with
 | true=>exact ha pins s1 σ H1 D I1 q1
 | false=>exact hb pins s1 σ H1 D I1 q1
def tNever:TS:=fun _ _ _=>False
theorem aZ {sts:List Stmt}:PSs X sts tNever:=fun _ _ _ _ _ _ h=>h.elim
end
abbrev TG:=V->St->Hp->(St->Hp->Prop)->Prop
abbrev TGs:=List V->St->Hp->(St->Hp->Prop)->Prop
def PG (X:Cx) (target:Expr) (t:TG):Prop :=
 ∀ (pins:List (Addr × Obj)) (s:Shared) (σ:St) (H:Hp) (v:V) (u:Value) (Q:St->Hp->Prop),Inv X pins σ H s->RelV v u->t v σ H Q ->
  wpAny (model X.prog X.w) X.A (assign target X.env u) (fun _ s'=>∃ σ' H',Inv X pins σ' H' s'/\Q σ' H') X.xe s
def PGs (X:Cx) (ts:List Expr) (t:TGs):Prop :=
 ∀ (pins:List (Addr × Obj)) (s:Shared) (σ:St) (H:Hp) (vs:List V) (us:List Value) (Q:St->Hp->Prop),Inv X pins σ H s->Vals vs us->t vs σ H Q ->
  wpAny (model X.prog X.w) X.A (assignInOrder ((assignEach ts X.env).map (·.2)) us) (fun _ s'=>∃ σ' H',Inv X pins σ' H' s'/\Q σ' H') X.xe s
abbrev TSet:=V->V->V->Hp->(Hp->Prop)->Prop
def PSet (X:Cx) (t:TSet):Prop :=
 ∀ (pins:List (Addr × Obj)) (s:Shared) (σ:St) (H:Hp) (o i v:V) (ov iv u:Value) (Q:Hp->Prop),Inv X pins σ H s->RelV o ov->RelV i iv->RelV v u->t o i v H Q ->
  wpAny (model X.prog X.w) X.A (setItem ov iv u) (fun _ s'=>∃ H',Inv X pins σ H' s'/\Q H') X.xe s
section
variable {X:Cx} {pos:Pos}
def oy (i:Nat):TG:=fun v σ H Q=>Q (σ.set i (some v)) H
theorem bu {i:Nat} {x:Str} (hN:X.N.Nodup) (hi:X.N[i]? = some x) (hx:Loc X.env.scope x) (hf:X.fn x = true\/X.env.scope.names.lookup x = some .local:=by first | exact .inl rfl | exact .inr rfl | assumption):PG X (.Name x pos) (oy i):=by
 intro pins s σ H v u Q I r h
 exact wpAny_assign_Name (gh I hN hi hx r (fun s' I'=>⟨_,H,I',h⟩) hf)
def gNil:TGs:=fun vs σ H Q=>vs = []/\Q σ H
def gCons (t:TG) (u:TGs):TGs:=fun vs σ H Q=>∃ v r,vs = v :: r/\t v σ H fun σ' H'=>u r σ' H' Q
theorem pgs_nil:PGs X [] gNil:=by
 intro pins s σ H vs us Q I r h
 obtain ⟨e,h⟩:=h
 subst e
 cases r
 exact assignInOrder_nil ⟨σ,H,I,h⟩
theorem nc {e:Expr} {es:List Expr} {t:TG} {u:TGs} (h1:PG X e t) (h2:PGs X es u)
  (hs:(assignEach (e :: es) X.env).map (·.2) = assign e X.env :: (assignEach es X.env).map (·.2):=by rfl):PGs X (e :: es) (gCons t u):=by
 intro pins s σ H vs us Q I r h
 obtain ⟨v,vr,e1,h⟩:=h
 subst e1
 cases r with
 | cons r rr =>
  rw [hs]
  refine assignInOrder_cons (thn (h1 pins s σ H _ _ _ I r h) fun _ s1 ⟨σ1,H1,I1,q1⟩=>?_)
  exact h2 pins s1 σ1 H1 _ _ Q I1 rr q1
def gTup (K:Frag) (n:Nat) (t:TGs):TG:=fun v σ H Q=>∃ a xs,v = .ref a/\SqT K H a xs/\xs.length = n/\t xs σ H Q
theorem pg_tup {es:List Expr} {k:Nat} {t:TGs} {n:Nat} (hc:X.calm = true) (h:PGs X es t)
  (hn:(assignEach es X.env).length = n:=by rfl) (hst:(assignEach es X.env).findIdx? (·.1) = none:=by rfl):PG X (.Tuple es k pos) (gTup X.K n t):=by
 intro pins s σ H v u Q I r hw
 obtain ⟨a,xs,e1,hq,hl,hw⟩:=hw
 subst e1
 cases r
 obtain ⟨its,rv,ht,hz⟩:=I.tuple hq
 refine assign_Tuple_tuple (I.ok.hd hc) ht (by simp [hn,<- hl,rv.length]) hst fun h' hx=>?_
 have I1:Inv X pins σ H { s with heap:=h' }:=I.kept (t':=s.toks) fun b o e=>hx b o (Nat.ne_of_lt (Heap.lt_size e)) e
 exact h pins _ σ H xs _ Q I1 (by simpa using rv) hw
def gSub (to ti:TE) (t:TSet):TG:=fun v σ H Q=>to σ H fun o H1=>ti σ H1 fun i H2=>t o i v H2 fun H3=>Q σ H3
theorem kG {o i:Expr} {to ti:TE} {t:TSet} (ho:PE X o to) (hi:PE X i ti) (hs:PSet X t)
  (ha:∀ v,assign (.Subscript o i pos) X.env v = (do
   let ov <- holding [v] (eval o X.env)
   let iv <- holding [v,ov] (eval i X.env)
   standAt pos
   holding [v,ov,iv] (setItem ov iv v)
   release [v,ov,iv] []):=by intro _; rfl):PG X (.Subscript o i pos) (gSub to ti t):=by
 intro pins s σ H v u Q I r h
 rw [ha]
 refine wpAny_bind (wpAny_holding (thn (ho pins s σ H _ I h) fun ov s1 ⟨x,H1,I1,r1,q1⟩=>?_))
 refine wpAny_bind (wpAny_holding (thn (hi pins s1 σ H1 _ I1 q1) fun iv s2 ⟨y,H2,I2,r2,q2⟩=>?_))
 refine wpAny_bind (wpAny_standAt (wpAny_bind (wpAny_holding (thn (hs pins s2 σ H2 x y v ov iv u _ I2 r1 r2 r q2) fun _ s3 ⟨H3,I3,q3⟩=>?_))))
 exact wpAny_release ⟨σ,H3,I3,q3⟩
def tAsg (te:TE) (g:TG):TS:=fun D σ H=>te σ H fun x H1=>g x σ H1 D.nx
theorem kb {tg e:Expr} {te:TE} {g:TG} (he:PE X e te) (hg:PG X tg g) (hs:swapsWithSole [tg] e pos.line X.env = pure false:=by rfl) (hw:swappedStores [tg] e X.env = pure none:=by rfl)
  (h1:(assignEach [tg] X.env).map (·.2) = [assign tg X.env]:=by rfl):PS X (.Assign [tg] e pos) (tAsg te g):=by
 intro pins s σ H D I h
 refine wpAny_Assign_stores (thn (he pins s σ H _ I h) fun v s1 ⟨x,H1,I1,r1,q1⟩=>?_) hs hw
 rw [h1]
 exact thn (hg pins s1 σ H1 x v _ I1 r1 q1) fun _ s2 q=>q
theorem ay {i:Nat} {x:Str} {e:Expr} {te:TE} {pos':Pos} (hN:X.N.Nodup) (hi:X.N[i]? = some x) (hx:Loc X.env.scope x) (he:PE X e te) (hs:swapsWith e (some (.Name x pos')) pos.line X.env = pure false:=by rfl) (hf:X.fn x = true\/X.env.scope.names.lookup x = some .local:=by first | exact .inl rfl | exact .inr rfl | assumption) :
  PS X (.Assign [.Name x pos'] e pos) (tAsg te (oy i)):=by
 intro pins s σ H D I h
 refine wpAny_Assign_Name (thn (he pins s σ H _ I h) fun v s1 ⟨y,H1,I1,r1,q1⟩=>?_) hs
 exact gh I1 hN hi hx r1 (fun s2 I2=>⟨_,H1,I2,q1⟩) hf
end
section
variable {X:Cx} {pos:Pos}
def tWhile (c:TT) (tb:TS):TS:=fun D σ H=>∃ W:Nat->St->Hp->Prop,(∃ m,W m σ H)/\∀ m σ H,W m σ H ->
 c σ H fun b H1=>if b = true then ∃ N:St->Hp->Prop,(∀ σ' H',N σ' H'->∃ m',m' < m/\W m' σ' H')/\tb { D with nx:=N,ct:=N,bk:=D.nx } σ H1 else D.nx σ H1
theorem mR {c:Expr} {body:List Stmt} {tc:TT} {tb:TS} (hp:PassesOwn (model X.prog X.w) X.A X.env X.xe) (hc:PT X c tc) (hb:PSs X body tb):PS X (.While c body [] pos) (tWhile tc tb):=by
 intro pins s σ H D I h
 obtain ⟨W,⟨m0,w0⟩,turn⟩:=h
 refine wpAny_While (codeAny_whileLoop (fun n s'=>∃ σ' H',Inv X pins σ' H' s'/\W n σ' H') ?_ m0 ⟨σ,H,I,w0⟩)
 rintro n s1 ⟨σ1,H1,I1,w1⟩
 refine wpAny_passesOwn hp (thn (hc pins s1 σ1 H1 _ I1 (turn n σ1 H1 w1)) fun b s2 ⟨H2,I2,q2⟩=>?_)
 cases b with
 | true =>
  obtain ⟨N,hN,q2⟩:=q2
  rw [if_pos rfl]
  refine wpAny_passesOwn hp (thn (hb pins s2 σ1 H2 _ I2 q2) fun f s3 q3=>?_)
  cases f with
  | next =>
   obtain ⟨σ3,H3,I3,n3⟩:=q3
   obtain ⟨m',hm,w3⟩:=hN σ3 H3 n3
   exact ⟨m',hm,σ3,H3,I3,w3⟩
  | cont =>
   obtain ⟨σ3,H3,I3,n3⟩:=q3
   obtain ⟨m',hm,w3⟩:=hN σ3 H3 n3
   exact ⟨m',hm,σ3,H3,I3,w3⟩
  | brk=>exact q3
  | ret v=>exact q3
 | false =>
  rw [if_neg Bool.false_ne_true]
  exact wpAny_execs_nil ⟨σ1,H2,I2,q2⟩
end
structure It where
 go:Nat->Hp->Prop
 yld:Nat->Hp->V->Hp->Prop
 stop:Nat->Hp->Prop
def FpOk (X:Cx) (pins:List (Addr × Obj)) (H:Hp) (b:Addr):Prop :=
 H b = none/\b ≠ X.env.locals/\b ∉ X.fs/\(b ∈ X.ex\/X.s₀.heap.objs.size<=b)/\(∀ x c,X.env.cells.lookup x = some c->c ≠ b)/\∀ p ∈ X.pn ++ pins,p.1 ≠ b
theorem Inv.fpOk {X:Cx} {pins:List (Addr × Obj)} {σ:St} {H H':Hp} {s:Shared} {b:Addr} (I:Inv X pins σ H s) (hb:s.heap.objs.size<=b) (hn:H' b = none):FpOk X pins H' b:=by
 refine ⟨hn,Nat.ne_of_gt (Nat.lt_of_lt_of_le I.lt hb),I.nofs hb,.inr (Nat.le_trans I.sz hb),fun x c e z=>?_,fun p hp z=>?_⟩
 ·obtain ⟨v,q⟩:=I.cell x c e
  exact absurd (Nat.lt_of_lt_of_le q.lt (by rw [z]; exact hb)) (Nat.lt_irrefl _)
 ·exact absurd (Nat.lt_of_lt_of_le (Heap.lt_size (I.pin p hp).1) (by rw [z]; exact hb)) (Nat.lt_irrefl _)
structure Turn (P:Program) (w:World) (K:Frag) (tg:Expr) (J:It) (fp:List Addr) (it:Addr) (tn:Nat->Heap->Prop):Prop where
 mem:it ∈ fp
 obj:∀ i h,tn i h->∀ b ∈ fp,∃ o,h.get? b = some o/\∀ v,o.data ≠ .cell v
 keep:∀ i h h',tn i h->(∀ b ∈ fp,∀ o,h.get? b = some o->h'.get? b = some o)->tn i h'
 item:∀ (X:Cx),X.prog = P->X.w = w->X.K = K->X.calm = true->∀ (i:Nat) (pins:List (Addr × Obj)) (s:Shared) (σ:St) (H:Hp) (E:Value->Shared->Prop),Inv X pins σ H s->(∀ b ∈ fp,FpOk X pins H b)->tn i s.heap->J.go i H ->
  wpAny (model P w) X.A (pyNext (.ref it)) (fun r s1=>∃ u,r = some u /\
   wpAny (model P w) X.A (letOwnedTupleGo tg (.ref it) u) (fun _ s2=>∃ x H',Inv X pins σ H' s2/\RelV x u/\J.yld i H x H'/\tn (i + 1) s2.heap/\∀ b ∈ fp,H' b = none) E s1) E s
 done:∀ (X:Cx),X.prog = P->X.w = w->X.K = K->X.calm = true->∀ (i:Nat) (pins:List (Addr × Obj)) (s:Shared) (σ:St) (H:Hp) (E:Value->Shared->Prop),Inv X pins σ H s->(∀ b ∈ fp,FpOk X pins H b)->tn i s.heap->J.stop i H ->
  wpAny (model P w) X.A (pyNext (.ref it)) (fun r s1=>r = none/\Inv X pins σ H s1) E s
 self:∀ (A:Around) (i:Nat) (s:Shared) (Q:Value->Shared->Prop) (E:Value->Shared->Prop),tn i s.heap->Q (.ref it) s->wpAny (model P w) A (pyIter (.ref it)) Q E s
abbrev TI:=St->Hp->(It->Hp->Prop)->Prop
def PIE (X:Cx) (pins:List (Addr × Obj)) (σ:St) (tg:Expr) (R:It->Hp->Prop) (itv:Value) (s2:Shared):Prop :=
 ∃ (it:Addr) (fp:List Addr) (tn:Nat->Heap->Prop) (J:It) (H':Hp),itv = .ref it/\Inv X pins σ H' s2/\Turn X.prog X.w X.K tg J fp it tn/\tn 0 s2.heap/\(∀ b ∈ fp,FpOk X pins H' b)/\R J H'
def PI (X:Cx) (tg iter:Expr) (wi:TI):Prop :=
 ∀ (pins:List (Addr × Obj)) (s:Shared) (σ:St) (H:Hp) (R:It->Hp->Prop),Inv X pins σ H s->wi σ H R ->
  wpAny (model X.prog X.w) X.A (eval iter X.env) (fun v s1=>wpAny (model X.prog X.w) X.A (pyIter v) (PIE X pins σ tg R) X.xe s1) X.xe s
theorem go_of {M:Model} {A:Around} {E:Value->Shared->Prop} {s:Shared} {tg:Expr} {it:Addr} {u:Value} {o:Obj} {n:String} {vs:Array Value} {Q:Unit->Shared->Prop} (ho:s.heap.get? it = some o) (hc:o.cls = .type n) (hd:o.data = .fields vs)
  (hn:["enumerate", "zip", "dict_itemiterator", "dict_reverseitemiterator", "odict_iterator", "itertools.zip_longest", "itertools.pairwise"].contains n = false) (hQ:Q () s):wpAny M A (letOwnedTupleGo tg (.ref it) u) Q E s:=by
 unfold letOwnedTupleGo
 cases tg <;> first
  | exact wpAny_pure hQ
  | (cases u <;> first
    | exact wpAny_pure hQ
    | (refine wpAny_bind (wpAny_load ho ?_)
       rw [hc,hd]
       show wpAny M A (if (["enumerate", "zip", "dict_itemiterator", "dict_reverseitemiterator", "odict_iterator", "itertools.zip_longest", "itertools.pairwise"].contains n && vs[0]? == some (rawInt _)) = true then _ else _) Q E s
       rw [if_neg (by intro h; rw [hn,Bool.false_and] at h; cases h)]
       exact wpAny_pure hQ))
def Itl (K:Frag) (a:Addr):It :=
 ⟨fun i H=>∃ xs x,SqL K H a xs/\xs[i]? = some x,fun i H x H'=>H' = H/\∀ xs,SqL K H a xs->xs[i]? = some x,fun i H=>∃ xs,SqL K H a xs/\xs.length<=i⟩
def Itr (lo:Int) (n:Nat):It:=⟨fun i _=>i < n,fun i H x H'=>H' = H/\x = .int (lo + i),fun i _=>n<=i⟩
theorem pe {P:Program} {w:World} {K:Frag} {tg:Expr} (a it:Addr):Turn P w K tg (Itl K a) [it] it (fun i h=>h.IsListIter it a i) where
 mem:=by simp
 obj:=fun i h st b hb=>by
  have e:b = it:=by simpa using hb
  subst e
  obtain ⟨o,e,c,d⟩:=st
  exact ⟨o,e,fun v z=>by rw [d] at z; cases z⟩
 keep:=fun i h h' st k=>st.at fun o e=>k it (by simp) o e
 item:=by
  intro X hP hw hK hc i pins s σ H E I hf st hg
  subst hP hw hK
  obtain ⟨xs,x,hq,hx⟩:=hg
  obtain ⟨its,rv,p,hz⟩:=I.list hq
  obtain ⟨u,hu,ru⟩:=rv.get hx
  obtain ⟨f0,f1,f2,f3,f4,f5⟩:=hf it (by simp)
  refine wpAny_pyNext_list_item st p.isList (x:=u) (by simpa using hu) fun h' st' sb=>?_
  have I1:Inv X pins σ H { s with heap:=h' }:=I.turned (t':=s.toks) (fun b o hb e=>(sb.2 b hb).trans e) f0 f1 f3 f4 f5
  obtain ⟨o,e,c,d⟩:=id st'
  exact ⟨u,rfl,go_of (s:={ s with heap:=h' }) e c d (by decide) ⟨x,H,I1,ru,⟨rfl,fun ys hy=>by rw [I.list_inj hy hq]; exact hx⟩,st',fun b hb=>(hf b hb).1⟩⟩
 done:=by
  intro X hP hw hK hc i pins s σ H E I hf st hg
  subst hP hw hK
  obtain ⟨xs,hq,hx⟩:=hg
  obtain ⟨its,rv,p,hz⟩:=I.list hq
  obtain ⟨f0,f1,f2,f3,f4,f5⟩:=hf it (by simp)
  have hl:=rv.length
  exact wpAny_pyNext_list_end (I.ok.hd hc) st p.isList (by simp; omega) fun h' eb=>⟨rfl,I.turned (t':=s.toks) (fun b o hb e=>eb b o hb e) f0 f1 f3 f4 f5⟩
 self:=fun _ _ _ _ _ st h=>wpAny_pyIter_listiter st h
theorem nZ {P:Program} {w:World} {K:Frag} {tg:Expr} (it:Addr) (lo:Int) (n:Nat):Turn P w K tg (Itr lo n) [it] it (fun i h=>IsRangeIter h it (lo + (i:Nat) * 1) ((n:Int) - (i:Nat)) 1) where
 mem:=by simp
 obj:=fun i h st b hb=>by
  have e:b = it:=by simpa using hb
  subst e
  exact ⟨_,st,fun v z=>by
   have z':Data.fields _ = Data.cell v:=z
   cases z'⟩
 keep:=fun i h h' st k=>k it (by simp) _ st
 item:=by
  intro X hP hw hK hc i pins s σ H E I hf st hg
  subst hP hw hK
  obtain ⟨f0,f1,f2,f3,f4,f5⟩:=hf it (by simp)
  have W:=Walks.range (prog:=X.prog) (w:=X.w) (I.ok.hd hc) it lo 1 n
  refine W.item i s _ _ hg st fun v h' tk hv st' kk=>?_
  obtain ⟨t,rfl⟩:=hv
  have I1:Inv X pins σ H { s with heap:=h',toks:=tk }:=I.turned (fun b o hb e=>kk b o (by simpa using hb) e) f0 f1 f3 f4 f5
  refine ⟨_,rfl,go_of (s:={ s with heap:=h',toks:=tk }) (n:="range_iterator") st' rfl rfl (by decide) ⟨.int (lo + i),H,I1,⟨t,?_⟩,⟨rfl,rfl⟩,st',fun b hb=>(hf b hb).1⟩⟩
  rw [Int.mul_one]
 done:=by
  intro X hP hw hK hc i pins s σ H E I hf st hg
  subst hP hw hK
  obtain ⟨f0,f1,f2,f3,f4,f5⟩:=hf it (by simp)
  exact wpAny_pyNext_range_end (I.ok.hd hc) st (by have:n<=i:=hg; omega) fun h' eb=>⟨rfl,I.turned (t':=s.toks) (fun b o hb e=>eb b o hb e) f0 f1 f3 f4 f5⟩
 self:=fun _ _ _ _ _ st h=>wpAny_pyIter_rangeiter st h
end L2
namespace L2
open PySem PySem.Spec PyProof.Rows
section
variable {X:Cx} {tg:Expr}
def iList (K:Frag) (tl:TE):TI:=fun σ H R=>tl σ H fun x H1=>∃ a,x = .ref a/\(∃ xs,SqL K H1 a xs)/\R (Itl K a) H1
theorem bF {l:Expr} {tl:TE} (hl:PE X l tl):PI X tg l (iList X.K tl):=by
 intro pins s σ H R I h
 refine thn (hl pins s σ H _ I h) fun v s1 ⟨x,H1,I1,r1,q1⟩=>?_
 obtain ⟨a,e,⟨xs,hq⟩,q⟩:=q1
 subst e
 cases r1
 obtain ⟨its,rv,p,hz⟩:=I1.list hq
 refine wpAny_pyIter_list p.isList ?_
 refine ⟨s1.heap.objs.size,[s1.heap.objs.size],_,_,H1,rfl,I1.kept (t':=s1.toks) fun b o e=>Heap.get?_push_of_some _ e,pe a _,⟨_,Heap.get?_push_size _ rfl,rfl,rfl⟩,fun b hb=>?_,q⟩
 have e:b = s1.heap.objs.size:=by simpa using hb
 subst e
 exact I1.fpOk (Nat.le_refl _) (I1.hok.fresh (Nat.le_refl _))
theorem mQ {pins:List (Addr × Obj)} {σ:St} {H:Hp} {s:Shared} {R:It->Hp->Prop} {E:Value->Shared->Prop} {lo hi:Int} {t u v:Tok} {tk:Nat} (I:Inv X pins σ H s) (h1:-(2 ^ 62)<=lo) (h2:lo < 2 ^ 62) (h3:-(2 ^ 62)<=hi) (h4:hi < 2 ^ 62)
  (q:R (Itr lo (hi - lo).toNat) H):wpAny (model X.prog X.w) X.A (pyIter (.ref s.heap.objs.size)) (PIE X pins σ tg R) E { s with heap:=s.heap.push { cls:=.type "range",data:=.fields #[.int lo t,.int hi u,.int 1 v] },toks:=tk }:=by
 refine wpAny_pyIter_range (IsRange.new ..) (small_one h1 h2 h3 h4) ?_
 have I1:Inv X pins σ H { s with heap:=s.heap.push { cls:=.type "range",data:=.fields #[.int lo t,.int hi u,.int 1 v] },toks:=tk }:=I.kept fun b o e=>Heap.get?_push_of_some _ e
 refine ⟨(s.heap.push { cls:=.type "range",data:=.fields #[.int lo t,.int hi u,.int 1 v] }).objs.size,[(s.heap.push { cls:=.type "range",data:=.fields #[.int lo t,.int hi u,.int 1 v] }).objs.size],_,_,H,rfl,
  I1.kept (t':=tk) fun b o e=>Heap.get?_push_of_some _ e,nZ _ lo (hi - lo).toNat,?_,fun b hb=>?_,q⟩
 ·have e1:lo + ((0:Nat):Int) * 1 = lo:=by simp
  have e2:(((hi - lo).toNat:Nat):Int) - ((0:Nat):Int) = Builtin.Range.rangeSize lo hi 1:=by rw [rangeSize_one]; split <;> omega
  show IsRangeIter _ _ (lo + ((0:Nat):Int) * 1) ((((hi - lo).toNat:Nat):Int) - ((0:Nat):Int)) 1
  rw [e1,e2]
  exact Heap.get?_push_size _ rfl
 ·have e:b = (s.heap.push { cls:=.type "range",data:=.fields #[.int lo t,.int hi u,.int 1 v] }).objs.size:=by simpa using hb
  subst e
  exact I1.fpOk (Nat.le_refl _) (I1.hok.fresh (Nat.le_refl _))
def iRng1 (ta:TA):TI:=fun σ H R=>ta σ H fun vs H1=>∃ j:Int,vs = [.int j]/\-(2 ^ 62)<=j/\j < 2 ^ 62/\R (Itr 0 j.toNat) H1
def iRng2 (ta:TA):TI:=fun σ H R=>ta σ H fun vs H1=>∃ i j:Int,vs = [.int i,.int j]/\(-(2 ^ 62)<=i/\i < 2 ^ 62/\-(2 ^ 62)<=j/\j < 2 ^ 62)/\R (Itr i (j - i).toNat) H1
theorem fR {a:Expr} {ta:TA} {p pos:Pos} (hg:Gl X "range") (hm:X.mg "range" = none) (ha:PA X [a] ta) (hs:starEach [a] X.env = [(false,eval a X.env)]:=by rfl):PI X tg (.Call (.Name "range" p) [a] [] pos) (iRng1 ta):=by
 intro pins s σ H R I h
 refine Call_ (iA I hg hm boot_range (PyProof.Rows.callWith_type1 (thn (ha pos pins s σ H _ I h) fun us s1 ⟨vs,H1,I1,r1,q1⟩=>?_) hs rfl))
 obtain ⟨j,e,q1,q2,q⟩:=q1
 subst e
 cases r1 with
 | cons r rr =>
  cases rr
  obtain ⟨t,rfl⟩:=r
  exact call_range_1 (mQ I1 (by omega) (by omega) q1 q2 (by simpa using q))
theorem qL {a b:Expr} {ta:TA} {p pos:Pos} (hg:Gl X "range") (hm:X.mg "range" = none) (ha:PA X [a,b] ta) (hs:starEach [a,b] X.env = [(false,eval a X.env),(false,eval b X.env)]:=by rfl) (hs2:starEach [b] X.env = [(false,eval b X.env)]:=by rfl) :
  PI X tg (.Call (.Name "range" p) [a,b] [] pos) (iRng2 ta):=by
 intro pins s σ H R I h
 refine Call_ (iA I hg hm boot_range (PyProof.Rows.callWith_type1 (thn (ha pos pins s σ H _ I h) fun us s1 ⟨vs,H1,I1,r1,q1⟩=>?_) (by rw [hs,hs2]) (by rw [hs2]; rfl)))
 obtain ⟨i,j,e,⟨q1,q2,q3,q4⟩,q⟩:=q1
 subst e
 cases r1 with
 | cons r rr =>
  cases rr with
  | cons r' rr =>
   cases rr
   obtain ⟨t,rfl⟩:=r
   obtain ⟨t',rfl⟩:=r'
   exact call_range_2 (mQ I1 q1 q2 q3 q4 q)
def tFor (wi:TI) (g:TG) (tb:TS):TS:=fun D σ H=>wi σ H fun J H1=>∃ W:Nat->Nat->St->Hp->Prop,(∃ m,W 0 m σ H1)/\∀ i m σ H,W i m σ H ->
 (J.stop i H/\D.nx σ H)\/(J.go i H/\∃ N:St->Hp->Prop,(∀ σ' H',N σ' H'->∃ m',m' < m/\W (i + 1) m' σ' H')/\∀ x H',J.yld i H x H'->g x σ H' fun σ2 H2=>tb { D with nx:=N,ct:=N,bk:=D.nx } σ2 H2)
def kh (fp:List Addr) (h:Heap):List (Addr × Obj):=fp.filterMap fun b=>(h.get? b).map fun o=>(b,o)
theorem bH {fp:List Addr} {h:Heap} {b:Addr} {o:Obj} (hb:b ∈ fp) (e:h.get? b = some o):(b,o) ∈ kh fp h:=List.mem_filterMap.mpr ⟨b,hb,by rw [e]; rfl⟩
theorem oP {fp:List Addr} {h:Heap} {p:Addr × Obj} (hp:p ∈ kh fp h):p.1 ∈ fp/\h.get? p.1 = some p.2:=by
 obtain ⟨b,hb,e⟩:=List.mem_filterMap.mp hp
 cases q:h.get? b with
 | none=>rw [q] at e; cases e
 | some o =>
  rw [q] at e
  have e':(b,o) = p:=Option.some.inj e
  subst e'
  exact ⟨hb,q⟩
theorem Inv.pinned {pins:List (Addr × Obj)} {σ:St} {H:Hp} {s:Shared} {fp:List Addr} (I:Inv X pins σ H s) (hf:∀ b ∈ fp,FpOk X pins H b) (ho:∀ b ∈ fp,∃ o,s.heap.get? b = some o/\∀ v,o.data ≠ .cell v):Inv X (pins ++ kh fp s.heap) σ H s :=
 I.pins_of fun p hp=>(List.mem_append.mp hp).elim (fun z=>I.pin p (List.mem_append_right _ z)) fun z=>by
  obtain ⟨hb,e⟩:=oP z
  obtain ⟨f0,f1,f2,_⟩:=hf p.1 hb
  obtain ⟨o,e',d⟩:=ho p.1 hb
  rw [e] at e'; cases e'
  exact ⟨e,f0,f1,f2,d⟩
theorem Inv.unpinned {pins pl:List (Addr × Obj)} {σ:St} {H:Hp} {s:Shared} (I:Inv X (pins ++ pl) σ H s):Inv X pins σ H s:=I.pins_of fun p hp=>I.pin p (List.mem_append_right _ (List.mem_append_left _ hp))
theorem cU {iter:Expr} {body:List Stmt} {wi:TI} {g:TG} {tb:TS} {pos:Pos} (hp:PassesOwn (model X.prog X.w) X.A X.env X.xe) (hc:X.calm = true) (hi:PI X tg iter wi) (hg:PG X tg g) (hb:PSs X body tb)
  (hs:∀ x,foldedSetIterable iter X.env x = pure x:=by intro _; rfl):PS X (.For tg iter body [] pos) (tFor wi g tb):=by
 intro pins s σ H D I h
 refine wpAny_For (thn (hi pins s σ H _ I h) fun v s1 h1=>thn h1 fun itv s2 h2=>?_) hs
 obtain ⟨it,fp,tn,J,H2,e,I2,T,st2,f2,W,⟨m0,w0⟩,turn⟩:=h2
 subst e
 have stat:∀ {H':Hp},(∀ b ∈ fp,H' b = none)->∀ b ∈ fp,FpOk X pins H' b:=fun hn b hb=>⟨hn b hb,(f2 b hb).2⟩
 refine codeAny_forLoop_any (fun n s'=>∃ i σ' H',Inv X pins σ' H' s'/\tn i s'.heap/\(∀ b ∈ fp,H' b = none)/\W i n σ' H') ?_ m0 ⟨0,σ,H2,I2,st2,fun b hb=>(f2 b hb).1,w0⟩
 rintro n s3 ⟨i,σ3,H3,I3,st3,fr3,w3⟩
 rcases turn i n σ3 H3 w3 with ⟨stop,qn⟩ | ⟨go,N,hN,step⟩
 ·refine wpAny_passesOwn hp (thn (T.done X rfl rfl rfl hc i pins s3 σ3 H3 X.xe I3 (stat fr3) st3 stop) fun r s4 ⟨hr,I4⟩=>?_)
  subst hr
  exact wpAny_execs_nil ⟨σ3,H3,I4,qn⟩
 ·refine wpAny_passesOwn hp (thn (T.item X rfl rfl rfl hc i pins s3 σ3 H3 X.xe I3 (stat fr3) st3 go) fun r s4 ⟨u,hr,h4⟩=>?_)
  subst hr
  refine wpAny_passesOwn hp (thn h4 fun _ s5 ⟨x,H5,I5,r5,y5,st5,fr5⟩=>?_)
  have I5':=I5.pinned (stat fr5) (T.obj _ _ st5)
  refine wpAny_passesOwn hp (thn (hg _ s5 σ3 H5 x u _ I5' r5 (step x H5 y5)) fun _ s6 ⟨σ6,H6,I6,q6⟩=>?_)
  refine wpAny_passesOwn hp (thn (hb _ s6 σ6 H6 _ I6 q6) fun f s7 q7=>?_)
  have again:∀ {σ7:St} {H7:Hp},Inv X (pins ++ kh fp s5.heap) σ7 H7 s7->N σ7 H7->∃ m,m < n/\∃ i σ' H',Inv X pins σ' H' s7/\tn i s7.heap/\(∀ b ∈ fp,H' b = none)/\W i m σ' H':=fun {σ7 H7} I7 n7=>by
   obtain ⟨m',hm,w7⟩:=hN σ7 H7 n7
   refine ⟨m',hm,i + 1,σ7,H7,I7.unpinned,T.keep _ _ _ st5 fun b hb o e=>(I7.pin (b,o) (List.mem_append_right _ (List.mem_append_right _ (bH hb e)))).1,fun b hb=>?_,w7⟩
   obtain ⟨o,e,d⟩:=T.obj _ _ st5 b hb
   exact (I7.pin (b,o) (List.mem_append_right _ (List.mem_append_right _ (bH hb e)))).2.1
  cases f with
  | next=>obtain ⟨σ7,H7,I7,n7⟩:=q7; exact again I7 n7
  | cont=>obtain ⟨σ7,H7,I7,n7⟩:=q7; exact again I7 n7
  | brk=>obtain ⟨σ7,H7,I7,q7⟩:=q7; exact ⟨σ7,H7,I7.unpinned,q7⟩
  | ret v=>obtain ⟨x7,σ7,H7,I7,r7,q7⟩:=q7; exact ⟨x7,σ7,H7,I7.unpinned,r7,q7⟩
end
theorem cL {K:Frag} {a:Addr} {xs:List V} {g:TG} {tb:TS} {D:Ends} {σ:St} {H:Hp} (Pv:Nat->St->Hp->Prop) (h0:Pv 0 σ H) (hl:∀ i σ H,i<=xs.length->Pv i σ H->SqL K H a xs)
  (hs:∀ i x σ H,xs[i]? = some x->Pv i σ H->g x σ H fun σ2 H2=>tb { D with nx:=Pv (i + 1),ct:=Pv (i + 1),bk:=D.nx } σ2 H2) (hd:∀ σ H,Pv xs.length σ H->D.nx σ H) :
  ∃ W:Nat->Nat->St->Hp->Prop,(∃ m,W 0 m σ H)/\∀ i m σ H,W i m σ H ->
   ((Itl K a).stop i H/\D.nx σ H)\/((Itl K a).go i H/\∃ N:St->Hp->Prop,(∀ σ' H',N σ' H'->∃ m',m' < m/\W (i + 1) m' σ' H')/\∀ x H',(Itl K a).yld i H x H'->g x σ H' fun σ2 H2=>tb { D with nx:=N,ct:=N,bk:=D.nx } σ2 H2):=by
 refine ⟨fun i m σ H=>m = xs.length - i/\i<=xs.length/\Pv i σ H,⟨xs.length,by simp,Nat.zero_le _,h0⟩,?_⟩
 rintro i m σ H ⟨rfl,hi,p⟩
 have q:=hl i σ H hi p
 by_cases hlt:i < xs.length
 ·refine .inr ⟨⟨xs,xs[i],q,by simp [hlt]⟩,Pv (i + 1),fun σ' H' p'=>⟨xs.length - (i + 1),by omega,rfl,hlt,p'⟩,fun x H' y=>?_⟩
  obtain ⟨e,y⟩:=y
  subst e
  exact hs i x σ _ (y xs q) p
 ·have e:i = xs.length:=by omega
  subst e
  exact .inl ⟨⟨xs,q,Nat.le_refl _⟩,hd σ H p⟩
theorem iZ {lo:Int} {n:Nat} {g:TG} {tb:TS} {D:Ends} {σ:St} {H:Hp} (Pv:Nat->St->Hp->Prop) (h0:Pv 0 σ H)
  (hs:∀ i σ H,i < n->Pv i σ H->g (.int (lo + i)) σ H fun σ2 H2=>tb { D with nx:=Pv (i + 1),ct:=Pv (i + 1),bk:=D.nx } σ2 H2) (hd:∀ σ H,Pv n σ H->D.nx σ H) :
  ∃ W:Nat->Nat->St->Hp->Prop,(∃ m,W 0 m σ H)/\∀ i m σ H,W i m σ H ->
   ((Itr lo n).stop i H/\D.nx σ H)\/((Itr lo n).go i H/\∃ N:St->Hp->Prop,(∀ σ' H',N σ' H'->∃ m',m' < m/\W (i + 1) m' σ' H')/\∀ x H',(Itr lo n).yld i H x H'->g x σ H' fun σ2 H2=>tb { D with nx:=N,ct:=N,bk:=D.nx } σ2 H2):=by
 refine ⟨fun i m σ H=>m = n - i/\i<=n/\Pv i σ H,⟨n,by simp,Nat.zero_le _,h0⟩,?_⟩
 rintro i m σ H ⟨rfl,hi,p⟩
 by_cases hlt:i < n
 ·refine .inr ⟨hlt,Pv (i + 1),fun σ' H' p'=>⟨n - (i + 1),by omega,rfl,hlt,p'⟩,fun x H' y=>?_⟩
  obtain ⟨e,y⟩:=y
  subst e y
  exact hs i σ _ hlt p
 ·have e:i = n:=by omega
  subst e
  exact .inl ⟨Nat.le_refl _,hd σ H p⟩
theorem mT {c:TT} {tb:TS} {D:Ends} {σ:St} {H:Hp} (Pv:St->Hp->Prop) (μ:St->Hp->Nat) (h0:Pv σ H)
  (hs:∀ σ H,Pv σ H->c σ H fun b H1=>if b = true then tb { D with nx:=fun σ' H'=>Pv σ' H'/\μ σ' H' < μ σ H,ct:=fun σ' H'=>Pv σ' H'/\μ σ' H' < μ σ H,bk:=D.nx } σ H1 else D.nx σ H1)
  (mono:∀ σ H Q Q',(∀ b H1,Q b H1->Q' b H1)->c σ H Q->c σ H Q'):tWhile c tb D σ H:=by
 refine ⟨fun m σ H=>m = μ σ H/\Pv σ H,⟨_,rfl,h0⟩,?_⟩
 rintro m σ H ⟨rfl,p⟩
 refine mono σ H _ _ (fun b H1 q=>?_) (hs σ H p)
 cases b with
 | true=>exact ⟨_,fun σ' H' ⟨p',l⟩=>⟨_,l,rfl,p'⟩,q⟩
 | false=>exact q
end L2
namespace L2
open PySem PySem.Spec PyProof.Rows
abbrev R2:=V->V->Hp->VK->Prop
def OpR (X:Cx) (f:Value->Value->Sem Value) (r:R2):Prop :=
 ∀ (pins:List (Addr × Obj)) (s:Shared) (σ:St) (H:Hp) (x y:V) (v u:Value) (Q:VK),Inv X pins σ H s->RelV x v->RelV y u->r x y H Q ->
  wpAny (model X.prog X.w) X.A (f v u) (EP X pins σ Q) X.xe s
def UnR (X:Cx) (f:Value->Sem Value) (r:V->Hp->VK->Prop):Prop :=
 ∀ (pins:List (Addr × Obj)) (s:Shared) (σ:St) (H:Hp) (x:V) (v:Value) (Q:VK),Inv X pins σ H s->RelV x v->r x H Q ->
  wpAny (model X.prog X.w) X.A (f v) (EP X pins σ Q) X.xe s
def gq (X:Cx) (f:Value) (r:List V->Hp->VK->Prop):Prop :=
 ∀ (pins:List (Addr × Obj)) (s:Shared) (σ:St) (H:Hp) (xs:List V) (us:List Value) (Q:VK),Inv X pins σ H s->Vals xs us->r xs H Q ->
  wpAny (model X.prog X.w) X.A (call f us) (EP X pins σ Q) X.xe s
def tOp (r:R2) (ta tb:TE):TE:=fun σ H Q=>ta σ H fun x H1=>tb σ H1 fun y H2=>r x y H2 Q
def tUn (r:V->Hp->VK->Prop) (ta:TE):TE:=fun σ H Q=>ta σ H fun x H1=>r x H1 Q
def rI (C:Int->Int->Prop) (g:Int->Int->V):R2:=fun x y H Q=>∃ i j,x = .int i/\y = .int j/\C i j/\Q (g i j) H
def rI0 (g:Int->Int->V):R2:=fun x y H Q=>∃ i j,x = .int i/\y = .int j/\Q (g i j) H
def rU (g:Int->V):V->Hp->VK->Prop:=fun x H Q=>∃ i,x = .int i/\Q (g i) H
section
variable {X:Cx} {a b c:Expr} {ta tb tc:TE} {pos:Pos}
theorem binT (ha:PE X a ta) (hb:PE X b tb) {pins:List (Addr × Obj)} {s:Shared} {σ:St} {H:Hp} {R:V->V->Hp->Prop} (I:Inv X pins σ H s)
  (h:ta σ H fun x H1=>tb σ H1 fun y H2=>R x y H2) {Q:Value->Shared->Prop} {f:Value->Value->Sem Value}
  (hf:∀ v u s2 x y H2,Inv X pins σ H2 s2->RelV x v->RelV y u->R x y H2->wpAny (model X.prog X.w) X.A (f v u) Q X.xe s2) :
  wpAny (model X.prog X.w) X.A (eval a X.env) (fun v s₁=>wpAny (model X.prog X.w) X.A (eval b X.env) (fun u s₂=>wpAny (model X.prog X.w) X.A (f v u) Q X.xe s₂) X.xe s₁) X.xe s:=by
 refine thn (ha pins s σ H _ I h) fun v s1 ⟨x,H1,I1,r1,q1⟩=>?_
 refine thn (hb pins s1 σ H1 _ I1 q1) fun u s2 ⟨y,H2,I2,r2,q2⟩=>?_
 exact hf v u s2 x y H2 I2 r1 r2 q2
theorem aA {op:Operator} {r:R2} (ho:OpR X (binaryOp op) r) (ha:PE X a ta) (hb:PE X b tb):PE X (.BinOp a op b pos) (tOp r ta tb):=by
 intro pins s σ H Q I h
 exact wpAny_BinOp (binT ha hb I h fun v u s2 x y H2 I2 rx ry q=>ho pins s2 σ H2 x y v u Q I2 rx ry q)
theorem jj {op:UnaryOp} {r:V->Hp->VK->Prop} (ho:UnR X (unaryOp op) r) (ha:PE X a ta):PE X (.UnaryOp op a pos) (tUn r ta):=by
 intro pins s σ H Q I h
 exact UnaryOp_ (thn (ha pins s σ H _ I h) fun v s1 ⟨x,H1,I1,r1,q1⟩=>ho pins s1 σ H1 x v Q I1 r1 q1)
theorem opI {f:Value->Value->Sem Value} {C:Int->Int->Prop} {g:Int->Int->Int}
  (rule:∀ (i j:Int) (t u:Tok) (s:Shared) (Q:Value->Shared->Prop) (E:Value->Shared->Prop),C i j->Q (.int (g i j) s.toks) { s with toks:=s.toks + 1 }->wpAny (model X.prog X.w) X.A (f (.int i t) (.int j u)) Q E s) :
  OpR X f (rI C fun i j=>.int (g i j)):=by
 intro pins s σ H x y v u Q I rx ry h
 obtain ⟨i,j,rfl,rfl,hc,q⟩:=h
 obtain ⟨t,rfl⟩:=rx
 obtain ⟨t',rfl⟩:=ry
 exact rule i j t t' s _ _ hc ⟨.int (g i j),H,I.tok _,⟨_,rfl⟩,q⟩
theorem opI0 {f:Value->Value->Sem Value} {g:Int->Int->Int}
  (rule:∀ (i j:Int) (t u:Tok) (s:Shared) (Q:Value->Shared->Prop) (E:Value->Shared->Prop),Q (.int (g i j) s.toks) { s with toks:=s.toks + 1 }->wpAny (model X.prog X.w) X.A (f (.int i t) (.int j u)) Q E s) :
  OpR X f (rI0 fun i j=>.int (g i j)):=by
 intro pins s σ H x y v u Q I rx ry h
 obtain ⟨i,j,rfl,rfl,q⟩:=h
 obtain ⟨t,rfl⟩:=rx
 obtain ⟨t',rfl⟩:=ry
 exact rule i j t t' s _ _ ⟨.int (g i j),H,I.tok _,⟨_,rfl⟩,q⟩
theorem opB0 {f:Value->Value->Sem Value} {g:Int->Int->Bool}
  (rule:∀ (i j:Int) (t u:Tok) (s:Shared) (Q:Value->Shared->Prop) (E:Value->Shared->Prop),Q (.bool (g i j)) s->wpAny (model X.prog X.w) X.A (f (.int i t) (.int j u)) Q E s) :
  OpR X f (rI0 fun i j=>.bl (g i j)):=by
 intro pins s σ H x y v u Q I rx ry h
 obtain ⟨i,j,rfl,rfl,q⟩:=h
 obtain ⟨t,rfl⟩:=rx
 obtain ⟨t',rfl⟩:=ry
 exact rule i j t t' s _ _ ⟨.bl (g i j),H,I,rfl,q⟩
def CDiv (i j:Int):Prop:=0 < j/\j < 1073741824
def CPow (i j:Int):Prop:=0<=j/\j<=1000000/\i.natAbs < 2 ^ 64
def CMul (i j:Int):Prop:=(-(2 ^ 64) < i/\i < 2 ^ 64)\/(-(2 ^ 64) < j/\j < 2 ^ 64)
theorem CMul.ok {i j:Int} (h:CMul i j):IntMulOk i j:=by
 rcases h with ⟨h1,h2⟩ | ⟨h1,h2⟩
 ·exact .of_left (intBits_le_64 h1 h2)
 ·exact .of_right (intBits_le_64 h1 h2)
theorem oq (k:Nat):(0:Int)<=2 ^ k:=by
 rw [two_pow_cast]
 exact Int.natCast_nonneg _
theorem aW:OpR X (binaryOp .Add) (rI0 fun i j=>.int (i + j)):=opI0 fun _ _ _ _ _ _ _ q=>add_int q
theorem dj:OpR X (binaryOp .Sub) (rI0 fun i j=>.int (i - j)):=opI0 fun _ _ _ _ _ _ _ q=>sub_int q
theorem dI:OpR X (binaryOp .Mult) (rI CMul fun i j=>.int (i * j)):=opI fun _ _ _ _ _ _ _ hc q=>mul_int q hc.ok
theorem op_fdiv:OpR X (binaryOp .FloorDiv) (rI CDiv fun i j=>.int (i / j)):=opI fun i j _ _ _ _ _ hc q=>by
 have h1:(0:Int) < j:=hc.1
 have h2:j < 1073741824:=hc.2
 exact floordiv_int (by omega) (by rw [Int.fdiv_eq_ediv_of_nonneg i (by omega)]; exact q) (.inl (PyProof.noPylong_small (by omega)))
theorem dL:OpR X (binaryOp .Mod) (rI (fun _ j=>0 < j) fun i j=>.int (i % j)):=opI fun i j _ _ _ _ _ hc q=>by
 have h1:(0:Int) < j:=hc
 exact mod_int' (by omega) (by rw [Int.fmod_eq_emod_of_nonneg i (by omega)]; exact q)
theorem op_pow:OpR X (binaryOp .Pow) (rI CPow fun i j=>.int (i ^ j.toNat)):=opI fun _ _ _ _ _ _ _ hc q=>pow_int_small hc.1 hc.2.1 hc.2.2 q
theorem iN:OpR X (binaryOp .LShift) (rI CPow fun i j=>.int (i * 2 ^ j.toNat)):=opI fun _ _ _ _ _ _ _ hc q=>lshift_int_small hc.1 hc.2.1 hc.2.2 q
theorem op_shr:OpR X (binaryOp .RShift) (rI (fun _ j=>0<=j) fun i j=>.int (i / 2 ^ j.toNat)):=opI fun i j _ _ _ _ _ hc q =>
 rshift_int hc (by rw [Int.fdiv_eq_ediv_of_nonneg i (oq _)]; exact q)
theorem unI {f:Value->Sem Value} {g:Int->Int}
  (rule:∀ (i:Int) (t:Tok) (s:Shared) (Q:Value->Shared->Prop) (E:Value->Shared->Prop),Q (.int (g i) s.toks) { s with toks:=s.toks + 1 }->wpAny (model X.prog X.w) X.A (f (.int i t)) Q E s) :
  UnR X f (rU fun i=>.int (g i)):=by
 intro pins s σ H x v Q I rx h
 obtain ⟨i,rfl,q⟩:=h
 obtain ⟨t,rfl⟩:=rx
 exact rule i t s _ _ ⟨.int (g i),H,I.tok _,⟨_,rfl⟩,q⟩
theorem eX:UnR X (unaryOp .USub) (rU fun i=>.int (-i)):=unI fun _ _ _ _ _ q=>neg_int q
end
def scal:V->V->Bool
 | .non,.non=>true | .non,.int _=>true | .int _,.non=>true | .non,.bl _=>true | .bl _,.non=>true | .non,.str _=>true | .str _,.non=>true
 | .int _,.int _=>true | .bl _,.bl _=>true | .str _,.str _=>true | .byt _,.byt _=>true
 | .int _,.str _=>true | .str _,.int _=>true | .bl _,.str _=>true | .str _,.bl _=>true
 | _,_=>false
def rEq:R2:=fun x y H Q=>scal x y = true/\Q (.bl (decide (x = y))) H
def rNe:R2:=fun x y H Q=>scal x y = true/\Q (.bl (!decide (x = y))) H
theorem oM {i j:Int}:decide (V.int i = V.int j) = (i == j):=by
 rw [Bool.eq_iff_iff]
 simp
theorem dec_bl {i j:Bool}:decide (V.bl i = V.bl j) = (i == j):=by
 rw [Bool.eq_iff_iff]
 simp
theorem qh {i j:Str}:decide (V.str i = V.str j) = (i == j):=by
 rw [Bool.eq_iff_iff]
 simp
theorem oO {i j:Array UInt8}:decide (V.byt i = V.byt j) = (i.toList == j.toList):=by
 rw [Bool.eq_iff_iff]
 cases i
 cases j
 simp
section
variable {X:Cx} {a b c:Expr} {ta tb tc:TE} {pos:Pos}
theorem aQ {pins:List (Addr × Obj)} {σ:St} {H:Hp} {s:Shared} {Q:VK} {k k':Bool} (I:Inv X pins σ H s) (q:Q (.bl k) H) (e:k = k'):EP X pins σ Q (.bool k') s:=by
 subst e
 exact ⟨.bl k,H,I,rfl,q⟩
theorem op_eq:OpR X (compareOp .Eq) rEq:=by
 intro pins s σ H x y v u Q I rx ry h
 obtain ⟨hs,q⟩:=h
 cases x with
 | non =>
  cases rx
  cases y with
  | non=>cases ry; exact PySem.EqNone.eq_none_none (aQ I q (by simp))
  | bl j=>cases ry; exact PySem.EqNone.eq_none_bool (aQ I q (by simp))
  | int j=>obtain ⟨t',rfl⟩:=ry; exact PySem.EqNone.eq_none_int (aQ I q (by simp))
  | str j=>obtain ⟨t',rfl⟩:=ry; exact PySem.EqNone.eq_none_str (aQ I q (by simp))
  | _=>exact absurd (show false = true from hs) Bool.false_ne_true
 | bl i =>
  cases rx
  cases y with
  | non=>cases ry; exact PySem.EqNone.eq_bool_none (aQ I q (by simp))
  | bl j=>cases ry; exact eq_bool (aQ I q dec_bl)
  | str j=>obtain ⟨t',rfl⟩:=ry; exact PySem.EqMixed.eq_bool_str (aQ I q (by simp))
  | _=>exact absurd (show false = true from hs) Bool.false_ne_true
 | int i =>
  obtain ⟨t,rfl⟩:=rx
  cases y with
  | non=>cases ry; exact PySem.EqNone.eq_int_none (aQ I q (by simp))
  | int j=>obtain ⟨t',rfl⟩:=ry; exact eq_int (aQ I q oM)
  | str j=>obtain ⟨t',rfl⟩:=ry; exact PySem.EqMixed.eq_int_str (aQ I q (by simp))
  | _=>exact absurd (show false = true from hs) Bool.false_ne_true
 | str i =>
  obtain ⟨t,rfl⟩:=rx
  cases y with
  | non=>cases ry; exact PySem.EqNone.eq_str_none (aQ I q (by simp))
  | bl j=>cases ry; exact PySem.EqMixed.eq_str_bool (aQ I q (by simp))
  | int j=>obtain ⟨t',rfl⟩:=ry; exact PySem.EqMixed.eq_str_int (aQ I q (by simp))
  | str j=>obtain ⟨t',rfl⟩:=ry; exact eq_str (aQ I q qh)
  | _=>exact absurd (show false = true from hs) Bool.false_ne_true
 | byt i =>
  obtain ⟨t,rfl⟩:=rx
  cases y with
  | byt j=>obtain ⟨t',rfl⟩:=ry; exact PySem.W.eq_bytes (aQ I q oO)
  | _=>exact absurd (show false = true from hs) Bool.false_ne_true
 | _=>cases y <;> exact absurd (show false = true from hs) Bool.false_ne_true
theorem op_ne:OpR X (compareOp .NotEq) rNe:=by
 intro pins s σ H x y v u Q I rx ry h
 obtain ⟨hs,q⟩:=h
 cases x with
 | non =>
  cases rx
  cases y with
  | non=>cases ry; exact PySem.EqNone.ne_none_none (aQ I q (by simp))
  | bl j=>cases ry; exact PySem.EqNone.ne_none_bool (aQ I q (by simp))
  | int j=>obtain ⟨t',rfl⟩:=ry; exact PySem.EqNone.ne_none_int (aQ I q (by simp))
  | str j=>obtain ⟨t',rfl⟩:=ry; exact PySem.EqNone.ne_none_str (aQ I q (by simp))
  | _=>exact absurd (show false = true from hs) Bool.false_ne_true
 | bl i =>
  cases rx
  cases y with
  | non=>cases ry; exact PySem.EqNone.ne_bool_none (aQ I q (by simp))
  | bl j=>cases ry; exact ne_bool (aQ I q (congrArg not dec_bl))
  | str j=>obtain ⟨t',rfl⟩:=ry; exact PySem.EqMixed.ne_bool_str (aQ I q (by simp))
  | _=>exact absurd (show false = true from hs) Bool.false_ne_true
 | int i =>
  obtain ⟨t,rfl⟩:=rx
  cases y with
  | non=>cases ry; exact PySem.EqNone.ne_int_none (aQ I q (by simp))
  | int j=>obtain ⟨t',rfl⟩:=ry; exact ne_int (aQ I q (congrArg not oM))
  | str j=>obtain ⟨t',rfl⟩:=ry; exact PySem.EqMixed.ne_int_str (aQ I q (by simp))
  | _=>exact absurd (show false = true from hs) Bool.false_ne_true
 | str i =>
  obtain ⟨t,rfl⟩:=rx
  cases y with
  | non=>cases ry; exact PySem.EqNone.ne_str_none (aQ I q (by simp))
  | bl j=>cases ry; exact PySem.EqMixed.ne_str_bool (aQ I q (by simp))
  | int j=>obtain ⟨t',rfl⟩:=ry; exact PySem.EqMixed.ne_str_int (aQ I q (by simp))
  | str j=>obtain ⟨t',rfl⟩:=ry; exact ne_str (aQ I q (congrArg not qh))
  | _=>exact absurd (show false = true from hs) Bool.false_ne_true
 | byt i =>
  obtain ⟨t,rfl⟩:=rx
  cases y with
  | byt j=>obtain ⟨t',rfl⟩:=ry; exact PySem.W.ne_bytes (aQ I q (congrArg not oO))
  | _=>exact absurd (show false = true from hs) Bool.false_ne_true
 | _=>cases y <;> exact absurd (show false = true from hs) Bool.false_ne_true
theorem nR:OpR X (compareOp .Lt) (rI0 fun i j=>.bl (decide (i < j))):=opB0 fun _ _ _ _ _ _ _ q=>lt_int q
theorem jk:OpR X (compareOp .LtE) (rI0 fun i j=>.bl (decide (i<=j))):=opB0 fun _ _ _ _ _ _ _ q=>le_int q
theorem fq:OpR X (compareOp .Gt) (rI0 fun i j=>.bl (decide (j < i))):=opB0 fun _ _ _ _ _ _ _ q=>gt_int q
theorem op_ge:OpR X (compareOp .GtE) (rI0 fun i j=>.bl (decide (j<=i))):=opB0 fun _ _ _ _ _ _ _ q=>ge_int q
theorem lc:OpR X (compareOp .In) (fun x y H Q=>∃ i j,x = .str i/\y = .str j/\Q (.bl (!(Builtin.Str.occurrences j i 0 j.length 1).isEmpty)) H):=by
 intro pins s σ H x y v u Q I rx ry h
 obtain ⟨i,j,rfl,rfl,q⟩:=h
 obtain ⟨t,rfl⟩:=rx
 obtain ⟨t',rfl⟩:=ry
 exact in_str (aQ I q rfl)
theorem eR:OpR X (compareOp .Is) (fun x y H Q=>y = .non/\Q (.bl (decide (x = .non))) H):=by
 intro pins s σ H x y v u Q I rx ry h
 obtain ⟨rfl,q⟩:=h
 cases ry
 refine is_none_gen (aQ I q ?_)
 cases x <;> first
  | (cases rx; rfl)
  | (obtain ⟨t,rfl⟩:=rx; rfl)
theorem j9:OpR X (compareOp .IsNot) (fun x y H Q=>y = .non/\Q (.bl (!decide (x = .non))) H):=by
 intro pins s σ H x y v u Q I rx ry h
 obtain ⟨rfl,q⟩:=h
 cases ry
 refine isnot_none_gen (aQ I q ?_)
 cases x <;> first
  | (cases rx; rfl)
  | (obtain ⟨t,rfl⟩:=rx; rfl)
theorem OpR.or {f:Value->Value->Sem Value} {r r':R2} (h:OpR X f r) (h':OpR X f r'):OpR X f (fun x y H Q=>r x y H Q\/r' x y H Q):=by
 intro pins s σ H x y v u Q I rx ry q
 rcases q with q | q
 ·exact h pins s σ H x y v u Q I rx ry q
 ·exact h' pins s σ H x y v u Q I rx ry q
theorem aw (b:Expr) {op:CmpOp} (h:op ≠ .In:=by decide) (h2:op ≠ .NotIn:=by decide):behindInMarks op b = false:=by
 have e1:(op == CmpOp.In) = false:=by cases op <;> first | rfl | exact absurd rfl h
 have e2:(op == CmpOp.NotIn) = false:=by cases op <;> first | rfl | exact absurd rfl h2
 cases b <;> simp [behindInMarks,e1,e2]
theorem aS {op:CmpOp} {r:R2} (ho:OpR X (compareOp op) r) (ha:PE X a ta) (hb:PE X b tb) (hm:behindInMarks op b = false):PE X (.Compare a [op] [b] pos) (tOp r ta tb):=by
 intro pins s σ H Q I h
 exact wpAny_Compare1 (binT ha hb I h fun v u s2 x y H2 I2 rx ry q=>ho pins s2 σ H2 x y v u Q I2 rx ry q) hm
def tTest (t:TE):TT:=fun σ H Q=>t σ H fun x H'=>∃ k,x = .bl k/\Q k H'
theorem au {op:CmpOp} {r:R2} (ho:OpR X (compareOp op) r) (ha:PE X a ta) (hb:PE X b tb) (hm:behindInMarks op b = false):PT X (.Compare a [op] [b] pos) (tTest (tOp r ta tb)):=by
 intro pins s σ H Q I h
 refine wpAny_isTrue_Compare1 (thn (ha pins s σ H _ I h) fun v s1 ⟨x,H1,I1,r1,q1⟩=>thn (hb pins s1 σ H1 _ I1 q1) fun u s2 ⟨y,H2,I2,r2,q2⟩ =>
  thn (ho pins s2 σ H2 x y v u _ I2 r1 r2 q2) fun c s3 ⟨z,H3,I3,r3,k,e,q3⟩=>?_) hm
 subst e
 cases r3
 exact wpAny_truthy_bool ⟨H3,I3,q3⟩
def tChain (r r':R2) (ta tb tc:TE):TE:=fun σ H Q=>ta σ H fun x H1=>tb σ H1 fun y H2=>r x y H2 fun z H3=>∃ k,z = .bl k /\
 (if k = true then tc σ H3 fun w' H4=>r' y w' H4 Q else Q (.bl false) H3)
theorem nH {op op':CmpOp} {r r':R2} (ho:OpR X (compareOp op) r) (ho':OpR X (compareOp op') r') (ha:PE X a ta) (hb:PE X b tb) (hc:PE X c tc)
  (hm:lastMarks [op,op'] [b,c] = false:=by with_unfolding_all rfl):PE X (.Compare a [op,op'] [b,c] pos) (tChain r r' ta tb tc):=by
 intro pins s σ H Q I h
 refine Compare_chain (thn (ha pins s σ H _ I h) fun v s1 ⟨x,H1,I1,r1,q1⟩=>chain_link (thn (hb pins s1 σ H1 _ I1 q1) fun u s2 ⟨y,H2,I2,r2,q2⟩ =>
  thn (ho pins s2 σ H2 x y v u _ I2 r1 r2 q2) fun d s3 ⟨z,H3,I3,r3,k,e,q3⟩=>?_)) hm
 subst e
 cases r3
 refine wpAny_truthy_bool ?_
 cases k with
 | false=>exact ite_ff ⟨.bl false,H3,I3,rfl,q3⟩
 | true=>exact ite_tt (chain_last (thn (hc pins s3 σ H3 _ I3 q3) fun w' s4 ⟨z',H4,I4,r4,q4⟩=>ho' pins s4 σ H4 y z' u w' Q I4 r2 r4 q4))
theorem nu {op op':CmpOp} {r r':R2} (ho:OpR X (compareOp op) r) (ho':OpR X (compareOp op') r') (ha:PE X a ta) (hb:PE X b tb) (hc:PE X c tc)
  (hm:lastMarks [op,op'] [b,c] = false:=by with_unfolding_all rfl):PT X (.Compare a [op,op'] [b,c] pos) (tTest (tChain r r' ta tb tc)):=by
 intro pins s σ H Q I h
 refine isTrue_chain (thn (ha pins s σ H _ I h) fun v s1 ⟨x,H1,I1,r1,q1⟩=>test_link (thn (hb pins s1 σ H1 _ I1 q1) fun u s2 ⟨y,H2,I2,r2,q2⟩ =>
  thn (ho pins s2 σ H2 x y v u _ I2 r1 r2 q2) fun d s3 ⟨z,H3,I3,r3,k,e,q3⟩=>?_)) hm
 subst e
 cases r3
 refine wpAny_truthy_bool ?_
 cases k with
 | false =>
  obtain ⟨k',e',q'⟩:=q3
  cases e'
  exact ite_ff ⟨H3,I3,q'⟩
 | true =>
  refine ite_tt (test_last (thn (hc pins s3 σ H3 _ I3 q3) fun w' s4 ⟨z',H4,I4,r4,q4⟩=>thn (ho' pins s4 σ H4 y z' u w' _ I4 r2 r4 q4) fun d' s5 ⟨z2,H5,I5,r5,k2,e2,q5⟩=>?_))
  subst e2
  cases r5
  exact wpAny_truthy_bool ⟨H5,I5,q5⟩
theorem jx:(sizeLine:Nat) < 2 ^ 63:=by rw [sizeLine_eq]; decide
theorem aG:OpR X (binaryOp .Add) (fun x y H Q=>∃ i j,x = .str i/\y = .str j/\i.length + j.length<=sizeLine/\Q (.str (i ++ j)) H):=by
 intro pins s σ H x y v u Q I rx ry h
 obtain ⟨i,j,rfl,rfl,hz,q⟩:=h
 obtain ⟨t,rfl⟩:=rx
 obtain ⟨t',rfl⟩:=ry
 exact add_str (fun t' tk=>⟨.str (i ++ j),H,I.tok _,⟨_,rfl⟩,q⟩) hz
theorem kH {x:V} {us:List Value} (r:Vals [x] us):∃ u,us = [u]/\RelV x u:=by
 cases r with
 | cons r1 r2=>cases r2; exact ⟨_,rfl,r1⟩
theorem vals2 {x y:V} {us:List Value} (r:Vals [x,y] us):∃ u w',us = [u,w']/\RelV x u/\RelV y w':=by
 cases r with
 | cons r1 r2 =>
  cases r2 with
  | cons r3 r4=>cases r4; exact ⟨_,_,rfl,r1,r3⟩
theorem m5:gq X (.builtin "abs") (fun xs H Q=>∃ i,xs = [.int i]/\Q (.int (if i < 0 then -i else i)) H):=by
 intro pins s σ H xs us Q I r h
 obtain ⟨i,rfl,q⟩:=h
 obtain ⟨u,rfl,t,rfl⟩:=kH r
 exact call_abs_int fun u tk=>⟨.int (if i < 0 then -i else i),H,I.tok _,⟨_,rfl⟩,q⟩
theorem kc (hc:X.calm = true):gq X (.builtin "max") (fun xs H Q=>∃ i j,xs = [.int i,.int j]/\Q (.int (if j > i then j else i)) H):=by
 intro pins s σ H xs us Q I r h
 obtain ⟨i,j,rfl,q⟩:=h
 obtain ⟨u,w',rfl,⟨t,rfl⟩,⟨t',rfl⟩⟩:=vals2 r
 refine max_two_ints (I.ok.hd hc) fun h' tk k=>⟨_,H,I.kept k,?_,q⟩
 by_cases hj:j > i
 ·rw [if_pos hj,if_pos hj]; exact ⟨_,rfl⟩
 ·rw [if_neg hj,if_neg hj]; exact ⟨_,rfl⟩
theorem kx (hc:X.calm = true):gq X (.builtin "min") (fun xs H Q=>∃ i j,xs = [.int i,.int j]/\Q (.int (if j < i then j else i)) H):=by
 intro pins s σ H xs us Q I r h
 obtain ⟨i,j,rfl,q⟩:=h
 obtain ⟨u,w',rfl,⟨t,rfl⟩,⟨t',rfl⟩⟩:=vals2 r
 refine min_two_ints (I.ok.hd hc) fun h' tk k=>⟨_,H,I.kept k,?_,q⟩
 by_cases hj:j < i
 ·rw [if_pos hj,if_pos hj]; exact ⟨_,rfl⟩
 ·rw [if_neg hj,if_neg hj]; exact ⟨_,rfl⟩
theorem eJ:gq X (.type "int") (fun xs H Q=>(∃ i,xs = [.int i]/\Q (.int i) H)\/∃ k,xs = [.bl k]/\Q (.int (if k then 1 else 0)) H):=by
 intro pins s σ H xs us Q I r h
 rcases h with ⟨i,rfl,q⟩ | ⟨k,rfl,q⟩
 ·obtain ⟨u,rfl,t,rfl⟩:=kH r
  exact call_int_int ⟨.int i,H,I,⟨_,rfl⟩,q⟩
 ·obtain ⟨u,rfl,r1⟩:=kH r
  cases r1
  exact call_int_bool ⟨.int (if k then 1 else 0),H,I.tok _,⟨_,rfl⟩,q⟩
end
end L2
namespace L2
open PySem PySem.Spec PyProof.Rows
structure ObjM (h:Heap) (x dx C:Addr) (mA:Str->Option Value):Prop where
 obj:h.get? x = some (instObj C dx)
 ns:h.Ns1 dx mA
 ne:dx ≠ x
theorem kC {h:Heap} {dx:Addr} {mA:Str->Option Value} (n:h.Ns1 dx mA):∃ od,h.get? dx = some od/\∀ name,PySem.W.lookIn name od = some (mA name):=by
 obtain ⟨o,es,ep,ho,hd,hk,_,hm⟩:=n
 refine ⟨o,ho,fun name=>?_⟩
 have e:=hm name
 unfold nsFind findBy at e
 rw [<- Array.find?_toList] at e
 unfold PySem.W.lookIn
 rw [hd]
 dsimp only
 split
 ·rename_i y q
  rw [q] at e
  exact congrArg some e
 ·rename_i q
  rw [q] at e
  have a:es.toList.any (·.refKey) = false:=by
   rw [List.any_eq_false]
   intro y hy
   obtain ⟨z,t,hkey⟩:=hk y (Array.mem_toList_iff.mp hy)
   simp [DictEntry.refKey,hkey]
  have a':¬ es.toList.any (·.refKey) = true:=by rw [a]; exact Bool.false_ne_true
  rw [if_neg a']
  exact congrArg some e
theorem ObjM.look {h:Heap} {x dx C:Addr} {mA:Str->Option Value} (I:ObjM h x dx C mA):∃ od,PySem.W.InstAt h x (instObj C dx) C (some od)/\∀ name,PySem.W.lookIn name od = some (mA name) :=
 let ⟨od,ho,hl⟩:=kC I.ns
 ⟨od,⟨I.obj,rfl,rfl,ho⟩,hl⟩
section
variable {prog:Program} {w:World} {A:Around} {E:Value->Shared->Prop} {s:Shared} {K:Frag} {x dx C f:Addr} {mA:Str->Option Value} {name:Str} {v:Value}
theorem get_map {expr:Bool} {Q:Value->Shared->Prop} (X:K.In s.heap) (I:ObjM s.heap x dx C mA) (hg:plainGet K C name = true) (hh:hasDictIn K C = true)
  (ha:findIn K (.ref C) name = some none) (hv:mA name = some v) (hv':PySem.W.handedIn v = true) (h:Q v { s with toks:=s.toks + 1 }) :
  wpAny (model prog w) A (getAttr (.ref x) name expr) Q E s:=by
 obtain ⟨od,J,hl⟩:=I.look
 exact PySem.W.get_value X J (PySem.W.plainGet_of hg).1 (PySem.W.findObj_own hh ha rfl (by rw [hl,hv])) hv' h
theorem get_meth {pl:Sem Bool} {Q:Value × List Value->Shared->Prop} (X:K.In s.heap) (I:ObjM s.heap x dx C mA) (hg:plainGet K C name = true)
  (hf:findIn K (.ref C) name = some (some (.ref f))) (ht:isFn K (.ref f) = true) (hv:mA name = none) (h:Q (.ref f,[.ref x]) s) :
  wpAny (model prog w) A (getMethod (.ref x) name pl) Q E s:=by
 obtain ⟨od,J,hl⟩:=I.look
 exact PySem.W.method_fn X J (PySem.W.plainGet_of hg).1 (PySem.W.plainGet_of hg).2 hf (beq_iff_eq.mp ht) (by show (PySem.W.lookIn name od).map (·.isSome) = some false; rw [hl,hv]; rfl) h
theorem set_map {ns:List Str} {Q:Unit->Shared->Prop} (X:K.In s.heap) (I:ObjM s.heap x dx C mA)
  (hs:findIn K (.ref C) "__setattr__" = some (some (.builtin "object.__setattr__"))) (hp:plainOver K C = true) (ht:PySem.W.takerIn K C name = some none) (hh:hasDictIn K C = true)
  (hw:PySem.Within mA ns) (hsz:ns.length<=sizeLine)
  (h:∀ h',ObjM h' x dx C (fun y=>if y = name then some v else mA y)->Heap.SameBut dx s.heap h'->Q () { s with heap:=h',toks:=s.toks + 2 }) :
  wpAny (model prog w) A (setAttr (.ref x) name v) Q E s:=by
 obtain ⟨od,J,hl⟩:=I.look
 refine PySem.W.set_plain X J hs (PySem.W.osa_open (s:={ s with toks:=s.toks + 1 }) (r:=none) X J hp ht fun b=>?_)
 obtain ⟨cd,hc,hd'⟩:=PySem.W.any_some hh
 have hx:s.heap.get? x = some ⟨.ref C,some dx,.plain,#[]⟩:=I.obj
 refine wpAny_bind (wpAny_pure (wpAny_bind (wpAny_bind (wpAny_loadPart hx (wpAny_bind (PySem.W.Looks.here (s:={ s with toks:=s.toks + 1 }) (PySem.W.looks_clsIn X hc) ?_))))))
 rw [hd']
 refine wpAny_pure (a:=some dx) (wpAny_bind (wpAny_pure (wpAny_bind ?_)))
 refine wpAny_nsSet1 (s:={ s with toks:=s.toks + 1 }) I.ns fun h' hn2 hs2=>?_
 obtain ⟨oD,esD,epD,hoD,hdD,hcD⟩:=hn2.count (PySem.Within.cons name v hw)
 refine wpAny_bind (wpAny_lookBehind hoD (by rw [hdD]; exact pastItsLine_dict (Nat.le_trans hcD (by rw [List.length_cons]; omega))) ?_)
 exact wpAny_pure (h _ ⟨(hs2.2 _ (Ne.symm I.ne)).trans I.obj,hn2,I.ne⟩ hs2)
theorem make_map {R:Result->Shared->Prop} {vs:List Value} {kw:List (Str × Value)} (X:K.In s.heap) (hm:makesIn K C = true)
  (hi:findIn K (.ref C) "__init__" = some (some (.ref f))) (hf:typeIn K (.ref f) = some (.type "function"))
  (h:codeAny (model prog w) (A.under (.builtin "type.__call__" ⟨.ref C :: vs,kw⟩)) (.call (.ref f) ⟨.ref (s.heap.objs.size + 1) :: vs,kw⟩) (PySem.W.InitBack (s.heap.objs.size + 1) R)
   { s with heap:=(s.heap.push PySem.W.emptyDict).push (instObj C s.heap.objs.size) }) :
  codeAny (model prog w) A (.call (.ref C) ⟨vs,kw⟩) R s:=by
 obtain ⟨hh,g,d,t,os⟩:=s
 exact PySem.W.make_core (PySem.W.makes_of X hm) (PySem.W.looks_findIn X hi) (fun self=>PySem.W.bind_fn X self hf) (.inl rfl) h
end
def cV (f:Str) (v:V):List (Str × V)->List (Str × V)
 | []=>[(f,v)]
 | (g,x) :: r=>if g = f then (g,v) :: r else (g,x) :: cV f v r
theorem iM (f g:Str) (v:V):∀ fs:List (Str × V),(cV f v fs).lookup g = if g = f then some v else fs.lookup g
 | []=>by
  show List.lookup g [(f,v)] = _
  by_cases h:g = f
  ·have hb:(g == f) = true:=beq_iff_eq.mpr h
   simp only [List.lookup,hb,if_pos h]
  ·have hb:(g == f) = false:=beq_eq_false_iff_ne.mpr h
   simp only [List.lookup,hb,if_neg h]
 | (k,x) :: r=>by
  have ih:=iM f g v r
  rw [show cV f v ((k,x) :: r) = (if k = f then (k,v) :: r else (k,x) :: cV f v r) from rfl]
  by_cases hk:k = f
  ·rw [if_pos hk]
   by_cases h:g = k
   ·have hb:(g == k) = true:=beq_iff_eq.mpr h
    simp only [List.lookup,hb,if_pos (h.trans hk)]
   ·have hb:(g == k) = false:=beq_eq_false_iff_ne.mpr h
    simp only [List.lookup,hb,if_neg (fun e:g = f=>h (e.trans hk.symm))]
  ·rw [if_neg hk]
   by_cases h:g = k
   ·have hb:(g == k) = true:=beq_iff_eq.mpr h
    simp only [List.lookup,hb,if_neg (fun e:g = f=>hk (h.symm.trans e))]
   ·have hb:(g == k) = false:=beq_eq_false_iff_ne.mpr h
    simp only [List.lookup,hb]
    exact ih
theorem ja (f:Str) (v:V):∀ fs:List (Str × V),f ∈ (cV f v fs).map (·.1)/\∀ g,g ∈ fs.map (·.1)->g ∈ (cV f v fs).map (·.1)
 | []=>⟨by simp [cV],fun g h=>by simp at h⟩
 | (k,x) :: r=>by
  obtain ⟨i1,i2⟩:=ja f v r
  rw [show cV f v ((k,x) :: r) = (if k = f then (k,v) :: r else (k,x) :: cV f v r) from rfl]
  by_cases hk:k = f
  ·rw [if_pos hk]
   subst hk
   exact ⟨by simp,fun g h=>by simpa using h⟩
  ·rw [if_neg hk]
   refine ⟨?_,fun g h=>?_⟩
   ·rw [List.map_cons]
    exact List.mem_cons_of_mem _ i1
   ·rw [List.map_cons] at h ⊢
    rcases List.mem_cons.mp h with e | e
    ·exact List.mem_cons.mpr (.inl e)
    ·exact List.mem_cons_of_mem _ (i2 g e)
theorem iy (f:Str) (v:V):∀ fs:List (Str × V),(cV f v fs).length<=fs.length + 1
 | []=>by simp [cV]
 | (k,x) :: r=>by
  have ih:=iy f v r
  rw [show cV f v ((k,x) :: r) = (if k = f then (k,v) :: r else (k,x) :: cV f v r) from rfl]
  by_cases hk:k = f
  ·rw [if_pos hk,List.length_cons,List.length_cons]; omega
  ·rw [if_neg hk,List.length_cons,List.length_cons]; omega
theorem RelO.some_of {v:V} {o:Option Value} (r:RelO (some v) o):∃ u,o = some u/\RelV v u:=by
 cases o with
 | none=>exact (show False from r).elim
 | some u=>exact ⟨u,rfl,r⟩
theorem RelO.none_of {o:Option Value} (r:RelO none o):o = none:=by
 cases o with
 | none=>rfl
 | some u=>exact (show False from r).elim
theorem kE {v:V} {u:Value} (r:RelV v u):PySem.W.handedIn u = true:=by
 cases v with
 | non=>cases (show u = Value.none from r); rfl
 | bl b=>cases (show u = Value.bool b from r); rfl
 | int i=>obtain ⟨t,e⟩:=(show ∃ t,u = Value.int i t from r); cases e; rfl
 | str x=>obtain ⟨t,e⟩:=(show ∃ t,u = Value.str x t from r); cases e; rfl
 | byt b=>obtain ⟨t,e⟩:=(show ∃ t,u = Value.bytes b t from r); cases e; rfl
 | flt b=>obtain ⟨t,e⟩:=(show ∃ t,u = Value.float b t from r); cases e; rfl
 | ref a=>cases (show u = Value.ref a from r); rfl
 | ty n=>cases (show u = Value.type n from r); rfl
section
variable {P:Program} {w:World} {H H':Hp} {h h':Heap} {a C dx:Addr} {fs fs':List (Str × V)}
theorem j6 (hok:HOk P w H h) (e:H a = some (.ins C dx fs)):∃ mA,ObjM h a dx C mA/\(∀ f,RelO (fs.lookup f) (mA f))/\PySem.Within mA (fs.map (·.1))/\fs.length<=1000/\H dx = some (.own a):=by
 obtain ⟨d,z,ne,ob,mA,n,r,q⟩:=(show ObjOk P w H h a (.ins C dx fs) from hok a _ e)
 exact ⟨mA,⟨ob,n,ne⟩,r,q,z,d⟩
end
structure Cls (K:Frag) (C:Addr):Prop where
 pg:plainGet K C Str.empty = true
 hd:hasDictIn K C = true
 po:plainOver K C = true
 sa:findIn K (.ref C) "__setattr__" = some (some (.builtin "object.__setattr__"))
theorem Cls.get {K:Frag} {C:Addr} (c:Cls K C) (f:Str):plainGet K C f = true:=c.pg
def NoAttr (K:Frag) (C:Addr) (f:Str):Prop:=findIn K (.ref C) f = some none
theorem NoAttr.taker {K:Frag} {C:Addr} {f:Str} (n:NoAttr K C f):PySem.W.takerIn K C f = some none:=by
 unfold PySem.W.takerIn
 rw [show findIn K (.ref C) f = some none from n]
 rfl
structure Meth (K:Frag) (C:Addr) (m:Str) (f:Addr):Prop where
 at_:findIn K (.ref C) m = some (some (.ref f))
 fn:isFn K (.ref f) = true
 kp:keepIn K (.ref f) = true
section
variable {X:Cx} {pins:List (Addr × Obj)} {σ:St} {H:Hp} {s:Shared} {a C dx:Addr} {fs:List (Str × V)} {f:Str} {v:V} {A:Around} {E:Value->Shared->Prop}
theorem ow {b:Bool} {Q:Value->Shared->Prop} (I:Inv X pins σ H s) (e:H a = some (.ins C dx fs)) (c:Cls X.K C) (n:NoAttr X.K C f) (l:fs.lookup f = some v)
  (h:∀ u s',Inv X pins σ H s'->RelV v u->Q u s'):wpAny (model X.prog X.w) A (getAttr (.ref a) f b) Q E s:=by
 obtain ⟨mA,O,r,_,_,_⟩:=j6 I.hok e
 obtain ⟨u,hu,ru⟩:=RelO.some_of (v:=v) (o:=mA f) (by rw [<- l]; exact r f)
 exact get_map I.kIn O (c.get f) c.hd n hu (kE ru) (h u _ (I.tok _) ru)
theorem jA {m:Str} {g:Addr} {pl:Sem Bool} {Q:Value × List Value->Shared->Prop} (I:Inv X pins σ H s) (e:H a = some (.ins C dx fs)) (c:Cls X.K C) (k:Meth X.K C m g) (l:fs.lookup m = none)
  (h:Q (.ref g,[.ref a]) s):wpAny (model X.prog X.w) A (getMethod (.ref a) m pl) Q E s:=by
 obtain ⟨mA,O,r,_,_,_⟩:=j6 I.hok e
 have hn:mA m = none:=RelO.none_of (by rw [<- l]; exact r m)
 exact get_meth I.kIn O (c.get m) k.at_ k.fn hn h
theorem nU {y:V} {u:Value} {Q:Unit->Shared->Prop} (I:Inv X pins σ H s) (e:H a = some (.ins C dx fs)) (c:Cls X.K C) (n:NoAttr X.K C f) (hl:fs.length < 1000) (ry:RelV y u)
  (h:∀ s',Inv X pins σ (upd H a (.ins C dx (cV f y fs))) s'->Q () s'):wpAny (model X.prog X.w) A (setAttr (.ref a) f u) Q E s:=by
 obtain ⟨mA,O,r,wi,_,ho⟩:=j6 I.hok e
 have hz:(fs.map (·.1)).length<=sizeLine:=by rw [List.length_map,sizeLine_eq]; omega
 refine set_map I.kIn O c.sa c.po n.taker c.hd wi hz fun h' O' sb=>h _ ?_
 have hd:∃ o,h'.get? dx = some o:=let ⟨o,_,_,e',_⟩:=O'.ns; ⟨o,e'⟩
 refine I.write (x:=a) (e:=dx) (by rw [e]; exact True.intro) (.inr ho) (fun b q hb z=>(sb.2 b hb).trans z) hd ?_
 refine ⟨by rw [ai O.ne]; exact ho,?_,O.ne,O'.obj,_,O'.ns,fun g=>?_,fun g hg=>?_⟩
 ·have:=iy f y fs; omega
 ·show RelO ((cV f y fs).lookup g) (if g = f then some u else mA g)
  rw [iM]
  by_cases q:g = f
  ·rw [if_pos q,if_pos q]; exact ry
  ·rw [if_neg q,if_neg q]; exact r g
 ·by_cases q:g = f
  ·rw [q]; exact (ja f y fs).1
  ·refine (ja f y fs).2 g (wi g fun z=>hg ?_)
   show (if g = f then some u else mA g) = none
   rw [if_neg q]; exact z
theorem Inv.made (I:Inv X pins σ H s):Inv X pins σ (upd (upd H s.heap.objs.size (.own (s.heap.objs.size + 1))) (s.heap.objs.size + 1) (.ins C s.heap.objs.size []))
  { s with heap:=(s.heap.push PySem.W.emptyDict).push (instObj C s.heap.objs.size) }:=by
 have e1:(s.heap.push PySem.W.emptyDict).get? s.heap.objs.size = some PySem.W.emptyDict:=Heap.get?_push_size s.heap rfl
 have e2:((s.heap.push PySem.W.emptyDict).push (instObj C s.heap.objs.size)).get? (s.heap.objs.size + 1) = some (instObj C s.heap.objs.size):=by
  have:=Heap.get?_push_size (s.heap.push PySem.W.emptyDict) (o:=instObj C s.heap.objs.size) rfl
  rwa [Heap.size_push] at this
 have e3:(s.heap.push PySem.W.emptyDict).Ns s.heap.objs.size (fun _=>none):=⟨PySem.W.emptyDict,#[],_,e1,rfl,(fun e he=>absurd he (by simp)),fun _=>rfl⟩
 have I1:=I.laid (a:=s.heap.objs.size) (o:=.own (s.heap.objs.size + 1)) (h':=s.heap.push PySem.W.emptyDict) (t':=s.toks) (fun b u q=>Heap.get?_push_of_some _ q) (Nat.le_refl _) ⟨_,e1⟩
 refine I1.laid (a:=s.heap.objs.size + 1) (o:=.ins C s.heap.objs.size []) (t':=s.toks) (fun b u q=>Heap.get?_push_of_some _ q) (Nat.le_of_eq (Heap.size_push _ _)) ?_
 have ne:s.heap.objs.size ≠ s.heap.objs.size + 1:=Nat.ne_of_lt (Nat.lt_succ_self _)
 refine ⟨by rw [ai ne,ac],Nat.zero_le _,ne,e2,fun _=>none,(Heap.Ns1.of_empty e3).at fun o q=>Heap.get?_push_of_some _ q,fun _=>True.intro,fun y hy=>absurd rfl hy⟩
theorem ph {prog:Program} {w:World} {env:Env} {e:Expr} {f:Str} {pos:Pos} {s:Shared} {Q:Value->Shared->Prop} (hb:attributeBase e f env (eval e env) = eval e env)
  (h:wpAny (model prog w) A (eval e env) (fun o s₁=>wpAny (model prog w) A (getAttr o f true) Q E s₁) E s):wpAny (model prog w) A (eval (.Attribute e f pos) env) Q E s :=
 Attribute_any_ h (by rw [arm_eval_Attribute,hb])
end
def tFld (K:Frag) (ta:TE) (f:Str):TE:=fun σ H Q=>ta σ H fun x H1=>∃ a C dx fs v,x = .ref a/\H1 a = some (.ins C dx fs)/\Cls K C/\NoAttr K C f/\fs.lookup f = some v/\Q v H1
def sFld (K:Frag) (ta tv:TE) (f:Str):TS:=fun D σ H=>tv σ H fun y H1=>ta σ H1 fun x H2=>∃ a C dx fs,x = .ref a/\H2 a = some (.ins C dx fs)/\Cls K C/\NoAttr K C f/\fs.length < 1000 /\
 D.nx σ (upd H2 a (.ins C dx (cV f y fs)))
section
variable {X:Cx} {o e value:Expr} {f:Str} {pos pos' tpos:Pos} {ta tv:TE}
theorem aC (he:PE X e ta) (hb:attributeBase e f X.env (eval e X.env) = eval e X.env):PE X (.Attribute e f pos) (tFld X.K ta f):=by
 intro pins s σ H Q I h
 refine ph hb (thn (he pins s σ H _ I h) fun u s1 ⟨x,H1,I1,rx,a,C,dx,fs,v,ex,ea,c,n,l,q⟩=>?_)
 subst ex
 obtain rfl:u = Value.ref a:=rx
 exact ow I1 ea c n l fun u' s2 I2 ru=>⟨v,H1,I2,ru,q⟩
theorem bf (ha:PE X o ta) (hv:PE X value tv) (hs:swapsWith value (some (.Attribute o f pos')) pos.line X.env = pure false):PS X (.Assign [.Attribute o f pos'] value pos) (sFld X.K ta tv f):=by
 intro pins s σ H D I h
 refine plainObj_wpAny_Assign_Attribute (thn (hv pins s σ H _ I h) fun u s1 ⟨y,H1,I1,ry,q⟩=>thn (ha pins s1 σ H1 _ I1 q) fun ov s2 ⟨x,H2,I2,rx,a,C,dx,fs,ex,ea,c,n,l,q2⟩=>?_) hs
 subst ex
 obtain rfl:ov = Value.ref a:=rx
 exact nU I2 ea c n l ry fun s3 I3=>⟨σ,_,I3,q2⟩
end
section
variable {X:Cx} {pins:List (Addr × Obj)} {σ:St} {H:Hp} {s:Shared} {A:Around} {E:Value->Shared->Prop} {Q:Value->Shared->Prop} {c:Value} {b:Bool}
inductive TyOf (K:Frag) (H:Hp):V->Value->Prop where
 | non:TyOf K H .non (.type "NoneType")
 | bl (x:Bool):TyOf K H (.bl x) (.type "bool")
 | int (i:Int):TyOf K H (.int i) (.type "int")
 | str (x:Str):TyOf K H (.str x) (.type "str")
 | flt (x:UInt64):TyOf K H (.flt x) (.type "float")
 | lst {a:Addr} {xs:List V} (e:H a = some (.lst xs)):TyOf K H (.ref a) (.type "list")
 | frz {a:Addr} {o:Obj} {xs:List V} (e:H a = some (.frz o (.lst xs))):TyOf K H (.ref a) (.type "list")
 | tup {a:Addr} {xs:List V} (e:H a = some (.tup xs)):TyOf K H (.ref a) (.type "tuple")
 | dK {a:Addr} {kvs:List (Key × V)} (e:H a = some (.dK kvs)):TyOf K H (.ref a) (.type "dict")
 | dT {a:Addr} {kvs:List (List Key × V)} (e:H a = some (.dT kvs)):TyOf K H (.ref a) (.type "dict")
 | ins {a C dx:Addr} {fs:List (Str × V)} (e:H a = some (.ins C dx fs)) (cl:Cls K C) (ha:findIn K (.ref C) "__class__" = some (some (.builtin "object.__class__")))
   (hn:PySem.W.specialIn K (.builtin "object.__class__") "__get__" = some (some (.builtin "getset_descriptor.__get__"))) (htk:PySem.W.takesIn K (.builtin "object.__class__") = some true)
   (hm:mroIn K C (.type "object") = some true):TyOf K H (.ref a) (.ref C)
theorem oR {x:V} {u t:Value} (I:Inv X pins σ H s) (rx:RelV x u) (ty:TyOf X.K H x t) (e:kitOne X.K t c = some b) (h:∀ tk,Q (.bool b) { s with toks:=tk }) :
  wpAny (model X.prog X.w) A (call (.builtin "isinstance") [u,c]) Q E s:=by
 cases ty with
 | non=>cases (show u = Value.none from rx); exact PySem.W.kia_one PySem.W.kitx_none I.kIn True.intro e (fun z=>nomatch z) h
 | bl y=>cases (show u = Value.bool y from rx); exact PySem.W.kia_one PySem.W.kitx_bool I.kIn True.intro e (fun z=>nomatch z) h
 | int i=>obtain ⟨t,q⟩:=(show ∃ t,u = Value.int i t from rx); cases q; exact PySem.W.kia_one PySem.W.kitx_int I.kIn True.intro e (fun z=>nomatch z) h
 | str y=>obtain ⟨t,q⟩:=(show ∃ t,u = Value.str y t from rx); cases q; exact PySem.W.kia_one PySem.W.kitx_str I.kIn True.intro e (fun z=>nomatch z) h
 | flt y=>obtain ⟨t,q⟩:=(show ∃ t,u = Value.float y t from rx); cases q; exact PySem.W.kia_one PySem.W.kitx_float I.kIn True.intro e (fun z=>nomatch z) h
 | @lst a xs ea =>
  cases (show u = Value.ref a from rx)
  obtain ⟨_,_,n,_,h1⟩:=(show ObjOk X.prog X.w H s.heap a (.lst xs) from I.hok a _ ea)
  exact PySem.W.kia_one PySem.W.kitx_list I.kIn ⟨_,h1,rfl⟩ e (fun z=>nomatch z) h
 | @frz a ob xs ea =>
  cases (show u = Value.ref a from rx)
  obtain ⟨_,_,_,n,_,h1⟩:=(show ObjOk X.prog X.w H s.heap a (.frz ob (.lst xs)) from I.hok a _ ea)
  exact PySem.W.kia_one PySem.W.kitx_list I.kIn ⟨_,h1,rfl⟩ e (fun z=>nomatch z) h
 | @tup a xs ea =>
  cases (show u = Value.ref a from rx)
  obtain ⟨_,_,_,p⟩:=(show ObjOk X.prog X.w H s.heap a (.tup xs) from I.hok a _ ea)
  obtain ⟨o,h1,h2,_⟩:=p
  exact PySem.W.kia_one PySem.W.kitx_tuple I.kIn ⟨o,h1,h2⟩ e (fun z=>nomatch z) h
 | @dK a kvs ea =>
  cases (show u = Value.ref a from rx)
  obtain ⟨_,_,vs,_,p⟩:=(show ObjOk X.prog X.w H s.heap a (.dK kvs) from I.hok a _ ea)
  obtain ⟨o,es,ep,h1,h2,_⟩:=p
  exact PySem.W.kia_one PySem.W.kitx_dict I.kIn ⟨o,h1,h2.1⟩ e (fun z=>nomatch z) h
 | @dT a kvs ea =>
  cases (show u = Value.ref a from rx)
  obtain ⟨_,_,xs,_,o,es,ep,h1,h2,_⟩:=(show ObjOk X.prog X.w H s.heap a (.dT kvs) from I.hok a _ ea)
  exact PySem.W.kia_one PySem.W.kitx_dict I.kIn ⟨o,h1,h2.1⟩ e (fun z=>nomatch z) h
 | @ins a C dx fs ea cl ha hn htk hm =>
  cases (show u = Value.ref a from rx)
  obtain ⟨mA,O,_⟩:=j6 I.hok ea
  obtain ⟨od,J,_⟩:=O.look
  exact PySem.W.kia_one (PySem.W.kitx_own (cl.get _) cl.hd ha hn htk hm) I.kIn J e (fun z=>nomatch z) h
end
end L2
namespace L2
open PySem PySem.Spec PyProof.Rows
structure Room (k:Nat) (A:Around):Prop where
 hd:A.handled = none
 dp:A.depth + 3 * k + 5 < recursionLimit
 un:A.units + 16 * k + 200 < cLine
 gd:A.guards = some []
theorem Room.mono {j k:Nat} {A:Around} (r:Room k A) (h:j<=k):Room j A:=⟨r.hd,by have:=r.dp; omega,by have:=r.un; omega,r.gd⟩
theorem Room.deeper {k:Nat} {A:Around} (r:Room (k + 1) A) (env:Env):Room k (A.deeper env) :=
 ⟨r.hd,by have:=r.dp; show A.depth + 1 + 3 * k + 5 < _; omega,by have:=r.un; show A.units + 3 + 16 * k + 200 < _; omega,r.gd⟩
theorem oE {A:Around} {C:Addr} {us:List Value} {kw:List (Str × Value)}:(A.under (.builtin "type.__call__" ⟨.ref C :: us,kw⟩)).depth = A.depth + 1:=by
 first | rfl | simp [Around.under,Code.weight,Code.isCreation,Code.isGuard,Code.isCaller,Code.frames,Code.isFrame,guardIds]
theorem nW {A:Around} {C:Addr} {us:List Value} {kw:List (Str × Value)}:(A.under (.builtin "type.__call__" ⟨.ref C :: us,kw⟩)).units = A.units + 1:=by
 first | rfl | simp [Around.under,Code.cUnits,Code.frames,Code.isFrame]
theorem Room.make {k:Nat} {A:Around} (r:Room (k + 1) A) (C:Addr) (us:List Value) (kw:List (Str × Value)):Room k (A.under (.builtin "type.__call__" ⟨.ref C :: us,kw⟩)) :=
 ⟨r.hd,by have:=r.dp; rw [oE]; omega,by have:=r.un; rw [nW]; omega,r.gd⟩
theorem Room.depth {k:Nat} {A:Around} (r:Room k A):A.depth < recursionLimit:=by have:=r.dp; omega
theorem Room.units {k:Nat} {A:Around} (r:Room k A):A.units + 64 < cLine:=by have:=r.un; omega
def tNil:TA:=fun _ H Q=>Q [] H
def tCons (ta:TE) (tr:TA):TA:=fun σ H Q=>ta σ H fun x H1=>tr σ H1 fun xs H2=>Q (x :: xs) H2
section
variable {X:Cx} {e:Expr} {es:List Expr} {te:TE} {t:TA} {pos:Pos}
theorem af:PA X [] tNil:=fun _ _ _ _ H Q I h=>Calls.spliced_nil ⟨[],H,I,.nil,h⟩
theorem aa (ha:PE X e te) (hr:PA X es t) (hs:starEach (e :: es) X.env = (false,eval e X.env) :: starEach es X.env:=by rfl):PA X (e :: es) (tCons te t):=by
 intro pos pins s σ H Q I h
 rw [hs]
 show wpAny _ _ (spliced ((false,eval e X.env) :: backTo pos (starEach es X.env))) _ _ s
 refine Calls.spliced_cons (thn (ha pins s σ H _ I h) fun u s1 ⟨x,H1,I1,r1,q1⟩=>?_)
 exact thn (hr pos pins s1 σ H1 _ I1 q1) fun us s2 ⟨xs,H2,I2,r2,q2⟩=>⟨x :: xs,H2,I2,.cons r1 r2,q2⟩
def tTup (t:TA):TE:=fun σ H Q=>t σ H fun xs H1=>xs.length<=sizeLine/\∀ p,H1 p = none->Q (.ref p) (upd H1 p (.tup xs))
def tLst (t:TA):TE:=fun σ H Q=>t σ H fun xs H1=>xs.length<=sizeLine/\∀ p,H1 p = none->Q (.ref p) (upd H1 p (.lst xs))
theorem bq {x1} (h:PA X es t):PE X (.Tuple es x1 pos) (tTup t):=by
 intro pins s σ H Q I hq
 refine wpAny_Tuple_spliced (thn (h pos pins s σ H _ I hq) fun us s1 ⟨xs,H1,I1,r,z,q⟩=>⟨by rw [<- r.length]; exact z,?_⟩)
 have hf:H1 s1.heap.objs.size = none:=I1.hok.fresh (Nat.le_refl _)
 refine ⟨.ref s1.heap.objs.size,upd H1 s1.heap.objs.size (.tup xs),I1.laid (t':=s1.toks) (fun b u e=>Heap.get?_push_of_some _ e) (Nat.le_refl _) ?_,rfl,q _ hf⟩
 exact ⟨z,us,r,⟨_,Heap.get?_push_size _ rfl,rfl,_,rfl⟩⟩
theorem aI (h:PA X es t):PE X (.List es pos) (tLst t):=by
 intro pins s σ H Q I hq
 refine wpAny_List_spliced (thn (h pos pins s σ H _ I hq) fun us s1 ⟨xs,H1,I1,r,z,q⟩=>⟨by rw [<- r.length]; exact z,?_⟩)
 have hf:H1 s1.heap.objs.size = none:=I1.hok.fresh (Nat.le_refl _)
 refine ⟨.ref s1.heap.objs.size,upd H1 s1.heap.objs.size (.lst xs),I1.laid (t':=s1.toks) (fun b u e=>Heap.get?_push_of_some _ e) (Nat.le_refl _) ?_,rfl,q _ hf⟩
 exact ⟨z,us,0,r,Heap.get?_push_size _ rfl⟩
end
abbrev Sp:=List V->Hp->VK->XK->Prop
abbrev CXT:=List Env->Hp->Shared->XK->Value->Shared->Prop
structure Env0 (P:Program) (w:World) (K:Frag) (mg:Str->Option Value) (base:Heap) (A:Around) (outer:List Env) (s:Shared) (H:Hp):Prop where
 frames:A.frames = some outer
 mod:Mod K mg base
 bs:∀ b o,base.get? b = some o->s.heap.get? b = some o/\H b = none
 bsz:base.objs.size<=s.heap.objs.size
 funs:s.heap.FunFrames base outer
 frf:∀ b ∈ frs outer,H b = none
 hok:HOk P w H s.heap
 bare:AllBare s.gens
def CE (outer:List Env) (P:Program) (w:World) (H:Hp) (s:Shared) (Q:VK) (u:Value) (s':Shared):Prop :=
 ∃ v H',s'.os = s.os/\AllBare s'.gens/\Un (frs outer) [] H H' s.heap s'.heap/\HOk P w H' s'.heap/\RelV v u/\Q v H'
def CR (CX:CXT) (outer:List Env) (P:Program) (w:World) (H:Hp) (s:Shared) (Q:VK) (E:XK) (r:Result) (s':Shared):Prop :=
 match r with
 | .ok (.ret u)=>CE outer P w H s Q u s'
 | .ok _=>False
 | .error e=>CX outer H s E e s'
structure FnOk (P:Program) (w:World) (K:Frag) (mg:Str->Option Value) (base:Heap) (CX:CXT) (k:Nat) (f:Addr) (fd:FuncData) (ps:List Str) (sp:Sp):Prop where
 len:∀ vs H Q E,sp vs H Q E->vs.length = ps.length
 run:∀ (A:Around) (outer:List Env) (s:Shared) (H:Hp) (args:Args) (us:List Value) (vs:List V) (Q:VK) (E:XK),Room k A->Env0 P w K mg base A outer s H->BindsTo s fd args (ps.zip us)->Vals vs us->sp vs H Q E ->
  codeAny (model P w) A (.call (.ref f) args) (CR CX outer P w H s Q E) s
theorem FnOk.mono {P:Program} {w:World} {K:Frag} {mg:Str->Option Value} {base:Heap} {CX:CXT} {j k:Nat} {f:Addr} {fd:FuncData} {ps:List Str} {sp:Sp} (F:FnOk P w K mg base CX j f fd ps sp) (h:j<=k) :
  FnOk P w K mg base CX k f fd ps sp:=⟨F.len,fun A outer s H args us vs Q E hr=>F.run A outer s H args us vs Q E (hr.mono h)⟩
theorem Env0.make {P:Program} {w:World} {K:Frag} {mg:Str->Option Value} {base:Heap} {A:Around} {outer:List Env} {s:Shared} {H:Hp} (e:Env0 P w K mg base A outer s H) (C:Addr) (us:List Value) (kw:List (Str × Value)) :
  Env0 P w K mg base (A.under (.builtin "type.__call__" ⟨.ref C :: us,kw⟩)) outer s H:=⟨by first | exact e.frames | (simpa [Around.under,Code.envs,Code.isFrame,pushEnvs] using e.frames),e.mod,e.bs,e.bsz,e.funs,e.frf,e.hok,e.bare⟩
section
variable {X:Cx} {pins:List (Addr × Obj)} {σ:St} {H:Hp} {s s':Shared}
theorem Inv.env0 (I:Inv X pins σ H s):Env0 X.prog X.w X.K X.mg X.base X.A X.stack s H :=
 ⟨I.ok.frames,I.ok.mod,I.bs,Nat.le_trans I.ok.bsz I.sz,I.stack,I.stkFree,I.hok,I.bare⟩
theorem Inv.after {Q:VK} {u:Value} (I:Inv X pins σ H s) (h:CE X.stack X.prog X.w H s Q u s'):EP X pins σ Q u s':=by
 obtain ⟨v,H',os,bare,un,hok,r,q⟩:=h
 obtain ⟨hh,g,d,t,os'⟩:=s'
 obtain rfl:os' = s.os:=os
 exact ⟨v,H',I.call (h':=hh) (g':=g) (d':=d) (t':=t) (ch:=[]) un hok bare (fun b z=>absurd z (by simp)),r,q⟩
end
def nX (sp:Sp) (dvs:List V) (E:XK) (t:TA):TE:=fun σ H Q=>t σ H fun vs H1=>sp (vs ++ dvs) H1 Q E
def tMake (C:Addr) (sp:Sp) (dvs:List V) (E:XK) (t:TA):TE:=fun σ H Q=>t σ H fun vs H1=>∀ x dx,H1 x = none->H1 dx = none->dx ≠ x ->
 sp (.ref x :: (vs ++ dvs)) (upd (upd H1 dx (.own x)) x (.ins C dx [])) (fun v H2=>v = .non/\Q (.ref x) H2) E
def Binds (K:Frag) (fd:FuncData) (ps:List Str) (ds:List Value):Prop :=
 ∀ (s:Shared) (us:List Value),K.In s.heap->(us ++ ds).length = ps.length->BindsTo s fd ⟨us,[]⟩ (ps.zip (us ++ ds))
theorem Binds.all {K:Frag} {fd:FuncData} {ps:List Str} (h:∀ us:List Value,us.length = ps.length->bindArgs fd ⟨us,[]⟩ = pure (ps.zip us)):Binds K fd ps []:=fun s us _ hl=>by
 rw [List.append_nil] at hl ⊢
 exact .of_eq (h us hl)
def iS (CX:CXT) (X:Cx) (E:XK):Prop:=∀ (pins:List (Addr × Obj)) (σ:St) (H:Hp) (s:Shared) (e:Value) (s':Shared),Inv X pins σ H s->CX X.stack H s E e s'->X.xe e s'
section
variable {X:Cx} {CX:CXT} {k:Nat} {f C:Addr} {fd:FuncData} {ps:List Str} {sp:Sp} {dvs:List V} {ds:List Value} {E:XK} {x m:Str} {p pos apos:Pos} {e o:Expr} {es:List Expr} {ta:TE} {t:TA}
theorem nQ {pins:List (Addr × Obj)} {σ:St} {H:Hp} {s:Shared} {Q:VK} {us:List Value} {vs:List V} (F:FnOk X.prog X.w X.K X.mg X.base CX k f fd ps sp) (hr:Room k X.A) (hb:Binds X.K fd ps ds) (hd:Vals dvs ds) (hx:iS CX X E)
  (I:Inv X pins σ H s) (r:Vals vs us) (h:sp (vs ++ dvs) H Q E):wpAny (model X.prog X.w) X.A (call (.ref f) us) (EP X pins σ Q) X.xe s:=by
 have r2:Vals (vs ++ dvs) (us ++ ds):=r.append hd
 have hl:(us ++ ds).length = ps.length:=by rw [<- r2.length]; exact F.len _ _ _ _ h
 refine wpAny_call (codeAny_mono (F.run X.A X.stack s H ⟨us,[]⟩ (us ++ ds) (vs ++ dvs) Q E hr I.env0 (hb s us I.kIn hl) r2 h) fun r s' hq=>?_)
 cases r with
 | error e=>exact hx pins σ H s e s' I hq
 | ok fl =>
  cases fl with
  | ret u=>exact I.after hq
  | next=>exact False.elim hq
  | brk=>exact False.elim hq
  | cont=>exact False.elim hq
theorem mB (F:FnOk X.prog X.w X.K X.mg X.base CX k f fd ps sp) (hr:Room k X.A) (hg:Gl X x) (hm:X.mg x = some (.ref f)) (hk:keepIn X.K (.ref f) = true) (hb:Binds X.K fd ps ds) (hd:Vals dvs ds) (hx:iS CX X E)
  (ha:PA X (e :: es) t) (hdb:(x == ("__debug__":Str)) = false:=by decide) (he:starEach (e :: es) X.env = (false,eval e X.env) :: starEach es X.env:=by rfl) (hpl:(backTo pos (starEach es X.env)).any (·.1) = false:=by rfl) :
  PE X (.Call (.Name x p) (e :: es) [] pos) (nX sp dvs E t):=by
 intro pins s σ H Q I h
 refine wpAny_Call_Name_kw (dW I hg hm ?_ hdb)
 refine PySem.W.callWith_K (h₀:=X.base) I.ok.mod.kin hk (thn (ha pos pins s σ H _ I h) fun us s1 ⟨vs,H1,I1,r,q⟩=>⟨I1.kIn,?_⟩) he hpl
 exact nQ F hr hb hd hx I1 r q
structure Mk (K:Frag) (C f:Addr):Prop where
 makes:makesIn K C = true
 init:findIn K (.ref C) "__init__" = some (some (.ref f))
 fn:isFn K (.ref f) = true
 kp:keepIn K (.ref C) = true
theorem run_make {pins:List (Addr × Obj)} {σ:St} {H:Hp} {s:Shared} {Q:VK} {us:List Value} {vs:List V} (M:Mk X.K C f) (F:FnOk X.prog X.w X.K X.mg X.base CX k f fd ps sp) (hr:Room (k + 1) X.A) (hb:Binds X.K fd ps ds) (hd:Vals dvs ds)
  (hx:iS CX X E) (I:Inv X pins σ H s) (r:Vals vs us)
  (h:∀ x dx,H x = none->H dx = none->dx ≠ x->sp (.ref x :: (vs ++ dvs)) (upd (upd H dx (.own x)) x (.ins C dx [])) (fun v H2=>v = .non/\Q (.ref x) H2) E) :
  wpAny (model X.prog X.w) X.A (call (.ref C) us) (EP X pins σ Q) X.xe s:=by
 have hq:=h (s.heap.objs.size + 1) s.heap.objs.size (I.hok.fresh (Nat.le_succ _)) (I.hok.fresh (Nat.le_refl _)) (Nat.ne_of_lt (Nat.lt_succ_self _))
 have I2:=Inv.made (C:=C) I
 have r2:Vals (V.ref (s.heap.objs.size + 1) :: (vs ++ dvs)) (Value.ref (s.heap.objs.size + 1) :: (us ++ ds)):=.cons rfl (r.append hd)
 have hl:(Value.ref (s.heap.objs.size + 1) :: us ++ ds).length = ps.length:=by
  have e:=r2.length
  rw [F.len _ _ _ _ hq] at e
  exact e.symm
 refine wpAny_call (make_map (f:=f) I.kIn M.makes M.init (beq_iff_eq.mp M.fn) (codeAny_mono (F.run _ X.stack _ _ ⟨Value.ref (s.heap.objs.size + 1) :: us,[]⟩ (Value.ref (s.heap.objs.size + 1) :: (us ++ ds)) _ _ E (hr.make C us [])
  (I2.env0.make C us []) (hb _ (Value.ref (s.heap.objs.size + 1) :: us) I2.kIn hl) r2 hq) fun r s' hq'=>?_))
 cases r with
 | error e=>exact hx pins σ _ _ e s' I2 hq'
 | ok fl =>
  cases fl with
  | ret u =>
   obtain ⟨v,H',I3,rv,ev,q3⟩:=I2.after hq'
   subst ev
   exact ⟨rv,⟨V.ref (s.heap.objs.size + 1),H',I3,rfl,q3⟩⟩
  | next=>exact False.elim hq'
  | brk=>exact False.elim hq'
  | cont=>exact False.elim hq'
theorem pe_make (M:Mk X.K C f) (F:FnOk X.prog X.w X.K X.mg X.base CX k f fd ps sp) (hr:Room (k + 1) X.A) (hg:Gl X x) (hm:X.mg x = some (.ref C)) (hb:Binds X.K fd ps ds) (hd:Vals dvs ds) (hx:iS CX X E)
  (ha:PA X (e :: es) t) (hdb:(x == ("__debug__":Str)) = false:=by decide) (he:starEach (e :: es) X.env = (false,eval e X.env) :: starEach es X.env:=by rfl) (hpl:(backTo pos (starEach es X.env)).any (·.1) = false:=by rfl) :
  PE X (.Call (.Name x p) (e :: es) [] pos) (tMake C sp dvs E t):=by
 intro pins s σ H Q I h
 refine wpAny_Call_Name_kw (dW I hg hm ?_ hdb)
 refine PySem.W.callWith_K (h₀:=X.base) I.ok.mod.kin M.kp (thn (ha pos pins s σ H _ I h) fun us s1 ⟨vs,H1,I1,r,q⟩=>⟨I1.kIn,?_⟩) he hpl
 exact run_make M F hr hb hd hx I1 r q
end
section
variable {X:Cx} {CX:CXT} {k:Nat} {f C:Addr} {fd:FuncData} {ps ks:List Str} {sp:Sp} {E:XK} {x m:Str} {p pos apos kpos:Pos} {e o:Expr} {es:List Expr} {kws:List Keyword} {te ta:TE} {t tk:TA} {nm:Option Str}
variable {g:List Value->List Value->List Value} {gV:List V->List V->List V}
end
structure FnScope (N P:List Str) (sc:Scope):Prop where
 kind:sc.kind = .function
 co:sc.isCoroutine = false
 gen:sc.isGenerator = false
 nd:N.Nodup
 pre:N.take P.length = P
 par:∀ x ∈ P,sc.names.lookup x = some .local\/sc.names.lookup x = some .cell
 nofree:∀ y ∈ sc.names,y.2 ≠ .free
theorem lH {kindOf:Str->Option NameKind} {x:Str}:∀ {binds:List (Str × Value)} {m:Str->Option Value},(∀ v,(x,v) ∉ binds)->bindL kindOf binds m x = m x
 | [],_,_=>rfl
 | (n,v) :: r,m,h=>by
  unfold bindL
  rw [lH fun w hw=>h w (List.mem_cons_of_mem _ hw)]
  split
  ·have:x ≠ n:=by rintro rfl; exact h v List.mem_cons_self
   simp [this]
  ·rfl
theorem kK {kindOf:Str->Option NameKind} {x:Str}:∀ {binds:List (Str × Value)} {m:Str->Option Value},(∀ v,(x,v) ∉ binds)->bindC kindOf binds m x = m x
 | [],_,_=>rfl
 | (n,v) :: r,m,h=>by
  unfold bindC
  rw [kK fun w hw=>h w (List.mem_cons_of_mem _ hw)]
  split
  ·rfl
  ·have:x ≠ n:=by rintro rfl; exact h v List.mem_cons_self
   simp [this]
theorem kT {kindOf:Str->Option NameKind} {x:Str} {v:Value}:∀ {P:List Str} {vs:List Value} {i:Nat} {m:Str->Option Value},P.Nodup->P[i]? = some x->vs[i]? = some v->kindOf x = some .local ->
  bindL kindOf (P.zip vs) m x = some v
 | [],_,_,_,_,h,_,_=>by simp at h
 | _ :: _,[],_,_,_,_,h,_=>by simp at h
 | p :: P,w :: vs,0,m,nd,h1,h2,hk=>by
  simp at h1 h2; subst h1; subst h2
  show bindL kindOf ((p,w) :: P.zip vs) m p = _
  unfold bindL
  rw [lH fun v hv=>(List.nodup_cons.mp nd).1 (List.of_mem_zip hv).1,if_pos hk]
  simp
 | p :: P,w :: vs,i + 1,m,nd,h1,h2,hk=>by
  show bindL kindOf ((p,w) :: P.zip vs) m x = _
  unfold bindL
  exact kT (i:=i) (List.nodup_cons.mp nd).2 (by simpa using h1) (by simpa using h2) hk
theorem ku {kindOf:Str->Option NameKind} {x:Str} {v:Value}:∀ {P:List Str} {vs:List Value} {i:Nat} {m:Str->Option Value},P.Nodup->P[i]? = some x->vs[i]? = some v->kindOf x ≠ some .local ->
  bindC kindOf (P.zip vs) m x = some v
 | [],_,_,_,_,h,_,_=>by simp at h
 | _ :: _,[],_,_,_,_,h,_=>by simp at h
 | p :: P,w :: vs,0,m,nd,h1,h2,hk=>by
  simp at h1 h2; subst h1; subst h2
  show bindC kindOf ((p,w) :: P.zip vs) m p = _
  unfold bindC
  rw [kK fun v hv=>(List.nodup_cons.mp nd).1 (List.of_mem_zip hv).1,if_neg hk]
  simp
 | p :: P,w :: vs,i + 1,m,nd,h1,h2,hk=>by
  show bindC kindOf ((p,w) :: P.zip vs) m x = _
  unfold bindC
  exact ku (i:=i) (List.nodup_cons.mp nd).2 (by simpa using h1) (by simpa using h2) hk
def j5 (N:List Str) (vs:List V):St:=vs.map some ++ List.replicate (N.length - vs.length) none
def dM (CX:CXT) (P:Program) (w:World) (K:Frag) (mg:Str->Option Value) (base:Heap) (N:List Str) (qual:Str) (scope:Scope) (f:Addr) (cd:Value) (A:Around) (outer:List Env) (s:Shared) (H:Hp) (E:XK):Cx where
 prog:=P
 w:=w
 K:=K
 mg:=mg
 base:=base
 A:=A.deeper (envOfC qual scope s.heap.objs.size f cd)
 N:=N
 s₀:=s
 H₀:=H
 env:=envOfC qual scope s.heap.objs.size f cd
 outer:=outer
 stack:=envOfC qual scope s.heap.objs.size f cd :: outer
 ex:=[]
 calm:=true
 fn:=fun _=>true
 pn:=[]
 xe:=fun e s'=>wpAny (model P w) (A.deeper (envOfC qual scope s.heap.objs.size f cd)) (leaving (envOfC qual scope s.heap.objs.size f cd) e) (fun _ s''=>CX outer H s E e s'') (fun e' s''=>CX outer H s E e' s'') s'
theorem nP {sc:Scope} {n:Nat} {x:Str} (h:sc.names.lookup x = some .cell):∃ c,(cellsFrom n sc.names []).lookup x = some c:=by
 have q:=PySem.W.cellsFrom_some sc.names n [] (.inl h)
 exact Option.isSome_iff_exists.mp q
theorem qy {CX:CXT} {P:Program} {w:World} {K:Frag} {mg:Str->Option Value} {base:Heap} {N ps:List Str} {qual:Str} {scope:Scope} {f:Addr} {cd:Value} {A:Around} {outer:List Env} {s s1:Shared} {H:Hp} {E:XK} {us:List Value} {vs:List V}
  (S:FnScope N ps scope) (hd:A.handled = none) (e0:Env0 P w K mg base A outer s H) (hl:vs.length = ps.length) (r:Vals vs us)
  (x:InCallC s s.heap.objs.size (bindL (envOfC qual scope s.heap.objs.size f cd).kindOf (ps.zip us) fun _=>none) (cellsFrom (s.heap.objs.size + 1) scope.names []) (bindC (envOfC qual scope s.heap.objs.size f cd).kindOf (ps.zip us) fun _=>none) s1) :
  Inv (dM CX P w K mg base N qual scope f cd A outer s H E) [] (j5 N vs) H s1:=by
 have hpl:ps.length<=N.length:=by have:=congrArg List.length S.pre; rw [List.length_take] at this; omega
 obtain ⟨h1,tk,rfl,hk⟩:=x.done
 have noA:∀ b:Addr,b ∉ (dM CX P w K mg base N qual scope f cd A outer s H E).ex:=fun b z=>absurd (show b ∈ ([]:List Addr) from z) (by simp)
 refine ⟨⟨e0.mod,S.kind,rfl,rfl,Nat.le_refl _,fun y z c h1 h2=>?_,fun y hy=>?_,fun y c _ h=>?_,fun _=>hd,Around.frames_deeper e0.frames,.inr ⟨rfl,rfl⟩,fun b z=>absurd z (noA b),e0.bs,e0.bsz,fun b _ _=>noA b,fun b z=>absurd z (noA b),e0.funs,e0.frf⟩,
  rfl,e0.bare,Un.kept hk,⟨_,x.toInCall.ns,fun i y v h1 h2 h3=>?_⟩,fun y c h=>⟨_,x.cell y c h⟩,e0.hok.fresh (Nat.le_refl _),fun y c h=>?_,fun p hp=>absurd (show p ∈ ([]:List (Addr × Obj)) from hp) (by simp),e0.hok.kept hk,?_⟩
 ·exact name_of_addr x.apart (PySem.mem_of_lookup h1) (PySem.mem_of_lookup h2)
 ·have hy:scope.names.lookup y = some .cell\/scope.names.lookup y = some .free:=hy
  rcases hy with hy | hy
  ·exact nP hy
  ·exact absurd rfl (S.nofree _ (PySem.mem_of_lookup hy))
 ·exact Nat.le_of_lt (x.above y c (PySem.mem_of_lookup h))
 ·have hi:i < vs.length:=by
   unfold j5 at h2
   by_cases hi:i < vs.length
   ·exact hi
   ·rw [List.getElem?_append_right (by simpa using hi)] at h2
    rw [List.getElem?_replicate] at h2
    split at h2 <;> cases h2
  have ha:vs[i]? = some v:=by
   unfold j5 at h2
   rw [List.getElem?_append_left (by simpa using hi),List.getElem?_map] at h2
   cases e:vs[i]? with
   | none=>rw [e] at h2; cases h2
   | some a=>rw [e] at h2; cases h2; rfl
  obtain ⟨u,hu,rv⟩:=r.get ha
  have hp:ps[i]? = some y:=by
   rw [<- S.pre,List.getElem?_take_of_lt (by omega)]; exact h1
  have ndP:ps.Nodup:=by rw [<- S.pre]; exact S.nd.sublist (List.take_sublist _ _)
  refine ⟨u,rv,?_⟩
  rcases S.par y (List.mem_of_getElem? hp) with k | k
  ·exact .inl ⟨k,kT ndP hp hu k⟩
  ·obtain ⟨c,e⟩:=nP (n:=s.heap.objs.size + 1) k
   refine .inr ⟨.inl k,c,e,?_⟩
   have q:=x.cell y c e
   rw [ku ndP hp hu (by show scope.names.lookup y ≠ _; rw [k]; decide)] at q
   exact q
 ·exact e0.hok.fresh (Nat.le_of_lt (x.above y c (PySem.mem_of_lookup h)))
 ·unfold j5
  show _ = N.length
  rw [List.length_append,List.length_map,List.length_replicate]
  omega
theorem fn_of {CX:CXT} {P:Program} {w:World} {K:Frag} {mg:Str->Option Value} {base:Heap} {k:Nat} {f:Addr} {name qual:Str} {params:Arguments} {body:List Stmt} {scope:Scope} {dV kV doc pm cdv ct oc:Value} {an od:Option Addr}
  {osl:Array (Option Value)} {N ps:List Str} {sp:Sp} (lk:K.lookup f = some ⟨oc,od,.func (fnOf name qual params body scope dV kV doc pm an cdv ct),osl⟩) (hcd:codeIn K cdv qual = true) (S:FnScope N ps scope)
  (len:∀ vs H Q E,sp vs H Q E->vs.length = ps.length)
  (hbody:∀ (A:Around) (outer:List Env) (s:Shared) (H:Hp) (vs:List V) (Q:VK) (E:XK),Room k (A.deeper (envOfC qual scope s.heap.objs.size f cdv))->sp vs H Q E ->
   ∃ t,PSs (dM CX P w K mg base N qual scope f cdv A outer s H E) body t/\t { nx:=fun _ H'=>Q .non H',rt:=Q } (j5 N vs) H) :
  FnOk P w K mg base CX (k + 1) f (fnOf name qual params body scope dV kV doc pm an cdv ct) ps sp:=by
 refine ⟨len,fun A outer s H args us vs Q E hr e0 hb r hsp=>?_⟩
 have hl:=len _ _ _ _ hsp
 have KX:K.In s.heap:=e0.mod.kin.keeps fun b o e=>(e0.bs b o e).1
 have lim:s.heap.NoLimit:=e0.mod.nolimit.keeps fun b o e=>(e0.bs b o e).1
 have hkind:∀ y ∈ ps.zip us,scope.names.lookup y.1 = some .local\/(scope.names.lookup y.1 = some .cell/\((cellsFrom (s.heap.objs.size + 1) scope.names []).lookup y.1).isSome = true):=fun ⟨n,v⟩ hy=>by
  rcases S.par n (List.of_mem_zip hy).1 with q | q
  ·exact .inl q
  ·exact .inr ⟨q,PySem.W.cellsFrom_some _ _ _ (.inl q)⟩
 refine codeAny_call_function hr.depth (KX _ _ lk) rfl S.co S.gen rfl (PySem.W.codeRec_of KX hcd) (hb _ _ _ _ ?_)
 refine wpAny_newFunctionEnv_cells S.kind hkind fun env he s1 x=>?_
 subst he
 refine ⟨lim.keeps x.toInCall.keep,codeAny_func ?_⟩
 obtain ⟨t,ht,hq⟩:=hbody A outer s H vs Q E (hr.deeper _) hsp
 have I:Inv (dM CX P w K mg base N qual scope f cdv A outer s H E) [] (j5 N vs) H s1:=qy S hr.hd e0 hl r x
 refine wpAny_mono (ht [] s1 (j5 N vs) H _ I hq) (fun fl s' hs=>?_) fun e s' hs=>hs
 have fin:∀ {σ':St} {H':Hp} {v:V} {u:Value},Inv (dM CX P w K mg base N qual scope f cdv A outer s H E) [] σ' H' s'->RelV v u->Q v H'->CE outer P w H s Q u s' :=
  fun {σ' H' v u} J rv q=>⟨v,H',J.os,J.bare,J.base,J.hok,rv,q⟩
 cases fl with
 | ret u =>
  obtain ⟨v,σ',H',J,rv,q⟩:=hs
  exact fin J rv q
 | next =>
  obtain ⟨σ',H',J,q⟩:=hs
  exact fin (v:=V.non) (u:=Value.none) J rfl q
 | brk =>
  obtain ⟨_,_,_,q⟩:=hs
  exact False.elim q
 | cont =>
  obtain ⟨_,_,_,q⟩:=hs
  exact False.elim q
end L2
namespace L2
open PySem PySem.Spec PyProof.Rows
section
variable {X:Cx} {x:Str} {p pos:Pos} {e:Expr} {es:List Expr} {t:TA} {id T:String} {r:List V->Hp->VK->Prop}
def tCB (r:List V->Hp->VK->Prop) (t:TA):TE:=fun σ H Q=>t σ H fun vs H1=>r vs H1 Q
theorem aF (hc:gq X (.builtin id) r) (hg:Gl X x) (hm:X.mg x = none) (hv:bootBuiltins x = some (.builtin id)) (ha:PA X (e :: es) t) (hn:x ≠ "__name__":=by decide) (hdb:(x == ("__debug__":Str)) = false:=by decide)
  (he:starEach (e :: es) X.env = (false,eval e X.env) :: starEach es X.env:=by rfl) (hpl:(backTo pos (starEach es X.env)).any (·.1) = false:=by rfl):PE X (.Call (.Name x p) (e :: es) [] pos) (tCB r t):=by
 intro pins s σ H Q I h
 refine wpAny_Call_Name_kw (iA I hg hm hv ?_ hn hdb)
 exact PyProof.Rows.callWith_builtin1 (thn (ha pos pins s σ H _ I h) fun us s1 ⟨vs,H1,I1,r1,q1⟩=>hc pins s1 σ H1 vs us Q I1 r1 q1) he hpl
theorem bv (hc:gq X (.type T) r) (hg:Gl X x) (hm:X.mg x = none) (hv:bootBuiltins x = some (.type T)) (ha:PA X (e :: es) t) (hn:x ≠ "__name__":=by decide) (hdb:(x == ("__debug__":Str)) = false:=by decide)
  (he:starEach (e :: es) X.env = (false,eval e X.env) :: starEach es X.env:=by rfl) (hpl:(backTo pos (starEach es X.env)).any (·.1) = false:=by rfl):PE X (.Call (.Name x p) (e :: es) [] pos) (tCB r t):=by
 intro pins s σ H Q I h
 refine wpAny_Call_Name_kw (iA I hg hm hv ?_ hn hdb)
 exact PyProof.Rows.callWith_type1 (thn (ha pos pins s σ H _ I h) fun us s1 ⟨vs,H1,I1,r1,q1⟩=>hc pins s1 σ H1 vs us Q I1 r1 q1) he hpl
end
end L2
namespace HT
open PySem PyProof.Rows
section
open PySem.SeqAt
open PySem.AutoSeq1 (wpAny_loadPart')
open PySem.MeetsSeq PySem.MeetsSeq2 PySem.MeetsSeq3
end
section
variable {prog:Program} {w:World} {A:Around} {E:Value->Shared->Prop} {s:Shared}
def sIx (n d:Nat):Option Int->Nat
 | none=>d
 | some v=>if v < 0 then (v + (n:Int)).toNat else min v.toNat n
end
end HT
namespace L2
open PySem PySem.Spec PyProof.Rows
abbrev TO:=St->Hp->(Option Int->Hp->Prop)->Prop
def PO (X:Cx) (e:Option Expr) (t:TO):Prop :=
 ∀ (pins:List (Addr × Obj)) (s:Shared) (σ:St) (H:Hp) (Q:Option Int->Hp->Prop),Inv X pins σ H s->t σ H Q ->
  wpAny (model X.prog X.w) X.A (evalPart e X.env) (fun u s'=>∃ o H',Inv X pins σ H' s'/\IsPart u o/\Q o H') X.xe s
def tNoPart:TO:=fun _ H Q=>Q none H
def tPart (t:TE):TO:=fun σ H Q=>t σ H fun x H1=>∃ i,x = .int i/\Q (some i) H1
section
variable {X:Cx} {e:Expr} {te:TE} {lo hi:Option Expr} {tl th:TO} {pos p2:Pos}
theorem dX:PO X none tNoPart:=by
 intro pins s σ H Q I h
 rw [evalPart_none]
 exact wpAny_pure ⟨none,H,I,.none,h⟩
theorem da (h:PE X e te):PO X (some e) (tPart te):=by
 intro pins s σ H Q I hw
 rw [evalPart_some]
 refine thn (h pins s σ H _ I hw) fun u s1 ⟨x,H1,I1,r1,q1⟩=>?_
 obtain ⟨i,rfl,q⟩:=q1
 obtain ⟨t,rfl⟩:=r1
 exact ⟨some i,H1,I1,.int i t,q⟩
def SlR (X:Cx) (r:V->Option Int->Option Int->Hp->VK->Prop):Prop :=
 ∀ (pins:List (Addr × Obj)) (s:Shared) (σ:St) (H:Hp) (x:V) (v vl vu:Value) (lo hi:Option Int) (sl:Addr) (Q:VK),Inv X pins σ H s->RelV x v->s.heap.IsSliceOf sl vl vu .none->IsPart vl lo->IsPart vu hi->r x lo hi H Q ->
  ∃ T id,typeLookup (.type T) "__getitem__" = pure (some (.builtin id))/\s.TypeIs v T/\wpAny (model X.prog X.w) X.A (getItem v (.ref sl)) (EP X pins σ Q) X.xe s
def tSl (r:V->Option Int->Option Int->Hp->VK->Prop) (te:TE) (tl th:TO):TE:=fun σ H Q=>te σ H fun x H1=>tl σ H1 fun l H2=>th σ H2 fun u H3=>r x l u H3 Q
theorem cJ {r:V->Option Int->Option Int->Hp->VK->Prop} (hr:SlR X r) (he:PE X e te) (hl:PO X lo tl) (hu:PO X hi th):PE X (.Subscript e (.Slice lo hi none p2) pos) (tSl r te tl th):=by
 intro pins s σ H Q I h
 refine Subscript_ (thn (he pins s σ H _ I h) fun v s1 ⟨x,H1,I1,r1,q1⟩=>?_)
 refine wpAny_Slice (thn (hl pins s1 σ H1 _ I1 q1) fun vl s2 ⟨l,H2,I2,pl,q2⟩=>thn (hu pins s2 σ H2 _ I2 q2) fun vu s3 ⟨u,H3,I3,pu,q3⟩=>?_)
 rw [evalPart_none]
 refine wpAny_pure ?_
 have I4:Inv X pins σ H3 { s3 with heap:=s3.heap.push { cls:=.type "slice",data:=.fields #[vl,vu,.none] } }:=I3.kept (t':=s3.toks) fun b ob q=>Heap.get?_push_of_some _ q
 obtain ⟨T,id,hT,ht,hg⟩:=hr pins { s3 with heap:=s3.heap.push { cls:=.type "slice",data:=.fields #[vl,vu,.none] } } σ H3 x v vl vu l u s3.heap.objs.size Q I4 r1 (Heap.IsSliceOf.new ..) pl pu q3
 show wpAny (model X.prog X.w) X.A (subscriptTail e (.Slice lo hi none p2) v (.ref s3.heap.objs.size)) (EP X pins σ Q) X.xe { s3 with heap:=s3.heap.push { cls:=.type "slice",data:=.fields #[vl,vu,.none] } }
 exact tail_any (ops:=[.ref s3.heap.objs.size,v]) ht hT hg (by with_unfolding_all rfl)
def qx (xs:List V) (lo hi:Option Int):List V:=(xs.drop (HT.sIx xs.length 0 lo)).take (HT.sIx xs.length xs.length hi - HT.sIx xs.length 0 lo)
theorem ma (xs:List V) (lo hi:Option Int):(qx xs lo hi).length<=xs.length:=by
 unfold qx
 rw [List.length_take,List.length_drop]
 omega
end
end L2
namespace L2
open PySem PySem.Spec PyProof.Rows
def ixN (n:Nat) (i:Int):Option Nat:=if 0<=i then (if i < n then some i.toNat else none) else if -(n:Int)<=i then some (i + n).toNat else none
def atI {α:Type} (xs:List α) (i:Int):Option α:=(ixN xs.length i).bind fun j=>xs[j]?
theorem qM {n:Nat} {i:Int} {j:Nat} (h:ixN n i = some j):seqIndex? i n = some j/\j < n/\-(n:Int)<=i/\i < n:=by
 unfold ixN at h
 by_cases h0:0<=i
 ·rw [if_pos h0] at h
  by_cases h1:i < n
  ·rw [if_pos h1] at h
   have e:i.toNat = j:=Option.some.inj h
   exact ⟨by rw [seqIndex_of h0 h1,e],by omega,by omega,h1⟩
  ·rw [if_neg h1] at h; cases h
 ·rw [if_neg h0] at h
  by_cases h1:-(n:Int)<=i
  ·rw [if_pos h1] at h
   have e:(i + n).toNat = j:=Option.some.inj h
   exact ⟨by rw [seqIndex_neg (by omega) h1,e],by omega,h1,by omega⟩
  ·rw [if_neg h1] at h; cases h
theorem mJ {α:Type} {xs:List α} {i:Int} {v:α} (h:atI xs i = some v):∃ j,seqIndex? i xs.length = some j/\xs[j]? = some v/\j < xs.length/\-(xs.length:Int)<=i/\i < xs.length:=by
 unfold atI at h
 cases e:ixN xs.length i with
 | none=>rw [e] at h; cases h
 | some j =>
  rw [e] at h
  obtain ⟨h1,h2,h3,h4⟩:=qM e
  exact ⟨j,h1,h,h2,h3,h4⟩
theorem gu {α:Type} {xs:List α} {j:Nat} {v:α} (h:xs[j]? = some v):atI xs (j:Int) = some v:=by
 have hj:j < xs.length:=(List.getElem?_eq_some_iff.mp h).1
 have e:ixN xs.length (j:Int) = some j:=by
  unfold ixN
  rw [if_pos (by omega),if_pos (by omega)]; simp
 unfold atI; rw [e]; exact h
theorem atI_last {α:Type} (xs:List α) (v:α):atI (xs ++ [v]) (-1) = some v:=by
 have hl:(xs ++ [v]).length = xs.length + 1:=by simp
 have e:ixN (xs ++ [v]).length (-1) = some xs.length:=by
  unfold ixN
  rw [hl,if_neg (by decide),if_pos (by omega)]
  congr 1
  omega
 unfold atI
 rw [e]
 show (xs ++ [v])[xs.length]? = some v
 simp
def PlainIx (b:Expr):Prop:=∀ o i,subscripted b false o i = operate [o,i] (getItem o i)
def IxR (X:Cx) (r:R2):Prop :=
 ∀ (value slice:Expr) (pins:List (Addr × Obj)) (s:Shared) (σ:St) (H:Hp) (x y:V) (v u:Value) (Q:VK),Inv X pins σ H s->RelV x v->RelV y u->r x y H Q ->
  subscripted slice false v u = operate [v,u] (getItem v u)->wpAny (model X.prog X.w) X.A (subscriptTail value slice v u) (EP X pins σ Q) X.xe s
def MtR (X:Cx) (id:String) (r:V->List V->Hp->VK->Prop):Prop :=
 ∀ (pins:List (Addr × Obj)) (s:Shared) (σ:St) (H:Hp) (x:V) (xs:List V) (v:Value) (us:List Value) (Q:VK),Inv X pins σ H s->RelV x v->Vals xs us->r x xs H Q ->
  wpAny (model X.prog X.w) X.A (call (.builtin id) (v :: us)) (EP X pins σ Q) X.xe s
section
variable {X:Cx} {a b:Expr} {ta tb:TE} {pos:Pos}
theorem aH {r:R2} (hr:IxR X r) (ha:PE X a ta) (hb:PE X b tb) (hs:PlainIx b):PE X (.Subscript a b pos) (tOp r ta tb):=by
 intro pins s σ H Q I h
 exact Subscript_ (binT ha hb I h fun v u s2 x y H2 I2 rx ry q=>hr a b pins s2 σ H2 x y v u Q I2 rx ry q (hs _ _))
def rIxL (K:Frag):R2:=fun x y H Q=>∃ p xs i v,x = .ref p/\y = .int i/\SqL K H p xs/\atI xs i = some v/\Q v H
def rIxT (K:Frag):R2:=fun x y H Q=>∃ p xs i v,x = .ref p/\y = .int i/\SqT K H p xs/\atI xs i = some v/\Q v H
def rIxS:R2:=fun x y H Q=>∃ z i c,x = .str z/\y = .int i/\z.length<=sizeLine/\atI z.cps.toList i = some c/\Q (.str ⟨#[c]⟩) H
theorem aD:IxR X (rIxL X.K):=by
 intro value slice pins s σ H x y v u Q I rx ry h hs
 obtain ⟨p,xs,i,z,rfl,rfl,hq,he,q⟩:=h
 cases rx
 obtain ⟨t,rfl⟩:=ry
 obtain ⟨its,r,pl,hz⟩:=I.list hq
 obtain ⟨j,h1,h2,h3,h4,h5⟩:=mJ he
 obtain ⟨w,ew,rw'⟩:=r.get h2
 have hl:=r.length
 have hn:=jx
 have fin:EP X pins σ Q w s:=⟨z,H,I,rw',q⟩
 by_cases h0:0<=i
 ·have hj:i.toNat = j:=by
   rw [seqIndex_of h0 h5] at h1
   exact Option.some.inj h1
  exact item_listR pl.isList h0 (by omega) (by rw [hj]; simpa using ew) fin hs
 ·have hj:(i + (its.toArray.size:Int)).toNat = j:=by
   rw [seqIndex_neg (by omega) h4] at h1
   rw [List.size_toArray,<- hl]
   exact Option.some.inj h1
  exact subscriptTail_builtinR (x:=w) pl.isList.typeIs slot_list_getitem.lookup
   (wpAny_getItem_list_neg (Q:=fun r s'=>r = w/\EP X pins σ Q r s') pl.isList (by omega) (by rw [List.size_toArray] <;> omega) (by omega) (by rw [hj]; simpa using ew) ⟨rfl,fin⟩) hs
theorem cF:IxR X (rIxT X.K):=by
 intro value slice pins s σ H x y v u Q I rx ry h hs
 obtain ⟨p,xs,i,z,rfl,rfl,hq,he,q⟩:=h
 cases rx
 obtain ⟨t,rfl⟩:=ry
 obtain ⟨its,r,pl,hz⟩:=I.tuple hq
 obtain ⟨j,h1,h2,h3,h4,h5⟩:=mJ he
 obtain ⟨w,ew,rw'⟩:=r.get h2
 have hl:=r.length
 have hn:=jx
 have fin:EP X pins σ Q w s:=⟨z,H,I,rw',q⟩
 exact subscriptTail_builtinR (x:=w) pl.typeIs slot_tuple_getitem.lookup
  (getItem_tuple (j:=j) (Q:=fun r s'=>r = w/\EP X pins σ Q r s') pl (by omega) (by omega) (by rw [List.size_toArray,<- hl]; exact h1) (by simpa using ew) ⟨rfl,fin⟩) hs
theorem qE:IxR X rIxS:=by
 intro value slice pins s σ H x y v u Q I rx ry h hs
 obtain ⟨z,i,c,rfl,rfl,hz,he,q⟩:=h
 obtain ⟨t,rfl⟩:=rx
 obtain ⟨t',rfl⟩:=ry
 obtain ⟨j,h1,h2,h3,h4,h5⟩:=mJ he
 have hl:z.cps.toList.length = z.length:=by simp [Str.length]
 rw [hl] at h1 h4 h5
 have hn:=jx
 exact tail_any (typeIs_str s z t) slot_str_getitem.lookup (getItem_str (c:=c) (by
  have e1:decide (i < -(2 ^ 63:Int)) = false:=decide_eq_false (by omega)
  have e2:decide (i ≥ 2 ^ 63) = false:=decide_eq_false (by omega)
  rw [e1,e2,Bool.or_false]) (by rw [h1]; simpa using h2) ⟨.str ⟨#[c]⟩,H,I.tok _,⟨_,rfl⟩,q⟩) hs
theorem om (its:List Value) (n j:Nat) (u:Value):Obj.mapSeq (·.setIfInBounds j u) { cls:=.type "list",data:=.seq its.toArray n } = { cls:=.type "list",data:=.seq (its.set j u).toArray n }:=by
 simp [Obj.mapSeq]
theorem Inv.lst {pins:List (Addr × Obj)} {σ:St} {H:Hp} {s:Shared} {p:Addr} {xs:List V} (I:Inv X pins σ H s) (h:H p = some (.lst xs)) :
  ∃ (its:List Value) (n:Nat),Vals xs its/\s.heap.get? p = some { cls:=.type "list",data:=.seq its.toArray n }/\xs.length<=sizeLine:=by
 obtain ⟨z,its,n,r,e⟩:=I.hok p _ h
 exact ⟨its,n,r,e,z⟩
theorem Inv.lstUpd {pins:List (Addr × Obj)} {σ:St} {H:Hp} {s:Shared} {p:Addr} {xs ys:List V} {its its':List Value} {n n':Nat} {f:Obj->Obj} (I:Inv X pins σ H s) (h:H p = some (.lst xs))
  (ho:s.heap.get? p = some { cls:=.type "list",data:=.seq its.toArray n }) (hf:f { cls:=.type "list",data:=.seq its.toArray n } = { cls:=.type "list",data:=.seq its'.toArray n' }) (r:Vals ys its') (hz:ys.length<=sizeLine) (t:Nat) :
  Inv X pins σ (upd H p (.lst ys)) { s with heap:=s.heap.update p f,toks:=t }:=by
 have e:(s.heap.update p f).get? p = some { cls:=.type "list",data:=.seq its'.toArray n' }:=by
  rw [Heap.get?_update_self f ho (by rw [hf] <;> rfl),hf]
 refine I.write (x:=p) (e:=p) (by rw [h]; trivial) (.inl rfl) (fun b u hb q=>(Heap.get?_update_other _ _ (Ne.symm hb)).trans q) ⟨_,e⟩ ?_
 exact ⟨hz,its',n',r,e⟩
def rSetL:V->V->V->Hp->(Hp->Prop)->Prop:=fun o i v H Q=>∃ p xs k j,o = .ref p/\i = .int k/\H p = some (.lst xs)/\ixN xs.length k = some j/\Q (upd H p (.lst (xs.set j v)))
theorem gb:PSet X rSetL:=by
 intro pins s σ H o i v ov iv u Q I ro ri rv h
 obtain ⟨p,xs,k,j,rfl,rfl,hp,hj,q⟩:=h
 cases ro
 obtain ⟨t,rfl⟩:=ri
 obtain ⟨its,n,r,ho,hz⟩:=I.lst hp
 obtain ⟨h1,h2,h3,h4⟩:=qM hj
 have hl:=r.length
 have hn:=jx
 have I':Inv X pins σ (upd H p (.lst (xs.set j v))) { s with heap:=s.heap.update p (Obj.mapSeq (·.setIfInBounds j u)) } :=
  I.lstUpd hp ho (om its n j u) (r.set rv j) (by rw [List.length_set]; exact hz) s.toks
 by_cases h0:0<=k
 ·have hk:k.toNat = j:=by
   rw [seqIndex_of h0 h4] at h1
   exact Option.some.inj h1
  exact PySem.W.ki_setAt ho h0 (by omega) (by rw [List.size_toArray,<- hl]; exact h4) (by rw [hk]; exact ⟨_,I',q⟩)
 ·have hk:(k + (its.toArray.size:Int)).toNat = j:=by
   rw [seqIndex_neg (by omega) h3] at h1
   rw [List.size_toArray,<- hl]
   exact Option.some.inj h1
  exact PySem.W.ki_setBack ho (by omega) (by rw [List.size_toArray,<- hl]; exact h3) (by omega) (by rw [hk]; exact ⟨_,I',q⟩)
theorem kr (lo hi:Option Int) (n:Nat):(sliceBounds lo hi none n).1 = ((HT.sIx n 0 lo:Nat):Int)/\(sliceBounds lo hi none n).2.1 = ((HT.sIx n n hi:Nat):Int)/\(sliceBounds lo hi none n).2.2 = 1:=by
 refine ⟨?_,?_,rfl⟩
 ·cases lo with
  | none=>simp [sliceBounds,HT.sIx]
  | some i =>
   simp only [sliceBounds,HT.sIx,Option.getD_none,show (1:Int) > 0 by decide,if_true]
   by_cases h:i < 0
   ·simp only [h,if_true] <;> omega
   ·simp only [h,if_false] <;> omega
 ·cases hi with
  | none=>simp [sliceBounds,HT.sIx]
  | some i =>
   simp only [sliceBounds,HT.sIx,Option.getD_none,show (1:Int) > 0 by decide,if_true]
   by_cases h:i < 0
   ·simp only [h,if_true] <;> omega
   ·simp only [h,if_false] <;> omega
theorem jN (its:List Value) (lo hi:Option Int):slicePick its.toArray lo hi none = ((its.drop (HT.sIx its.length 0 lo)).take (HT.sIx its.length its.length hi - HT.sIx its.length 0 lo)).toArray:=by
 obtain ⟨h1,h2,h3⟩:=kr lo hi its.toArray.size
 unfold slicePick
 rw [h1,h2,h3]
 simp only [sliceRange_one,pick_run,List.size_toArray] <;> rfl
def rSlL (K:Frag):V->Option Int->Option Int->Hp->VK->Prop:=fun x lo hi H Q=>∃ a xs,x = .ref a/\SqL K H a xs/\∀ p,H p = none->Q (.ref p) (upd H p (.lst (qx xs lo hi)))
theorem eu:SlR X (rSlL X.K):=by
 intro pins s σ H x v vl vu lo hi sl Q I rx hs pl pu h
 obtain ⟨a,xs,rfl,hx,q⟩:=h
 cases rx
 obtain ⟨its,r,ht,hz⟩:=I.list hx
 have hlen:=r.length
 refine ⟨"list",_,slot_list_getitem.lookup,ht.isList.typeIs,?_⟩
 refine wpAny_getItem_list_slice ht.isList hs pl pu .none (by simp) ?_ (by rw [List.size_toArray] <;> omega)
 rw [jN,<- hlen]
 refine ⟨.ref s.heap.objs.size,_,I.laid (t':=s.toks) (o:=.lst (qx xs lo hi)) (fun b ob q=>Heap.get?_push_of_some _ q) (Nat.le_refl _) ?_,rfl,q _ (I.hok.fresh (Nat.le_refl _))⟩
 exact ⟨Nat.le_trans (ma xs lo hi) hz,_,0,(r.drop (HT.sIx xs.length 0 lo)).take (HT.sIx xs.length xs.length hi - HT.sIx xs.length 0 lo),Heap.get?_push_size _ rfl⟩
def gM:V->Bool
 | .non=>true
 | .bl _=>true
 | .int _=>true
 | .str _=>true
 | _=>false
def eqV:V->V->Bool
 | .non,.non=>true
 | .bl a,.bl b=>a == b
 | .bl a,.int b=>(if a then 1 else 0) == b
 | .int a,.bl b=>a == (if b then 1 else 0)
 | .int a,.int b=>a == b
 | .str a,.str b=>a == b
 | _,_=>false
theorem qo {A:Around} {s:Shared} {y x:V} {u v:Value} (ry:RelV y u) (rx:RelV x v) (fy:gM y = true) (fx:gM x = true):SeqAt.EqAt A s u v (eqV y x):=by
 cases y with
 | non =>
  cases ry
  cases x with
  | non=>cases rx; exact SeqAt.EqAt.same _
  | bl b=>cases rx; exact SeqAt.EqAt.none_bool b
  | int b=>obtain ⟨t,rfl⟩:=rx; exact SeqAt.EqAt.none_int b t
  | str b=>obtain ⟨t,rfl⟩:=rx; exact SeqAt.EqAt.none_str b t
  | _=>exact absurd (show false = true from fx) Bool.false_ne_true
 | bl a =>
  cases ry
  cases x with
  | non=>cases rx; exact SeqAt.EqAt.bool_none a
  | bl b=>cases rx; exact SeqAt.EqAt.bool_bool a b
  | int b=>obtain ⟨t,rfl⟩:=rx; exact SeqAt.EqAt.bool_int a b t
  | str b=>obtain ⟨t,rfl⟩:=rx; exact SeqAt.EqAt.bool_str a b t
  | _=>exact absurd (show false = true from fx) Bool.false_ne_true
 | int a =>
  obtain ⟨t',rfl⟩:=ry
  cases x with
  | non=>cases rx; exact SeqAt.EqAt.int_none a t'
  | bl b=>cases rx; exact SeqAt.EqAt.int_bool a t' b
  | int b=>obtain ⟨t,rfl⟩:=rx; exact SeqAt.EqAt.int_int a t' b t
  | str b=>obtain ⟨t,rfl⟩:=rx; exact SeqAt.EqAt.int_str a t' b t
  | _=>exact absurd (show false = true from fx) Bool.false_ne_true
 | str a =>
  obtain ⟨t',rfl⟩:=ry
  cases x with
  | non=>cases rx; exact SeqAt.EqAt.str_none a t'
  | bl b=>cases rx; exact SeqAt.EqAt.str_bool a t' b
  | int b=>obtain ⟨t,rfl⟩:=rx; exact SeqAt.EqAt.str_int a t' b t
  | str b=>obtain ⟨t,rfl⟩:=rx; exact SeqAt.EqAt.str_str a t' b t
  | _=>exact absurd (show false = true from fx) Bool.false_ne_true
 | _=>exact absurd (show false = true from fy) Bool.false_ne_true
def eqU (x:V) (u:Value):Bool:=match u with
 | .none=>eqV .non x
 | .bool b=>eqV (.bl b) x
 | .int i _=>eqV (.int i) x
 | .str z _=>eqV (.str z) x
 | _=>false
theorem eqU_of {x y:V} {u:Value} (r:RelV y u) (f:gM y = true):eqU x u = eqV y x:=by
 cases y with
 | non=>cases r; rfl
 | bl b=>cases r; rfl
 | int i=>obtain ⟨t,rfl⟩:=r; rfl
 | str z=>obtain ⟨t,rfl⟩:=r; rfl
 | _=>exact absurd (show false = true from f) Bool.false_ne_true
theorem jb {x:V}:∀ {xs:List V} {us:List Value},Vals xs us->xs.all gM = true->us.any (eqU x) = xs.any fun y=>eqV y x
 | _,_,.nil,_=>rfl
 | y :: xs,u :: us,.cons r t,f=>by
  rw [List.all_cons,Bool.and_eq_true] at f
  rw [List.any_cons,List.any_cons,eqU_of r f.1,jb t f.2]
theorem fW {A:Around} {s:Shared} {x:V} {v:Value} (rx:RelV x v) (fx:gM x = true):∀ {xs:List V} {us:List Value},Vals xs us->xs.all gM = true->∀ u ∈ us,SeqAt.EqAt A s u v (eqU x u)
 | _,_,.nil,_=>fun u hu=>by cases hu
 | y :: xs,u :: us,.cons r t,f=>fun u' hu=>by
  rw [List.all_cons,Bool.and_eq_true] at f
  rcases List.mem_cons.mp hu with rfl | hu
  ·rw [eqU_of r f.1]; exact qo r rx f.1 fx
  ·exact fW rx fx t f.2 u' hu
def inV (x:V) (xs:List V):Bool:=xs.any fun y=>eqV y x
def rIn (K:Frag) (neg:Bool):R2:=fun x y H Q=>∃ p xs,y = .ref p/\(SqL K H p xs\/SqT K H p xs)/\gM x = true/\xs.all gM = true/\Q (.bl (if neg then !inV x xs else inV x xs)) H
theorem fX:OpR X (compareOp .In) (rIn X.K false):=by
 intro pins s σ H x y v u Q I rx ry h
 obtain ⟨p,xs,rfl,hq,fx,fs,q⟩:=h
 cases ry
 rcases hq with hq | hq
 ·obtain ⟨its,r,pl,hz⟩:=I.list hq
  refine SeqAt.in_listAt (eqU x) pl.isList (fun w hw=>fW rx fx r fs w (by simpa using hw)) ⟨.bl _,H,I,rfl,?_⟩
  rw [show its.toArray.any (eqU x) = its.any (eqU x) by simp,jb r fs]
  exact q
 ·obtain ⟨its,r,pl,hz⟩:=I.tuple hq
  refine SeqAt.in_tupleAt (eqU x) pl (fun w hw=>fW rx fx r fs w (by simpa using hw)) ⟨.bl _,H,I,rfl,?_⟩
  rw [show its.toArray.any (eqU x) = its.any (eqU x) by simp,jb r fs]
  exact q
theorem lJ:OpR X (compareOp .NotIn) (rIn X.K true):=by
 intro pins s σ H x y v u Q I rx ry h
 obtain ⟨p,xs,rfl,hq,fx,fs,q⟩:=h
 cases ry
 rcases hq with hq | hq
 ·obtain ⟨its,r,pl,hz⟩:=I.list hq
  refine SeqAt.notIn_listAt (eqU x) pl.isList (fun w hw=>fW rx fx r fs w (by simpa using hw)) ⟨.bl _,H,I,rfl,?_⟩
  rw [show its.toArray.any (eqU x) = its.any (eqU x) by simp,jb r fs]
  exact q
 ·obtain ⟨its,r,pl,hz⟩:=I.tuple hq
  refine SeqAt.notIn_tupleAt (eqU x) pl (fun w hw=>fW rx fx r fs w (by simpa using hw)) ⟨.bl _,H,I,rfl,?_⟩
  rw [show its.toArray.any (eqU x) = its.any (eqU x) by simp,jb r fs]
  exact q
theorem aM:gq X (.builtin "len") (fun xs H Q=>∃ p ys,xs = [.ref p]/\(SqL X.K H p ys\/SqT X.K H p ys)/\Q (.int ys.length) H):=by
 intro pins s σ H xs us Q I r h
 obtain ⟨p,ys,rfl,hq,q⟩:=h
 obtain ⟨u,rfl,rx⟩:=kH r
 cases rx
 have hn:=jx
 rcases hq with hq | hq
 ·obtain ⟨its,r',pl,hz⟩:=I.list hq
  have hlen:=r'.length
  exact Calls.call_len_list pl.isList (by simp only [List.size_toArray] <;> omega) ⟨.int ys.length,H,I.tok _,⟨s.toks + 1,by rw [List.size_toArray,hlen]⟩,q⟩
 ·obtain ⟨its,r',pl,hz⟩:=I.tuple hq
  have hlen:=r'.length
  exact len_tuple pl (by simp only [List.size_toArray] <;> omega) ⟨.int ys.length,H,I.tok _,⟨s.toks + 1,by rw [List.size_toArray,hlen]⟩,q⟩
theorem dO:gq X (.builtin "len") (fun xs H Q=>∃ z,xs = [.str z]/\z.length<=sizeLine/\Q (.int z.length) H):=by
 intro pins s σ H xs us Q I r h
 obtain ⟨z,rfl,hz,q⟩:=h
 obtain ⟨u,rfl,t,rfl⟩:=kH r
 have hn:=jx
 exact len_str (by omega) ⟨.int z.length,H,I.tok _,⟨_,rfl⟩,q⟩
def tyV (K:Frag) (T:String) (x:V) (H:Hp):Prop:=match x with
 | .str _=>T = "str"
 | .int _=>T = "int"
 | .ref p=>(T = "list"/\∃ xs,SqL K H p xs)\/(T = "tuple"/\∃ o,K.lookup p = some o/\o.cls = .type "tuple"/\o.dict = none) \/
   (T = "dict"/\((∃ kvs,H p = some (.dK kvs))\/∃ kvs,H p = some (.dT kvs)))\/(T = "set"/\∃ S n,H p = some (.set S n))
 | _=>False
theorem tyV_is {pins:List (Addr × Obj)} {σ:St} {H:Hp} {s:Shared} {T:String} {x:V} {v:Value} (I:Inv X pins σ H s) (r:RelV x v) (ty:tyV X.K T x H) :
  s.TypeIs v T/\∀ a,v = .ref a->∃ ob,s.heap.get? a = some ob/\ob.dict = none:=by
 cases x with
 | str z =>
  obtain ⟨t,rfl⟩:=r
  cases (show T = "str" from ty)
  exact ⟨typeIs_str s z t,fun _ e=>nomatch e⟩
 | int i =>
  obtain ⟨t,rfl⟩:=r
  cases (show T = "int" from ty)
  exact ⟨typeIs_int s i t,fun _ e=>nomatch e⟩
 | ref p =>
  cases r
  rcases ty with ⟨rfl,xs,hq⟩ | ⟨rfl,o,hk,hc,hd⟩ | ⟨rfl,hk⟩ | ⟨rfl,S,n,hk⟩
  ·obtain ⟨its,_,pl,_⟩:=I.list hq
   refine ⟨pl.isList.typeIs,fun a e=>?_⟩
   cases e
   obtain ⟨o,n,e,c,hd,_⟩:=pl
   exact ⟨o,e,hd⟩
  ·refine ⟨⟨o,I.kIn p o hk,hc⟩,fun a e=>?_⟩
   cases e
   exact ⟨o,I.kIn _ o hk,hd⟩
  ·have z:∃ o,s.heap.get? p = some o/\o.ExactDict:=by
    rcases hk with ⟨kvs,hk⟩ | ⟨kvs,hk⟩
    ·obtain ⟨_,_,_,_,o,_,_,e,ex,_⟩:=I.hok p _ hk
     exact ⟨o,e,ex⟩
    ·obtain ⟨_,_,_,_,o,_,_,e,ex,_⟩:=I.hok p _ hk
     exact ⟨o,e,ex⟩
   obtain ⟨o,e,ex⟩:=z
   refine ⟨⟨o,e,ex.1⟩,fun a e2=>?_⟩
   cases e2
   exact ⟨o,e,ex.2.1⟩
  ·obtain ⟨o,_,_,_,e,ex,_⟩:=I.hok p _ hk
   refine ⟨⟨o,e,ex.1⟩,fun a e2=>?_⟩
   cases e2
   exact ⟨o,e,ex.2.1⟩
 | _=>exact False.elim ty
def tBM0 (K:Frag) (T:String) (r:V->List V->Hp->VK->Prop) (to:TE):TE:=fun σ H Q=>to σ H fun x H1=>tyV K T x H1/\r x [] H1 Q
def tBM (K:Frag) (T:String) (r:V->List V->Hp->VK->Prop) (to:TE) (t:TA):TE:=fun σ H Q=>to σ H fun x H1=>tyV K T x H1/\t σ H1 fun xs H2=>r x xs H2 Q
variable {o e:Expr} {es:List Expr} {to:TE} {t:TA} {name:Str} {apos cpos:Pos} {T id:String} {r:V->List V->Hp->VK->Prop}
theorem pe_bm0 (pa:PlainAttrs T) (slot:Slot T name id) (hty:typeOf (.builtin id) = pure (.type "method_descriptor")) (hm:MtR X id r) (ho:PE X o to)
  (hbase:attributeBase o name X.env (eval o X.env) = eval o X.env:=by rfl) (hline:(apos.endLine == cpos.line) = true:=by rfl):PE X (.Call (.Attribute o name apos) [] [] cpos) (tBM0 X.K T r to):=by
 intro pins s σ H Q I h
 refine wpAny_Call_method0_late hbase hline (thn (ho pins s σ H _ I h) fun v s1 ⟨x,H1,I1,r1,ty,q1⟩=>?_)
 obtain ⟨h1,h2⟩:=tyV_is I1 r1 ty
 exact ⟨T,id,pa,slot,hty,h1,h2,Calls.callWith_builtin rfl (PySem.evalArgs_none (hm pins s1 σ H1 x [] v [] Q I1 r1 .nil q1))⟩
theorem cK (pa:PlainAttrs T) (slot:Slot T name id) (hty:typeOf (.builtin id) = pure (.type "method_descriptor")) (hm:MtR X id r) (ho:PE X o to) (ha:PA X (e :: es) t)
  (hbase:attributeBase o name X.env (eval o X.env) = eval o X.env:=by rfl)
  (hfew:((backTo cpos (starEach (e :: es) X.env)).all (fun x=>!x.1) && (backToKw cpos (keywordEach [] X.env)).all (fun x=>x.1.isSome)
   && decide ((e :: es).length + ([]:List Keyword).length + (if ([]:List Keyword).isEmpty then 0 else 1) < 30)) = true:=by rfl)
  (hline:(apos.endLine == cpos.line) = true:=by rfl) (hs:starEach (e :: es) X.env = (false,eval e X.env) :: starEach es X.env:=by rfl) (hplain:(backTo cpos (starEach es X.env)).any (·.1) = false:=by rfl) :
  PE X (.Call (.Attribute o name apos) (e :: es) [] cpos) (tBM X.K T r to t):=by
 intro pins s σ H Q I h
 refine wpAny_Call_method_late hbase hfew hline rfl (thn (ho pins s σ H _ I h) fun v s1 ⟨x,H1,I1,r1,ty,q1⟩=>?_)
 obtain ⟨h1,h2⟩:=tyV_is I1 r1 ty
 refine ⟨T,id,pa,slot,hty,h1,h2,?_⟩
 have hA:=ha cpos pins s1 σ H1 _ I1 q1
 rw [hs] at hA ⊢
 refine Calls.callWith_builtin (by show (false || (backTo cpos (starEach es X.env)).any (·.1)) = false; rw [hplain] <;> rfl) (Calls.evalArgs_plain ?_)
 exact thn hA fun us s2 ⟨vs,H2,I2,r2,q2⟩=>hm pins s2 σ H2 x vs v us Q I2 r1 r2 q2
/- xs.append(e),list.index on a module's tuple .. are MtR facts of 06m -/
end
end L2
namespace L2
open PySem PySem.Spec PyProof.Rows
def MtM (X:Cx) (id:String) (r:V->List V->Hp->VK->Prop):Prop :=
 ∀ (pins:List (Addr × Obj)) (s:Shared) (σ:St) (H:Hp) (x:V) (xs:List V) (v:Value) (us:List Value) (Q:VK),Inv X pins σ H s->RelV x v->Vals xs us->r x xs H Q ->
  wpAny (model X.prog X.w) X.A (call (.builtin id) (v :: us)) (EP X pins σ Q) X.xe s
theorem Vals.one:∀ {x:V} {us:List Value},Vals [x] us->∃ u,us = [u]/\RelV x u
 | _,_,.cons r .nil=>⟨_,rfl,r⟩
theorem Vals.two:∀ {x y:V} {us:List Value},Vals [x,y] us->∃ u v,us = [u,v]/\RelV x u/\RelV y v
 | _,_,_,.cons r (.cons q .nil)=>⟨_,_,rfl,r,q⟩
theorem Vals.zero:∀ {us:List Value},Vals [] us->us = []
 | _,.nil=>rfl
theorem Vals.dropLast {xs:List V} {us:List Value} (h:Vals xs us):Vals xs.dropLast us.dropLast:=by
 induction h with
 | nil=>exact .nil
 | cons r t ih =>
  cases t with
  | nil=>exact .nil
  | cons q t'=>exact .cons r ih
theorem Vals.rep {xs:List V} {us:List Value} (h:Vals xs us):∀ k:Nat,Vals (List.replicate k xs).flatten (List.replicate k us).flatten
 | 0=>.nil
 | k + 1=>by
  rw [List.replicate_succ,List.replicate_succ,List.flatten_cons,List.flatten_cons]
  exact Vals.append h (Vals.rep h k)
theorem og {α:Type} (l:List α):l.eraseIdx (l.length - 1) = l.dropLast:=by
 induction l with
 | nil=>rfl
 | cons a r ih =>
  cases r with
  | nil=>rfl
  | cons b r =>
   have e:(a :: b :: r).length - 1 = ((b :: r).length - 1) + 1:=by
    have h1:(a :: b :: r).length = r.length + 2:=rfl
    have h2:(b :: r).length = r.length + 1:=rfl
    omega
   rw [e,List.eraseIdx_cons_succ,ih]
   all_goals rfl
theorem kF (its:List Value):∀ (k:Nat) (acc:List Value),
  List.foldl (fun x1 x2=>x1 ++ x2) acc.toArray (List.replicate k its.toArray) = (acc ++ (List.replicate k its).flatten).toArray
 | 0,acc=>by simp
 | k + 1,acc=>by
  have e:acc.toArray ++ its.toArray = (acc ++ its).toArray:=by simp
  have e2:(acc ++ its) ++ (List.replicate k its).flatten = acc ++ (List.replicate (k + 1) its).flatten:=by
   rw [List.replicate_succ,List.flatten_cons,List.append_assoc]
  rw [<- e2,<- kF its k (acc ++ its),<- e,List.replicate_succ,List.foldl_cons]
section
variable {X:Cx} {pins:List (Addr × Obj)} {σ:St} {H:Hp} {s:Shared} {l b:Addr} {xs ys zs:List V}
theorem Inv.lset {its its':List Value} {n:Nat} {f:Array Value->Array Value} {t':Nat} (I:Inv X pins σ H s) (hH:H l = some (.lst xs))
  (e:s.heap.get? l = some { cls:=.type "list",data:=.seq its.toArray n }) (hf:f its.toArray = its'.toArray) (hv:Vals ys its') (hz:ys.length<=sizeLine) :
  Inv X pins σ (upd H l (.lst ys)) { s with heap:=s.heap.update l (Obj.mapSeq f),toks:=t' }:=by
 have q:=PySem.IsL.update e f
 rw [hf] at q
 refine I.write (x:=l) (e:=l) (by rw [hH]; exact trivial) (.inl rfl) (fun b' u hb hu=>(Heap.get?_update_other s.heap (Obj.mapSeq f) (Ne.symm hb)).trans hu) ⟨_,q⟩ ?_
 exact ⟨hz,its',_,hv,q⟩
theorem Inv.lnew {its:List Value} {t':Nat} (I:Inv X pins σ H s) (hv:Vals ys its) (hz:ys.length<=sizeLine) :
  Inv X pins σ (upd H s.heap.objs.size (.lst ys)) { s with heap:=s.heap.push { cls:=.type "list",data:=.seq its.toArray },toks:=t' } :=
 I.laid (fun _ _ q=>Heap.get?_push_of_some _ q) (Nat.le_refl _) ⟨hz,its,0,hv,Heap.get?_push_size _ rfl⟩
theorem Inv.fresh (I:Inv X pins σ H s):H s.heap.objs.size = none:=I.hok.fresh (Nat.le_refl _)
theorem Inv.lstM (I:Inv X pins σ H s) (hH:H l = some (.lst xs)):xs.length<=sizeLine/\∃ (its:List Value) (n:Nat),Vals xs its/\xs.length = its.length/\s.heap.get? l = some { cls:=.type "list",data:=.seq its.toArray n }:=by
 obtain ⟨z,its,n,r,e⟩:=I.hok l _ hH
 exact ⟨z,its,n,r,r.length,e⟩
theorem notLongL {n:Nat} (h:n<=sizeLine):Builtin.List.listTooLong n = false:=by
 unfold Builtin.List.listTooLong
 exact decide_eq_false (by omega)
end
section
variable {X:Cx}
def rAppend:V->List V->Hp->VK->Prop:=fun x vs H Q=>∃ l xs y,x = .ref l/\vs = [y]/\H l = some (.lst xs)/\xs.length < sizeLine/\Q .non (upd H l (.lst (xs ++ [y])))
theorem aP:MtM X "list.append" rAppend:=by
 intro pins s σ H x vs v us Q I rx rv h
 obtain ⟨l,xs,y,rfl,rfl,hH,hz,q⟩:=h
 cases rx
 obtain ⟨u,rfl,ru⟩:=rv.one
 obtain ⟨z,its,n,r,hl,e⟩:=I.lstM hH
 refine call_meets F.slot_list_append ⟨_,e,rfl⟩ F.entry_list_append (F.args_list_append_2 _ _) (PySem.list_append l its.toArray n u (by rw [List.size_toArray]; omega)) ⟨e,?_⟩
 refine ⟨.non,_,I.lset (its':=its ++ [u]) hH e (by simp) (r.append (.cons ru .nil)) ?_,rfl,q⟩
 rw [List.length_append,List.length_singleton]
 omega
def rPop:V->List V->Hp->VK->Prop:=fun x vs H Q=>∃ l xs y,x = .ref l/\vs = []/\H l = some (.lst xs)/\xs[xs.length - 1]? = some y/\Q y (upd H l (.lst xs.dropLast))
theorem mt_pop:MtM X "list.pop" rPop:=by
 intro pins s σ H x vs v us Q I rx rv h
 obtain ⟨l,xs,y,rfl,rfl,hH,hy,q⟩:=h
 cases rx
 have hus:=rv.zero
 subst hus
 obtain ⟨z,its,n,r,hl,e⟩:=I.lstM hH
 obtain ⟨u,hu,ru⟩:=r.get hy
 have hy':its.toArray[its.toArray.size - 1]? = some u:=by
  show its.toArray[its.length - 1]? = some u
  rw [<- Array.getElem?_toList,<- hl]
  exact hu
 refine call_meets F.slot_list_pop ⟨_,e,rfl⟩ F.entry_list_pop (F.args_list_pop_1 _) (MeetsSeq.list_pop_last l its.toArray n u hy' (by rw [List.size_toArray]; omega)) ⟨e,?_⟩
 refine ⟨y,_,I.lset (its':=its.dropLast) hH e ?_ r.dropLast ?_,ru,q⟩
 ·show its.toArray.eraseIdxIfInBounds (its.toArray.size - 1) = its.dropLast.toArray
  rw [List.size_toArray,List.eraseIdxIfInBounds_toArray,og]
 ·rw [List.length_dropLast]
  omega
def rRep:R2:=fun x y H Q=>∃ l k xs,x = .ref l/\y = .int k/\H l = some (.lst xs)/\-(2 ^ 63)<=k/\k < 2 ^ 63/\xs.length * k.toNat<=sizeLine /\
 ∀ p,H p = none->Q (.ref p) (upd H p (.lst (List.replicate k.toNat xs).flatten))
theorem len_rep {α:Type} (xs:List α) (k:Nat):(List.replicate k xs).flatten.length = k * xs.length:=by
 induction k with
 | zero=>simp
 | succ k ih=>rw [List.replicate_succ,List.flatten_cons,List.length_append,ih,Nat.succ_mul,Nat.add_comm]
theorem mX:OpR X (binaryOp .Mult) rRep:=by
 intro pins s σ H x y v u Q I rx ry h
 obtain ⟨l,k,xs,rfl,rfl,hH,h1,h2,hz,q⟩:=h
 cases rx
 obtain ⟨t,rfl⟩:=ry
 obtain ⟨z,its,n,r,hl,e⟩:=I.lstM hH
 have hlen:its.toArray.size * k.toNat<=sizeLine:=by rw [List.size_toArray,<- hl]; exact hz
 have hcap:¬ its.toArray.size * k.toNat > (2 ^ 63 - 1) / 8:=by
  have:(sizeLine:Nat)<=(2 ^ 63 - 1) / 8:=by decide
  omega
 have hfit:¬ (!Builtin.List.listFitsIndex k) = true:=by
  rw [fitsIndex_both h1 h2]
  exact Bool.false_ne_true
 have hlong:¬ Builtin.List.listTooLong (its.toArray.size * k.toNat) = true:=by
  rw [notLongL hlen]
  exact Bool.false_ne_true
 have hnew:List.foldl (fun x1 x2=>x1 ++ x2) #[] (List.replicate (if its.toArray.isEmpty = true then 0 else k.toNat) its.toArray) = (List.replicate k.toNat its).flatten.toArray:=by
  have f0:∀ m:Nat,List.foldl (fun x1 x2=>x1 ++ x2) #[] (List.replicate m its.toArray) = (List.replicate m its).flatten.toArray:=fun m=>by
   have:=kF its m []
   rw [List.nil_append] at this
   exact this
  rw [f0]
  cases its with
  | nil=>simp
  | cons a r'=>rw [if_neg (by simp)]
 refine wpAny_binaryOp_repeat_ref (T:="list") (U:="int") (by decide) ⟨_,e,rfl⟩ (fun s'=>typeIs_int s' k t) noFill_list_mul F.fills_int_mul F.slot_int_rmul repeat_list F.slot_int_index.lookup
  (call_meets F.slot_int_rmul (typeIs_int s k t) F.entry_int_rmul (F.args_int_rmul_2 _ _) (int___rmul___int_list k t l its.toArray n)
   ⟨e,rfl,⟨_,e,rfl⟩,call_meets F.slot_list_mul ⟨_,e,rfl⟩ F.entry_list_mul (F.args_list_mul_2 _ _) (AutoListH.list___mul___list_int_3 l its.toArray n k t hfit hcap hlong) ⟨e,?_⟩⟩)
 rw [hnew]
 exact ⟨.ref _,_,I.lnew (t':=s.toks) (r.rep k.toNat) (by rw [len_rep,Nat.mul_comm]; exact hz),rfl,q _ I.fresh⟩
end
section
variable {prog:Program} {w:World} {A:Around} {E:Value->Shared->Prop} {s:Shared}
set_option maxRecDepth 100000 in
end
section
variable {X:Cx}
end
end L2
namespace Att
open PySem PySem.W PySem.Calls PyProof.Rows
theorem iD {P:Params} {h:Heap}:∀ (ns:List Int) (vs:List Value),WellAll P h vs (ns.map WData.int)->IntsAre vs ns:=by
 intro ns
 induction ns with
 | nil =>
  intro vs w
  rw [List.map_nil] at w
  cases w
  exact .nil
 | cons n ns ih =>
  intro vs w
  rw [List.map_cons] at w
  cases w with
  | cons a b =>
   cases a
   exact .cons _ _ (ih _ b)
theorem pU {l:OpenLaw} {n:Nat} (hn:l.most = some n) {P:Params} {h:Heap} {args:List WData} {vals:List Value}
  (hpre:l.row.toRowW.claim.pre args = true) (hwl:WellAll P h vals args) :
  ∃ a vs ns,vals = [Value.ref a]/\args = [WData.list (ns.map WData.int)]/\h.get? a = some { cls:=.type "list",data:=.seq vs.toArray }/\IntsAre vs ns/\ns.length<=n:=by
 have hsh:WShape.hasAll [] args [.list .int] = true:=(pre_splitW hpre).1
 have hc:l.pre.holds [] { args:=args } = true:=(pre_splitW hpre).2
 obtain ⟨d,r,rfl,h1,h2⟩:=hasAllW_cons hsh
 obtain rfl:=hasAllW_nil h2
 obtain ⟨xs,rfl,h3⟩:=hasW_list h1
 obtain ⟨ns,rfl⟩:=items_int h3
 have hlen:ns.length<=n:=by
  unfold OpenLaw.pre at hc
  have h4:(WTm.not (.lt (.lit (.int (n:Int))) (.len (.arg 0)))).holds [] { args:=[.list (ns.map .int)] } = true:=by
   have h4:=(holds_andW hc).1
   rw [hn] at h4
   exact h4
  have h5:=condW_of h4 (w_not (w_lt w_lit (w_len_list (w_arg rfl))))
  rw [List.length_map] at h5
  refine Nat.le_of_not_lt fun q=>?_
  have q':(n:Int) < ((ns.length:Nat):Int):=by omega
  first
   | (rw [decide_eq_true q'] at h5; exact absurd h5 (by decide))
   | (simp at h5; omega)
 cases hwl with
 | cons w1 w2 =>
  cases w2
  cases w1 with
  | list ho hall=>exact ⟨_,_,ns,rfl,rfl,ho,iD ns _ hall,hlen⟩
theorem pj (l:OpenLaw) (args:List WData):l.row.toRowW.claim.post args (.bool true) args = true :=
 postW_of (r:=l.row.toRowW) (X:=(true == true))
  (show WShape.has [] (.bool true) .bool = true by first | rfl | decide | simp [WShape.has,WShape.arms,WShape.armsAll])
  (show (WTm.eq .res (.lit (.bool true))).value [] { args:=args,res:=some (.bool true),after:=args } = some (.bool (true == true)) from w_eq_bool (w_res rfl) w_lit) rfl
theorem attach_call {l:OpenLaw} {n:Nat} {q:Program} {loose:List Str} {XP:(Str->Option Value)->Heap->Prop} {YP:World->Heap->Prop} {d:DefRec}
  (hn:l.most = some n) (hdf:d.params.defaults = [])
  (call:∀ (w:World) (s₀ s₁:Shared) (mg mb:Str->Option Value) (fa:Addr) (o:Obj) (pm cd doc:Value) (a:Addr) (vs:List Value) (ns:List Int),
   Ground q loose [] XP w s₀ mg mb s₁.heap->YP w s₁.heap ->
   s₁.heap.get? fa = some o->o.data = .func (docDef d.name d.params d.body d.scope pm cd doc)->s₁.heap.CodeRec cd d.name->mg d.name = some (.ref fa) ->
   s₁.heap.get? a = some { cls:=.type "list",data:=.seq vs.toArray }->IntsAre vs ns->ns.length<=n->s₁.gens = #[] ->
   codeAny (model l.prog w) callerA (.call (.ref fa) ⟨[.ref a],[]⟩) (fun r s'=>r = .ok (.ret (.bool true))/\OldK s₁.heap s'.heap/\s'.os = s₁.os/\AllBare s'.gens) s₁) :
  WalkO q loose XP YP l.row.toRowW d [] (fun f vs=>PySem.call f vs):=by
 intro w s₀ s₁ mg mb G Y fa o pm cd doc dV kV ho hd hcd hD hmg hg args vals as hpre hlay hrd hwl hlo
 obtain rfl:dV = .none:=Dflts.none hD hdf
 obtain rfl:kV = .none:=Dflts.noKw hD
 obtain ⟨a,vs,ns,rfl,rfl,hobj,hints,hlen⟩:=pU hn hpre hwl
 refine enter_call (codeAny_mono (call w s₀ s₁ mg mb fa o pm cd doc a vs ns G Y ho (fd_plain hd) hcd hmg hobj hints hlen hg) fun r s' hq=>?_)
 obtain ⟨rfl,h2,h3,h4⟩:=hq
 exact ⟨.inl ⟨.bool true,.bool true,[],rfl,fun _=>rfl,.bool true,pj l _,fun _=>⟨List.Pairwise.nil,fun _ hm=>(nomatch hm)⟩⟩,h2,h3,h4⟩
section
variable {prog:Program} {w:World} {A:Around} {E:Value->Shared->Prop} {s:Shared} {K:Frag}
end
end Att
namespace L2
open PySem PySem.Spec PyProof.Rows
theorem kf:∀ {vs:List Value} {ns:List Int},IntsAre vs ns->Vals (ns.map V.int) vs
 | _,_,.nil=>.nil
 | _,_,.cons n t h=>.cons ⟨t,rfl⟩ (kf h)
def Only (H:Hp):Prop:=∀ b,H b = none\/∃ o xs,H b = some (.frz o (.lst xs))
theorem law_call {P:Program} {w:World} {K:Frag} {mg mb:Str->Option Value} {CX:CXT} {k:Nat} {fa a:Addr} {fd:FuncData} {x:Str} {sp:Sp} {s₁:Shared} {vs:List Value} {ns:List Int}
  (KX:K.In s₁.heap) (hns:s₁.heap.Ns mainGlobals mg) (hb:s₁.heap.Ns builtinsNs mb) (hbb:∀ x:Str,x ≠ "__name__"->mb x = bootBuiltins x) (hlim:s₁.heap.NoLimit) (hg:s₁.gens = #[])
  (ha:s₁.heap.get? a = some { cls:=.type "list",data:=.seq vs.toArray }) (hi:IntsAre vs ns) (hl:ns.length<=sizeLine) (hr:Room k callerA)
  (F:∀ base:Heap,K.In base->base.Ns mainGlobals mg->FnOk P w K mg base CX k fa fd [x] sp) (hbind:∀ (s:Shared) (u:Value),BindsTo s fd ⟨[u],[]⟩ [(x,u)])
  (hsp:∀ H:Hp,Only H->SqL K H a (ns.map V.int)->sp [.ref a] H (fun v _=>v = .bl true) fun _ _ _=>False)
  (hCX:∀ H e s',CX [] H s₁ (fun _ _ _=>False) e s'->False) :
  codeAny (model P w) callerA (.call (.ref fa) ⟨[.ref a],[]⟩) (fun r s'=>r = .ok (.ret (.bool true))/\OldK s₁.heap s'.heap/\s'.os = s₁.os/\AllBare s'.gens) s₁:=by
 have rv:=kf hi
 have lenV:=hi.length
 have core:∀ H:Hp,Only H->SqL K H a (ns.map V.int)->HOk P w H s₁.heap->(∀ b,H b ≠ none->b = a)->(H a ≠ none->K.lookup a = none) ->
   codeAny (model P w) callerA (.call (.ref fa) ⟨[.ref a],[]⟩) (fun r s'=>r = .ok (.ret (.bool true))/\OldK s₁.heap s'.heap/\s'.os = s₁.os/\AllBare s'.gens) s₁:=by
  intro H hO hS hok hA hK
  have base_of:∀ {b:Addr} {o:Obj},s₁.heap.get? b = some o->H b = none->(hidT s₁.heap H).get? b = some o:=fun e n=>hidT_get e n
  have noA:∀ {b:Addr} {o:Obj} {es:Array DictEntry} {ep:Nat},s₁.heap.get? b = some o->o.data = .dict es ep->H b = none:=fun {b o es ep} e d=>by
   cases q:H b with
   | none=>rfl
   | some u =>
    have e':b = a:=hA b (by rw [q]; simp)
    subst e'
    rw [ha] at e; cases e
    have d':Data.seq vs.toArray _ = Data.dict es ep:=d
    cases d'
  have nsK:∀ {b:Addr} {m:Str->Option Value},s₁.heap.Ns b m->(hidT s₁.heap H).Ns b m:=fun {b m} ⟨o,es,ep,e,d,r⟩=>⟨o,es,ep,base_of e (noA e d),d,r⟩
  have hKb:K.In (hidT s₁.heap H):=fun b o e=>base_of (KX b o e) (by
   cases q:H b with
   | none=>rfl
   | some u =>
    have e':b = a:=hA b (by rw [q]; simp)
    subst e'
    rw [hK (by rw [q]; simp)] at e; cases e)
  have hM:Mod K mg (hidT s₁.heap H):=⟨hKb,nsK hns,⟨mb,nsK hb,hbb⟩,let ⟨mc,h1,h2⟩:=hlim; ⟨mc,nsK h1,h2⟩⟩
  have e0:Env0 P w K mg (hidT s₁.heap H) callerA [] s₁ H:=⟨rfl,hM,fun b o e=>of_hidT e,Nat.le_of_eq (qb _ _),trivial,fun b hb=>absurd (show b ∈ ([]:List Addr) from hb) (by simp),hok,.of_eq hg⟩
  refine codeAny_mono ((F _ hKb (nsK hns)).run callerA [] s₁ H ⟨[.ref a],[]⟩ [.ref a] [.ref a] _ _ hr e0 (hbind s₁ (.ref a)) (.cons rfl .nil) (hsp H hO hS)) fun r s' h=>?_
  cases r with
  | error e=>exact (hCX H e s' h).elim
  | ok fl =>
   cases fl with
   | next=>exact False.elim h
   | brk=>exact False.elim h
   | cont=>exact False.elim h
   | ret u =>
    obtain ⟨v,H',os,bare,un,hok',r',q⟩:=h
    have q':v = .bl true:=q
    subst q'
    obtain rfl:u = Value.bool true:=r'
    refine ⟨rfl,OldK.of_keep fun b o e=>?_,os,bare⟩
    cases q:H b with
    | none=>exact un.keep b o e q (by intro z; exact absurd (show b ∈ ([]:List Addr) from z) (by simp)) (by simp)
    | some u =>
     rcases hO b with z | ⟨ob,xs,z⟩
     ·rw [q] at z; cases z
     ·have z2:=un.frzs b ob _ z
      obtain ⟨e1,_⟩:=hok b _ z
      obtain ⟨e2,_⟩:=hok' b _ z2
      rw [e] at e1; cases e1
      exact e2
 cases hk:K.lookup a with
 | some o =>
  have e:=KX a o hk
  rw [ha] at e
  cases e
  refine core (fun _=>none) (fun _=>.inl rfl) (.inr ⟨_,vs.toArray,_,hk,rfl,rfl,rfl,by rw [List.size_toArray,lenV]; exact hl,by simpa using rv⟩) (fun b u z=>by have z':(none:Option HO) = some u:=z; cases z') (fun b z=>absurd rfl z) fun z=>absurd rfl z
 | none =>
  refine core (fun b=>if b = a then some (.frz { cls:=.type "list",data:=.seq vs.toArray } (.lst (ns.map V.int))) else none) (fun b=>?_) (.inl (.inr ⟨{ cls:=.type "list",data:=.seq vs.toArray },if_pos rfl⟩)) (fun b u z=>?_) (fun b z=>?_) fun _=>hk
  ·by_cases hb:b = a
   ·exact .inr ⟨_,_,if_pos hb⟩
   ·exact .inl (if_neg hb)
  ·by_cases hb:b = a
   ·have z':=(if_pos hb).symm.trans z
    cases z'
    subst hb
    exact ⟨ha,by rw [List.length_map]; exact hl,vs,_,rv,ha⟩
   ·have z':=(if_neg hb).symm.trans z
    cases z'
  ·by_cases hb:b = a
   ·exact hb
   ·exact absurd (if_neg hb) z
end L2
namespace L2
open PySem PySem.Spec PyProof.Rows
theorem walk_of {l:PySem.W.OpenLaw} {n k:Nat} {q:Program} {loose:List Str} {XP:(Str->Option Value)->Heap->Prop} {YP:World->Heap->Prop} {d:DefRec} {K:Params->Frag} {CX:World->CXT} {sp:World->Sp} {x:Str}
  (hn:l.most = some n) (hn2:n<=sizeLine) (hdf:d.params.defaults = []) (hr:Room k callerA)
  (hY:∀ (w:World) (h:Heap),YP w h->(K w.params).In h)
  (F:∀ (w:World) (mg:Str->Option Value) (fa:Addr) (h:Heap),(K w.params).In h->h.Ns mainGlobals mg->mg d.name = some (.ref fa) ->
   ∃ fd:FuncData,(∀ (s:Shared) (u:Value),BindsTo s fd ⟨[u],[]⟩ [(x,u)]) /\
    ∀ base:Heap,(K w.params).In base->base.Ns mainGlobals mg->FnOk l.prog w (K w.params) mg base (CX w) k fa fd [x] (sp w))
  (hsp:∀ (w:World) (H:Hp) (a:Addr) (ns:List Int),ns.length<=n->Only H->SqL (K w.params) H a (ns.map V.int)->sp w [.ref a] H (fun v _=>v = .bl true) fun _ _ _=>False)
  (hCX:∀ (w:World) (H:Hp) (s:Shared) (e:Value) (s':Shared),CX w [] H s (fun _ _ _=>False) e s'->False) :
  PySem.W.WalkO q loose XP YP l.row.toRowW d [] (fun f vs=>PySem.call f vs):=by
 refine Att.attach_call hn hdf fun w s₀ s₁ mg mb fa o pm cd doc a vs ns G Y ho hd hcd hmg hobj hints hlen hg=>?_
 have KX:=hY w _ Y
 obtain ⟨fd,hb,hF⟩:=F w mg fa _ KX G.T.g hmg
 exact law_call KX G.T.g G.T.b G.T.builtins G.T.nolimit hg hobj hints (Nat.le_trans hlen hn2) hr hF hb (fun H hO hS=>hsp w H a ns hlen hO hS) fun H e s'=>hCX w H s₁ e s'
end L2
namespace L2
open PySem PySem.Spec PyProof.Rows
def aO (s:Stmt) (j:Nat):Stmt:=match s with
 | .ClassDef _ _ _ body _ _ _ _ _ _ _=>body.getD j (.Pass ⟨0,0,0,0⟩)
 | _=>.Pass ⟨0,0,0,0⟩
def dR (s:Stmt):Arguments:=match s with
 | .FunctionDef _ a _ _ _ _ _ _ _ _=>a
 | _=>{ posonlyargs:=[],args:=[],vararg:=none,kwonlyargs:=[],kw_defaults:=[],kwarg:=none,defaults:=[] }
def cZ (s:Stmt):List Stmt:=match s with
 | .FunctionDef _ _ b _ _ _ _ _ _ _=>b
 | _=>[]
def ak (s:Stmt):Scope:=match s with
 | .FunctionDef _ _ _ _ _ _ sc _ _ _=>sc
 | _=>{ kind:=.function,names:=[],isGenerator:=false,isCoroutine:=false }
abbrev CX0:CXT:=fun _ _ _ _ _ _=>False
abbrev E0:XK:=fun _ _ _=>False
theorem pq {X:Cx}:iS CX0 X E0:=fun _ _ _ _ _ _ _ h=>h.elim
structure Fun (K:Frag) (x qual:Str) (st:Stmt) (f:Addr) (fd:FuncData):Prop where
 ex:∃ (oc:Value) (od:Option Addr) (kV doc pm:Value) (an:Option Addr) (cdv ct:Value) (osl:Array (Option Value)),
  fd = fnOf x qual (dR st) (cZ st) (ak st) .none kV doc pm an cdv ct/\K.lookup f = some ⟨oc,od,.func fd,osl⟩/\codeIn K cdv qual = true
 kp:keepIn K (.ref f) = true
section
variable {P:Program} {w:World} {K:Frag} {mg:Str->Option Value} {base:Heap}
theorem Fun.ok {x qual:Str} {st:Stmt} {f:Addr} {fd:FuncData} {N ps:List Str} {k:Nat} {sp:Sp} (F:Fun K x qual st f fd) (S:FnScope N ps (ak st)) (len:∀ vs H Q E,sp vs H Q E->vs.length = ps.length)
  (hbody:∀ (cdv:Value) (A:Around) (outer:List Env) (s:Shared) (H:Hp) (vs:List V) (Q:VK) (E:XK),Room k (A.deeper (envOfC qual (ak st) s.heap.objs.size f cdv))->sp vs H Q E ->
   ∃ t,PSs (dM CX0 P w K mg base N qual (ak st) f cdv A outer s H E).nox (cZ st) t/\t { nx:=fun _ H'=>Q .non H',rt:=Q } (j5 N vs) H):FnOk P w K mg base CX0 (k + 1) f fd ps sp:=by
 obtain ⟨oc,od,kV,doc,pm,an,cdv,ct,osl,rfl,lk,hcd⟩:=F.ex
 refine fn_of lk hcd S len fun A outer s H vs Q E hr hsp=>?_
 obtain ⟨t,h,q⟩:=hbody cdv A outer s H vs Q E hr hsp
 exact ⟨t,h.nox,q⟩
theorem Fun.binds {x qual:Str} {st:Stmt} {f:Addr} {fd:FuncData} {ps:List Str} (F:Fun K x qual st f fd)
  (h:∀ (kV doc pm:Value) (an:Option Addr) (cdv ct:Value) (us:List Value),us.length = ps.length->bindArgs (fnOf x qual (dR st) (cZ st) (ak st) .none kV doc pm an cdv ct) ⟨us,[]⟩ = pure (ps.zip us)):Binds K fd ps []:=by
 obtain ⟨oc,od,kV,doc,pm,an,cdv,ct,osl,rfl,lk,hcd⟩:=F.ex
 exact .all (h kV doc pm an cdv ct)
theorem fun_mk {x qual:Str} {st:Stmt} {f:Addr} {oc:Value} {od an:Option Addr} {osl:Array (Option Value)} {kV doc pm cdv ct:Value} (l:K.lookup f = some ⟨oc,od,.func (fnOf x qual (dR st) (cZ st) (ak st) .none kV doc pm an cdv ct),osl⟩)
  (c:codeIn K cdv qual = true) (k:keepIn K (.ref f) = true):Fun K x qual st f (fnOf x qual (dR st) (cZ st) (ak st) .none kV doc pm an cdv ct):=⟨⟨oc,od,kV,doc,pm,an,cdv,ct,osl,rfl,l,c⟩,k⟩
end
theorem bh {A:Around} {k:Nat} (hr:Room k A):A.units + 1 < cLine:=Nat.lt_of_le_of_lt (Nat.add_le_add_left (by decide:1<=64) _) hr.units
section
variable {X:Cx}
theorem pv (i:Nat) {x:Str} {pos:Pos} (hN:X.N[i]? = some x:=by rfl) (hv:Vis X.env.scope x:=by first | exact Or.inl rfl | exact Or.inr (Or.inl rfl) | exact Or.inr (Or.inr rfl)) (hd:(x == ("__debug__":Str)) = false:=by decide)
  (hcd:(x == ("__classdict__":Str)) = false:=by decide):PE X (.Name x pos) (tVar i):=pe_var hN hv hd hcd
end
theorem cu {A B:Prop} (h:B):if false = true then A else B:=by
 rw [if_neg Bool.false_ne_true]
 exact h
theorem jd {A B:Prop} (h:A):if true = true then A else B:=by
 rw [if_pos rfl]
 exact h
theorem g6 {c A B:Prop} [Decidable c] (hc:c) (h:B):if (!decide c) = true then A else B:=by
 rw [decide_eq_true hc]
 exact cu h
def Same (H H':Hp):Prop:=∀ b o,H b = some o->H' b = some o
theorem Same.refl (H:Hp):Same H H:=fun _ _ h=>h
theorem Same.trans {H H1 H2:Hp} (a:Same H H1) (b:Same H1 H2):Same H H2:=fun c o h=>b c o (a c o h)
theorem Same.seq {K:Frag} {H H':Hp} {a:Addr} {xs:List V} (e:Same H H') (h:SqL K H a xs):SqL K H' a xs:=by
 rcases h with (h | ⟨o,h⟩) | h
 ·exact .inl (.inl (e _ _ h))
 ·exact .inl (.inr ⟨o,e _ _ h⟩)
 ·exact .inr h
end L2
set_option maxHeartbeats 4000000
namespace Ow
open PySem PySem.Spec PyProof.Rows L2
structure Has (P:Program) (w:World) (K:Frag) (mg:Str->Option Value) (base:Heap) (k:Nat) (x:Str) (ps:List Str) (sp:Sp):Prop where
 ex:∃ (f:Addr) (fd:FuncData),FnOk P w K mg base CX0 k f fd ps sp/\Binds K fd ps []/\keepIn K (.ref f) = true/\mg x = some (.ref f)
section
variable {X:Cx} {k:Nat} {x:Str} {ps:List Str} {sp:Sp} {p pos:Pos} {e:Expr} {es:List Expr} {t:TA}
theorem aJ (h:Has X.prog X.w X.K X.mg X.base k x ps sp) (hr:Room k X.A) (hg:Gl X x) (ha:PA X (e :: es) t) (hdb:(x == ("__debug__":Str)) = false:=by decide)
  (he:starEach (e :: es) X.env = (false,eval e X.env) :: starEach es X.env:=by rfl) (hpl:(backTo pos (starEach es X.env)).any (·.1) = false:=by rfl) :
  PE X (.Call (.Name x p) (e :: es) [] pos) (nX sp [] E0 t):=by
 obtain ⟨f,fd,F,b,kp,m⟩:=h.ex
 exact mB F hr hg m kp b .nil pq ha hdb he hpl
theorem pe_ty {T:String} (hg:Gl X x) (hm:X.mg x = none) (hv:bootBuiltins x = some (.type T)) (hn:x ≠ "__name__":=by decide) (hd:(x == ("__debug__":Str)) = false:=by decide):PE X (.Name x pos) (tC (.ty T)):=pe_bltn (v:=.ty T) hg hm hv rfl hn hd
theorem lw {C:Addr} (hg:Gl X x) (hm:X.mg x = some (.ref C)) (hd:(x == ("__debug__":Str)) = false:=by decide):PE X (.Name x pos) (tC (.ref C)):=mj (v:=.ref C) hg hm rfl hd
def clsV:V->Option Value
 | .ty n=>some (.type n)
 | .ref C=>some (.ref C)
 | _=>none
theorem clsV_rel {c:V} {u cv:Value} (r:RelV c u) (h:clsV c = some cv):u = cv:=by
 cases c with
 | ty n=>cases h; exact r
 | ref C=>cases h; exact r
 | _=>cases h
theorem cM:gq X (.builtin "isinstance") (fun xs H Q=>∃ x c t cv b,xs = [x,c]/\clsV c = some cv/\TyOf X.K H x t/\kitOne X.K t cv = some b/\Q (.bl b) H):=by
 intro pins s σ H xs us Q I r h
 obtain ⟨x,c,t,cv,b,rfl,hc,ty,e,q⟩:=h
 obtain ⟨u,u',rfl,rx,rc⟩:=vals2 r
 cases clsV_rel rc hc
 exact oR I rx ty e fun tk=>⟨.bl b,H,I.tok _,rfl,q⟩
theorem j7:OpR X (binaryOp .FloorDiv) (rI (fun _ j=>0 < j/\j.natAbs.log2 < 9000) fun i j=>.int (i / j)):=opI fun i j _ _ _ _ _ hc q=>by
 have h1:(0:Int) < j:=hc.1
 exact floordiv_int (by omega) (by rw [Int.fdiv_eq_ediv_of_nonneg i (by omega)]; exact q) (.inl (PyProof.noPylong_of_log2 hc.2))
theorem op_mulB:OpR X (binaryOp .Mult) (rI (fun i j=>Builtin.Int.intBits i<=100000/\Builtin.Int.intBits j<=100000) fun i j=>.int (i * j)):=opI fun _ _ _ _ _ _ _ hc q =>
 mul_int q (IntMulOk.of_bits (Nat.le_trans hc.1 (by decide)) (Nat.le_trans hc.2 (by decide)))
theorem op_shlB:OpR X (binaryOp .LShift) (rI (fun i j=>0<=j/\j<=100000/\Builtin.Int.intBits i<=100000) fun i j=>.int (i * 2 ^ j.toNat)):=opI fun i j _ _ _ _ _ hc q =>
 lshift_int hc.1 (by have h1:=hc.2.1; have h2:Builtin.Int.intBits i<=100000:=hc.2.2; have h3:(2:Int) ^ 27 = 134217728:=(by decide); rw [h3]; omega) q
end
theorem iO (K:Frag):kitOne K (.type "int") (.type "int") = some true:=rfl
theorem hU (K:Frag):kitOne K (.type "int") (.type "bool") = some false:=by with_unfolding_all rfl
theorem cP {c A B:Prop} [Decidable c] (hc:c) (h:A):if decide c = true then A else B:=by
 rw [if_pos (decide_eq_true hc)]
 exact h
theorem aN {c A B:Prop} [Decidable c] (hc:¬ c) (h:B):if decide c = true then A else B:=by
 rw [if_neg (by rw [decide_eq_false hc]; decide)]
 exact h
theorem ret_true {Q:VK} {H:Hp} {c:Prop} [Decidable c] (hc:c) (q:Q (.bl true) H):Q (.bl (decide c)) H:=by
 rw [decide_eq_true hc]
 exact q
theorem iteN {c A B:Prop} [Decidable c] (hc:¬ c) (h:A):if (!decide c) = true then A else B:=by
 rw [decide_eq_false hc]
 exact jd h
theorem p1_pos (n:Nat):(0:Int) < 1 * 2 ^ n:=by
 rw [Int.one_mul]
 exact Int.pow_pos (by decide)
theorem p_pos (n:Nat):(0:Int) < 2 ^ n:=Int.pow_pos (by decide)
theorem pF {m n:Nat} (h:m<=n):(2:Int) ^ m<=2 ^ n:=by
 have e:n = m + (n - m):=by omega
 rw [e,Int.pow_add]
 have h1:=p_pos m
 have h2:(1:Int)<=2 ^ (n - m):=p_pos (n - m)
 have h3:=Int.mul_le_mul_of_nonneg_left h2 (Int.le_of_lt h1)
 rw [Int.mul_one] at h3
 exact h3
def SameX (p:Addr) (H H':Hp):Prop:=∀ b o,b ≠ p->H b = some o->H' b = some o
theorem SameX.trans {p:Addr} {H H1 H2:Hp} (a:SameX p H H1) (b:SameX p H1 H2):SameX p H H2:=fun c o n h=>b c o n (a c o n h)
theorem SameX.of {p:Addr} {H H':Hp} (a:Same H H'):SameX p H H':=fun c o _ h=>a c o h
theorem SameX.upd {p:Addr} {H:Hp} {o:HO}:SameX p H (upd H p o):=fun c u n h=>by rw [ai n]; exact h
theorem aq {H:Hp} {p:Addr} (h:H p = none) (o:HO):Same H (L2.upd H p o):=fun b u q=>by rw [ai (aE q h)]; exact q
theorem SameX.fresh {p:Addr} {H H1:Hp} (h:H p = none) (a:SameX p H H1):Same H H1:=fun b o q=>a b o (aE q h) q
def Box (H:Hp) (p:Addr):Prop:=∃ r s c:Int,H p = some (.lst [.int r,.int s,.int c])
theorem Box.same {H H':Hp} {p:Addr} (b:Box H p) (s:Same H H'):Box H' p:=by
 obtain ⟨r,s',c,h⟩:=b
 exact ⟨r,s',c,s _ _ h⟩
theorem getI (ns:List Int) (k:Nat) (h:k < ns.length):atI (ns.map V.int) (k:Int) = some (.int ns[k]):=gu (by rw [List.getElem?_map,List.getElem?_eq_getElem h] <;> rfl)
end Ow
namespace Ow
open PySem PySem.Spec PyProof.Rows L2
structure MHas (P:Program) (w:World) (K:Frag) (mg:Str->Option Value) (base:Heap) (k:Nat) (C:Addr) (m:Str) (ps:List Str) (sp:Sp):Prop where
 cl:Cls K C
 ex:∃ (f:Addr) (fd:FuncData),Meth K C m f/\FnOk P w K mg base CX0 k f fd ps sp/\Binds K fd ps []
def tMethP (X:Cx) (k:Nat) (m:Str) (ta:TE) (t:TA):TE:=fun σ H Q=>ta σ H fun x H1=>∃ (a C dx:Addr) (fs:List (Str × V)) (ps:List Str) (sp:Sp),x = .ref a/\H1 a = some (.ins C dx fs)/\fs.lookup m = none /\
 MHas X.prog X.w X.K X.mg X.base k C m ps sp/\t σ H1 fun vs H2=>sp (x :: (vs ++ [])) H2 Q E0
section
variable {X:Cx} {k:Nat} {x m:Str} {C:Addr} {p pos apos:Pos} {o e:Expr} {es:List Expr} {ta:TE} {t:TA}
theorem cG {pl:Sem Bool} (he:PE X o ta) (hr:Room k X.A) (ha:PA X (e :: es) t)
  (hst:starEach (e :: es) X.env = (false,eval e X.env) :: starEach es X.env:=by rfl) (hpl:(backTo pos (starEach es X.env)).any (·.1) = false:=by rfl)
  (ht:eval (.Call (.Attribute o m apos) (e :: es) [] pos) X.env = (do
   let ov <- eval o X.env
   standAt apos.atName
   let (f,first) <- holding [ov] (getMethod ov m pl)
   callWith pos f first (backTo pos (starEach (e :: es) X.env)) (backToKw pos (keywordEach [] X.env))):=by rfl) :
  PE X (.Call (.Attribute o m apos) (e :: es) [] pos) (tMethP X k m ta t):=by
 intro pins s σ H Q I h
 refine PySem.W.methodCall_KW (pl:=pl) (thn (he pins s σ H _ I h) fun u s1 ⟨x,H1,I1,rx,a,C,dx,fs,ps,sp,ex,ea,l,M,q⟩=>?_) ht
 subst ex
 obtain rfl:u = Value.ref a:=rx
 obtain ⟨f,fd,hm,F,hb⟩:=M.ex
 refine jA I1 ea M.cl hm l ?_
 refine PySem.W.callWith_K (first:=[.ref a]) (h₀:=X.base) I.ok.mod.kin hm.kp (thn (ha pos pins s1 σ H1 _ I1 q) fun us s2 ⟨vs,H2,I2,r,q2⟩=>⟨I2.kIn,?_⟩) hst hpl
 exact nQ (us:=.ref a :: us) (vs:=.ref a :: vs) F hr hb .nil pq I2 (.cons rfl r) q2
theorem aT {pl:Sem Bool} (he:PE X o ta) (hr:Room k X.A)
  (ht:eval (.Call (.Attribute o m apos) [] [] pos) X.env = (do
   let ov <- eval o X.env
   standAt apos.atName
   let (f,first) <- holding [ov] (getMethod ov m pl)
   callWith pos f first (backTo pos (starEach [] X.env)) (backToKw pos (keywordEach [] X.env))):=by rfl) :
  PE X (.Call (.Attribute o m apos) [] [] pos) (tMethP X k m ta tNil):=by
 intro pins s σ H Q I h
 refine PySem.W.methodCall_KW (pl:=pl) (thn (he pins s σ H _ I h) fun u s1 ⟨x,H1,I1,rx,a,C,dx,fs,ps,sp,ex,ea,l,M,q⟩=>?_) ht
 subst ex
 obtain rfl:u = Value.ref a:=rx
 obtain ⟨f,fd,hm,F,hb⟩:=M.ex
 refine jA I1 ea M.cl hm l ?_
 exact PySem.W.callWith_K0 (first:=[.ref a]) I1.kIn hm.kp (nQ (us:=[.ref a]) (vs:=[.ref a]) F hr hb .nil pq I1 (.cons rfl .nil) q)
end
end Ow
namespace Ow
open PySem PySem.Spec PyProof.Rows L2
def aL (X:Cx) (N:List Str) (scope:Scope) (cl:List (Str × Addr)) (C:Addr) (s2:Shared) (H2:Hp) (fp:List Addr):Cx where
 prog:=X.prog
 w:=X.w
 K:=X.K
 mg:=X.mg
 base:=X.base
 A:=X.A
 N:=N
 s₀:=s2
 H₀:=H2
 env:=compEnvC scope cl C X.env
 outer:=X.stack
 stack:=X.stack
 ex:=fp
 calm:=true
 fn:=fun _=>false
 pn:=[]
 xe:=fun _ _=>False
def pI (wi:TI) (te:TE) (cap:L2.St->L2.St):TE:=fun σ H Q=>wi σ H fun J H1=>∀ D,H1 D = none->∃ W:Nat->Nat->Hp->Prop,(∃ m,W 0 m (upd H1 D (.lst [])))/\∀ i m H,W i m H ->
 (J.stop i H/\Q (.ref D) H)\/(J.go i H/\∀ x H',J.yld i H x H'->te (some x :: cap σ) H' fun y H2=>∃ ys,H2 D = some (.lst ys)/\ys.length < sizeLine/\∃ m',m' < m/\W (i + 1) m' (upd H2 D (.lst (ys ++ [y]))))
section
variable {X:Cx} {elt iter:Expr} {x:Str} {px pos:Pos} {scope:Scope} {wi:TI} {te:TE} {N:List Str} {cl:List (Str × Addr)} {cap:L2.St->L2.St}
theorem oX (hc:X.calm = true) (hclos:closureFor scope X.env = pure cl) (hsub:∀ n c,cl.lookup n = some c->X.env.cells.lookup n = some c)
  (hcell:∀ y ∈ scope.names,y.2 ≠ .cell) (hkind:scope.kind = .function) (hnames:∀ y ∈ scope.names,y.2 = .local->scope.names.lookup y.1 = some .local) (hx:scope.names.lookup x = some .local)
  (hhas:∀ y,(Env.kindOf (compEnvC scope cl 0 X.env) y = some .cell\/Env.kindOf (compEnvC scope cl 0 X.env) y = some .free)->∃ c,cl.lookup y = some c)
  (hN:(x :: N).Nodup) (hcapl:∀ σ,(cap σ).length = N.length)
  (hcap:∀ (σ:L2.St) (i:Nat) (y:Str) (v:V),σ.length = X.N.length->N[i]? = some y->(cap σ)[i]? = some (some v)->(Env.kindOf (compEnvC scope cl 0 X.env) y = some .cell\/Env.kindOf (compEnvC scope cl 0 X.env) y = some .free)/\X.env.kindOf y = some .cell/\∃ j:Nat,X.N[j]? = some y/\σ[j]? = some (some v))
  (hi:PI X (.Name x px) iter wi) (he:∀ C s2 H2 fp,PE (aL X (x :: N) scope cl C s2 H2 fp) elt te)
  (hs:∀ z,foldedSetIterable iter X.env z = pure z:=by intro _; rfl) :
  PE X (.ListComp elt [⟨.Name x px,iter,[],0⟩] scope pos) (pI wi te cap):=by
 intro pins s σ H Q I h
 rw [eval_ListComp]
 refine wpAny_comprehension_free (use:=none) rfl hs hclos hkind hnames (thn (hi pins s σ H _ I h) fun xv s1 h1=>thn h1 fun itv s2 h2=>?_)
 obtain ⟨it,fp,tn,J,H2,e,I2,T,st2,f2,hW⟩:=h2
 subst e
 have hD:H2 s2.heap.objs.size = none:=I2.hok.fresh (Nat.le_refl _)
 obtain ⟨W,⟨m0,w0⟩,turn⟩:=hW s2.heap.objs.size hD
 refine wpAny_newObj_type (wpAny_newFunctionEnv hcell (by intro y hy; simp at hy) (fun h4 hns4 hsb4=>?_) hkind) (by show 0<=sizeLine; decide)
 dsimp only at hns4 hsb4 ⊢
 generalize hH3:s2.heap.push { cls:=.type "list",dict:=none,data:=.seq ([]:List Value).toArray } = H3 at hns4 hsb4 ⊢
 have hCz:H3.objs.size = s2.heap.objs.size + 1:=by rw [<- hH3,Heap.size_push]
 have old3:∀ b o,s2.heap.get? b = some o->H3.get? b = some o:=fun b o e=>hH3 ▸ Heap.get?_push_of_some _ e
 have eD3:H3.get? s2.heap.objs.size = some { cls:=.type "list",dict:=none,data:=.seq ([]:List Value).toArray }:=hH3 ▸ Heap.get?_push_size _ rfl
 have old4:∀ b o,H3.get? b = some o->h4.get? b = some o:=fun b o e=>hsb4.extBut b o (Nat.ne_of_lt (Heap.lt_size e)) (Heap.get?_push_of_some _ e)
 have old:∀ b o,s2.heap.get? b = some o->h4.get? b = some o:=fun b o e=>old4 b o (old3 b o e)
 have szC:s2.heap.objs.size < H3.objs.size:=by rw [hCz]; exact Nat.lt_succ_self _
 have fpC:∀ b ∈ fp,b ≠ H3.objs.size:=fun b hb=>by
  obtain ⟨o,ho,_⟩:=T.obj 0 _ st2 b hb
  exact Nat.ne_of_lt (Nat.lt_trans (Heap.lt_size ho) szC)
 have ok':(aL X (x :: N) scope cl H3.objs.size s2 H2 fp).Ok:=by
  refine ⟨I2.ok.mod,hkind,I2.ok.glob,I2.ok.blt,(Nat.le_of_lt szC),fun a b c e1 e2=>I2.ok.inj a b c (hsub a c e1) (hsub b c e2),fun y hy=>hhas y hy,fun y c z _=>absurd (show false = true from z) (by decide),
   fun _=>I2.ok.hd hc,I2.ok.frames,.inl rfl,fun b hb=>⟨fpC b hb,fun y c e=>(f2 b hb).2.2.2.2.1 y c (hsub y c e)⟩,I2.bs,Nat.le_trans I2.ok.bsz I2.sz,fun b o e hb=>?_,fun b hb z=>?_,I2.stack,I2.stkFree⟩
  ·rcases (f2 b hb).2.2.2.1 with q | q
   ·exact I2.ok.noex b o e q
   ·exact absurd (Nat.lt_of_lt_of_le (Heap.lt_size e) (Nat.le_trans I2.ok.bsz q)) (Nat.lt_irrefl _)
  ·rcases List.mem_cons.mp (I2.stkSub b z) with q | q
   ·exact (f2 b hb).2.1 q
   ·exact (f2 b hb).2.2.1 q
 have okD:ObjOk X.prog X.w (upd H2 s2.heap.objs.size (.lst [])) h4 s2.heap.objs.size (.lst []):=⟨Nat.zero_le _,[],0,.nil,old4 _ _ eD3⟩
 have I4:Inv (aL X (x :: N) scope cl H3.objs.size s2 H2 fp) [] (none :: cap σ) (upd H2 s2.heap.objs.size (.lst [])) { s2 with heap:=h4,toks:=s2.toks + ([]:List (Str × Value)).length }:=by
  refine ⟨ok',rfl,I2.bare,Un.laid old (Nat.le_refl _) hD,⟨_,hns4,fun i y v e1 e2 _=>?_⟩,fun y c e=>?_,?_,fun y c e=>?_,fun p hp=>absurd hp (by show p ∉ ([] ++ []:List (Addr × Obj)); simp),I2.hok.laid old (Nat.le_refl _) okD,?_⟩
  ·cases i with
   | zero=>simp at e2
   | succ i =>
    obtain ⟨k1,k2,j,e3,e4⟩:=hcap σ i y v I2.len (show N[i]? = some y from e1) (show (cap σ)[i]? = some (some v) from e2)
    obtain ⟨m,_,hl⟩:=I2.loc
    obtain ⟨u,ru,lk⟩:=hl j y v e3 e4 (.inr (.inl k2))
    refine ⟨u,ru,.inr ⟨k1,?_⟩⟩
    rcases lk with ⟨z,_⟩ | ⟨_,c,e5,hcl⟩
    ·rw [k2] at z; cases z
    ·obtain ⟨c',e6⟩:=hhas y k1
     have:c' = c:=by
      have:=hsub y c' e6
      rw [e5] at this
      exact (Option.some.inj this).symm
     subst this
     obtain ⟨oc,ho,hd⟩:=hcl
     exact ⟨c',e6,oc,old _ _ ho,hd⟩
  ·obtain ⟨v,oc,ho,hd⟩:=I2.cell y c (hsub y c e)
   exact ⟨v,oc,old _ _ ho,hd⟩
  ·show upd H2 s2.heap.objs.size (.lst []) H3.objs.size = none
   rw [ai (Nat.ne_of_gt szC)]
   exact I2.hok.fresh (Nat.le_of_lt szC)
  ·have h1:=I2.freeC y c (hsub y c e)
   obtain ⟨v,oc,ho,_⟩:=I2.cell y c (hsub y c e)
   rw [ai (Nat.ne_of_lt (Heap.lt_size ho))]
   exact h1
  ·show (none :: cap σ).length = (x :: N).length
   simp [hcapl]
 have stat:∀ {H':Hp},(∀ b ∈ fp,H' b = none)->∀ b ∈ fp,FpOk (aL X (x :: N) scope cl H3.objs.size s2 H2 fp) [] H' b:=fun {H'} hn b hb =>
  ⟨hn b hb,(ok'.exf b hb).1,ok'.exfs b hb,.inl hb,(ok'.exf b hb).2,fun p hp=>absurd hp (by show p ∉ ([] ++ []:List (Addr × Obj)); simp)⟩
 have loop:codeAny (model X.prog X.w) X.A (.compLoop (.ListComp elt [⟨.Name x px,iter,[],0⟩] scope pos) 0 (.ref it) (.ref s2.heap.objs.size) (compEnvC scope cl H3.objs.size X.env))
   (compPost (model X.prog X.w) X.A X.xe none (EP X pins σ Q) (.ref s2.heap.objs.size) H3.objs.size) { s2 with heap:=h4,toks:=s2.toks + ([]:List (Str × Value)).length }:=by
  refine codeAny_compLoop_list (fun n s'=>∃ (i:Nat) (z0:Option V) (H':Hp),Inv (aL X (x :: N) scope cl H3.objs.size s2 H2 fp) [] (z0 :: cap σ) H' s'/\tn i s'.heap/\(∀ b ∈ fp,H' b = none)/\W i n H') ?_ m0
   ⟨0,none,_,I4,T.keep 0 _ _ st2 (fun b _ o e=>old b o e),fun b hb=>?_,w0⟩
  ·rintro n s5 ⟨i,z0,H5,I5,st5,fr5,w5⟩
   rcases turn i n H5 w5 with ⟨stop,qn⟩ | ⟨go,step⟩
   ·refine wpAny_mono (T.done (aL X (x :: N) scope cl H3.objs.size s2 H2 fp) rfl rfl rfl rfl i [] s5 _ H5 _ I5 (stat fr5) st5 stop) (fun r s6 ⟨hr,I6⟩=>?_) fun _ _ z=>z
    subst hr
    obtain ⟨m,hn6,_⟩:=id I6.loc
    refine ⟨m,hn6,fun h' sb=>⟨.ref s2.heap.objs.size,H5,?_,rfl,qn⟩⟩
    have kp:∀ b o,b ≠ H3.objs.size->s6.heap.get? b = some o->h'.get? b = some o:=fun b o hb e=>sb.extBut b o hb e
    have nC:∀ b o,s2.heap.get? b = some o->b ≠ H3.objs.size:=fun b o e=>Nat.ne_of_lt (Nat.lt_trans (Heap.lt_size e) szC)
    have fC:H5 H3.objs.size = none:=I6.free
    refine I2.call' (ch:=fp) (s':={ s6 with heap:=h' }) I6.os ?_ ?_ I6.bare fun b hb=>⟨(f2 b hb).2.2.2.1,(f2 b hb).2.1,(f2 b hb).2.2.2.2.1,(f2 b hb).2.2.2.2.2⟩
    ·have U:Un (frs X.stack) fp H2 H5 s2.heap s6.heap:=I6.base
     exact ⟨fun b o e n1 n2 n3=>kp b o (nC b o e) (U.keep b o e n1 n2 n3),fun b o e n1 n2 n3=>by
       obtain ⟨sl,q⟩:=U.slot b o e n1 n2 n3
       exact ⟨sl,kp b _ (nC b o e) q⟩,U.free,fun b o e n3=>by
       obtain ⟨o',q⟩:=U.there b o e n3
       exact ⟨o',kp b _ (nC b o e) q⟩,U.tups,U.frzs,U.tbls⟩
    ·intro b u e
     refine (I6.hok b u e).stay (fun c v hc q=>kp c v (fun z=>?_) q) (fun _ q=>q) fun _ _ q=>q
     rcases hc with y | y
     ·rw [<- y,z,fC] at e
      cases e
     ·rw [z,fC] at y
      cases y
   ·refine wpAny_mono (T.item (aL X (x :: N) scope cl H3.objs.size s2 H2 fp) rfl rfl rfl rfl i [] s5 _ H5 _ I5 (stat fr5) st5 go) (fun r s6 ⟨u,hr,h6⟩=>?_) fun _ _ z=>z
    subst hr
    have key:(letOwnedTupleGo (.Name x px) (.ref it) u >>= fun _=>assign (.Name x px) (compEnvC scope cl H3.objs.size X.env) u) = assign (.Name x px) (compEnvC scope cl H3.objs.size X.env) u:=by first | rfl | exact pure_bind _ _
    dsimp only
    rw [<- key]
    refine wpAny_bind (wpAny_mono h6 (fun _ s7 ⟨v,H7,I7,r7,y7,st7,fr7⟩=>?_) fun _ _ z=>z)
    have I7':=I7.pinned (stat fr7) (T.obj _ _ st7)
    refine wpAny_assign_Name (gh (i:=0) I7' hN rfl (.inl (lookup_relabel_local hx)) r7 (fun s8 I8=>?_) (.inr (lookup_relabel_local hx)))
    refine wpAny_mono (he H3.objs.size s2 H2 fp _ s8 (some v :: cap σ) H7 _ I8 (step v H7 y7)) (fun w9 s9 ⟨y,H9,I9,r9,ys,hys,hlt,m',hm,w9'⟩=>?_) fun _ _ z=>z.elim
    refine wpAny_mono (aP (X:=aL X (x :: N) scope cl H3.objs.size s2 H2 fp) _ s9 _ H9 (.ref s2.heap.objs.size) [y] _ [w9] (fun _ Hn=>Hn = upd H9 s2.heap.objs.size (.lst (ys ++ [y]))) I9 rfl (.cons r9 .nil) ⟨_,ys,y,rfl,rfl,hys,hlt,rfl⟩) (fun _ s10 ⟨_,H10,I10,_,e10⟩=>?_) fun _ _ z=>z.elim
    subst e10
    refine ⟨m',hm,i + 1,some v,_,I10.unpinned,T.keep _ _ _ st7 fun b hb o e=>(I10.pin (b,o) (List.mem_append_right _ (List.mem_append_right _ (bH hb e)))).1,fun b hb=>?_,w9'⟩
    obtain ⟨o,e,d⟩:=T.obj _ _ st7 b hb
    exact (I10.pin (b,o) (List.mem_append_right _ (List.mem_append_right _ (bH hb e)))).2.1
  ·obtain ⟨o,ho,_⟩:=T.obj 0 _ st2 b hb
   rw [ai (Nat.ne_of_lt (Heap.lt_size ho))]
   exact (f2 b hb).1
 exact codeAny_compStart_list loop (T.self X.A 0 _ _ _ (T.keep 0 _ _ st2 (fun b _ o e=>old b o e)) loop)
theorem cR (hc:X.calm = true) (hclos:closureFor scope X.env = pure []) (hno:∀ p ∈ scope.names,p.2 ≠ .cell/\p.2 ≠ .free) (hkind:scope.kind = .function)
  (hnames:∀ y ∈ scope.names,y.2 = .local->scope.names.lookup y.1 = some .local) (hx:scope.names.lookup x = some .local)
  (hi:PI X (.Name x px) iter wi) (he:∀ C s2 H2 fp,PE (aL X [x] scope [] C s2 H2 fp) elt te)
  (hs:∀ z,foldedSetIterable iter X.env z = pure z:=by intro _; rfl) :
  PE X (.ListComp elt [⟨.Name x px,iter,[],0⟩] scope pos) (pI wi te fun _=>[]):=by
 refine oX (N:=[]) (cl:=[]) hc hclos (fun _ _ e=>nomatch e) (fun y hy=>(hno y hy).1) hkind hnames hx (fun y hy=>?_) (by simp) (fun _=>rfl) (fun _ i y v _ e _=>by simp at e) hi he hs
 exfalso
 have sub:∀ (l:List (Str × NameKind)),(∀ p ∈ l,p.2 ≠ .cell/\p.2 ≠ .free)->∀ p ∈ (l.map fun (n,k)=>if (k == NameKind.free && X.env.scope.kind == ScopeKind.function && X.env.kindOf n == some NameKind.cell) then (n,NameKind.cell) else (n,k)),p.2 ≠ .cell/\p.2 ≠ .free:=by
  intro l hl p hp
  obtain ⟨q,hq,e⟩:=List.mem_map.mp hp
  have h1:=hl q hq
  obtain ⟨n,k⟩:=q
  have hf:(k == NameKind.free) = false:=by
   cases k <;> first | rfl | exact absurd rfl h1.2
  rw [<- e]
  dsimp only
  rw [hf,Bool.false_and,Bool.false_and,if_neg (by decide)]
  exact h1
 have mem:∀ k,Env.kindOf (compEnvC scope [] 0 X.env) y = some k->k ≠ .cell/\k ≠ .free:=fun k e=>sub scope.names hno (y,k) (PySem.mem_of_lookup e)
 rcases hy with z | z
 ·exact (mem _ z).1 rfl
 ·exact (mem _ z).2 rfl
theorem ps_comp {i:Nat} {y:Str} {py spos:Pos} (hNX:X.N.Nodup) (hiy:X.N[i]? = some y) (hly:Loc X.env.scope y) (hsw:swapsWith (.ListComp elt [⟨.Name x px,iter,[],0⟩] scope pos) (some (.Name y py)) spos.line X.env = pure true) (hc:X.calm = true) (hclos:closureFor scope X.env = pure cl) (hsub:∀ n c,cl.lookup n = some c->X.env.cells.lookup n = some c)
  (hcell:∀ y ∈ scope.names,y.2 ≠ .cell) (hkind:scope.kind = .function) (hnames:∀ y ∈ scope.names,y.2 = .local->scope.names.lookup y.1 = some .local) (hx:scope.names.lookup x = some .local)
  (hhas:∀ y,(Env.kindOf (compEnvC scope cl 0 X.env) y = some .cell\/Env.kindOf (compEnvC scope cl 0 X.env) y = some .free)->∃ c,cl.lookup y = some c)
  (hN:(x :: N).Nodup) (hcapl:∀ σ,(cap σ).length = N.length)
  (hcap:∀ (σ:L2.St) (i:Nat) (y:Str) (v:V),σ.length = X.N.length->N[i]? = some y->(cap σ)[i]? = some (some v)->(Env.kindOf (compEnvC scope cl 0 X.env) y = some .cell\/Env.kindOf (compEnvC scope cl 0 X.env) y = some .free)/\X.env.kindOf y = some .cell/\∃ j:Nat,X.N[j]? = some y/\σ[j]? = some (some v))
  (hi:PI X (.Name x px) iter wi) (he:∀ C s2 H2 fp,PE (aL X (x :: N) scope cl C s2 H2 fp) elt te)
  (hs:∀ z,foldedSetIterable iter X.env z = pure z:=by intro _; rfl) (hf:X.fn y = true\/X.env.scope.names.lookup y = some .local:=by first | exact .inl rfl | exact .inr rfl | assumption) :
  PS X (.Assign [.Name y py] (.ListComp elt [⟨.Name x px,iter,[],0⟩] scope pos) spos) (tAsg (pI wi te cap) (oy i)):=by
 intro pins s σ H DD I h
 rw [exec_Assign_Name_used _ _ _ _ hsw]
 refine wpAny_bind (wpAny_standAt (wpAny_bind ?_))
 show wpAny _ X.A (do let _ <- comprehension (.ListComp elt [⟨.Name x px,iter,[],0⟩] scope pos) scope X.env _ (newList []) false (eval iter X.env) (some (assign (.Name y py) X.env))) _ _ s
 refine wpAny_bind (wpAny_mono (wpAny_comprehension_free (use:=some (assign (.Name y py) X.env)) (Q:=fun _ s'=>SP X pins DD .next s') rfl hs hclos hkind hnames (thn (hi pins s σ H _ I h) fun xv s1 h1=>thn h1 fun itv s2 h2=>?_)) (fun _ s' hq=>wpAny_pure (wpAny_pure hq)) fun _ _ e=>e)
 obtain ⟨it,fp,tn,J,H2,e,I2,T,st2,f2,hW⟩:=h2
 subst e
 have hD:H2 s2.heap.objs.size = none:=I2.hok.fresh (Nat.le_refl _)
 obtain ⟨W,⟨m0,w0⟩,turn⟩:=hW s2.heap.objs.size hD
 refine wpAny_newObj_type (wpAny_newFunctionEnv hcell (by intro y hy; simp at hy) (fun h4 hns4 hsb4=>?_) hkind) (by show 0<=sizeLine; decide)
 dsimp only at hns4 hsb4 ⊢
 generalize hH3:s2.heap.push { cls:=.type "list",dict:=none,data:=.seq ([]:List Value).toArray } = H3 at hns4 hsb4 ⊢
 have hCz:H3.objs.size = s2.heap.objs.size + 1:=by rw [<- hH3,Heap.size_push]
 have old3:∀ b o,s2.heap.get? b = some o->H3.get? b = some o:=fun b o e=>hH3 ▸ Heap.get?_push_of_some _ e
 have eD3:H3.get? s2.heap.objs.size = some { cls:=.type "list",dict:=none,data:=.seq ([]:List Value).toArray }:=hH3 ▸ Heap.get?_push_size _ rfl
 have old4:∀ b o,H3.get? b = some o->h4.get? b = some o:=fun b o e=>hsb4.extBut b o (Nat.ne_of_lt (Heap.lt_size e)) (Heap.get?_push_of_some _ e)
 have old:∀ b o,s2.heap.get? b = some o->h4.get? b = some o:=fun b o e=>old4 b o (old3 b o e)
 have szC:s2.heap.objs.size < H3.objs.size:=by rw [hCz]; exact Nat.lt_succ_self _
 have fpC:∀ b ∈ fp,b ≠ H3.objs.size:=fun b hb=>by
  obtain ⟨o,ho,_⟩:=T.obj 0 _ st2 b hb
  exact Nat.ne_of_lt (Nat.lt_trans (Heap.lt_size ho) szC)
 have ok':(aL X (x :: N) scope cl H3.objs.size s2 H2 fp).Ok:=by
  refine ⟨I2.ok.mod,hkind,I2.ok.glob,I2.ok.blt,(Nat.le_of_lt szC),fun a b c e1 e2=>I2.ok.inj a b c (hsub a c e1) (hsub b c e2),fun y hy=>hhas y hy,fun y c z _=>absurd (show false = true from z) (by decide),
   fun _=>I2.ok.hd hc,I2.ok.frames,.inl rfl,fun b hb=>⟨fpC b hb,fun y c e=>(f2 b hb).2.2.2.2.1 y c (hsub y c e)⟩,I2.bs,Nat.le_trans I2.ok.bsz I2.sz,fun b o e hb=>?_,fun b hb z=>?_,I2.stack,I2.stkFree⟩
  ·rcases (f2 b hb).2.2.2.1 with q | q
   ·exact I2.ok.noex b o e q
   ·exact absurd (Nat.lt_of_lt_of_le (Heap.lt_size e) (Nat.le_trans I2.ok.bsz q)) (Nat.lt_irrefl _)
  ·rcases List.mem_cons.mp (I2.stkSub b z) with q | q
   ·exact (f2 b hb).2.1 q
   ·exact (f2 b hb).2.2.1 q
 have okD:ObjOk X.prog X.w (upd H2 s2.heap.objs.size (.lst [])) h4 s2.heap.objs.size (.lst []):=⟨Nat.zero_le _,[],0,.nil,old4 _ _ eD3⟩
 have I4:Inv (aL X (x :: N) scope cl H3.objs.size s2 H2 fp) [] (none :: cap σ) (upd H2 s2.heap.objs.size (.lst [])) { s2 with heap:=h4,toks:=s2.toks + ([]:List (Str × Value)).length }:=by
  refine ⟨ok',rfl,I2.bare,Un.laid old (Nat.le_refl _) hD,⟨_,hns4,fun i y v e1 e2 _=>?_⟩,fun y c e=>?_,?_,fun y c e=>?_,fun p hp=>absurd hp (by show p ∉ ([] ++ []:List (Addr × Obj)); simp),I2.hok.laid old (Nat.le_refl _) okD,?_⟩
  ·cases i with
   | zero=>simp at e2
   | succ i =>
    obtain ⟨k1,k2,j,e3,e4⟩:=hcap σ i y v I2.len (show N[i]? = some y from e1) (show (cap σ)[i]? = some (some v) from e2)
    obtain ⟨m,_,hl⟩:=I2.loc
    obtain ⟨u,ru,lk⟩:=hl j y v e3 e4 (.inr (.inl k2))
    refine ⟨u,ru,.inr ⟨k1,?_⟩⟩
    rcases lk with ⟨z,_⟩ | ⟨_,c,e5,hcl⟩
    ·rw [k2] at z; cases z
    ·obtain ⟨c',e6⟩:=hhas y k1
     have:c' = c:=by
      have:=hsub y c' e6
      rw [e5] at this
      exact (Option.some.inj this).symm
     subst this
     obtain ⟨oc,ho,hd⟩:=hcl
     exact ⟨c',e6,oc,old _ _ ho,hd⟩
  ·obtain ⟨v,oc,ho,hd⟩:=I2.cell y c (hsub y c e)
   exact ⟨v,oc,old _ _ ho,hd⟩
  ·show upd H2 s2.heap.objs.size (.lst []) H3.objs.size = none
   rw [ai (Nat.ne_of_gt szC)]
   exact I2.hok.fresh (Nat.le_of_lt szC)
  ·have h1:=I2.freeC y c (hsub y c e)
   obtain ⟨v,oc,ho,_⟩:=I2.cell y c (hsub y c e)
   rw [ai (Nat.ne_of_lt (Heap.lt_size ho))]
   exact h1
  ·show (none :: cap σ).length = (x :: N).length
   simp [hcapl]
 have stat:∀ {H':Hp},(∀ b ∈ fp,H' b = none)->∀ b ∈ fp,FpOk (aL X (x :: N) scope cl H3.objs.size s2 H2 fp) [] H' b:=fun {H'} hn b hb =>
  ⟨hn b hb,(ok'.exf b hb).1,ok'.exfs b hb,.inl hb,(ok'.exf b hb).2,fun p hp=>absurd hp (by show p ∉ ([] ++ []:List (Addr × Obj)); simp)⟩
 have loop:codeAny (model X.prog X.w) X.A (.compLoop (.ListComp elt [⟨.Name x px,iter,[],0⟩] scope pos) 0 (.ref it) (.ref s2.heap.objs.size) (compEnvC scope cl H3.objs.size X.env))
   (compPost (model X.prog X.w) X.A X.xe (some (assign (.Name y py) X.env)) (fun _ s'=>SP X pins DD .next s') (.ref s2.heap.objs.size) H3.objs.size) { s2 with heap:=h4,toks:=s2.toks + ([]:List (Str × Value)).length }:=by
  refine codeAny_compLoop_list (fun n s'=>∃ (i:Nat) (z0:Option V) (H':Hp),Inv (aL X (x :: N) scope cl H3.objs.size s2 H2 fp) [] (z0 :: cap σ) H' s'/\tn i s'.heap/\(∀ b ∈ fp,H' b = none)/\W i n H') ?_ m0
   ⟨0,none,_,I4,T.keep 0 _ _ st2 (fun b _ o e=>old b o e),fun b hb=>?_,w0⟩
  ·rintro n s5 ⟨i,z0,H5,I5,st5,fr5,w5⟩
   rcases turn i n H5 w5 with ⟨stop,qn⟩ | ⟨go,step⟩
   ·refine wpAny_mono (T.done (aL X (x :: N) scope cl H3.objs.size s2 H2 fp) rfl rfl rfl rfl i [] s5 _ H5 _ I5 (stat fr5) st5 stop) (fun r s6 ⟨hr,I6⟩=>?_) fun _ _ z=>z
    subst hr
    obtain ⟨m,hn6,_⟩:=id I6.loc
    have I6X:Inv X pins σ H5 s6:=I2.call' (ch:=fp) (s':=s6) I6.os I6.base I6.hok I6.bare fun b hb=>⟨(f2 b hb).2.2.2.1,(f2 b hb).2.1,(f2 b hb).2.2.2.2.1,(f2 b hb).2.2.2.2.2⟩
    have fC:H5 H3.objs.size = none:=I6.free
    have nL:H3.objs.size ≠ X.env.locals:=Ne.symm (Nat.ne_of_lt (Nat.lt_trans I2.lt szC))
    have nCl:∀ z c,X.env.cells.lookup z = some c->c ≠ H3.objs.size:=fun z c e=>by
     obtain ⟨v,oc,ho,_⟩:=I2.cell z c e
     exact Nat.ne_of_lt (Nat.lt_trans (Heap.lt_size ho) szC)
    refine wpAny_assign_Name (lF I6X hNX hiy hly (v:=.ref s2.heap.objs.size) rfl (fun s7 I7 ⟨ad,sb7,had⟩=>?_) hf)
    have nA:H3.objs.size ≠ ad:=by
     rcases had with e | e
     ·rw [e]; exact nL
     ·exact Ne.symm (nCl _ _ e)
    refine ⟨m,hn6.sameBut sb7 nA,fun h' sb=>⟨_,H5,?_,qn⟩⟩
    refine I7.turned (it:=H3.objs.size) (t':=s7.toks) (fun b o hb e=>sb.extBut b o hb e) fC nL (.inr (Nat.le_trans I2.sz (Nat.le_of_lt szC))) nCl fun p hp=>?_
    exact Nat.ne_of_lt (Nat.lt_trans (Heap.lt_size (I2.pin p hp).1) szC)
   ·refine wpAny_mono (T.item (aL X (x :: N) scope cl H3.objs.size s2 H2 fp) rfl rfl rfl rfl i [] s5 _ H5 _ I5 (stat fr5) st5 go) (fun r s6 ⟨u,hr,h6⟩=>?_) fun _ _ z=>z
    subst hr
    have key:(letOwnedTupleGo (.Name x px) (.ref it) u >>= fun _=>assign (.Name x px) (compEnvC scope cl H3.objs.size X.env) u) = assign (.Name x px) (compEnvC scope cl H3.objs.size X.env) u:=by first | rfl | exact pure_bind _ _
    dsimp only
    rw [<- key]
    refine wpAny_bind (wpAny_mono h6 (fun _ s7 ⟨v,H7,I7,r7,y7,st7,fr7⟩=>?_) fun _ _ z=>z)
    have I7':=I7.pinned (stat fr7) (T.obj _ _ st7)
    refine wpAny_assign_Name (gh (i:=0) I7' hN rfl (.inl (lookup_relabel_local hx)) r7 (fun s8 I8=>?_) (.inr (lookup_relabel_local hx)))
    refine wpAny_mono (he H3.objs.size s2 H2 fp _ s8 (some v :: cap σ) H7 _ I8 (step v H7 y7)) (fun w9 s9 ⟨yv,H9,I9,r9,ys,hys,hlt,m',hm,w9'⟩=>?_) fun _ _ z=>z.elim
    refine wpAny_mono (aP (X:=aL X (x :: N) scope cl H3.objs.size s2 H2 fp) _ s9 _ H9 (.ref s2.heap.objs.size) [yv] _ [w9] (fun _ Hn=>Hn = upd H9 s2.heap.objs.size (.lst (ys ++ [yv]))) I9 rfl (.cons r9 .nil) ⟨_,ys,yv,rfl,rfl,hys,hlt,rfl⟩) (fun _ s10 ⟨_,H10,I10,_,e10⟩=>?_) fun _ _ z=>z.elim
    subst e10
    refine ⟨m',hm,i + 1,some v,_,I10.unpinned,T.keep _ _ _ st7 fun b hb o e=>(I10.pin (b,o) (List.mem_append_right _ (List.mem_append_right _ (bH hb e)))).1,fun b hb=>?_,w9'⟩
    obtain ⟨o,e,d⟩:=T.obj _ _ st7 b hb
    exact (I10.pin (b,o) (List.mem_append_right _ (List.mem_append_right _ (bH hb e)))).2.1
  ·obtain ⟨o,ho,_⟩:=T.obj 0 _ st2 b hb
   rw [ai (Nat.ne_of_lt (Heap.lt_size ho))]
   exact (f2 b hb).1
 exact codeAny_compStart_list loop (T.self X.A 0 _ _ _ (T.keep 0 _ _ st2 (fun b _ o e=>old b o e)) loop)
theorem dh {K:Frag} {a D:Addr} {xs:List V} {te':TE} {tl:L2.St} {G:Hp->Prop} {H1:Hp} (Pv:Nat->Hp->Prop) (h0:Pv 0 (upd H1 D (.lst []))) (hl:∀ i H,i<=xs.length->Pv i H->SqL K H a xs)
  (hs:∀ i x H,xs[i]? = some x->Pv i H->te' (some x :: tl) H fun y H2=>∃ ys,H2 D = some (.lst ys)/\ys.length < sizeLine/\∃ m',m' < xs.length - i/\(m' = xs.length - (i + 1)/\i + 1<=xs.length/\Pv (i + 1) (upd H2 D (.lst (ys ++ [y])))))
  (hd:∀ H,Pv xs.length H->G H) :
  ∃ W:Nat->Nat->Hp->Prop,(∃ m,W 0 m (upd H1 D (.lst [])))/\∀ i m H,W i m H ->
   ((Itl K a).stop i H/\G H)\/((Itl K a).go i H/\∀ x H',(Itl K a).yld i H x H'->te' (some x :: tl) H' fun y H2=>∃ ys,H2 D = some (.lst ys)/\ys.length < sizeLine/\∃ m',m' < m/\W (i + 1) m' (upd H2 D (.lst (ys ++ [y])))):=by
 refine ⟨fun i m H=>m = xs.length - i/\i<=xs.length/\Pv i H,⟨xs.length,by simp,Nat.zero_le _,h0⟩,?_⟩
 rintro i m H ⟨rfl,hi,p⟩
 have q:=hl i H hi p
 by_cases hlt:i < xs.length
 ·refine .inr ⟨⟨xs,xs[i],q,by simp [hlt]⟩,fun x H' y=>?_⟩
  obtain ⟨e,y⟩:=y
  subst e
  exact hs i x _ (y xs q) p
 ·have e:i = xs.length:=by omega
  subst e
  exact .inl ⟨⟨xs,q,Nat.le_refl _⟩,hd H p⟩
end
def tJoin (t u:TS):TS:=fun D σ H=>∃ J:L2.St->Hp->Prop,t { D with nx:=J } σ H/\∀ σ' H',J σ' H'->u D σ' H'
theorem fO {X:Cx} {st:Stmt} {rest:List Stmt} {t u:TS} (h1:PS X st t) (h2:PSs X rest u):PSs X (st :: rest) (tJoin t u):=by
 intro pins s σ H D I h
 obtain ⟨J,h,hJ⟩:=h
 refine wpAny_execs_cons (thn (h1 pins s σ H { D with nx:=J } I h) fun f s1 q=>?_)
 cases f with
 | next =>
  obtain ⟨σ',H',I',q⟩:=q
  exact h2 pins s1 σ' H' D I' (hJ _ _ q)
 | ret v=>exact q
 | brk=>exact q
 | cont=>exact q
end Ow
namespace Ow
open PySem PySem.Spec PyProof.Rows L2
section
variable {X:Cx}
theorem de {xs:List V} {us:List Value} (r:Vals xs us) {j:Nat} (h1:j < us.length):RelV (xs.getD j .non) us[j]:=by
 have hl:=r.length
 have hj:j < xs.length:=by omega
 obtain ⟨u,hu,ru⟩:=r.get (i:=j) (x:=xs[j]) (List.getElem?_eq_getElem hj)
 rw [List.getElem?_eq_getElem h1] at hu
 rw [List.getD_eq_getElem?_getD,List.getElem?_eq_getElem hj]
 cases hu
 exact ru
def rEq0 (K:Frag) (neg:Bool):R2:=fun x y H Q=>∃ p q xs,x = .ref p/\y = .ref q/\SqL K H p xs/\SqL K H q []/\Q (.bl (if neg then !xs.isEmpty else xs.isEmpty)) H
theorem nt (hu:X.A.units < cLine):OpR X (compareOp .Eq) (rEq0 X.K false):=by
 intro pins s σ H x y v u Q I rx ry h
 obtain ⟨p,q,xs,rfl,rfl,hp,hq,k⟩:=h
 cases rx
 cases ry
 obtain ⟨its,r,pl,hz⟩:=I.list hp
 obtain ⟨its2,r2,pl2,hz2⟩:=I.list hq
 cases r2
 have hl:=r.length
 cases xs with
 | nil =>
  cases r
  exact SeqAt.eq_listAt (e:=fun _=>true) pl.isList pl2.isList rfl hu (fun j h1 _=>absurd h1 (by simp)) ⟨.bl _,H,I,rfl,k⟩
 | cons z zs =>
  refine SeqAt.eq_list_lengthsAt pl.isList pl2.isList ?_ hu ⟨.bl _,H,I,rfl,k⟩
  rw [List.length_cons] at hl
  simp only [List.size_toArray,<- hl]
  rfl
theorem jC (hu:X.A.units < cLine):OpR X (compareOp .NotEq) (rEq0 X.K true):=by
 intro pins s σ H x y v u Q I rx ry h
 obtain ⟨p,q,xs,rfl,rfl,hp,hq,k⟩:=h
 cases rx
 cases ry
 obtain ⟨its,r,pl,hz⟩:=I.list hp
 obtain ⟨its2,r2,pl2,hz2⟩:=I.list hq
 cases r2
 have hl:=r.length
 cases xs with
 | nil =>
  cases r
  exact SeqAt.RcNeAt.lists (e:=fun _=>true) pl.isList pl2.isList rfl hu (fun j h1 _=>absurd h1 (by simp)) X.prog X.w X.xe _ ⟨.bl _,H,I,rfl,k⟩
 | cons z zs =>
  refine SeqAt.RcNeAt.lists_lengths pl.isList pl2.isList ?_ hu X.prog X.w X.xe _ ⟨.bl _,H,I,rfl,k⟩
  rw [List.length_cons] at hl
  simp only [List.size_toArray,<- hl]
  rfl
structure ClsFn (K:Frag) (C:Addr) (m:Str) (f:Addr):Prop where
 reads:PySem.W.readsIn K C (.type "type") = true
 ga:PySem.W.specialIn K (.ref C) "__getattribute__" = some (some (.builtin "type.__getattribute__"))
 fnd:PySem.W.findCls K (.ref C) (.type "type") m = some (.val (.ref f))
 hd:PySem.W.handedIn (.ref f) = true
 kp:keepIn K (.ref f) = true
theorem pe_clsm {pl:Sem Bool} {k:Nat} {f C:Addr} {fd:FuncData} {ps:List Str} {sp:Sp} {cn m:Str} {p pos apos:Pos} {e:Expr} {es:List Expr} {t:TA} (hg:Gl X cn) (hC:X.mg cn = some (.ref C)) (cf:ClsFn X.K C m f)
  (F:FnOk X.prog X.w X.K X.mg X.base CX0 k f fd ps sp) (hr:Room k X.A) (hb:Binds X.K fd ps []) (ha:PA X (e :: es) t) (hdb:(cn == ("__debug__":Str)) = false:=by decide)
  (hst:starEach (e :: es) X.env = (false,eval e X.env) :: starEach es X.env:=by rfl) (hpl:(backTo pos (starEach es X.env)).any (·.1) = false:=by rfl)
  (ht:eval (.Call (.Attribute (.Name cn p) m apos) (e :: es) [] pos) X.env = (do
   let ov <- eval (.Name cn p) X.env
   standAt apos.atName
   let (f,first) <- holding [ov] (getMethod ov m pl)
   callWith pos f first (backTo pos (starEach (e :: es) X.env)) (backToKw pos (keywordEach [] X.env))):=by rfl) :
  PE X (.Call (.Attribute (.Name cn p) m apos) (e :: es) [] pos) (nX sp [] E0 t):=by
 intro pins s σ H Q I h
 refine PySem.W.methodCall_KW (pl:=pl) (dW I hg hC ?_ hdb) ht
 refine PySem.W.method_cls I.kIn cf.ga (PySem.W.cls_value I.kIn cf.reads cf.fnd cf.hd ?_)
 have I1:=I.tok (s.toks + 1)
 refine PySem.W.callWith_K (first:=[]) (h₀:=X.base) I.ok.mod.kin cf.kp (thn (ha pos pins _ σ H _ I1 h) fun us s2 ⟨vs,H2,I2,r,q2⟩=>⟨I2.kIn,?_⟩) hst hpl
 exact nQ (us:=us) (vs:=vs) F hr hb .nil pq I2 r q2
end
end Ow
namespace Ow
open PySem PySem.Spec PyProof.Rows L2
section
variable {X:Cx}
def rAddL (K:Frag):R2:=fun x y H Q=>∃ a b xs ys,x = .ref a/\y = .ref b/\SqL K H a xs/\SqL K H b ys/\xs.length + ys.length<=sizeLine/\∀ p,H p = none->Q (.ref p) (upd H p (.lst (xs ++ ys)))
theorem bU:OpR X (binaryOp .Add) (rAddL X.K):=by
 intro pins s σ H x y v u Q I rx ry h
 obtain ⟨a,b,xs,ys,rfl,rfl,ha,hb,hz,q⟩:=h
 cases rx
 cases ry
 obtain ⟨its,r,pl,_⟩:=I.list ha
 obtain ⟨its2,r2,pl2,_⟩:=I.list hb
 have hl:=r.length
 have hl2:=r2.length
 obtain ⟨⟨cls,dd,data,sl⟩,ho,hc,n,hd⟩:=id pl.isList
 obtain ⟨⟨cls2,dd2,data2,sl2⟩,ho2,hc2,n2,hd2⟩:=id pl2.isList
 simp only at hc hd hc2 hd2
 subst hc hd hc2 hd2
 have e:its.toArray ++ its2.toArray = (its ++ its2).toArray:=by simp
 refine concat_meets ⟨_,ho,rfl⟩ ⟨_,ho2,rfl⟩ noFill_list_add seq_list_add PySem.F.slot_list_add PySem.F.entry_list_add (PySem.F.args_list_add_2 _ _) (list_addW a b its.toArray its2.toArray n n2 dd dd2 sl sl2 (by simp; omega)) ⟨ho,ho2,?_⟩
 rw [e]
 exact ⟨.ref s.heap.objs.size,_,I.lnew (t':=s.toks) (r.append r2) (by rw [List.length_append]; exact hz),rfl,q _ I.fresh⟩
variable {tg:Expr}
inductive EqD (K:Frag) (H:Hp):Nat->V->V->Bool->Prop where
 | flat {d:Nat} {x y:V} (fx:gM x = true) (fy:gM y = true):EqD K H d x y (eqV x y)
 | tup {d:Nat} {p q:Addr} {xs ys:List V} {e:Nat->Bool} (hn:p ≠ q) (hx:SqT K H p xs) (hy:SqT K H q ys) (he:∀ j,j < xs.length->j < ys.length->EqD K H d (xs.getD j .non) (ys.getD j .non) (e j)) :
   EqD K H (d + 1) (.ref p) (.ref q) ((List.range (min xs.length ys.length)).all e && xs.length == ys.length)
 | lst {d:Nat} {p q:Addr} {xs ys:List V} {e:Nat->Bool} (hn:p ≠ q) (hx:SqL K H p xs) (hy:SqL K H q ys) (hl:xs.length = ys.length) (he:∀ j,j < xs.length->EqD K H d (xs.getD j .non) (ys.getD j .non) (e j)) :
   EqD K H (d + 1) (.ref p) (.ref q) ((List.range xs.length).all e)
 | same {d:Nat} {p:Addr}:EqD K H d (.ref p) (.ref p) true
theorem EqD.at {pins:List (Addr × Obj)} {σ:L2.St} {H:Hp} {s:Shared} (I:Inv X pins σ H s):∀ {d:Nat} {x y:V} {b:Bool} {u v:Value} {A:Around},EqD X.K H d x y b->RelV x u->RelV y v->A.units + d < cLine->SeqAt.EqAt A s u v b:=by
 intro d x y b u v A h
 induction h generalizing u v A with
 | flat fx fy=>intro rx ry _; exact qo rx ry fx fy
 | same=>intro rx ry _; cases rx; cases ry; exact SeqAt.EqAt.same _
 | @tup d p q xs ys e hn hx hy he ih =>
  intro rx ry hu
  cases rx
  cases ry
  obtain ⟨its,r,pl,_⟩:=I.tuple hx
  obtain ⟨its2,r2,pl2,_⟩:=I.tuple hy
  have hl:=r.length
  have hl2:=r2.length
  have:=SeqAt.EqAt.of_refs hn (SeqAt.RcAt.tuples (A:=A) (e:=e) pl pl2 (by omega) (fun j h1 h2=>by
   have h1':j < its.length:=by simpa using h1
   have h2':j < its2.length:=by simpa using h2
   have z:=ih j (by omega) (by omega) (de r h1') (de r2 h2') (A:=A.in1) (by show A.units + 1 + d < _; omega)
   simpa using z))
  simp only [List.size_toArray,<- hl,<- hl2] at this
  exact this
 | @lst d p q xs ys e hn hx hy hle he ih =>
  intro rx ry hu
  cases rx
  cases ry
  obtain ⟨its,r,pl,_⟩:=I.list hx
  obtain ⟨its2,r2,pl2,_⟩:=I.list hy
  have hl:=r.length
  have hl2:=r2.length
  have:=SeqAt.EqAt.of_refs hn (SeqAt.RcAt.lists (A:=A) (e:=e) pl.isList pl2.isList (by simp only [List.size_toArray]; omega) (by omega) (fun j h1 h2=>by
   have h1':j < its.length:=by simpa using h1
   have h2':j < its2.length:=by simpa using h2
   have z:=ih j (by omega) (de r h1') (de r2 h2') (A:=A.in1) (by show A.units + 1 + d < _; omega)
   simpa using z))
  simp only [List.size_toArray,<- hl] at this
  exact this
end
end Ow
namespace Ow
open PySem PySem.Spec PyProof.Rows L2
section
variable {X:Cx} {tg:Expr}
theorem fk (hc:X.calm = true):gq X (.builtin "all") (fun xs H Q=>∃ (a:Addr) (bs:List Bool),xs = [.ref a]/\SqL X.K H a (bs.map V.bl)/\Q (.bl (bs.all id)) H):=by
 intro pins s σ H xs us Q I r h
 obtain ⟨a,bs,rfl,hq,q⟩:=h
 obtain ⟨u,rfl,rx⟩:=kH r
 cases rx
 obtain ⟨its,rv,pl,hz⟩:=I.list hq
 have hl:=rv.length
 rw [List.length_map] at hl
 refine call_all_walk (wpAny_pyIter_list pl.isList ?_)
 have hne:a ≠ s.heap.objs.size:=by
  obtain ⟨o,ho,_⟩:=pl.isList
  exact Nat.ne_of_lt (Heap.lt_size ho)
 refine ⟨s.heap.objs.size,_,_,_,_,_,fun j=>bs.getD j false,rfl,Walks.list (A:=X.A.in1) (I.ok.hd hc) s.heap.objs.size a hne its.toArray,⟨⟨_,Heap.get?_push_size _ rfl,rfl,rfl⟩,Heap.IsList.push pl.isList _⟩,?_,?_⟩
 ·intro i v s' Q' E' hP hQ'
  have hP':its[i]? = some v:=by simpa using hP
  have hi:i < its.length:=(List.getElem?_eq_some_iff.mp hP').1
  have hb:(bs.map V.bl)[i]? = some (V.bl (bs.getD i false)):=by
   rw [List.getElem?_map,List.getD_eq_getElem?_getD,List.getElem?_eq_getElem (by omega)]
   rfl
  obtain ⟨u',hu',ru'⟩:=rv.get hb
  rw [hP'] at hu'
  cases hu'
  cases ru'
  exact wpAny_truthy_bool hQ'
 ·intro h' tk hk
  refine ⟨.bl _,H,I.kept (t':=tk) fun b o e=>hk b o (fun z=>?_) (Heap.get?_push_of_some _ e),?_,q⟩
  ·have z':b = s.heap.objs.size:=by simpa using z
   exact absurd (Heap.lt_size e) (by rw [z']; exact Nat.lt_irrefl _)
  ·have e1:(List.range its.toArray.size).all (fun j=>bs.getD j false) = bs.all id:=by
    rw [List.size_toArray,<- hl]
    rw [Bool.eq_iff_iff,List.all_eq_true,List.all_eq_true]
    constructor
    ·intro h x hx
     obtain ⟨j,hj,e⟩:=List.getElem_of_mem hx
     have:=h j (List.mem_range.mpr hj)
     rw [List.getD_eq_getElem?_getD,List.getElem?_eq_getElem hj] at this
     show x = true
     rw [<- e]
     exact this
    ·intro h j hj
     have hj':=List.mem_range.mp hj
     rw [List.getD_eq_getElem?_getD,List.getElem?_eq_getElem hj']
     exact h _ (List.getElem_mem hj')
   rw [e1]
   rfl
variable {elt iter:Expr} {x:Str} {px pos:Pos} {scope:Scope} {wi:TI} {te:TE} {cl:List (Str × Addr)}
theorem pe_compC (js:List Nat) (ns:List Str) (hc:X.calm = true) (hclos:closureFor scope X.env = pure cl) (hcls:cl.map (·.1) = ns) (hsub:∀ p ∈ cl,X.env.cells.lookup p.1 = some p.2)
  (hno:∀ p ∈ scope.names,p.2 ≠ .cell/\(p.2 = .free->p.1 ∈ ns)) (hkind:scope.kind = .function) (hnames:∀ y ∈ scope.names,y.2 = .local->scope.names.lookup y.1 = some .local) (hx:scope.names.lookup x = some .local)
  (hN:(x :: ns).Nodup) (hkd:∀ y ∈ ns,(Env.kindOf (compEnvC scope cl 0 X.env) y = some .cell\/Env.kindOf (compEnvC scope cl 0 X.env) y = some .free)/\X.env.kindOf y = some .cell)
  (hjl:js.length = ns.length) (hj:js.map (fun j=>X.N[j]?) = ns.map some)
  (hi:PI X (.Name x px) iter wi) (he:∀ C s2 H2 fp,PE (aL X (x :: ns) scope cl C s2 H2 fp) elt te)
  (hs:∀ z,foldedSetIterable iter X.env z = pure z:=by intro _; rfl) :
  PE X (.ListComp elt [⟨.Name x px,iter,[],0⟩] scope pos) (pI wi te fun σ=>js.map fun j=>(σ[j]?).getD none):=by
 refine oX (N:=ns) (cl:=cl) hc hclos (fun n c e=>hsub (n,c) (PySem.mem_of_lookup e)) (fun y hy=>(hno y hy).1) hkind hnames hx (fun y hy=>?_) hN (fun σ=>by rw [List.length_map]; exact hjl) (fun σ i y v _ e1 e2=>?_) hi he hs
 ·have sub:∀ (l:List (Str × NameKind)),(∀ p ∈ l,p.2 ≠ .cell/\(p.2 = .free->p.1 ∈ ns))->∀ p ∈ (l.map fun (n,k)=>if (k == NameKind.free && X.env.scope.kind == ScopeKind.function && X.env.kindOf n == some NameKind.cell) then (n,NameKind.cell) else (n,k)),(p.2 = .cell\/p.2 = .free)->p.1 ∈ ns:=by
   intro l hl p hp hk
   obtain ⟨q,hq,e⟩:=List.mem_map.mp hp
   have h1:=hl q hq
   obtain ⟨n,k⟩:=q
   dsimp only at e
   by_cases hf:k = .free
   ·have h2:=h1.2 hf
    split at e
    ·rw [<- e]; exact h2
    ·rw [<- e]; exact h2
   ·have hf':(k == NameKind.free) = false:=by
     cases k <;> first | rfl | exact absurd rfl hf
    rw [hf',Bool.false_and,Bool.false_and,if_neg (by decide)] at e
    rw [<- e] at hk
    rcases hk with z | z
    ·exact absurd z h1.1
    ·exact absurd z hf
  have hy':y ∈ ns:=by
   rcases hy with z | z
   ·exact sub scope.names hno (y,.cell) (PySem.mem_of_lookup z) (.inl rfl)
   ·exact sub scope.names hno (y,.free) (PySem.mem_of_lookup z) (.inr rfl)
  rw [<- hcls] at hy'
  have key:∀ l:List (Str × Addr),y ∈ l.map (·.1)->∃ c,l.lookup y = some c:=by
   intro l
   induction l with
   | nil=>intro h; simp at h
   | cons p r ih =>
    intro h
    by_cases e:y = p.1
    ·exact ⟨p.2,by obtain ⟨p1,p2⟩:=p; dsimp only at e; subst e; simp [List.lookup]⟩
    ·have h':y ∈ r.map (·.1):=by
      rw [List.map_cons] at h
      exact (List.mem_cons.mp h).resolve_left e
     obtain ⟨c,hc'⟩:=ih h'
     refine ⟨c,?_⟩
     obtain ⟨p1,p2⟩:=p
     have:(y == p1) = false:=by simpa using e
     rw [List.lookup_cons,this]
     exact hc'
  exact key cl hy'
 ·have hm:y ∈ ns:=List.mem_of_getElem? e1
  refine ⟨(hkd y hm).1,(hkd y hm).2,?_⟩
  rw [List.getElem?_map] at e2
  cases hji:js[i]? with
  | none=>rw [hji] at e2; cases e2
  | some j =>
   rw [hji] at e2
   have e3:(σ[j]?).getD none = some v:=by
    have:=Option.some.inj e2
    exact this
   have e4:=congrArg (fun l=>l[i]?) hj
   rw [List.getElem?_map,List.getElem?_map,hji,e1] at e4
   have e5:X.N[j]? = some y:=by
    have:=Option.some.inj e4
    exact this
   refine ⟨j,e5,?_⟩
   cases hσ:σ[j]? with
   | none=>rw [hσ] at e3; cases e3
   | some o =>
    rw [hσ] at e3
    have e6:o = some v:=e3
    rw [e6]
structure CHas (P:Program) (w:World) (K:Frag) (mg:Str->Option Value) (base:Heap) (k:Nat) (C:Addr) (x:Str) (ps:List Str) (sp:Sp):Prop where
 ex:∃ (f:Addr) (fd:FuncData),Mk K C f/\FnOk P w K mg base CX0 k f fd ps sp/\Binds K fd ps []/\mg x = some (.ref C)
theorem jy {k:Nat} {C:Addr} {y:Str} {ps:List Str} {sp:Sp} {p:Pos} {e:Expr} {es:List Expr} {t:TA} (h:CHas X.prog X.w X.K X.mg X.base k C y ps sp) (hr:Room (k + 1) X.A) (hg:Gl X y) (ha:PA X (e :: es) t) (hdb:(y == ("__debug__":Str)) = false:=by decide)
  (he:starEach (e :: es) X.env = (false,eval e X.env) :: starEach es X.env:=by rfl) (hpl:(backTo pos (starEach es X.env)).any (·.1) = false:=by rfl) :
  PE X (.Call (.Name y p) (e :: es) [] pos) (tMake C sp [] E0 t):=by
 obtain ⟨f,fd,M,F,b,m⟩:=h.ex
 exact pe_make M F hr hg m b .nil pq ha hdb he hpl
structure BHas (P:Program) (w:World) (K:Frag) (mg:Str->Option Value) (base:Heap) (k:Nat) (x m:Str) (ps:List Str) (sp:Sp):Prop where
 ex:∃ (C f:Addr) (fd:FuncData),ClsFn K C m f/\FnOk P w K mg base CX0 k f fd ps sp/\Binds K fd ps []/\mg x = some (.ref C)
theorem pe_clsP {pl:Sem Bool} {k:Nat} {ps:List Str} {sp:Sp} {cn m:Str} {p apos:Pos} {e:Expr} {es:List Expr} {t:TA} (h:BHas X.prog X.w X.K X.mg X.base k cn m ps sp) (hr:Room k X.A) (hg:Gl X cn) (ha:PA X (e :: es) t) (hdb:(cn == ("__debug__":Str)) = false:=by decide)
  (hst:starEach (e :: es) X.env = (false,eval e X.env) :: starEach es X.env:=by rfl) (hpl:(backTo pos (starEach es X.env)).any (·.1) = false:=by rfl)
  (ht:eval (.Call (.Attribute (.Name cn p) m apos) (e :: es) [] pos) X.env = (do
   let ov <- eval (.Name cn p) X.env
   standAt apos.atName
   let (f,first) <- holding [ov] (getMethod ov m pl)
   callWith pos f first (backTo pos (starEach (e :: es) X.env)) (backToKw pos (keywordEach [] X.env))):=by rfl) :
  PE X (.Call (.Attribute (.Name cn p) m apos) (e :: es) [] pos) (nX sp [] E0 t):=by
 obtain ⟨C,f,fd,cf,F,b,g⟩:=h.ex
 exact pe_clsm hg g cf F hr b ha hdb hst hpl ht
end
end Ow
namespace Ow
open PySem PySem.Spec PyProof.Rows L2
section
variable {X:Cx}
theorem ix_listK {K:Frag} (h:X.K = K):IxR X (rIxL K):=by
 subst h
 exact aD
theorem jc {K:Frag} (h:X.K = K):IxR X (rIxT K):=by
 subst h
 exact cF
variable {elt iter:Expr} {x:Str} {px pos:Pos} {scope:Scope} {wi:TI} {te:TE} {cl:List (Str × Addr)}
theorem ps_compC {i:Nat} {y:Str} {py spos:Pos} (hNX:X.N.Nodup) (hiy:X.N[i]? = some y) (hly:Loc X.env.scope y) (hsw:swapsWith (.ListComp elt [⟨.Name x px,iter,[],0⟩] scope pos) (some (.Name y py)) spos.line X.env = pure true) (js:List Nat) (ns:List Str) (hc:X.calm = true) (hclos:closureFor scope X.env = pure cl) (hcls:cl.map (·.1) = ns) (hsub:∀ p ∈ cl,X.env.cells.lookup p.1 = some p.2)
  (hno:∀ p ∈ scope.names,p.2 ≠ .cell/\(p.2 = .free->p.1 ∈ ns)) (hkind:scope.kind = .function) (hnames:∀ y ∈ scope.names,y.2 = .local->scope.names.lookup y.1 = some .local) (hx:scope.names.lookup x = some .local)
  (hN:(x :: ns).Nodup) (hkd:∀ y ∈ ns,(Env.kindOf (compEnvC scope cl 0 X.env) y = some .cell\/Env.kindOf (compEnvC scope cl 0 X.env) y = some .free)/\X.env.kindOf y = some .cell)
  (hjl:js.length = ns.length) (hj:js.map (fun j=>X.N[j]?) = ns.map some)
  (hi:PI X (.Name x px) iter wi) (he:∀ C s2 H2 fp,PE (aL X (x :: ns) scope cl C s2 H2 fp) elt te)
  (hs:∀ z,foldedSetIterable iter X.env z = pure z:=by intro _; rfl) (hf:X.fn y = true\/X.env.scope.names.lookup y = some .local:=by first | exact .inl rfl | exact .inr rfl | assumption) :
  PS X (.Assign [.Name y py] (.ListComp elt [⟨.Name x px,iter,[],0⟩] scope pos) spos) (tAsg (pI wi te fun σ=>js.map fun j=>(σ[j]?).getD none) (oy i)):=by
 refine ps_comp hNX hiy hly hsw (N:=ns) (cl:=cl) hc hclos (fun n c e=>hsub (n,c) (PySem.mem_of_lookup e)) (fun y hy=>(hno y hy).1) hkind hnames hx (fun y hy=>?_) hN (fun σ=>by rw [List.length_map]; exact hjl) (fun σ i y v _ e1 e2=>?_) hi he hs hf
 ·have sub:∀ (l:List (Str × NameKind)),(∀ p ∈ l,p.2 ≠ .cell/\(p.2 = .free->p.1 ∈ ns))->∀ p ∈ (l.map fun (n,k)=>if (k == NameKind.free && X.env.scope.kind == ScopeKind.function && X.env.kindOf n == some NameKind.cell) then (n,NameKind.cell) else (n,k)),(p.2 = .cell\/p.2 = .free)->p.1 ∈ ns:=by
   intro l hl p hp hk
   obtain ⟨q,hq,e⟩:=List.mem_map.mp hp
   have h1:=hl q hq
   obtain ⟨n,k⟩:=q
   dsimp only at e
   by_cases hf:k = .free
   ·have h2:=h1.2 hf
    split at e
    ·rw [<- e]; exact h2
    ·rw [<- e]; exact h2
   ·have hf':(k == NameKind.free) = false:=by
     cases k <;> first | rfl | exact absurd rfl hf
    rw [hf',Bool.false_and,Bool.false_and,if_neg (by decide)] at e
    rw [<- e] at hk
    rcases hk with z | z
    ·exact absurd z h1.1
    ·exact absurd z hf
  have hy':y ∈ ns:=by
   rcases hy with z | z
   ·exact sub scope.names hno (y,.cell) (PySem.mem_of_lookup z) (.inl rfl)
   ·exact sub scope.names hno (y,.free) (PySem.mem_of_lookup z) (.inr rfl)
  rw [<- hcls] at hy'
  have key:∀ l:List (Str × Addr),y ∈ l.map (·.1)->∃ c,l.lookup y = some c:=by
   intro l
   induction l with
   | nil=>intro h; simp at h
   | cons p r ih =>
    intro h
    by_cases e:y = p.1
    ·exact ⟨p.2,by obtain ⟨p1,p2⟩:=p; dsimp only at e; subst e; simp [List.lookup]⟩
    ·have h':y ∈ r.map (·.1):=by
      rw [List.map_cons] at h
      exact (List.mem_cons.mp h).resolve_left e
     obtain ⟨c,hc'⟩:=ih h'
     refine ⟨c,?_⟩
     obtain ⟨p1,p2⟩:=p
     have:(y == p1) = false:=by simpa using e
     rw [List.lookup_cons,this]
     exact hc'
  exact key cl hy'
 ·have hm:y ∈ ns:=List.mem_of_getElem? e1
  refine ⟨(hkd y hm).1,(hkd y hm).2,?_⟩
  rw [List.getElem?_map] at e2
  cases hji:js[i]? with
  | none=>rw [hji] at e2; cases e2
  | some j =>
   rw [hji] at e2
   have e3:(σ[j]?).getD none = some v:=by
    have:=Option.some.inj e2
    exact this
   have e4:=congrArg (fun l=>l[i]?) hj
   rw [List.getElem?_map,List.getElem?_map,hji,e1] at e4
   have e5:X.N[j]? = some y:=by
    have:=Option.some.inj e4
    exact this
   refine ⟨j,e5,?_⟩
   cases hσ:σ[j]? with
   | none=>rw [hσ] at e3; cases e3
   | some o =>
    rw [hσ] at e3
    have e6:o = some v:=e3
    rw [e6]
end
end Ow
namespace Ow
open PySem PySem.Spec PyProof.Rows L2
structure Gnd (P:Program) (w:World) (base:Heap) (fs:List Addr) (H H':Hp) (h B:Heap):Prop where
 st:base.StaysIn B
 keep:∀ b o,h.get? b = some o->H b = none->b ∉ fs->B.get? b = some o
 free:∀ b o,h.get? b = some o->H b = none->H' b = none
 there:∀ b o,h.get? b = some o->b ∉ fs->∃ o',B.get? b = some o'
 tups:∀ b xs,H b = some (.tup xs)->H' b = some (.tup xs)
 frzs:∀ b o u,H b = some (.frz o u)->H' b = some (.frz o u)
 tbls:∀ b ps,H b = some (.tbl ps)->∃ more,H' b = some (.tbl (ps ++ more))
 hok:HOk P w H' B
def Slots (fs:List Addr) (h h':Heap):Prop:=∀ b ∈ fs,∀ o,h.get? b = some o->∃ sl,h'.get? b = some { o with slots:=sl }
section
variable {P:Program} {w:World} {base h h1 h2 B:Heap} {fs:List Addr} {H H':Hp} {l:List Env}
theorem Gnd.un (G:Gnd P w base fs H H' h B) (sb:B.StaysIn h1) (sl:Slots fs h h1):Un fs [] H H' h h1 where
 keep:=fun b o q n hb _=>sb _ _ (G.keep b o q n hb)
 slot:=fun b o q _ hb _=>sl b hb o q
 free:=fun b o q n _=>G.free b o q n
 there:=fun b o q _=>by
  by_cases hb:b ∈ fs
  ·obtain ⟨s,e⟩:=sl b hb o q
   exact ⟨_,e⟩
  ·obtain ⟨o',e⟩:=G.there b o q hb
   exact ⟨o',sb _ _ e⟩
 tups:=G.tups
 frzs:=G.frzs
 tbls:=G.tbls
theorem Slots.on (x:Slots (frs l) h h1) (hl:h1.FunFrames B l) (u:h1.UpToSlots h2):Slots (frs l) h h2:=fun b hb o q=>by
 obtain ⟨sl,e⟩:=x b hb o q
 obtain ⟨_,o1,e1,d1⟩:=hl.mem hb
 rw [e] at e1
 cases e1
 obtain ⟨s2,e2⟩:=u b _ e d1
 exact ⟨s2,e2⟩
end
abbrev VE:List Value:=[.type "ValueError",.type "Exception",.type "BaseException",.type "object"]
section
variable {P:Program} {w:World} {K:Frag} {mg:Str->Option Value} {base:Heap} {N:List Str} {qual:Str} {scope:Scope} {f:Addr} {cdv:Value} {A:Around} {outer:List Env} {s₀:Shared} {H₀:Hp} {E:XK}
end
def iL (X:Cx) (a:Addr) (oe:Obj):Cx:={ X with A:=X.A.mark (some (.ref a)),calm:=false,pn:=(a,oe) :: X.pn }
section
variable {X:Cx} {pins:List (Addr × Obj)} {σ:L2.St} {H:Hp} {s:Shared} {a:Addr} {oe:Obj}
theorem jz (I:Inv X pins σ H s) (e:s.heap.get? a = some oe) (n:H a = none) (hl:a ≠ X.env.locals) (hf:a ∉ X.fs) (hd:∀ v,oe.data ≠ .cell v):Inv (iL X a oe) pins σ H s :=
 ⟨⟨I.ok.mod,I.ok.kind,I.ok.glob,I.ok.blt,I.ok.above,I.ok.inj,I.ok.has,I.ok.cab,(fun z=>nomatch z),I.ok.frames,I.ok.stk,I.ok.exf,I.ok.bs,I.ok.bsz,I.ok.noex,I.ok.exfs,I.ok.funs,I.ok.frf⟩,
  I.os,I.bare,I.base,I.loc,I.cell,I.free,I.freeC,fun p hp=>by
   rcases List.mem_cons.mp (show p ∈ (a,oe) :: (X.pn ++ pins) from hp) with rfl | hp
   ·exact ⟨e,n,hl,hf,hd⟩
   ·exact I.pin p hp,I.hok,I.len⟩
theorem qc {h':Heap} {m':Str->Option Value} {t':Nat} (I:Inv (iL X a oe) pins σ H s) (okX:X.Ok) (hn:h'.Ns X.env.locals m') (hs:Heap.SameBut X.env.locals s.heap h') :
  Inv X pins (List.replicate X.N.length none) H { s with heap:=h',toks:=t' }:=by
 have neL:∀ b o,X.s₀.heap.get? b = some o->b ≠ X.env.locals:=fun b o e=>Nat.ne_of_lt (Nat.lt_of_lt_of_le (Heap.lt_size e) okX.above)
 refine ⟨okX,I.os,I.bare,⟨fun b o e n hb hx=>?_,fun b o e n hb hx=>?_,I.base.free,fun b o e hx=>?_,I.base.tups,I.base.frzs,I.base.tbls⟩,⟨m',hn,fun i x v e1 e2 e3=>?_⟩,fun x c e=>?_,I.free,I.freeC,fun p hp=>?_,fun b ob e=>?_,List.length_replicate ..⟩
 ·exact (hs.2 b (neL b o e)).trans (I.base.keep b o e n hb hx)
 ·obtain ⟨sl,e1⟩:=I.base.slot b o e n hb hx
  exact ⟨sl,(hs.2 b (neL b o e)).trans e1⟩
 ·obtain ⟨o',e1⟩:=I.base.there b o e hx
  exact ⟨o',(hs.2 b (neL b o e)).trans e1⟩
 ·rw [List.getElem?_replicate] at e2
  split at e2 <;> cases e2
 ·obtain ⟨v,z⟩:=I.cell x c e
  exact ⟨v,z.sameBut hs (I.cne x c e)⟩
 ·obtain ⟨e,n,ne,nf,d⟩:=I.pin p (List.mem_cons_of_mem _ hp)
  exact ⟨(hs.2 p.1 ne).trans e,n,ne,nf,d⟩
 ·refine (I.hok b ob e).stay (fun c w' hc z=>(hs.2 c ?_).trans z) (fun _ z=>z) fun _ _ z=>z
  have fr:H X.env.locals = none:=I.free
  rintro rfl
  rcases hc with rfl | hc
  ·rw [fr] at e; cases e
  ·rw [fr] at hc; cases hc
end
section
variable {X:Cx} {k i j:Nat} {f y n c:Str} {ps:List Str} {sp:Sp} {e:Expr} {es:List Expr} {ta:TA} {C₁:Addr} {b₀:Stmt} {suite:List Stmt} {tb:Addr->Obj->TS} {py p pos apos np hpos tpos:Pos}
end
structure ExF (K:Frag) (C:Addr):Prop where
 ga:findIn K (.ref C) "__getattribute__" = some (some (.builtin "BaseException.__getattribute__"))
 gn:findIn K (.ref C) "__getattr__" = some none
 gc:findIn K (.ref C) "__class__" = some (some (.builtin "object.__class__"))
 mo:mroIn K C (.type "object") = some true
 mb:mroIn K C (.type "BaseException") = some true
section
variable {prog:Program} {w:World} {A:Around} {E:Value->Shared->Prop} {h:Heap} {g:Array GenState} {d:Drawn} {t:Nat} {os:OsState} {K:Frag} {a C:Addr} {o:Obj}
theorem qg {M:Model} {nv:Value} {Q:Unit->Shared->Prop} (X:K.In h) (f:ExF K C) (hx:h.get? a = some o) (hc:o.cls = .ref C) (hq:Q () ⟨h,g,d,t,os⟩) :
  wpAny M A (checkBuiltinCall "BaseException.__getattribute__" ⟨[.ref a,nv],[]⟩) Q E ⟨h,g,d,t,os⟩:=by
 have k1:builtinKind "BaseException.__getattribute__" = some .slot:=by decide +kernel
 have k2:splitId "BaseException.__getattribute__" = some ("BaseException", "__getattribute__"):=by decide +kernel
 have L1:=PySem.W.looks_mroIn (M:=M) X f.mb
 have k3:=F.args_bexc_ga (.ref a) nv
 simp only [checkBuiltinCall,k1,k2]
 refine wpAny_bind ?_
 unfold isInstance
 repeat (first | (with_reducible refine wpAny_loadPart_at hx ?_; rw [hc]) | with_reducible refine L1.at ?_ | wp_step)
 exact hq
end
theorem qr {K:Frag} {C D:Addr} {b:Bool} (h1:isClsIn K D = true) (h2:typeIn K (.ref D) = some (.type "type")) (h3:mroIn K C (.ref D) = some b):PySem.W.kitCls K (.ref C) (.ref D) = some b:=by
 unfold PySem.W.kitCls
 have e:((PySem.W.clsIn K D).isSome && typeIn K (.ref D) == some (.type "type")) = true:=by
  rw [h2]
  have h1':(PySem.W.clsIn K D).isSome = true:=h1
  rw [h1',Bool.true_and]
  exact beq_self_eq_true _
 show (if ((PySem.W.clsIn K D).isSome && typeIn K (.ref D) == some (.type "type")) = true then PySem.W.subIn K (.ref C) (.ref D) else none) = _
 rw [if_pos e]
 exact h3
theorem qF {K:Frag} {C D:Addr} (h1:isClsIn K D = true) (h2:typeIn K (.ref D) = some (.type "type")) (h3:mroIn K C (.ref D) = some true) (h4:mroIn K D (.type "BaseException") = some true):exmOne K (.ref C) (.ref D) = some true:=by
 unfold exmOne
 have e:PySem.W.subIn K (.ref D) (.type "BaseException") = some true:=h4
 rw [e,if_pos (by rw [beq_self_eq_true])]
 exact qr h1 h2 h3
end Ow
namespace Ow
open PySem PySem.Spec PyProof.Rows L2
section
variable {P:Program} {w:World} {K:Frag} {mg:Str->Option Value} {base:Heap} {N:List Str} {qual:Str} {scope:Scope} {f:Addr} {cdv:Value} {A:Around} {outer:List Env} {s₀:Shared} {H₀:Hp} {E:XK}
end
def pinned (X:Cx) (pins:List (Addr × Obj)):Cx:={ X with pn:=X.pn ++ pins }
section
variable {X:Cx} {pins pins':List (Addr × Obj)} {σ:L2.St} {H:Hp} {s:Shared} {E:L2.St->XK}
theorem qB (I:Inv X pins σ H s):Inv (pinned X pins) [] σ H s :=
 ⟨⟨I.ok.mod,I.ok.kind,I.ok.glob,I.ok.blt,I.ok.above,I.ok.inj,I.ok.has,I.ok.cab,I.ok.hd,I.ok.frames,I.ok.stk,I.ok.exf,I.ok.bs,I.ok.bsz,I.ok.noex,I.ok.exfs,I.ok.funs,I.ok.frf⟩,
  I.os,I.bare,I.base,I.loc,I.cell,I.free,I.freeC,fun p hp=>I.pin p (by
   rw [List.append_nil] at hp
   exact hp),I.hok,I.len⟩
theorem dU (okX:X.Ok) (I:Inv (pinned X pins) pins' σ H s):Inv X pins σ H s :=
 ⟨okX,I.os,I.bare,I.base,I.loc,I.cell,I.free,I.freeC,fun p hp=>I.pin p (List.mem_append_left _ hp),I.hok,I.len⟩
def tCallT (sp:Sp) (E:L2.St->XK) (t:TA):TE:=fun σ H Q=>t σ H fun vs H1=>sp (vs ++ []) H1 Q (E σ)
end
end Ow
namespace Ow
open PySem PySem.Spec PyProof.Rows L2
section
variable {X:Cx} {pins:List (Addr × Obj)} {σ:L2.St} {H:Hp} {s:Shared} {a:Addr} {oe:Obj} {j:Nat} {n:Str}
theorem oG {h':Heap} {m:Str->Option Value} {v':Option Value} {t':Nat} (I:Inv (iL X a oe) pins σ H s) (okX:X.Ok) (hN:X.N.Nodup) (hj:X.N[j]? = some n)
  (hl:∀ (i:Nat) (x:Str) (v:V),X.N[i]? = some x->σ[i]? = some (some v)->Vis X.env.scope x->∃ u,RelV v u/\Look X.env s.heap m x u)
  (hn:h'.Ns X.env.locals (fun x=>if x = n then v' else m x)) (hs:Heap.SameBut X.env.locals s.heap h') :
  Inv X pins (σ.set j none) H { s with heap:=h',toks:=t' }:=by
 have neL:∀ b o,X.s₀.heap.get? b = some o->b ≠ X.env.locals:=fun b o e=>Nat.ne_of_lt (Nat.lt_of_lt_of_le (Heap.lt_size e) okX.above)
 refine ⟨okX,I.os,I.bare,⟨fun b o e n hb hx=>?_,fun b o e n hb hx=>?_,I.base.free,fun b o e hx=>?_,I.base.tups,I.base.frzs,I.base.tbls⟩,⟨_,hn,fun i x v e1 e2 e3=>?_⟩,fun x c e=>?_,I.free,I.freeC,fun p hp=>?_,fun b ob e=>?_,by rw [List.length_set]; exact I.len⟩
 ·exact (hs.2 b (neL b o e)).trans (I.base.keep b o e n hb hx)
 ·obtain ⟨sl,e1⟩:=I.base.slot b o e n hb hx
  exact ⟨sl,(hs.2 b (neL b o e)).trans e1⟩
 ·obtain ⟨o',e1⟩:=I.base.there b o e hx
  exact ⟨o',(hs.2 b (neL b o e)).trans e1⟩
 ·by_cases hij:i = j
  ·subst hij
   have hi:i < σ.length:=by have z:σ.length = X.N.length:=I.len; rw [z]; exact (List.getElem?_eq_some_iff.mp hj).1
   rw [List.getElem?_set_self hi] at e2
   cases e2
  ·rw [List.getElem?_set_ne (Ne.symm hij)] at e2
   obtain ⟨u',r',q⟩:=hl i x v e1 e2 e3
   refine ⟨u',r',?_⟩
   rcases q with ⟨k,e⟩ | ⟨k,c,e,z⟩
   ·refine .inl ⟨k,?_⟩
    have:x ≠ n:=fun e=>hij (jX hN e1 (e ▸ hj))
    simp [this,e]
   ·exact .inr ⟨k,c,e,z.sameBut hs (I.cne x c e)⟩
 ·obtain ⟨v,z⟩:=I.cell x c e
  exact ⟨v,z.sameBut hs (I.cne x c e)⟩
 ·obtain ⟨e,n,ne,nf,d⟩:=I.pin p (List.mem_cons_of_mem _ hp)
  exact ⟨(hs.2 p.1 ne).trans e,n,ne,nf,d⟩
 ·refine (I.hok b ob e).stay (fun c w' hc z=>(hs.2 c ?_).trans z) (fun _ z=>z) fun _ _ z=>z
  have fr:H X.env.locals = none:=I.free
  rintro rfl
  rcases hc with rfl | hc
  ·rw [fr] at e; cases e
  ·rw [fr] at hc; cases hc
end
def endsK (j:Nat) (D:Ends):Ends:={ nx:=fun σ H=>D.nx (σ.set j none) H,rt:=D.rt }
section
variable {X:Cx} {j:Nat} {n c:Str} {C₁:Addr} {b₀:Stmt} {suite:List Stmt} {tb:Addr->Obj->TS} {np hpos:Pos}
end
end Ow
namespace Ow
open PySem PySem.Spec PyProof.Rows L2
def Ctx0 (o:Obj):Prop:=∃ vs,o.data = .fields vs/\vs[2]? = some .none
def OwnD (c:Bool) (h:Heap) (e:Addr) (d:Option Addr):Prop:=∃ o,h.get? e = some o/\o.dict = d/\(c = true->Ctx0 o)
theorem oZ (f:Array Value->Array Value) (o:Obj):(Obj.mapFields f o).dict = o.dict:=by
 obtain ⟨c,d,dt,sl⟩:=o
 cases dt <;> rfl
section
variable {M:Model} {A:Around} {E:Value->Shared->Prop} {s:Shared} {bs:Heap} {en:Env} {out:List Env} {L e:Addr} {c:Bool}
theorem lE {oe:Obj} {vs:Array Value} {hd0 a0:Value} {nx:Bool} {Q:Unit->Shared->Prop} (fr:A.frames = some (en :: out)) (ff:s.heap.FunFrames bs (en :: out)) (fl:en.frame = some L)
  (ge:s.heap.get? e = some oe) (st:bs.StaysIn s.heap) (ne:bs.get? e = none) (dt:oe.data = .fields vs) (z1:1 < vs.size) (z0:vs[0]? = some a0) (z2:c = true->vs[2]? = some .none)
  (k:∀ h',Heap.NotedW bs (en :: out) e oe.cls a0 (rawInt L) s.heap h'->OwnD c h' e oe.dict->Q () { s with heap:=h' }) :
  wpAny M A (do let a <- frameOf en; let pl <- entryPlaceOf L nx; let b <- EntryCells.newEntry hd0 a .none (rawInt L) .none pl; setField (.ref e) 1 b) Q E s:=by
 have nf:e ∉ (en :: out).filterMap (·.frame):=fun hm=>by
  obtain ⟨_,o,g1,g2⟩:=ff.mem hm
  rw [ge] at g1
  cases g1
  exact g2 _ dt
 refine wpAny_bind (wpAny_frameOf_fun fr ff fl fun h1 so=>wpAny_bind (wpAny_entryPlaceOf fun pl hpl=>?_))
 unfold EntryCells.newEntry newFields
 refine wpAny_bind (wpAny_newObj_type ?_ (hpl.sizeOk5 _ _ _ _ _))
 generalize hT:(([hd0,Value.ref L,Value.none,rawInt L,Value.none] ++ (if pl.isEmpty then List.replicate 6 Value.none else pl)).toArray:Array Value) = ts
 have t3:ts[3]? = some (rawInt L):=by
  rw [<- hT]
  rfl
 have g1:h1.get? e = some oe:=(so.2.1 e nf).trans ge
 have g2:(h1.push { cls:=.type "traceback",dict:=none,data:=.fields ts }).get? e = some oe:=Heap.get?_push_of_some _ g1
 have neT:h1.objs.size ≠ e:=Nat.ne_of_gt (Heap.lt_size g1)
 have st1:bs.StaysIn h1:=fun b o hb=>(so.2.1 b fun hm=>by rw [(ff.mem hm).1] at hb; cases hb).trans (st b o hb)
 refine wpAny_setField g2 dt z1 (k _ ?_ ?_)
 ·have g3:=Heap.get?_update_self (Obj.mapFields (·.setIfInBounds 1 (Value.ref h1.objs.size))) g2 (Obj.isFreed_of_fields (Obj.data_mapFields dt _))
  have kp:∀ b o,b ≠ e->h1.get? b = some o->((h1.push { cls:=.type "traceback",dict:=none,data:=.fields ts }).update e (Obj.mapFields (·.setIfInBounds 1 (Value.ref h1.objs.size)))).get? b = some o:=fun b o hb q=>by
   rw [Heap.get?_update_other _ _ (Ne.symm hb)]
   exact Heap.get?_push_of_some _ q
  have nr:∀ b o,s.heap.get? b = some o->(∀ us,o.data ≠ .fields us)->b ≠ e:=fun b o q hn z=>by
   subst z
   rw [ge] at q
   cases q
   exact hn _ dt
  refine ⟨fun b o hb=>kp b o (fun z=>by rw [z,ne] at hb; cases hb) (st1 b o hb),ff.of_keeps fun b o q hn=>?_,⟨_,_,h1.objs.size,⟨.type "traceback",none,.fields ts,#[]⟩,ts,g3,⟨Obj.cls_mapFields _ _,?_⟩,Obj.data_mapFields dt _,?_,st1.fresh,neT,?_,rfl,t3⟩,fun b o q hn=>?_⟩
  ·obtain ⟨sl,e1⟩:=so.2.2 b o q
   exact ⟨_,kp b _ (nr b o q hn) e1,rfl⟩
  ·rw [Array.getElem?_setIfInBounds_ne (by decide)]
   exact z0
  ·rw [Array.getElem?_setIfInBounds_self_of_lt z1]
  ·exact (Heap.get?_update_other _ _ (Ne.symm neT)).trans (Heap.get?_push_size h1 rfl)
  ·obtain ⟨sl,e1⟩:=so.2.2 b o q
   exact ⟨sl,kp b _ (nr b o q hn) e1⟩
 ·exact ⟨_,Heap.get?_update_self _ g2 (Obj.isFreed_of_fields (Obj.data_mapFields dt _)),oZ _ _,fun hc=>⟨_,Obj.data_mapFields dt _,by rw [Array.getElem?_setIfInBounds_ne (by decide)]; exact z2 hc⟩⟩
theorem nq {cls a0:Value} {d:Option Addr} {Q:Unit->Shared->Prop} (fr:A.frames = some (en :: out)) (fl:en.frame = some L) (F:Heap.FlyingW bs (en :: out) e cls a0 s.heap) (D:OwnD c s.heap e d)
  (k:∀ h',Heap.HeldW bs (en :: out) e cls a0 L h'->OwnD c h' e d->s.heap.UpToSlots h'->Q () { s with heap:=h' }):wpAny M A (noteFrame (.ref e) en) Q E s:=by
 obtain ⟨st,ne,ff,oe,vs,T,oT,ts,ge,⟨rfl,z0⟩,dt,z1,nT,neT,gT,dT,t3⟩:=F
 obtain ⟨o1,g1,rfl,hc⟩:=D
 cases ge.symm.trans g1
 unfold noteFrame
 simp only [fl]
 refine wpAny_bind (wpAny_field ge dt z1 ?_)
 rw [if_pos (show (Value.ref T != Value.none) = true from rfl)]
 refine wpAny_bind (wpAny_field gT dT t3 ?_)
 rw [if_neg (show ¬ ((Value.none == rawInt L) = true) from fun z=>by cases z)]
 refine wpAny_bind (wpAny_setField gT dT (Array.getElem?_eq_some_iff.mp t3).1 ?_)
 have ot:∀ b,b ≠ T->(s.heap.update T (Obj.mapFields (·.setIfInBounds 3 Value.none))).get? b = s.heap.get? b:=fun b hb=>Heap.get?_update_other _ _ (Ne.symm hb)
 have nr:∀ b o,s.heap.get? b = some o->(∀ us,o.data ≠ .fields us)->b ≠ T:=fun b o q hn z=>by
  subst z
  rw [gT] at q
  cases q
  exact hn _ dT
 refine lE (s:={ s with heap:=s.heap.update T (Obj.mapFields (·.setIfInBounds 3 Value.none)) }) fr (ff.of_keeps fun b o q hn=>⟨o,(ot b (nr b o q hn)).trans q,rfl⟩) fl ((ot e (Ne.symm neT)).trans ge) (fun b o q=>(ot b fun z=>by subst z; rw [nT] at q; cases q).trans (st b o q)) ne dt
  (Array.getElem?_eq_some_iff.mp z1).1 z0 (fun h=>by obtain ⟨vs',q1,q2⟩:=hc h; rw [dt] at q1; cases q1; exact q2) fun h' ⟨x1,x2,x3,x4⟩ D'=>k h' ⟨x1,ne,x2,x3⟩ D' fun b o q hn=>x4 b o ((ot b (nr b o q hn)).trans q) hn
theorem eO {l:List Env} {cls a0 fv:Value} {d:Option Addr} {Q:Unit->Shared->Prop} (st:bs.StaysIn s.heap) (ne:bs.get? e = none) (ff:s.heap.FunFrames bs l) (tr:s.heap.TracedAtW bs e cls a0 fv) (D:OwnD c s.heap e d)
  (k:∀ h',Heap.FlyingW bs l e cls a0 h'->OwnD c h' e d->s.heap.UpToSlots h'->Q () { s with heap:=h' }):wpAny M A (setFlight (.ref e) none) Q E s:=by
 obtain ⟨oe,vs,T,oT,ts,ge,hc,dt,z1,nT,neT,gT,dT,t3⟩:=tr
 have ot:∀ b,b ≠ T->(s.heap.update T (Obj.mapFields (·.setIfInBounds 3 ((none:Option Addr).elim Value.none fun f=>rawInt f)))).get? b = s.heap.get? b:=fun b hb=>Heap.get?_update_other _ _ (Ne.symm hb)
 have nr:∀ b o,s.heap.get? b = some o->(∀ us,o.data ≠ .fields us)->b ≠ T:=fun b o q hn z=>by
  subst z
  rw [gT] at q
  cases q
  exact hn _ dT
 have z3:=(Array.getElem?_eq_some_iff.mp t3).1
 unfold setFlight
 refine wpAny_bind (wpAny_field ge dt z1 ?_)
 rw [if_pos (show (Value.ref T != Value.none) = true from rfl)]
 refine wpAny_setField gT dT z3 (k _ ⟨fun b o q=>(ot b fun z=>by subst z; rw [nT] at q; cases q).trans (st b o q),ne,ff.of_keeps fun b o q hn=>⟨o,(ot b (nr b o q hn)).trans q,rfl⟩,
  oe,vs,T,_,_,(ot e (Ne.symm neT)).trans ge,hc,dt,z1,nT,neT,Heap.get?_update_self _ gT (Obj.isFreed_of_fields (Obj.data_mapFields dT _)),Obj.data_mapFields dT _,Array.getElem?_setIfInBounds_self_of_lt z3⟩ ?_ fun b o q hn=>⟨o.slots,(ot b (nr b o q hn)).trans q⟩)
 obtain ⟨o1,g1,hd⟩:=D
 exact ⟨o1,(ot e (Ne.symm neT)).trans g1,hd⟩
theorem qC {cls a0:Value} {d:Option Addr} {Q:Unit->Shared->Prop} (fr:A.frames = some (en :: out)) (fl:en.frame = some L) (F:Heap.FlyingW bs (en :: out) e cls a0 s.heap) (D:OwnD c s.heap e d)
  (k:∀ h',Heap.FlyingW bs out e cls a0 h'->OwnD c h' e d->s.heap.UpToSlots h'->Q () { s with heap:=h' }):wpAny M A (leaving en (.ref e)) Q E s:=by
 unfold leaving
 refine wpAny_bind (nq fr fl F D fun h1 ⟨x1,x2,x3,x4⟩ D1 u1=>eO (s:={ s with heap:=h1 }) x1 x2 x3 x4 D1 fun h2 ⟨y1,y2,y3,y4⟩ D2 u2=>?_)
 obtain ⟨_,_,y3'⟩:=y3
 exact k h2 ⟨y1,y2,y3',y4⟩ D2 (u1.trans u2)
theorem lY {oe:Obj} {vs:Array Value} {a0:Value} {Q:Unit->Shared->Prop} (fr:A.frames = some (en :: out)) (ff:s.heap.FunFrames bs (en :: out)) (fl:en.frame = some L)
  (ge:s.heap.get? e = some oe) (st:bs.StaysIn s.heap) (ne:bs.get? e = none) (dt:oe.data = .fields vs) (z1:vs[1]? = some .none) (z0:vs[0]? = some a0) (z2:c = true->vs[2]? = some .none)
  (k:∀ h',Heap.FlyingW bs out e oe.cls a0 h'->OwnD c h' e oe.dict->s.heap.UpToSlots h'->Q () { s with heap:=h' }):wpAny M A (leaving en (.ref e)) Q E s:=by
 unfold leaving noteFrame
 simp only [fl]
 refine wpAny_bind (wpAny_bind (wpAny_field ge dt z1 ?_))
 rw [if_neg (by decide)]
 refine lE fr ff fl ge st ne dt (Array.getElem?_eq_some_iff.mp z1).1 z0 z2 fun h1 ⟨x1,x2,x3,x4⟩ D1=>eO (s:={ s with heap:=h1 }) x1 ne x2 x3 D1 fun h2 ⟨y1,y2,y3,y4⟩ D2 u2=>?_
 obtain ⟨_,_,y3'⟩:=y3
 exact k h2 ⟨y1,y2,y3',y4⟩ D2 (Heap.UpToSlots.trans x4 u2)
end
end Ow
namespace Ow
open PySem PySem.Spec PyProof.Rows L2
theorem iY {h:Heap} {l:List Value} (self:Value) (T:OwnTail h VE l):refuseLoop self "__setattr__" l = pure ():=by
 induction T with
 | base=>exact PySem.F.store_ValueError.passes self
 | own _ _ _ _ ih=>rw [refuseLoop_ref]; exact ih
section
variable {prog:Program} {w:World} {A:Around} {E:Value->Shared->Prop} {s:Shared} {K:Frag} {x C N:Addr} {fs:Array Value} {sl:Array (Option Value)} {name:Str} {v:Value}
variable {nm qn:Str} {bs bm:List Value} {sn:List Str} {sub:List Value} {ab:Bool} {col:Option Bool} {dd:Option Addr} {k0 k1 k2 k3 k5:Option Value} {nid:String}
theorem qu {Q:Unit->Shared->Prop} (X:K.In s.heap) (hx:s.heap.get? x = some ⟨.ref C,none,.fields fs,sl⟩) (hC:s.heap.get? C = some (excClassObj nm qn C N bs bm true sn sub ab col dd k0 k1 k2 k3 k5 nid)) (T:OwnTail s.heap VE bm)
  (sa:findIn K (.ref C) "__setattr__" = some (some (.builtin "object.__setattr__"))) (na:findIn K (.ref C) name = some none) (mo:mroIn K C (.type "object") = some true)
  (k:∀ h' t',h'.get? x = some ⟨.ref C,some s.heap.objs.size,.fields fs,sl⟩->h'.Ns1 s.heap.objs.size (fun y=>if y = name then some v else none)->(∀ b o,b ≠ x->s.heap.get? b = some o->h'.get? b = some o)->Q () { s with heap:=h',toks:=t' }) :
  wpAny (model prog w) A (setAttr (.ref x) name v) Q E s:=by
 have I:PySem.W.InstAt s.heap x ⟨.ref C,none,.fields fs,sl⟩ C none:=⟨hx,rfl,rfl,True.intro⟩
 have SF:=PySem.F.store_object
 have su:PySem.W.Looks (model prog w) s.heap (isInstance (.ref x) (.type "object")) true:=I.type.andThen (PySem.W.looks_mroIn X mo)
 refine PySem.W.set_plain X I sa (codeAny_call_builtin SF.slot.plain SF.entry (@PySem.W.check_slot (model prog w) _ _ { s with toks:=s.toks + 1 } "object.__setattr__" "object" "__setattr__" (.ref x) [.str name s.toks,v] [] _ SF.kind SF.split su (SF.args (.ref x) (.str name s.toks) v) ?_))
 rw [PySem.W.osa_eq,refuse_eq]
 refine wpAny_bind (wpAny_bind (PySem.W.Looks.here (s:={ s with toks:=s.toks + 1 }) I.type (wpAny_bind (wpAny_mroOf_exc hC ?_))))
 rw [refuseLoop_ref,iY _ T]
 refine wpAny_pure (wpAny_bind (PySem.W.Looks.here (s:={ s with toks:=s.toks + 1 }) I.type (wpAny_bind (PySem.W.Looks.here (s:={ s with toks:=s.toks + 1 }) (PySem.W.looks_findIn X na) (wpAny_bind (wpAny_pure ?_))))))
 show wpAny _ _ (Builtin.ObjectAttr.storeInOwnDict (.ref x) (.ref C) (.str name s.toks) name v false) _ _ _
 have L1:PySem.W.Looks (model prog w) s.heap (classData C) _:=(PySem.W.Looks.ld (part:=none) hC).andThen .now
 have xs:x ≠ s.heap.objs.size:=Nat.ne_of_lt (Heap.lt_size hx)
 have hx1:(s.heap.push { cls:=.type "dict",data:=.dict #[] }).get? x = some ⟨.ref C,none,.fields fs,sl⟩:=Heap.get?_push_of_some _ hx
 have up:∀ f:Obj->Obj,f ⟨.ref C,none,.fields fs,sl⟩ = ⟨.ref C,some s.heap.objs.size,.fields fs,sl⟩->((s.heap.push { cls:=.type "dict",data:=.dict #[] }).update x f).get? x = some ⟨.ref C,some s.heap.objs.size,.fields fs,sl⟩:=fun f ef=>by
  rw [Heap.get?_update_self f hx1 (by rw [ef]; rfl),ef]
 refine wpAny_bind (wpAny_pure (wpAny_bind (wpAny_bind (wpAny_loadPart hx (wpAny_bind (PySem.W.Looks.here (s:={ s with toks:=s.toks + 1 }) L1 ?_))))))
 refine wpAny_bind (wpAny_alloc' (wpAny_bind (wpAny_update' hx1 (wpAny_pure ?_))))
 have gd:((s.heap.push { cls:=.type "dict",data:=.dict #[] }).update x fun o=>{ o with dict:=some s.heap.objs.size }).get? s.heap.objs.size = some { cls:=.type "dict",data:=.dict #[] } :=
  (Heap.get?_update_other _ _ xs).trans (Heap.get?_push_size _ rfl)
 have nd:((s.heap.push { cls:=.type "dict",data:=.dict #[] }).update x fun o=>{ o with dict:=some s.heap.objs.size }).Ns s.heap.objs.size (fun _=>none):=⟨_,#[],_,gd,rfl,fun e he=>absurd he (by simp),fun _=>rfl⟩
 refine wpAny_bind (wpAny_pure (wpAny_bind (wpAny_nsSet1 (Heap.Ns1.of_empty nd) fun h' n2 sb=>?_)))
 obtain ⟨oD,eD,pD,gD,dD,cD⟩:=n2.count (PySem.Within.cons name v PySem.Within.nil)
 refine wpAny_bind (wpAny_lookBehind gD (by rw [dD]; exact pastItsLine_dict (Nat.le_trans cD (by rw [List.length_cons,List.length_nil,sizeLine_eq]; omega))) ?_)
 refine wpAny_pure (k h' _ ?_ ?_ fun b o hb q=>?_)
 ·exact (sb.2 x xs).trans (up _ rfl)
 ·exact n2
 ·exact (sb.2 b (Nat.ne_of_lt (Heap.lt_size q))).trans ((Heap.get?_update_other _ _ (Ne.symm hb)).trans (Heap.get?_push_of_some _ q))
end
end Ow
namespace Ow
open PySem PySem.Spec PyProof.Rows L2
abbrev exF (t:Addr):Array Value:=#[.ref t,.none,.none,.none,.bool false,.none]
abbrev exT (v:Value):Obj:={ cls:=.type "tuple",data:=.seq [v].toArray }
section
variable {prog:Program} {w:World} {A:Around} {E:Value->Shared->Prop} {h:Heap} {g:Array GenState} {d:Drawn} {t:Nat} {os:OsState} {C N fI:Addr} {v:Value} {oI:Obj} {mN:Str->Option Value}
variable {nm qn:Str} {bs bm:List Value} {hdc:Bool} {sn:List Str} {sub:List Value} {ab:Bool} {col:Option Bool} {dd:Option Addr} {k0 k1 k2 k3 k5:Option Value}
theorem made_exc {Q:Fin->Shared->Prop} (T:OwnTail h VE bm) (hC:h.get? C = some (excClassObj nm qn C N bs bm hdc sn sub ab col dd k0 k1 k2 k3 k5 "ValueError.__new__")) (hn:h.Ns N mN) (hi:mN "__init__" = some (.ref fI))
  (gf:h.get? fI = some oI) (cf:oI.cls = .type "function")
  (k:wpAny (model prog w) A (call (.ref fI) [.ref (h.objs.size + 1),v]) (fun r s'=>r = .none/\Q (.done (.ret (.ref (h.objs.size + 1)))) s') E ⟨(h.push (exT v)).push { cls:=.ref C,data:=.fields (exF h.objs.size) },g,d,t,os⟩) :
  wpAny (model prog w) A (Builtin.«type.__call__» ⟨[.ref C,v],[]⟩) Q E ⟨h,g,d,t,os⟩:=by
 have F:=PySem.F.excBase_ValueError
 have st:∀ b o,h.get? b = some o->((h.push (exT v)).push { cls:=.ref C,data:=.fields (exF h.objs.size) }).get? b = some o:=fun b o e=>Heap.get?_push_of_some _ (Heap.get?_push_of_some _ e)
 have ge:((h.push (exT v)).push { cls:=.ref C,data:=.fields (exF h.objs.size) }).get? (h.objs.size + 1) = some { cls:=.ref C,data:=.fields (exF h.objs.size) }:=by
  have z:=Heap.get?_push_size (h.push (exT v)) (o:={ cls:=.ref C,data:=.fields (exF h.objs.size) }) rfl
  rwa [Heap.size_push] at z
 have cc:(Value.ref C :: bm).contains (.ref C) = true:=by rw [List.contains_cons,beq_self_eq_true,Bool.true_or]
 repeat (first | with_reducible refine wpAny_loadPart_at hC ?_ | with_reducible refine wpAny_madeBy_exc hC ?_ | wp_step)
 refine codeAny_call_builtin_code (Code.quiet_builtin _ F.quiet) (wpAny_check_new_subT F T hC (codeAny_exc_new_subT F T hC (rest:=[v]) ?_))
 show wpAny _ _ _ _ _ _
 unfold isInstance
 repeat (first | with_reducible refine wpAny_loadPart_at ge ?_ | (with_reducible refine wpAny_isSubtype_exc (st _ _ hC) ?_; rw [cc]) | wp_step)
 show wpAny _ _ (typeLookup (.ref C) _) _ _ _
 refine wpAny_typeLookup_tail (st _ _ hC) (hn.keeps st) (T.keeps st) F.mroIs F.init.lookup ?_
 rw [hi]
 refine wpAny_holding (wpAny_bind ?_)
 unfold bindSpecial
 refine wpAny_bind (wpAny_typeOf (T:="function") ⟨_,st _ _ gf,cf⟩ ?_)
 rw [if_pos (by decide)]
 refine wpAny_pure (wpAny_bind (wpAny_mono k (fun r s' q=>?_) fun _ _ z=>z))
 obtain ⟨rfl,q⟩:=q
 wp_walk
 exact q
theorem call_exc {Q:Value->Shared->Prop} (T:OwnTail h VE bm) (hC:h.get? C = some (excClassObj nm qn C N bs bm hdc sn sub ab col dd k0 k1 k2 k3 k5 "ValueError.__new__")) (hn:h.Ns N mN) (hi:mN "__init__" = some (.ref fI))
  (gf:h.get? fI = some oI) (cf:oI.cls = .type "function")
  (k:wpAny (model prog w) (A.under (.builtin "type.__call__" ⟨[.ref C,v],[]⟩)) (call (.ref fI) [.ref (h.objs.size + 1),v]) (fun r s'=>r = .none/\Q (.ref (h.objs.size + 1)) s') E ⟨(h.push (exT v)).push { cls:=.ref C,data:=.fields (exF h.objs.size) },g,d,t,os⟩) :
  wpAny (model prog w) A (call (.ref C) [v]) Q E ⟨h,g,d,t,os⟩:=by
 have f1:=tc_lookup
 have f2:=tc_bind (.ref C)
 have tT:(⟨h,g,d,t,os⟩:Shared).TypeIs (.ref C) "type":=⟨_,hC,rfl⟩
 refine wpAny_call (codeAny_of_tree ?_)
 show wpAny _ _ (callAny (.ref C) _) _ _ _
 repeat (any_goals (first | assumption | with_reducible refine wpAny_loadPart_at hC ?_ | wp_step))
 exact ⟨rfl,codeAny_call_builtin_at (Code.quiet_builtin _ (by decide +kernel)) entry_typeCall (wpAny_check_type_call_sub hC (made_exc T hC hn hi gf cf k))⟩
end
theorem ju {M:Model} {A:Around} {E:Value->Shared->Prop} {s:Shared} {env:Env} {C N:Addr} {nm qn:Str} {bs bm:List Value} {hdc:Bool} {sn:List Str} {sub:List Value} {ab:Bool} {col:Option Bool} {dd:Option Addr} {k0 k1 k2 k3 k5:Option Value} {nid:String}
  {x:Sem Value} {Q:Flow->Shared->Prop} (hb:bm.contains (.type "BaseException") = true) (hh:A.handled = none)
  (k:wpAny M A x (fun v s1=>∃ (e t:Addr) (od:Option Addr),v = .ref e/\s1.heap.get? C = some (excClassObj nm qn C N bs bm hdc sn sub ab col dd k0 k1 k2 k3 k5 nid)/\s1.heap.get? e = some ⟨.ref C,od,.fields (exF t),#[]⟩/\E (.ref e) s1) E s) :
  wpAny M A (raiseStmt env (some x) none) Q E s:=by
 have cb:(Value.ref C :: bm).contains (.type "BaseException") = true:=by rw [List.contains_cons,hb,Bool.or_true]
 unfold raiseStmt
 refine wpAny_bind (wpAny_mono k (fun v s1 q=>?_) fun _ _ z=>z)
 obtain ⟨e,t,od,rfl,gC,ge,q⟩:=q
 obtain ⟨hp,g,d,tk,os⟩:=s1
 repeat (first | with_reducible refine wpAny_loadPart_at ge ?_ | with_reducible refine wpAny_loadPart_at gC ?_ | (with_reducible refine wpAny_isSubtype_exc gC ?_; rw [cb]) | wp_step)
 exact wpAny_raiseNew_none hh q
end Ow
namespace Ow
open PySem PySem.Spec PyProof.Rows L2
def mz (K:Frag) (C f:Addr):Bool :=
 match K.lookup C with
 | some ⟨.type "type",_,.cls c,q⟩ =>
  (match c.mro,q.toList with
  | .ref D :: tl,[_,_,_,_,some (.builtin n),_]=>D == C && (n == "ValueError.__new__" && (!c.hasDel && (c.hasDict && (PySem.W.tailIn K VE tl && (PySem.W.nsOkIn K c.ns && nsIn K c.ns "__init__" == some (some (.ref f)))))))
  | _,_=>false)
 | _=>false
theorem ns_some {K:Frag} {h:Heap} {N:Addr} {m:Str->Option Value} {n:Str} {v:Value} (X:K.In h) (G:h.Ns N m) (e:nsIn K N n = some (some v)):m n = some v:=by
 obtain ⟨o,es,ep,go,hd,_,hf⟩:=G
 unfold nsIn at e
 split at e
 ·next q =>
  have z:=X _ _ q
  rw [go] at z
  cases z
  cases hd
  split at e
  ·next he =>
   cases e
   rw [<- hf]
   unfold nsFind findBy
   rw [<- Array.find?_toList,he]
   rfl
  ·split at e <;> cases e
 ·cases e
theorem kU {K:Frag} {h:Heap} {C f:Addr} (X:K.In h) (q:mz K C f = true) :
  ∃ bm N nm qn bs sn sub ab col dd k0 k1 k2 k3 k5 mN,h.get? C = some (excClassObj nm qn C N bs bm true sn sub ab col dd k0 k1 k2 k3 k5 "ValueError.__new__")/\h.Ns N mN/\mN "__init__" = some (.ref f)/\OwnTail h VE bm:=by
 unfold mz at q
 split at q
 ·next d0 c0 s0 e0 =>
  split at q
  ·next D m1 y0 y1 y2 y3 n1 y5 em es =>
   simp only [beq_iff_eq,Bool.not_eq_true',Bool.and_eq_true] at q
   obtain ⟨eC,en,ed,eh,et,eo,ei⟩:=q
   subst eC en
   obtain ⟨a1,a2,a3,a4,a5,a6,a7,a8,a9,a10,a11⟩:=c0
   dsimp only at em ed eo ei eh
   subst em ed eh
   obtain ⟨l0⟩:=s0
   have es':l0 = [y0,y1,y2,y3,some (Value.builtin "ValueError.__new__"),y5]:=es
   subst es'
   have G:h.Ns a4 _:=.of_isNs (PySem.W.isNs_of_in X eo)
   exact ⟨m1,a4,a1,a5,a2,a7,a8,a9,a10,d0,y0,y1,y2,y3,y5,_,X _ _ e0,G,ns_some X G ei,PySem.W.tail_of_in X et⟩
  ·cases q
 ·cases q
def xO (e C t:Addr) (od:Option Addr):HO:=.ext fun h=>h.get? e = some ⟨.ref C,od,.fields (exF t),#[]⟩
def drop (H:Hp) (e:Addr):Hp:=fun b=>if b = e then none else H b
theorem ix {H:Hp} {e b:Addr} (h:b ≠ e):drop H e b = H b:=if_neg h
theorem eA {H:Hp} {e:Addr}:drop H e e = none:=if_pos rfl
theorem xO_ok {P:Program} {w:World} {H:Hp} {h:Heap} {e C t:Addr} {od:Option Addr} (g:h.get? e = some ⟨.ref C,od,.fields (exF t),#[]⟩):ObjOk P w H h e (xO e C t od):=⟨g,⟨_,g⟩,fun _ _ a b=>b _ a⟩
def CX2c (c:Bool) (P:Program) (w:World) (base:Heap):CXT:=fun outer H s E e s' =>
 ∃ (a:Addr) (cls a0:Value) (B:Heap) (H':Hp) (dd:Option Addr),e = .ref a/\s'.os = s.os/\AllBare s'.gens/\Gnd P w base (frs outer) H H' s.heap B/\Slots (frs outer) s.heap s'.heap/\Heap.FlyingW B outer a cls a0 s'.heap/\H' a = none/\OwnD c s'.heap a dd/\E cls dd H'
abbrev CX2 (P:Program) (w:World) (base:Heap):CXT:=CX2c true P w base
section
variable {P:Program} {w:World} {K:Frag} {mg:Str->Option Value} {base:Heap} {N:List Str} {qual:Str} {scope:Scope} {f:Addr} {cdv:Value} {A:Around} {outer:List Env} {s₀:Shared} {H₀:Hp} {E:XK}
theorem jt {pins:List (Addr × Obj)} {σ:L2.St} {H:Hp} {s:Shared} {e C t:Addr} {od:Option Addr} (I:Inv (dM (CX2 P w base) P w K mg base N qual scope f cdv A outer s₀ H₀ E) pins σ H s)
  (he:H e = some (xO e C t od)) (hn:s₀.heap.get? e = none) (q:E (.ref C) od (drop H e)):(dM (CX2 P w base) P w K mg base N qual scope f cdv A outer s₀ H₀ E).xe (.ref e) s:=by
 have ge:s.heap.get? e = some ⟨.ref C,od,.fields (exF t),#[]⟩:=(I.hok e _ he).1
 have hst:=I.stack
 have nof:∀ b o,s₀.heap.get? b = some o->b ∉ frs outer->b ∉ e :: frs (envOfC qual scope s₀.heap.objs.size f cdv :: outer):=fun b o e1 nb hm=>by
  rcases List.mem_cons.mp hm with z | hm
  ·rw [z,hn] at e1
   cases e1
  rcases List.mem_cons.mp (I.stkSub b hm) with z | z
  ·exact Nat.lt_irrefl _ (Nat.lt_of_lt_of_le (z ▸ Heap.lt_size e1) I.ok.above)
  ·exact nb z
 have nx:∀ b:Addr,b ∉ ([]:List Addr):=fun b z=>nomatch z
 have ne:∀ b u,H b = some u->(∀ φ,u ≠ .ext φ)->b ≠ e:=fun b u e1 hk z=>by
  rw [z,he] at e1
  cases e1
  exact hk _ rfl
 have dr:∀ b u,H b = some u->(∀ φ,u ≠ .ext φ)->drop H e b = some u:=fun b u e1 hk=>by rw [ix (ne b u e1 hk)]; exact e1
 refine lY (c:=true) (bs:=PySem.W.hideAll s.heap (e :: frs (envOfC qual scope s₀.heap.objs.size f cdv :: outer))) (a0:=.ref t) I.ok.frames
  (PySem.W.funFrames_hide hst fun e1 he1 b hb=>List.mem_cons_of_mem _ (List.mem_filterMap.mpr ⟨e1,he1,hb⟩)) rfl ge (fun b o e1=>PySem.W.of_hideAll _ e1) (PySem.W.hideAll_none _ (List.mem_cons_self ..)) rfl rfl rfl (fun _=>rfl) fun h2 fl D up=>?_
 refine ⟨e,_,.ref t,_,drop H e,od,rfl,I.os,I.bare,⟨fun b o e1=>PySem.W.hideAll_get _ (I.bk b o e1) fun hm=>?_,fun b o e1 n nb=>PySem.W.hideAll_get _ (I.base.keep b o e1 n nb (nx b)) (nof b o e1 nb),fun b o e1 n=>?_,
  fun b o e1 nb=>?_,fun b xs z=>dr b _ (I.base.tups b xs z) (fun _ z=>nomatch z),fun b o u z=>dr b _ (I.base.frzs b o u z) (fun _ z=>nomatch z),fun b ps z=>?_,fun b u e1=>?_⟩,fun b hb o e1=>?_,fl,eA,D,q⟩
 ·rcases List.mem_cons.mp hm with z | hm
  ·have z2:=(I.bs b o e1).2
   rw [z,he] at z2
   cases z2
  ·have z:=(hst.mem hm).1
   exact nomatch (show (some o:Option Obj) = none from e1.symm.trans z)
 ·by_cases hb:b = e
  ·rw [hb,eA]
  ·rw [ix hb]
   exact I.base.free b o e1 n (nx b)
 ·obtain ⟨o',e2⟩:=I.base.there b o e1 (nx b)
  exact ⟨o',PySem.W.hideAll_get _ e2 (nof b o e1 nb)⟩
 ·obtain ⟨more,z2⟩:=I.base.tbls b ps z
  exact ⟨more,dr b _ z2 (fun _ z=>nomatch z)⟩
 ·have hb:b ≠ e:=fun z=>by
   rw [z,eA] at e1
   cases e1
  rw [ix hb] at e1
  refine (I.hok b u e1).stay (fun c v hc e2=>PySem.W.hideAll_get _ e2 fun hm=>?_) (fun c z=>dr c _ z (fun _ z=>nomatch z)) fun c xs z=>dr c _ z (fun _ z=>nomatch z)
  rcases List.mem_cons.mp hm with z | hm
  ·rcases hc with hc | hc
   ·exact hb (hc.symm.trans z)
   ·rw [z,he] at hc
    cases hc
  ·have z:=I.stkFree c hm
   rcases hc with rfl | hc
   ·rw [e1] at z; cases z
   ·rw [hc] at z; cases z
 ·obtain ⟨sl,e2⟩:=I.base.slot b o e1 (I.ok.frf b hb) hb (nx b)
  obtain ⟨_,o1,e3,d⟩:=I.funs.mem hb
  rw [e2] at e3
  cases e3
  obtain ⟨s2,e4⟩:=up b _ e2 d
  exact ⟨s2,e4⟩
end
end Ow
namespace Ow
open PySem PySem.Spec PyProof.Rows L2
structure XCls (K:Frag) (C fI:Addr) (f:Str):Prop where
 ef:mz K C fI = true
 sa:findIn K (.ref C) "__setattr__" = some (some (.builtin "object.__setattr__"))
 mo:mroIn K C (.type "object") = some true
 na:findIn K (.ref C) f = some none
 fn:typeIn K (.ref fI) = some (.type "function")
 kp:keepIn K (.ref C) = true
def sXset (K:Frag) (ta tv:TE) (f:Str):TS:=fun D σ H=>tv σ H fun y H1=>ta σ H1 fun x H2=>∃ e C t fI,x = .ref e/\H2 e = some (xO e C t none)/\XCls K C fI f/\∀ d,H2 d = none->d ≠ e->D.nx σ (upd (upd H2 d (.xd [(f,y)])) e (xO e C t (some d)))
section
variable {X:Cx} {f:Str} {o value:Expr} {ta tv:TE} {pos pos':Pos}
theorem pY (ha:PE X o ta) (hv:PE X value tv) (hs:swapsWith value (some (.Attribute o f pos')) pos.line X.env = pure false):PS X (.Assign [.Attribute o f pos'] value pos) (sXset X.K ta tv f):=by
 intro pins s σ H D I h
 refine plainObj_wpAny_Assign_Attribute (thn (hv pins s σ H _ I h) fun u s1 ⟨y,H1,I1,ry,q⟩=>thn (ha pins s1 σ H1 _ I1 q) fun ov s2 ⟨x,H2,I2,rx,e,C,t,fI,ex,he,c,q2⟩=>?_) hs
 subst ex
 obtain rfl:ov = Value.ref e:=rx
 have ge:s2.heap.get? e = some ⟨.ref C,none,.fields (exF t),#[]⟩:=(I2.hok e _ he).1
 obtain ⟨bm,N,nm,qn,bs,sn,sub,ab,col,dd,k0,k1,k2,k3,k5,mN,gC,_,_,T⟩:=kU I2.kIn c.ef
 refine qu I2.kIn ge gC T c.sa c.na c.mo fun h' t' g1 n1 kp=>?_
 have hd:H2 s2.heap.objs.size = none:=I2.hok.fresh (Nat.le_refl _)
 have dne:s2.heap.objs.size ≠ e:=fun z=>by rw [z,he] at hd; cases hd
 obtain ⟨od,es,ep,gd,hda,rest⟩:=n1
 have gd1:(s2.heap.push od).get? s2.heap.objs.size = some od:=Heap.get?_push_size _ (by
  obtain ⟨c1,c2,c3,c4⟩:=od
  cases (show c3 = .dict es ep from hda)
  rfl)
 have I3:=I2.laid (a:=s2.heap.objs.size) (o:=.xd [(f,y)]) (h':=s2.heap.push od) (t':=s2.toks) (fun b u q=>Heap.get?_push_of_some _ q) (Nat.le_refl _) ⟨_,⟨od,es,ep,gd1,hda,rest⟩,fun g=>by
  by_cases hg:g = f
  ·subst hg
   rw [if_pos rfl,List.lookup_cons_self]
   exact ry
  ·rw [if_neg hg,List.lookup_cons,beq_eq_false_iff_ne.mpr hg]
   exact True.intro⟩
 have I4:=I3.write (x:=e) (e:=e) (o:=xO e C t (some s2.heap.objs.size)) (h':=h') (t':=t') (by rw [ai (Ne.symm dne),he]; exact True.intro) (.inl rfl) (fun b v hb z=>by
  by_cases hz:b = s2.heap.objs.size
  ·subst hz
   have z1:=gd1.symm.trans z
   cases z1
   exact gd
  ·rw [Heap.get?_push_ne _ _ _ hz] at z
   exact kp b v hb z) ⟨_,g1⟩ (xO_ok g1)
 exact ⟨σ,_,I4,q2 _ hd dne⟩
end
end Ow
namespace Ow
open PySem PySem.Spec PyProof.Rows L2
def spXI (f:Str) (C:Addr):Sp:=fun vs H Q _=>∃ (e t:Addr) (v:V),vs = [.ref e,v]/\H e = some (xO e C t none)/\∀ d,H d = none->d ≠ e->Q .non (upd (upd H d (.xd [(f,v)])) e (xO e C t (some d)))
structure XHas (P:Program) (w:World) (K:Frag) (mg:Str->Option Value) (base:Heap) (k:Nat) (x:Str) (C:Addr) (f:Str):Prop where
 ex:∃ (fI:Addr) (fd:FuncData) (p1 p2:Str),FnOk P w K mg base CX0 k fI fd [p1,p2] (spXI f C)/\Binds K fd [p1,p2] []/\XCls K C fI f/\mg x = some (.ref C)
section
variable {P:Program} {w:World} {K:Frag} {mg:Str->Option Value} {base:Heap} {N:List Str} {qual:Str} {scope:Scope} {fa:Addr} {cdv:Value} {A:Around} {outer:List Env} {s₀:Shared} {H₀:Hp} {E:XK}
def tRaise1 (C:Addr) (f:Str) (E:XK) (ta:TA):TS:=fun _ σ H=>ta σ H fun vs H1=>∃ v,vs = [v]/\∀ d,H1 d = none->E (.ref C) (some d) (upd H1 d (.xd [(f,v)]))
theorem dg {k:Nat} {x f:Str} {C:Addr} {np cpos pos:Pos} {e1:Expr} {ta:TA} (h:XHas P w K mg base k x C f) (hr:Room (k + 1) (dM (CX2 P w base) P w K mg base N qual scope fa cdv A outer s₀ H₀ E).A) (hg:Gl (dM (CX2 P w base) P w K mg base N qual scope fa cdv A outer s₀ H₀ E) x)
  (ha:PA (dM (CX2 P w base) P w K mg base N qual scope fa cdv A outer s₀ H₀ E) [e1] ta) (hdb:(x == ("__debug__":Str)) = false:=by decide)
  (hst:starEach [e1] (dM (CX2 P w base) P w K mg base N qual scope fa cdv A outer s₀ H₀ E).env = (false,eval e1 (dM (CX2 P w base) P w K mg base N qual scope fa cdv A outer s₀ H₀ E).env) :: starEach [] (dM (CX2 P w base) P w K mg base N qual scope fa cdv A outer s₀ H₀ E).env:=by rfl) :
  PS (dM (CX2 P w base) P w K mg base N qual scope fa cdv A outer s₀ H₀ E) (.Raise (some (.Call (.Name x np) [e1] [] cpos)) none pos) (tRaise1 C f E ta):=by
 intro pins s σ H D I ht
 obtain ⟨fI,fd,p1,p2,F,hb,c,hm⟩:=h.ex
 obtain ⟨bm,N',nm,qn,bs,sn,sub,ab,col,dd,k0,k1,k2,k3,k5,mN,gC,gN,gi,T⟩:=kU I.ok.mod.kin c.ef
 rw [arm_exec_Raise]
 refine wpAny_bind (wpAny_standAt (ju (C:=C) (nm:=nm) (qn:=qn) (N:=N') (bs:=bs) (bm:=bm) (hdc:=true) (sn:=sn) (sub:=sub) (ab:=ab) (col:=col) (dd:=dd) (k0:=k0) (k1:=k1) (k2:=k2) (k3:=k3) (k5:=k5) (nid:="ValueError.__new__")
  (T.hasType PySem.F.excBase_ValueError.hasBase) (I.ok.hd rfl) (wpAny_bind (wpAny_mono (Q:=fun v s1=>∃ (e t:Addr) (od:Option Addr),v = .ref e/\s1.heap.get? C = some (excClassObj nm qn C N' bs bm true sn sub ab col dd k0 k1 k2 k3 k5 "ValueError.__new__")/\s1.heap.get? e = some ⟨.ref C,od,.fields (exF t),#[]⟩/\(dM (CX2 P w base) P w K mg base N qual scope fa cdv A outer s₀ H₀ E).xe (.ref e) s1) ?_ (fun v s3 h3=>wpAny_bind (wpAny_standAt (wpAny_pure h3))) fun _ _ z=>z))))
 refine wpAny_Call_Name_kw (dW I hg hm ?_ hdb)
 refine PySem.W.callWith_K (h₀:=base) I.ok.mod.kin c.kp (thn (ha cpos pins s σ H _ I ht) fun us s1 ⟨vs,H1,I1,r1,v,ev,q1⟩=>⟨I1.kIn,?_⟩) hst rfl
 subst ev
 obtain ⟨u,rfl,ru⟩:=r1.one
 have st1:=I1.bk
 have gf:∃ oI,s1.heap.get? fI = some oI/\oI.cls = .type "function":=by
  obtain ⟨oI,e1,e2⟩:=Option.map_eq_some_iff.mp c.fn
  exact ⟨oI,I1.kIn _ _ e1,e2⟩
 obtain ⟨oI,gf,cf⟩:=gf
 obtain ⟨hh,g,dr,tk,os⟩:=s1
 have ge:((hh.push (exT u)).push { cls:=.ref C,data:=.fields (exF hh.objs.size) }).get? (hh.objs.size + 1) = some { cls:=.ref C,data:=.fields (exF hh.objs.size) }:=by
  have z:=Heap.get?_push_size (hh.push (exT u)) (o:={ cls:=.ref C,data:=.fields (exF hh.objs.size) }) rfl
  rwa [Heap.size_push] at z
 have He:H1 (hh.objs.size + 1) = none:=I1.hok.fresh (Nat.le_succ _)
 have I2:=I1.laid (a:=hh.objs.size + 1) (o:=xO (hh.objs.size + 1) C hh.objs.size none) (h':=(hh.push (exT u)).push { cls:=.ref C,data:=.fields (exF hh.objs.size) }) (t':=tk) (fun b o q=>Heap.get?_push_of_some _ (Heap.get?_push_of_some _ q)) (Nat.le_succ _) (xO_ok ge)
 refine call_exc (T.keeps st1) (st1 _ _ gC) (gN.keeps st1) gi gf cf (wpAny_call (codeAny_mono (F.run _ (dM (CX2 P w base) P w K mg base N qual scope fa cdv A outer s₀ H₀ E).stack _ _ ⟨[.ref (hh.objs.size + 1),u],[]⟩ [.ref (hh.objs.size + 1),u] [.ref (hh.objs.size + 1),v]
  (fun y H3=>y = .non/\∃ d,upd H1 (hh.objs.size + 1) (xO (hh.objs.size + 1) C hh.objs.size none) d = none/\d ≠ hh.objs.size + 1/\H3 = upd (upd (upd H1 (hh.objs.size + 1) (xO (hh.objs.size + 1) C hh.objs.size none)) d (.xd [(f,v)])) (hh.objs.size + 1) (xO (hh.objs.size + 1) C hh.objs.size (some d))) E0 (hr.make C [u] [])
  (I2.env0.make C [u] []) (hb _ _ I2.kIn rfl) (.cons rfl (.cons ru .nil)) ⟨_,_,v,rfl,ac ..,fun d hd ne=>⟨rfl,d,hd,ne,rfl⟩⟩) fun r s' hq=>?_))
 cases r with
 | error e=>exact False.elim hq
 | ok fl =>
  cases fl with
  | ret u' =>
   obtain ⟨y,H3,I3,ry,rfl,d,hd,ne,rfl⟩:=I2.after hq
   refine ⟨ry,hh.objs.size + 1,hh.objs.size,some d,rfl,I3.bk _ _ gC,(I3.hok _ _ (ac ..)).1,?_⟩
   rw [ai ne] at hd
   refine jt I3 (ac ..) ?_ ?_
   ·refine Heap.get?_none_of_le (Nat.le_trans I1.sz (Nat.le_succ _))
   ·have e3:drop (upd (upd (upd H1 (hh.objs.size + 1) (xO (hh.objs.size + 1) C hh.objs.size none)) d (.xd [(f,v)])) (hh.objs.size + 1) (xO (hh.objs.size + 1) C hh.objs.size (some d))) (hh.objs.size + 1) = upd H1 d (.xd [(f,v)]):=by
     funext b
     by_cases hb:b = hh.objs.size + 1
     ·rw [hb,eA,ai (Ne.symm ne),He]
     ·rw [ix hb,ai hb]
      by_cases hbd:b = d
      ·rw [hbd,ac,ac]
      ·rw [ai hbd,ai hb,ai hbd]
    rw [e3]
    exact q1 d hd
  | next=>exact False.elim hq
  | brk=>exact False.elim hq
  | cont=>exact False.elim hq
end
end Ow
namespace Ow
open PySem PySem.Spec PyProof.Rows L2
section
variable {P:Program} {w:World} {K:Frag} {mg:Str->Option Value} {base:Heap} {N:List Str} {qual:Str} {scope:Scope} {f:Addr} {cdv:Value} {A:Around} {outer:List Env} {s₀:Shared} {H₀:Hp} {E:XK}
theorem Fun.okY {x qual:Str} {st:Stmt} {f:Addr} {fd:FuncData} {N ps:List Str} {k:Nat} {sp:Sp} (F:Fun K x qual st f fd) (S:FnScope N ps (ak st)) (len:∀ vs H Q E,sp vs H Q E->vs.length = ps.length)
  (hbody:∀ (cdv:Value) (A:Around) (outer:List Env) (s:Shared) (H:Hp) (vs:List V) (Q:VK) (E:XK),Room k (A.deeper (envOfC qual (ak st) s.heap.objs.size f cdv))->sp vs H Q E ->
   ∃ t,PSs (dM (CX2 P w base) P w K mg base N qual (ak st) f cdv A outer s H E) (cZ st) t/\t { nx:=fun _ H'=>Q .non H',rt:=Q } (j5 N vs) H):FnOk P w K mg base (CX2 P w base) (k + 1) f fd ps sp:=by
 obtain ⟨oc,od,kV,doc,pm,an,cdv,ct,osl,e1,lk,hcd⟩:=F.ex
 subst e1
 exact fn_of lk hcd S len fun A outer s H vs Q E hr hsp=>hbody cdv A outer s H vs Q E hr hsp
theorem passY:iS (CX2 P w base) (dM (CX2 P w base) P w K mg base N qual scope f cdv A outer s₀ H₀ E) E:=by
 intro pins σ H s e s' I hq
 obtain ⟨a,cls,a0,B,H2,dd,rfl,hos,hba,G,sl,fl,ha0,D,hw⟩:=hq
 have nof:∀ b o,s₀.heap.get? b = some o->b ∉ frs outer->b ∉ frs (envOfC qual scope s₀.heap.objs.size f cdv :: outer):=fun b o e1 nb hm=>by
  rcases List.mem_cons.mp (I.stkSub b hm) with z | z
  ·exact Nat.lt_irrefl _ (Nat.lt_of_lt_of_le (z ▸ Heap.lt_size e1) I.ok.above)
  ·exact nb z
 have nx:∀ b:Addr,b ∉ ([]:List Addr):=fun b z=>nomatch z
 have sub:∀ b ∈ frs outer,b ∈ frs (envOfC qual scope s₀.heap.objs.size f cdv :: outer):=fun b hb=>by
  obtain ⟨en,he,hf⟩:=List.mem_filterMap.mp hb
  exact List.mem_filterMap.mpr ⟨en,List.mem_cons_of_mem _ he,hf⟩
 refine qC I.ok.frames rfl fl D fun h2 fl2 D2 up=>?_
 refine ⟨a,cls,a0,B,H2,dd,rfl,hos.trans I.os,hba,⟨G.st,fun b o e1 n nb=>G.keep b o (I.base.keep b o e1 n nb (nx b)) (I.base.free b o e1 n (nx b)) (nof b o e1 nb),fun b o e1 n=>?_,fun b o e1 nb=>?_,
  fun b xs z=>G.tups b xs (I.base.tups b xs z),fun b o u z=>G.frzs b o u (I.base.frzs b o u z),fun b ps z=>?_,G.hok⟩,fun b hb o e1=>?_,fl2,ha0,D2,hw⟩
 ·obtain ⟨o',e2⟩:=I.base.there b o e1 (nx b)
  exact G.free b o' e2 (I.base.free b o e1 n (nx b))
 ·obtain ⟨o',e2⟩:=I.base.there b o e1 (nx b)
  exact G.there b o' e2 (nof b o e1 nb)
 ·obtain ⟨m1,e1⟩:=I.base.tbls b ps z
  obtain ⟨m2,e2⟩:=G.tbls b _ e1
  exact ⟨m1 ++ m2,by rw [e2,Array.append_assoc]⟩
 ·obtain ⟨l1,e2⟩:=I.base.slot b o e1 (I.ok.frf b hb) hb (nx b)
  obtain ⟨l2,e3⟩:=sl b (sub b hb) _ e2
  obtain ⟨_,o1,e4,d⟩:=fl.2.2.1.mem (sub b hb)
  rw [e3] at e4
  cases e4
  obtain ⟨l3,e5⟩:=up b _ e3 d
  exact ⟨l3,e5⟩
end
structure HasY (P:Program) (w:World) (K:Frag) (mg:Str->Option Value) (base:Heap) (k:Nat) (x:Str) (ps:List Str) (sp:Sp):Prop where
 ex:∃ (f:Addr) (fd:FuncData),FnOk P w K mg base (CX2 P w base) k f fd ps sp/\Binds K fd ps []/\keepIn K (.ref f) = true/\mg x = some (.ref f)
section
variable {P:Program} {w:World} {K:Frag} {mg:Str->Option Value} {base:Heap} {N:List Str} {qual:Str} {scope:Scope} {f:Addr} {cdv:Value} {A:Around} {outer:List Env} {s₀:Shared} {H₀:Hp} {E:XK}
theorem jK {k:Nat} {x:Str} {ps:List Str} {sp:Sp} {p pos:Pos} {e:Expr} {es:List Expr} {t:TA} (h:HasY P w K mg base k x ps sp) (hr:Room k (dM (CX2 P w base) P w K mg base N qual scope f cdv A outer s₀ H₀ E).A)
  (hg:Gl (dM (CX2 P w base) P w K mg base N qual scope f cdv A outer s₀ H₀ E) x) (ha:PA (dM (CX2 P w base) P w K mg base N qual scope f cdv A outer s₀ H₀ E) (e :: es) t) (hdb:(x == ("__debug__":Str)) = false:=by decide)
  (he:starEach (e :: es) (dM (CX2 P w base) P w K mg base N qual scope f cdv A outer s₀ H₀ E).env = (false,eval e (dM (CX2 P w base) P w K mg base N qual scope f cdv A outer s₀ H₀ E).env) :: starEach es (dM (CX2 P w base) P w K mg base N qual scope f cdv A outer s₀ H₀ E).env:=by rfl)
  (hpl:(backTo pos (starEach es (dM (CX2 P w base) P w K mg base N qual scope f cdv A outer s₀ H₀ E).env)).any (·.1) = false:=by rfl) :
  PE (dM (CX2 P w base) P w K mg base N qual scope f cdv A outer s₀ H₀ E) (.Call (.Name x p) (e :: es) [] pos) (nX sp [] E t):=by
 obtain ⟨fa,fd,F,b,kp,m⟩:=h.ex
 exact mB F hr hg m kp b .nil passY ha hdb he hpl
end
theorem passYN {X:Cx}:iS (CX2 X.prog X.w X.base) X E0:=fun _ _ _ _ _ _ _ hq=>by
 obtain ⟨_,_,_,_,_,_,_,_,_,_,_,_,_,_,hw⟩:=hq
 exact hw.elim
theorem qk {X:Cx} {k:Nat} {x:Str} {ps:List Str} {sp:Sp} {p pos:Pos} {e:Expr} {es:List Expr} {t:TA} (h:HasY X.prog X.w X.K X.mg X.base k x ps sp) (hr:Room k X.A) (hg:Gl X x) (ha:PA X (e :: es) t) (hdb:(x == ("__debug__":Str)) = false:=by decide)
  (he:starEach (e :: es) X.env = (false,eval e X.env) :: starEach es X.env:=by rfl) (hpl:(backTo pos (starEach es X.env)).any (·.1) = false:=by rfl):PE X (.Call (.Name x p) (e :: es) [] pos) (nX sp [] E0 t):=by
 obtain ⟨fa,fd,F,b,kp,m⟩:=h.ex
 exact mB F hr hg m kp b .nil passYN ha hdb he hpl
def tryCy (X:Cx) (pins:List (Addr × Obj)) (E:L2.St->XK):Cx:=(pinned X pins).wish fun e s'=>∃ (pins':List (Addr × Obj)) (σ':L2.St) (H:Hp) (s:Shared),Inv (pinned X pins) pins' σ' H s/\CX2 X.prog X.w X.base X.stack H s (E σ') e s'
theorem pe_fnYT {X:Cx} {pins:List (Addr × Obj)} {E:L2.St->XK} {k:Nat} {x:Str} {ps:List Str} {sp:Sp} {p pos:Pos} {e:Expr} {es:List Expr} {t:TA} (h:HasY X.prog X.w X.K X.mg X.base k x ps sp) (hr:Room k X.A) (hg:Gl X x) (ha:PA (tryCy X pins E) (e :: es) t) (hdb:(x == ("__debug__":Str)) = false:=by decide)
  (he:starEach (e :: es) X.env = (false,eval e X.env) :: starEach es X.env:=by rfl) (hpl:(backTo pos (starEach es X.env)).any (·.1) = false:=by rfl) :
  PE (tryCy X pins E) (.Call (.Name x p) (e :: es) [] pos) (tCallT sp E t):=by
 intro pins2 s σ H Q I ht
 obtain ⟨fa,fd,F,hbi,hk,hm⟩:=h.ex
 refine wpAny_Call_Name_kw (dW I hg hm ?_ hdb)
 refine PySem.W.callWith_K (h₀:=X.base) I.ok.mod.kin hk (thn (ha pos pins2 s σ H _ I ht) fun us s1 ⟨vs,H1,I1,r1,q1⟩=>⟨I1.kIn,?_⟩) he hpl
 have r2:Vals (vs ++ []) us:=by rw [List.append_nil]; exact r1
 have hl:us.length = ps.length:=by rw [<- r2.length]; exact F.len _ _ _ _ q1
 have bd:=hbi s1 us I1.kIn (by rw [List.append_nil]; exact hl)
 rw [List.append_nil] at bd
 refine wpAny_call (codeAny_mono (F.run X.A X.stack s1 H1 ⟨us,[]⟩ us (vs ++ []) _ _ hr I1.env0 bd r2 q1) fun r s' hq=>?_)
 cases r with
 | error ev=>exact ⟨pins2,σ,H1,s1,I1.unwish,hq⟩
 | ok fl =>
  cases fl with
  | ret u=>exact I1.after hq
  | next=>exact False.elim hq
  | brk=>exact False.elim hq
  | cont=>exact False.elim hq
section
variable {X:Cx} {j:Nat} {n c:Str} {C₁:Addr} {b₀:Stmt} {suite:List Stmt} {tb:Addr->Obj->TS} {np hpos:Pos}
end
end Ow
namespace Ow
open PySem PySem.Spec PyProof.Rows L2
section
variable {prog:Program} {w:World} {A:Around} {E:Value->Shared->Prop} {h:Heap} {g:Array GenState} {d:Drawn} {t:Nat} {os:OsState} {K:Frag} {a C D:Addr} {o od:Obj} {name:Str} {v:Value}
theorem xat (hx:h.get? a = some o) (hc:o.cls = .ref C) (hd:o.dict = some D) (hn:PySem.W.notCls o = true) (gd:h.get? D = some od):PySem.W.InstAt h a o C (some od):=⟨hx,hc,hn,by rw [hd]; exact gd⟩
theorem oi {tk:Tok} {Q:Fin->Shared->Prop} (X:K.In h) (I:PySem.W.InstAt h a o C (some od)) (hf:PySem.W.findObj K C (some od) name = some (.value v)) (hq:Q (.done (.ret v)) ⟨h,g,d,t,os⟩) :
  wpAny (model prog w) A (Builtin.«object.__getattribute__» ⟨[.ref a,.str name tk],[]⟩) Q E ⟨h,g,d,t,os⟩:=by
 have L0:=I.type (M:=model prog w)
 have L1:=PySem.W.looks_find (M:=model prog w) X I hf
 refine wpAny_bind (wpAny_pure (wpAny_bind (wpAny_pure (wpAny_bind (L0.at (wpAny_bind (L1.at ?_)))))))
 exact wpAny_pure hq
theorem getx_by {tk:Tok} {fill ex:Bool} {Q:Value->Shared->Prop} (X:K.In h) (f:ExF K C) (I:PySem.W.InstAt h a o C (some od)) (hf:PySem.W.findObj K C (some od) name = some (.value v)) (hv:PySem.W.handedIn v = true) (hq:Q v ⟨h,g,d,t,os⟩) :
  wpAny (model prog w) A (getAttrBy (.ref a) (.str name tk) fill ex) Q E ⟨h,g,d,t,os⟩:=by
 have hx:=I.at_
 have hc:=I.cls
 have f3:=F.attr_ValueError.ga.bind (.ref a)
 have L1:=PySem.W.looks_findIn (M:=model prog w) X f.ga
 have L2:=PySem.W.looks_findIn (M:=model prog w) X f.gn
 have hx2:(Value.builtin "BaseException.__getattribute__" == Value.builtin "object.__getattribute__") = false:=by decide +kernel
 have hx1:(onTheHeap (Value.ref C) && Value.builtin "BaseException.__getattribute__" == Value.builtin "object.__getattribute__") = false:=by rw [hx2]; rfl
 have hx0:(ex && onTheHeap (Value.builtin "BaseException.__getattribute__")) = false:=by cases ex <;> rfl
 have hho:=PySem.W.handedOut_of hv
 repeat (any_goals (first | assumption | (with_reducible refine wpAny_loadPart_at hx ?_; rw [hc]) | with_reducible refine L1.at ?_ | with_reducible refine L2.at ?_ | wp_step))
 refine codeAny_call_builtin F.attr_ValueError.ga.plain F.entry_bexc_ga (qg X f hx hc (oi X I hf ?_))
 repeat (any_goals (first | assumption | wp_step))
theorem getx {ex:Bool} {Q:Value->Shared->Prop} (X:K.In h) (f:ExF K C) (I:PySem.W.InstAt h a o C (some od)) (hf:PySem.W.findObj K C (some od) name = some (.value v)) (hv:PySem.W.handedIn v = true) (hq:Q v ⟨h,g,d,t + 1,os⟩) :
  wpAny (model prog w) A (getAttr (.ref a) name ex) Q E ⟨h,g,d,t,os⟩:=by
 unfold getAttr
 exact wpAny_bind (wpAny_mkText (getx_by X f I hf hv hq))
end
def tXf (K:Frag) (ta:TE) (a:Addr) (oe:Obj) (f:Str):TE:=fun σ H Q=>ta σ H fun x H1=>∃ C D fs v,x = .ref a/\oe.cls = .ref C/\oe.dict = some D/\PySem.W.notCls oe = true/\ExF K C/\hasDictIn K C = true/\NoAttr K C f/\H1 D = some (.xd fs)/\fs.lookup f = some v/\Q v H1
theorem pe_xf {X:Cx} {a:Addr} {oe:Obj} {f:Str} {e:Expr} {ta:TE} {pos:Pos} (hp:(a,oe) ∈ X.pn) (he:PE X e ta) (hb:attributeBase e f X.env (eval e X.env) = eval e X.env):PE X (.Attribute e f pos) (tXf X.K ta a oe f):=by
 intro pins s σ H Q I h
 refine ph hb (thn (he pins s σ H _ I h) fun u s1 ⟨x,H1,I1,rx,C,D,fs,v,ex,hc,hd,hn,f1,f2,f3,hD,hl,q⟩=>?_)
 subst ex
 obtain rfl:u = Value.ref a:=rx
 have pa:=I1.pin _ (List.mem_append_left _ hp)
 obtain ⟨mA,ns,r⟩:=I1.hok D _ hD
 obtain ⟨od,gd,hlk⟩:=kC ns
 obtain ⟨v',hv,rv⟩:=RelO.some_of (v:=v) (o:=mA f) (by rw [<- hl]; exact r f)
 obtain ⟨hh,g,d,t,os⟩:=s1
 exact getx I1.kIn f1 (xat pa.1 hc hd hn gd) (PySem.W.findObj_own f2 f3 rfl (by rw [hlk,hv])) (kE rv) ⟨v,H1,I1.tok _,rv,q⟩
end Ow
namespace Ow
open PySem PySem.Spec PyProof.Rows L2
end Ow
namespace Ow
open PySem PySem.Spec PyProof.Rows L2
section
variable {prog:Program} {w:World} {A:Around} {E:Value->Shared->Prop} {s:Shared} {a:Addr} {o:Obj} {ks:List Int} {k:Int} {tk:Tok}
end
end Ow
namespace Ow
open PySem PySem.Spec PyProof.Rows L2
section
variable {prog:Program} {w:World} {A:Around} {R:Result->Shared->Prop} {I:Addr} {fp wr:List Addr} {G:Array GenState->Array GenState->Prop} {n:Nat} {P:Nat->Value->Prop} {St:Nat->Shared->Prop}
end
section
variable {prog:Program} {w:World} {A:Around} {E:Value->Shared->Prop} {s:Shared}
end
end Ow
namespace Ow
open PySem PySem.Spec PyProof.Rows L2
section
variable {prog:Program} {w:World} {A:Around} {E:Value->Shared->Prop} {s:Shared} {S I:Addr} {es:Array (Int × Value)} {ep:Nat} {t:SetTable}
end
end Ow
namespace Ow
open PySem PySem.Spec PyProof.Rows L2
section
variable {prog:Program} {w:World} {A:Around} {E:Value->Shared->Prop} {s:Shared} {S I:Addr} {es:Array (Int × Value)} {ep:Nat} {t:SetTable}
end
end Ow
namespace Ow
open PySem PySem.Spec PyProof.Rows L2
section
variable {prog:Program} {w:World} {A:Around} {E:Value->Shared->Prop} {s:Shared} {S:Addr} {es:Array (Int × Value)} {ep:Nat} {t:SetTable}
end
end Ow
namespace Ow
open PySem PySem.Spec PyProof.Rows L2
section
variable {prog:Program} {w:World} {A:Around} {E:Value->Shared->Prop} {s:Shared} {S:Addr} {es:Array (Int × Value)} {ep:Nat} {t:SetTable}
end
end Ow
namespace Ow
open PySem PySem.Spec PyProof.Rows L2
section
variable {prog:Program} {w:World} {A:Around} {E:Value->Shared->Prop} {s:Shared} {S:Addr} {o:Obj} {ks:List Int}
end
end Ow
namespace L2
open PySem PySem.Spec PyProof.Rows
section
variable {prog:Program} {w:World} {A:Around} {E:Value->Shared->Prop} {s:Shared}
theorem jD {it t:Addr} {i:Nat} {items:Array Value} {x:Value} {Q:Value->Shared->Prop} (hit:s.heap.IsTupleIter it t i) (ht:s.heap.IsTuple t items) (hx:items[i]? = some x)
  (hQ:∀ h',h'.IsTupleIter it t (i + 1)->Heap.SameBut it s.heap h'->Q x { s with heap:=h' }):wpAny (model prog w) A (Builtin.SmallTypes.nextOf (.ref it)) Q E s:=by
 obtain ⟨o,ho,hc,hd⟩:=id hit
 obtain ⟨ot,hot,_,n,hdt⟩:=ht
 have fin:(s.heap.update it (·.mapFields (·.setIfInBounds 1 (rawInt ((i:Int) + 1))))).IsTupleIter it t (i + 1) :=
  ⟨_,Heap.get?_update_self _ ho (Obj.isFreed_of_fields (Obj.data_mapFields hd _)),(Obj.cls_mapFields ..).trans hc,by rw [Obj.data_mapFields hd]; simp [rawInt]⟩
 unfold Builtin.SmallTypes.nextOf
 refine wpAny_bind (wpAny_callSpecial?_slot (name:=Str.ofString "__next__") hit.typeIs F.slot_tuple_iterator_next (wpAny_call_entry F.slot_tuple_iterator_next hit.typeIs F.entry_tuple_iterator_next ?_ (F.args_tuple_iterator_next_1 _)))
 show wpAny _ _ (field (.ref it) 0 >>= _) _ _ s
 refine wpAny_bind (wpAny_field ho hd (x:=.ref t) rfl ?_)
 show wpAny _ _ (if (Value.ref t == Value.none) = true then _ else _) _ _ s
 rw [if_neg (show ¬ ((Value.ref t == Value.none) = true) from Bool.false_ne_true)]
 show wpAny _ _ (field (.ref it) 1 >>= _) _ _ s
 refine wpAny_bind (wpAny_field ho hd (x:=.int i 0) rfl ?_)
 show wpAny _ _ (seqItems? (.ref t) >>= _) _ _ s
 refine wpAny_bind (wpAny_seqItems hot hdt ?_)
 simp only [Int.toNat_natCast,hx]
 exact wpAny_bind (wpAny_setField ho hd (by simp) (wpAny_pure ⟨x,rfl,wpAny_pure (hQ _ fin (Heap.SameBut.update ..))⟩))
theorem fU {it t:Addr} {i:Nat} {items:Array Value} {Q:Value->Shared->Prop} (hh:A.handled = none) (hit:s.heap.IsTupleIter it t i) (ht:s.heap.IsTuple t items) (hx:items[i]? = none)
  (hE:∀ h' e,Heap.ExtBut it s.heap h'->(∃ o,h'.get? e = some o/\o.cls = .type "StopIteration")->E (.ref e) { s with heap:=h' }):wpAny (model prog w) A (Builtin.SmallTypes.nextOf (.ref it)) Q E s:=by
 obtain ⟨o,ho,hc,hd⟩:=id hit
 obtain ⟨ot,hot,_,n,hdt⟩:=ht
 unfold Builtin.SmallTypes.nextOf
 refine wpAny_bind (wpAny_callSpecial?_slot (name:=Str.ofString "__next__") hit.typeIs F.slot_tuple_iterator_next (wpAny_call_entry F.slot_tuple_iterator_next hit.typeIs F.entry_tuple_iterator_next ?_ (F.args_tuple_iterator_next_1 _)))
 show wpAny _ _ (field (.ref it) 0 >>= _) _ _ s
 refine wpAny_bind (wpAny_field ho hd (x:=.ref t) rfl ?_)
 show wpAny _ _ (if (Value.ref t == Value.none) = true then _ else _) _ _ s
 rw [if_neg (show ¬ ((Value.ref t == Value.none) = true) from Bool.false_ne_true)]
 show wpAny _ _ (field (.ref it) 1 >>= _) _ _ s
 refine wpAny_bind (wpAny_field ho hd (x:=.int i 0) rfl ?_)
 show wpAny _ _ (seqItems? (.ref t) >>= _) _ _ s
 refine wpAny_bind (wpAny_seqItems hot hdt ?_)
 simp only [Int.toNat_natCast,hx]
 refine wpAny_bind (wpAny_rule (wpAny_bind (wpAny_setField ho hd (by simp) ?_)))
 show wpAny _ _ (newExc (.type "StopIteration") [] >>= _) _ _ _
 refine wpAny_bind ?_
 simp only [newExc,newTuple]
 refine wpAny_bind (wpAny_newObj_type ?_ (by size_fits))
 refine wpAny_bind (m:=firstArgMember _ _) (wpAny_of_eq (a:=Value.none) (by first | rfl | (simp only [firstArgMember]; rfl)) ?_)
 refine wpAny_newObj_type ?_ (by size_fits)
 simp only [raiseNew]
 refine wpAny_bind (wpAny_handled ?_)
 first | rw [show A.in1.handled = none from hh] | rw [hh]
 exact wpAny_bind (wpAny_pure (wpAny_throw (hE _ _ (((Heap.SameBut.update ..).extBut.push _).push _) ⟨_,Heap.get?_push_size _ rfl,rfl⟩)))
end
section
variable {X:Cx}
end
end L2
namespace Ow
open PySem PySem.Spec PyProof.Rows L2
theorem dk_none {P:Program} {w:World} {H:Hp} (h:Heap) (hb:sysModules < h.objs.size):ObjOk P w H (h.push { cls:=.type "dict",data:=.dict #[] }) h.objs.size (.dK []) :=
 ⟨Nat.zero_le _,beq_eq_false_iff_ne.mpr (Ne.symm (Nat.ne_of_lt hb)),[],.nil,Heap.DictOf.new h⟩
theorem inv_big {X:Cx} {pins:List (Addr × Obj)} {σ:L2.St} {H:Hp} {s:Shared} (I:Inv X pins σ H s):sysModules < s.heap.objs.size:=by
 have h1:=I.ok.mod.glob.lt
 have h2:=Nat.le_trans I.ok.bsz I.sz
 exact Nat.lt_of_lt_of_le (Nat.lt_of_le_of_lt (by decide) h1) h2
def tDNew:TE:=fun _ H Q=>∀ p,H p = none->Q (.ref p) (upd H p (.dK []))
theorem jP {X:Cx} {pos:Pos}:PE X (.Dict [] [] pos) tDNew:=fun pins s σ H Q I h =>
 wpAny_Dict_empty ⟨.ref s.heap.objs.size,_,I.laid (a:=s.heap.objs.size) (o:=.dK []) (t':=s.toks) (fun _ _ q=>Heap.get?_push_of_some _ q) (Nat.le_refl _) (dk_none s.heap (inv_big I)),rfl,h _ (I.hok.fresh (Nat.le_refl _))⟩
end Ow
namespace Ow
open PySem PySem.Spec PyProof.Rows L2
theorem kit_of {K:Frag} {C D:Addr} (h1:isClsIn K D = true) (h2:typeIn K (.ref D) = some (.type "type")) (h3:mroIn K C (.ref D) = some true):kitOne K (.ref C) (.ref D) = some true:=by
 unfold kitOne
 split
 ·rfl
 ·unfold PySem.W.kitCls
  have e:((PySem.W.clsIn K D).isSome && typeIn K (.ref D) == some (.type "type")) = true:=by
   rw [h2]
   have h1':(PySem.W.clsIn K D).isSome = true:=h1
   rw [h1',Bool.true_and]
   exact beq_self_eq_true _
  show (if ((PySem.W.clsIn K D).isSome && typeIn K (.ref D) == some (.type "type")) = true then PySem.W.subIn K (.ref C) (.ref D) else none) = _
  rw [if_pos e]
  exact h3
end Ow
namespace Ow
open PySem PySem.Spec PyProof.Rows L2
theorem nO {lo:Int} {n:Nat} {D:Addr} {te':TE} {tl:L2.St} {G:Hp->Prop} {H1:Hp} (Pv:Nat->Hp->Prop) (h0:Pv 0 (upd H1 D (.lst [])))
  (hs:∀ (i:Nat) H,i < n->Pv i H->te' (some (.int (lo + i)) :: tl) H fun y H2=>∃ ys,H2 D = some (.lst ys)/\ys.length < sizeLine/\∃ m',m' < n - i/\(m' = n - (i + 1)/\i + 1<=n/\Pv (i + 1) (upd H2 D (.lst (ys ++ [y])))))
  (hd:∀ H,Pv n H->G H) :
  ∃ W:Nat->Nat->Hp->Prop,(∃ m,W 0 m (upd H1 D (.lst [])))/\∀ i m H,W i m H ->
   ((Itr lo n).stop i H/\G H)\/((Itr lo n).go i H/\∀ x H',(Itr lo n).yld i H x H'->te' (some x :: tl) H' fun y H2=>∃ ys,H2 D = some (.lst ys)/\ys.length < sizeLine/\∃ m',m' < m/\W (i + 1) m' (upd H2 D (.lst (ys ++ [y])))):=by
 refine ⟨fun i m H=>m = n - i/\i<=n/\Pv i H,⟨n,by simp,Nat.zero_le _,h0⟩,?_⟩
 rintro i m H ⟨rfl,hi,p⟩
 by_cases hlt:i < n
 ·refine .inr ⟨hlt,fun x H' y=>?_⟩
  obtain ⟨e,y⟩:=y
  subst e y
  exact hs i _ hlt p
 ·have e:i = n:=by omega
  subst e
  exact .inl ⟨Nat.le_refl _,hd H p⟩
end Ow
namespace Ow
open PySem PySem.Spec PyProof.Rows L2
section
variable {X:Cx}
theorem eW {K:Frag} {x:Str} {H:Hp}:tyV K "str" (.str x) H:=rfl
theorem sl_str:SlR X (fun x lo hi H Q=>∃ z,x = .str z/\z.length<=sizeLine/\Q (.str (Txt.slice z lo hi)) H):=by
 intro pins s σ H x v vl vu lo hi sl Q I rx hs pl pu h
 obtain ⟨z,rfl,hz,q⟩:=h
 obtain ⟨t,rfl⟩:=rx
 have fin:∀ t' k,EP X pins σ Q (.str (Txt.slice z lo hi) t') { s with toks:=k }:=fun t' k=>⟨.str _,H,I.kept (t':=k) fun b o e=>e,⟨t',rfl⟩,q⟩
 have ok:(Txt.slice z lo hi).length<=sizeLine:=Nat.le_trans (Txt.slice_le z _ _) hz
 refine ⟨"str",_,F.slot_str_getitem.lookup,typeIs_str _ _ _,?_⟩
 cases pl with
 | none =>
  cases pu with
  | none=>exact wpAny_getItem_str_slice (l:=none) (u:=none) (st:=none) hs rfl (post_val_or_str ⟨ok,fin⟩)
  | int j uj=>exact wpAny_getItem_str_slice (l:=none) (u:=some (j,uj)) (st:=none) hs rfl (post_val_or_str ⟨ok,fin⟩)
 | int i ui =>
  cases pu with
  | none=>exact wpAny_getItem_str_slice (l:=some (i,ui)) (u:=none) (st:=none) hs rfl (post_val_or_str ⟨ok,fin⟩)
  | int j uj=>exact wpAny_getItem_str_slice (l:=some (i,ui)) (u:=some (j,uj)) (st:=none) hs rfl (post_val_or_str ⟨ok,fin⟩)
theorem qD {ys:List Str} {us:List Value} (h:Vals (ys.map V.str) us):StrsAre us ys:=by
 induction ys generalizing us with
 | nil=>cases h; exact .nil
 | cons y ys ih =>
  cases h with
  | cons r rr =>
   obtain ⟨t,rfl⟩:=r
   exact .cons _ _ (ih rr)
def rJoin (K:Frag):V->List V->Hp->VK->Prop:=fun x xs H Q=>∃ sep p ys,x = .str sep/\xs = [.ref p]/\SqL K H p (ys.map V.str)/\(ys.map (·.length)).sum + ys.length * sep.length<=16777216/\Q (.str (Txt.join sep ys)) H
theorem jW:MtM X "str.join" (rJoin X.K):=by
 intro pins s σ H x vs v us Q I rx rv h
 obtain ⟨sep,p,ys,rfl,rfl,hp,hok,q⟩:=h
 obtain ⟨t,rfl⟩:=rx
 obtain ⟨u,rfl,ru⟩:=rv.one
 cases (show u = Value.ref p from ru)
 obtain ⟨its,r,pl,_⟩:=I.list hp
 exact join_list pl.isList (qD r) hok fun t' k=>⟨.str _,H,I.kept (t':=k) fun b o e=>e,⟨t',rfl⟩,q⟩
end
def Its (z:Str):It where
 go:=fun i _=>i < z.cps.size
 yld:=fun i H x H'=>H' = H/\∃ c,z.cps[i]? = some c/\x = .str ⟨#[c]⟩
 stop:=fun i _=>z.cps.size<=i
theorem oC {P:Program} {w:World} {K:Frag} {tg:Expr} (it:Addr) (z:Str) (t:Tok):Turn P w K tg (Its z) [it] it (fun i h=>h.IsStrIter it "str_ascii_iterator" z t i) where
 mem:=by simp
 obj:=fun i h st b hb=>by
  have e:b = it:=by simpa using hb
  subst e
  obtain ⟨o,e,c,d⟩:=st
  exact ⟨o,e,fun v z=>by rw [d] at z; cases z⟩
 keep:=fun i h h' st k=>let ⟨o,ho,r⟩:=st; ⟨o,k it (by simp) o ho,r⟩
 item:=by
  intro X hP hw hK hc i pins s σ H E I hf st hg
  subst hP hw hK
  obtain ⟨f0,f1,f2,f3,f4,f5⟩:=hf it (by simp)
  have hi:i < z.cps.size:=hg
  refine wpAny_pyNext_ascii_item st (c:=z.cps[i]) (by simp [hi]) fun h' st' sb=>?_
  have I1:Inv X pins σ H { s with heap:=h',toks:=s.toks + 1 }:=I.turned (t':=s.toks + 1) (fun b o hb e=>(sb.2 b hb).trans e) f0 f1 f3 f4 f5
  obtain ⟨o,e,c,d⟩:=id st'
  exact ⟨_,rfl,go_of (s:={ s with heap:=h',toks:=s.toks + 1 }) e c d (by decide) ⟨.str ⟨#[z.cps[i]]⟩,H,I1,⟨_,rfl⟩,⟨rfl,_,by simp [hi],rfl⟩,st',fun b hb=>(hf b hb).1⟩⟩
 done:=by
  intro X hP hw hK hc i pins s σ H E I hf st hg
  subst hP hw hK
  obtain ⟨f0,f1,f2,f3,f4,f5⟩:=hf it (by simp)
  have hi:z.cps.size<=i:=hg
  exact wpAny_pyNext_ascii_end (I.ok.hd hc) st (by simp [hi]) fun h' eb=>⟨rfl,I.turned (t':=s.toks) (fun b o hb e=>eb b o hb e) f0 f1 f3 f4 f5⟩
 self:=fun _ _ _ _ _ st h=>wpAny_pyIter_striter_ascii st h
theorem qN {P:Program} {w:World} {K:Frag} {tg:Expr} (it:Addr) (z:Str) (t:Tok):Turn P w K tg (Its z) [it] it (fun i h=>h.IsStrIter it "str_iterator" z t i) where
 mem:=by simp
 obj:=fun i h st b hb=>by
  have e:b = it:=by simpa using hb
  subst e
  obtain ⟨o,e,c,d⟩:=st
  exact ⟨o,e,fun v z=>by rw [d] at z; cases z⟩
 keep:=fun i h h' st k=>let ⟨o,ho,r⟩:=st; ⟨o,k it (by simp) o ho,r⟩
 item:=by
  intro X hP hw hK hc i pins s σ H E I hf st hg
  subst hP hw hK
  obtain ⟨f0,f1,f2,f3,f4,f5⟩:=hf it (by simp)
  have hi:i < z.cps.size:=hg
  refine wpAny_pyNext_wide_item st (c:=z.cps[i]) (by simp [hi]) fun h' st' sb=>?_
  have I1:Inv X pins σ H { s with heap:=h',toks:=s.toks + 1 }:=I.turned (t':=s.toks + 1) (fun b o hb e=>(sb.2 b hb).trans e) f0 f1 f3 f4 f5
  obtain ⟨o,e,c,d⟩:=id st'
  exact ⟨_,rfl,go_of (s:={ s with heap:=h',toks:=s.toks + 1 }) e c d (by decide) ⟨.str ⟨#[z.cps[i]]⟩,H,I1,⟨_,rfl⟩,⟨rfl,_,by simp [hi],rfl⟩,st',fun b hb=>(hf b hb).1⟩⟩
 done:=by
  intro X hP hw hK hc i pins s σ H E I hf st hg
  subst hP hw hK
  obtain ⟨f0,f1,f2,f3,f4,f5⟩:=hf it (by simp)
  have hi:z.cps.size<=i:=hg
  exact wpAny_pyNext_wide_end (I.ok.hd hc) st (by simp [hi]) fun h' eb=>⟨rfl,I.turned (t':=s.toks) (fun b o hb e=>eb b o hb e) f0 f1 f3 f4 f5⟩
 self:=fun _ _ _ _ _ st h=>wpAny_pyIter_striter_wide st h
def iStr (tl:TE):TI:=fun σ H R=>tl σ H fun x H1=>∃ z,x = .str z/\R (Its z) H1
theorem pd {X:Cx} {tg l:Expr} {tl:TE} (hl:PE X l tl):PI X tg l (iStr tl):=by
 intro pins s σ H R I h
 refine thn (hl pins s σ H _ I h) fun v s1 ⟨x,H1,I1,r1,q1⟩=>?_
 obtain ⟨z,e,q⟩:=q1
 subst e
 obtain ⟨t,rfl⟩:=r1
 have ff:∀ b ∈ [s1.heap.objs.size],FpOk X pins H1 b:=fun b hb=>by
  have e:b = s1.heap.objs.size:=by simpa using hb
  subst e
  exact I1.fpOk (Nat.le_refl _) (I1.hok.fresh (Nat.le_refl _))
 cases ha:z.cps.all (· < 128) with
 | true=>exact wpAny_pyIter_ascii ha ⟨s1.heap.objs.size,[s1.heap.objs.size],_,_,H1,rfl,I1.kept (t':=s1.toks) fun b o e=>Heap.get?_push_of_some _ e,oC _ z t,⟨_,Heap.get?_push_size _ rfl,rfl,rfl⟩,ff,q⟩
 | false=>exact wpAny_pyIter_wide ha ⟨s1.heap.objs.size,[s1.heap.objs.size],_,_,H1,rfl,I1.kept (t':=s1.toks) fun b o e=>Heap.get?_push_of_some _ e,qN _ z t,⟨_,Heap.get?_push_size _ rfl,rfl,rfl⟩,ff,q⟩
theorem ql {z:Str} {g:TG} {tb:TS} {D:Ends} {σ:L2.St} {H:Hp} (Pv:Nat->L2.St->Hp->Prop) (h0:Pv 0 σ H)
  (hs:∀ i c σ H,z.cps[i]? = some c->Pv i σ H->g (.str ⟨#[c]⟩) σ H fun σ2 H2=>tb { D with nx:=Pv (i + 1),ct:=Pv (i + 1),bk:=D.nx } σ2 H2) (hd:∀ σ H,Pv z.cps.size σ H->D.nx σ H) :
  ∃ W:Nat->Nat->L2.St->Hp->Prop,(∃ m,W 0 m σ H)/\∀ i m σ H,W i m σ H ->
   ((Its z).stop i H/\D.nx σ H)\/((Its z).go i H/\∃ N:L2.St->Hp->Prop,(∀ σ' H',N σ' H'->∃ m',m' < m/\W (i + 1) m' σ' H')/\∀ x H',(Its z).yld i H x H'->g x σ H' fun σ2 H2=>tb { D with nx:=N,ct:=N,bk:=D.nx } σ2 H2):=by
 refine ⟨fun i m σ H=>m = z.cps.size - i/\i<=z.cps.size/\Pv i σ H,⟨z.cps.size,by simp,Nat.zero_le _,h0⟩,?_⟩
 rintro i m σ H ⟨rfl,hi,p⟩
 by_cases hlt:i < z.cps.size
 ·refine .inr ⟨hlt,Pv (i + 1),fun σ' H' p'=>⟨z.cps.size - (i + 1),by omega,rfl,hlt,p'⟩,fun x H' y=>?_⟩
  obtain ⟨e,c,hc,ex⟩:=y
  subst e ex
  exact hs i c σ _ hc p
 ·have e:i = z.cps.size:=by omega
  subst e
  exact .inl ⟨Nat.le_refl _,hd σ H p⟩
def lP (K:Frag) (d:Nat) (neg:Bool):R2:=fun x y H Q=>∃ p q xs ys e,x = .ref p/\y = .ref q/\SqT K H p xs/\SqT K H q ys/\(∀ j,j < xs.length->j < ys.length->EqD K H d (xs.getD j .non) (ys.getD j .non) (e j))/\Q (.bl (if neg = true then !((List.range (min xs.length ys.length)).all e && xs.length == ys.length) else ((List.range (min xs.length ys.length)).all e && xs.length == ys.length))) H
theorem pL {X:Cx} {d:Nat} (hu:X.A.units + d + 1 < cLine):OpR X (compareOp .Eq) (lP X.K d false):=by
 intro pins s σ H x y v u Q I rx ry h
 obtain ⟨p,q,xs,ys,e,rfl,rfl,hp,hq,he,k⟩:=h
 cases rx
 cases ry
 obtain ⟨its,r,pl,_⟩:=I.tuple hp
 obtain ⟨its2,r2,pl2,_⟩:=I.tuple hq
 have hl:=r.length
 have hl2:=r2.length
 refine SeqAt.eq_tupleAt (e:=e) pl pl2 (by omega) (fun j h1 h2=>?_) ⟨.bl _,H,I,rfl,?_⟩
 ·have h1':j < its.length:=by simpa using h1
  have h2':j < its2.length:=by simpa using h2
  have z:=(he j (by omega) (by omega)).at I (de r h1') (de r2 h2') (A:=X.A.in1) (by show X.A.units + 1 + d < _; omega)
  simpa using z
 ·simp only [List.size_toArray,<- hl,<- hl2]
  exact k
end Ow
namespace Ow
open PySem PySem.Spec PyProof.Rows L2
section
variable {prog:Program} {w:World} {K:Type} [DecidableEq K] {knd:KeyKind prog w K} {A:Around} {E:Value->Shared->Prop} {s:Shared}
end
section
variable {prog:Program} {w:World} {A:Around} {E:Value->Shared->Prop} {s:Shared}
end
section
variable {X:Cx}
end
def noStar:Expr->Bool
 | .Starred _ _=>false
 | _=>true
theorem pS {e:Expr} (h:noStar e = true) (rest:List Expr) (env:Env):starEach (e :: rest) env = (false,eval e env) :: starEach rest env:=by
 cases e <;> first | rfl | cases h
theorem cT {X:Cx} {e:Expr} {es:List Expr} {te:TE} {t:TA} (ha:PE X e te) (hr:PA X es t) (hn:noStar e = true:=by rfl):PA X (e :: es) (tCons te t):=aa ha hr (pS hn es X.env)
section
variable {X:Cx}
end
end Ow
namespace L2
open PySem PySem.Spec PyProof.Rows
section
variable {κ:Type} [DecidableEq κ]
def ii (kvs:List (κ × V)) (k:κ):Option V:=(kvs.find? fun kv=>decide (kv.1 = k)).map (·.2)
def iV (kvs:List (κ × V)) (k:κ) (v:V):List (κ × V) :=
 if (kvs.any fun kv=>decide (kv.1 = k)) = true then kvs.map (fun kv=>if kv.1 = k then (kv.1,v) else kv) else kvs ++ [(k,v)]
theorem bT {p:κ × V} {r:List (κ × V)} {k:κ} (e:p.1 = k):ii (p :: r) k = some p.2:=by simp [ii,List.find?_cons,e]
theorem bS {p:κ × V} {r:List (κ × V)} {k:κ} (e:¬ p.1 = k):ii (p :: r) k = ii r k:=by simp [ii,List.find?_cons,e]
theorem iu (k:κ):∀ kvs:List (κ × V),(kvs.any fun kv=>decide (kv.1 = k)) = (ii kvs k).isSome
 | []=>rfl
 | p :: r=>by
  rw [List.any_cons]
  by_cases e:p.1 = k
  ·simp only [bT e,decide_eq_true e,Bool.true_or,Option.isSome_some]
  ·rw [bS e,decide_eq_false e,Bool.false_or]; exact iu k r
theorem ny (k j:κ) (y:V):∀ kvs:List (κ × V),ii (kvs.map fun kv=>if kv.1 = k then (kv.1,y) else kv) j = (ii kvs j).map fun x=>if j = k then y else x
 | []=>rfl
 | p :: r=>by
  have ih:=ny k j y r
  rw [List.map_cons]
  by_cases h:p.1 = k
  ·rw [if_pos h]
   by_cases e:p.1 = j
   ·rw [bT (p:=(p.1,y)) e,bT e,Option.map_some,if_pos (e.symm.trans h)]
   ·rw [bS (p:=(p.1,y)) e,bS e,ih]
  ·rw [if_neg h]
   by_cases e:p.1 = j
   ·rw [bT (p:=p) e,bT e,Option.map_some,if_neg (fun z=>h (e.trans z))]
   ·rw [bS (p:=p) e,bS e,ih]
theorem kS (k j:κ) (y:V):∀ kvs:List (κ × V),ii kvs k = none->ii (kvs ++ [(k,y)]) j = if j = k then some y else ii kvs j
 | [],_=>by
  by_cases e:k = j
  ·rw [if_pos e.symm]; exact bT (p:=(k,y)) e
  ·rw [if_neg (fun z=>e z.symm)]; exact bS (p:=(k,y)) e
 | p :: r,hn=>by
  rw [List.cons_append]
  have hk:¬ p.1 = k:=fun z=>by rw [bT z] at hn; cases hn
  rw [bS hk] at hn
  have ih:=kS k j y r hn
  by_cases e:p.1 = j
  ·rw [bT e,bT e,if_neg (fun z=>hk (e.trans z))]
  ·rw [bS e,bS e,ih]
theorem valV_put (kvs:List (κ × V)) (k j:κ) (y:V):ii (iV kvs k y) j = if j = k then some y else ii kvs j:=by
 unfold iV
 by_cases a:(kvs.any fun kv=>decide (kv.1 = k)) = true
 ·rw [if_pos a,ny]
  rw [iu] at a
  by_cases e:j = k
  ·obtain ⟨x,hx⟩:=Option.isSome_iff_exists.mp a
   rw [if_pos e,e,hx,Option.map_some,if_pos rfl]
  ·rw [if_neg e]
   cases ii kvs j with
   | none=>rfl
   | some x=>rw [Option.map_some,if_neg e]
 ·rw [if_neg a]
  refine kS k j y kvs ?_
  rw [iu] at a
  cases q:ii kvs k with
  | none=>rfl
  | some x=>rw [q] at a; exact (a rfl).elim
theorem i4 (kvs:List (κ × V)) (k:κ) (v:V):(iV kvs k v).length<=kvs.length + 1:=by
 unfold iV
 split
 ·rw [List.length_map]; omega
 ·rw [List.length_append,List.length_cons,List.length_nil]; omega
theorem RelO.isSome_eq {o:Option V} {u:Option Value} (r:RelO o u):o.isSome = u.isSome:=by
 cases o with
 | none=>cases u with
  | none=>rfl
  | some _=>exact (show False from r).elim
 | some _=>cases u with
  | none=>exact (show False from r).elim
  | some _=>rfl
theorem KV.val {kvs:List (κ × V)} {vs:List (κ × Value)} (r:KV kvs vs) (k:κ):RelO (ii kvs k) (valueAt vs k):=by
 unfold KV at r
 induction r with
 | nil=>exact True.intro
 | @cons p q ps qs h t ih =>
  obtain ⟨h1,h2⟩:=h
  by_cases e:p.1 = k
  ·have e':q.1 = k:=h1.symm.trans e
   have b:valueAt (q :: qs) k = some q.2:=by simp [valueAt,List.find?_cons,e']
   rw [bT e,b]; exact h2
  ·have e':¬ q.1 = k:=fun z=>e (h1.trans z)
   have b:valueAt (q :: qs) k = valueAt qs k:=by simp [valueAt,List.find?_cons,e']
   rw [bS e,b]; exact ih
theorem KV.any {kvs:List (κ × V)} {vs:List (κ × Value)} (r:KV kvs vs) (k:κ):(kvs.any fun kv=>decide (kv.1 = k)) = vs.any fun kv=>decide (kv.1 = k):=by
 unfold KV at r
 induction r with
 | nil=>rfl
 | cons h t ih=>rw [List.any_cons,List.any_cons,ih,h.1]
theorem KV.repl {kvs:List (κ × V)} {vs:List (κ × Value)} (r:KV kvs vs) (k:κ) {y:V} {u:Value} (ry:RelV y u) :
  KV (kvs.map fun kv=>if kv.1 = k then (kv.1,y) else kv) (vs.map fun kv=>if kv.1 = k then (kv.1,u) else kv):=by
 unfold KV at r ⊢
 induction r with
 | nil=>exact .nil
 | @cons p q ps qs h t ih =>
  rw [List.map_cons,List.map_cons]
  refine .cons ?_ ih
  obtain ⟨h1,h2⟩:=h
  by_cases e:p.1 = k
  ·rw [if_pos e,if_pos (h1.symm.trans e)]; exact ⟨h1,ry⟩
  ·rw [if_neg e,if_neg (fun z=>e (h1.trans z))]; exact ⟨h1,h2⟩
theorem KV.put {kvs:List (κ × V)} {vs:List (κ × Value)} (r:KV kvs vs) (k:κ) {y:V} {u:Value} (ry:RelV y u):KV (iV kvs k y) (stored vs k u):=by
 unfold iV stored
 rw [r.any k]
 by_cases e:(vs.any fun kv=>decide (kv.1 = k)) = true
 ·rw [if_pos e,if_pos e]; exact r.repl k ry
 ·rw [if_neg e,if_neg e]; exact Paired.snoc r ⟨rfl,ry⟩
theorem KV.length {kvs:List (κ × V)} {vs:List (κ × Value)} (r:KV kvs vs):kvs.length = vs.length:=Paired.length r
end
theorem oB {P:Program} {w:World} {k:Key} {u:Value} (r:RelV (kV k) u):(be P w).is k u = true:=by
 cases k with
 | inl i=>obtain ⟨t,e⟩:=(show ∃ t,u = Value.int i t from r); subst e; exact lT P w i t
 | inr x=>obtain ⟨t,e⟩:=(show ∃ t,u = Value.str x t from r); subst e; exact mv P w x t
theorem kB {P:Program} {w:World}:∀ {ks:List Key} {us:List Value},Vals (ks.map kV) us->ItemsAre (be P w) ks us
 | [],_,r=>by rw [List.map_nil] at r; cases r; exact .nil
 | k :: ks,_,r=>by
  rw [List.map_cons] at r
  cases r with
  | cons h t=>exact .cons (oB h) (kB t)
abbrev KT (H:Hp):List (List Key × V)->List (List Key × Addr × Value)->Prop:=Paired fun p q=>p.1 = q.1/\H q.2.1 = some (.tup (p.1.map kV))/\RelV p.2 q.2.2
theorem KT.val {H:Hp} {kvs:List (List Key × V)} {xs:List (List Key × Addr × Value)} (r:KT H kvs xs) (k:List Key):RelO (ii kvs k) ((atKey xs k).map (·.2)):=by
 induction r with
 | nil=>exact True.intro
 | @cons p q ps qs h t ih =>
  obtain ⟨h1,_,h2⟩:=h
  by_cases e:p.1 = k
  ·have e':q.1 = k:=h1.symm.trans e
   have b:atKey (q :: qs) k = some q.2:=by simp [atKey,List.find?_cons,e']
   rw [bT e,b]; exact h2
  ·have e':¬ q.1 = k:=fun z=>e (h1.trans z)
   have b:atKey (q :: qs) k = atKey qs k:=by simp [atKey,List.find?_cons,e']
   rw [bS e,b]; exact ih
theorem KT.repl {H:Hp} {kvs:List (List Key × V)} {xs:List (List Key × Addr × Value)} (r:KT H kvs xs) (k:List Key) {y:V} {u:Value} (ry:RelV y u) :
  KT H (kvs.map fun kv=>if kv.1 = k then (kv.1,y) else kv) (xs.map (putAt k u)):=by
 induction r with
 | nil=>exact .nil
 | @cons p q ps qs h t ih =>
  rw [List.map_cons,List.map_cons]
  refine .cons ?_ ih
  obtain ⟨h1,h2,h3⟩:=h
  unfold putAt
  by_cases e:p.1 = k
  ·rw [if_pos e,if_pos (h1.symm.trans e)]; exact ⟨h1,h2,ry⟩
  ·rw [if_neg e,if_neg (fun z=>e (h1.trans z))]; exact ⟨h1,h2,h3⟩
theorem KT.put {H:Hp} {kvs:List (List Key × V)} {xs:List (List Key × Addr × Value)} (r:KT H kvs xs) (k:List Key) {b:Addr} {y:V} {u:Value} (hb:H b = some (.tup (k.map kV))) (ry:RelV y u) :
  KT H (iV kvs k y) (storedH xs k b u):=by
 have e:(kvs.any fun kv=>decide (kv.1 = k)) = (atKey xs k).isSome:=by
  rw [iu,(r.val k).isSome_eq,Option.isSome_map]
 unfold iV storedH
 rw [e]
 by_cases q:(atKey xs k).isSome = true
 ·rw [if_pos q,if_pos q]; exact r.repl k ry
 ·rw [if_neg q,if_neg q]; exact Paired.snoc r ⟨rfl,hb,ry⟩
theorem KT.keeps {H H':Hp} {kvs:List (List Key × V)} {xs:List (List Key × Addr × Value)} (r:KT H kvs xs) (ht:∀ b ys,H b = some (.tup ys)->H' b = some (.tup ys)):KT H' kvs xs :=
 Paired.mapP r fun _ _ z=>⟨z.1,ht _ _ z.2.1,z.2.2⟩
section
variable {P:Program} {w:World} {H:Hp} {h:Heap} {a:Addr}
theorem rd_of {u:HO} (ok:HOk P w H h) (e:Rd H a u):ObjOk P w H h a u:=e.ok ok
theorem ox {kvs:List (Key × V)} (ok:HOk P w H h) (e:Rd H a (.dK kvs)):kvs.length<=sizeLine/\(a == sysModules) = false/\∃ vs,KV kvs vs/\h.DictOf (be P w) a vs :=
 show ObjOk P w H h a (.dK kvs) from rd_of ok e
theorem dk_of {kvs:List (Key × V)} (ok:HOk P w H h) (e:H a = some (.dK kvs)):kvs.length<=sizeLine/\(a == sysModules) = false/\∃ vs,KV kvs vs/\h.DictOf (be P w) a vs:=ox ok (.inl e)
theorem kW {ks:List Key} (ok:HOk P w H h) (e:H a = some (.tup (ks.map kV))):(tupleKind (be P w)).is h ks a:=by
 obtain ⟨_,its,r,o,h1,h2,n,h3⟩:=(show ObjOk P w H h a (.tup (ks.map kV)) from ok a _ e)
 exact ⟨o,its.toArray,n,h1,h2,h3,by simpa using kB r⟩
theorem pG {kvs:List (List Key × V)} (ok:HOk P w H h) (e:Rd H a (.dT kvs)):kvs.length<=sizeLine/\(a == sysModules) = false /\
  ∃ xs,KT H kvs xs/\h.DictOfH (tupleKind (be P w)) a xs:=by
 obtain ⟨z,y,xs,r,o,es,ep,h1,h2,h3,h4,h5⟩:=(show ObjOk P w H h a (.dT kvs) from rd_of ok e)
 refine ⟨z,y,xs,r,o,es,ep,h1,h2,h3,h4,fun x hx=>?_,h5⟩
 have all:∀ {l:List (List Key × V)} {m:List (List Key × Addr × Value)},KT H l m->∀ x ∈ m,(tupleKind (be P w)).is h x.1 x.2.1:=by
  intro l m q
  induction q with
  | nil=>intro x hx; exact nomatch hx
  | @cons p q ps qs hq t ih =>
   intro x hx
   rcases List.mem_cons.mp hx with e | hx
   ·subst e
    exact kW ok (by rw [<- hq.1]; exact hq.2.1)
   ·exact ih x hx
 exact all r x hx
theorem dt_of {kvs:List (List Key × V)} (ok:HOk P w H h) (e:H a = some (.dT kvs)):kvs.length<=sizeLine/\(a == sysModules) = false /\
  ∃ xs,KT H kvs xs/\h.DictOfH (tupleKind (be P w)) a xs:=pG ok (.inl e)
end
def DGet (H:Hp) (a:Addr) (y:V) (r:Option V):Prop :=
 (∃ kvs k,Rd H a (.dK kvs)/\y = kV k/\r = ii kvs k)\/∃ kvs k b,Rd H a (.dT kvs)/\y = .ref b/\H b = some (.tup (k.map kV))/\r = ii kvs k
def DPut (H:Hp) (a:Addr) (y v:V) (H':Hp):Prop :=
 (∃ kvs k,H a = some (.dK kvs)/\y = kV k/\kvs.length < sizeLine/\H' = upd H a (.dK (iV kvs k v))) \/
 ∃ kvs k b,H a = some (.dT kvs)/\y = .ref b/\H b = some (.tup (k.map kV))/\kvs.length < sizeLine/\H' = upd H a (.dT (iV kvs k v))
theorem DGet.k {H:Hp} {a:Addr} {kvs:List (Key × V)} {k:Key} (e:H a = some (.dK kvs)):DGet H a (kV k) (ii kvs k):=.inl ⟨kvs,k,.inl e,rfl,rfl⟩
theorem DPut.k {H:Hp} {a:Addr} {kvs:List (Key × V)} {k:Key} {v:V} (e:H a = some (.dK kvs)) (hl:kvs.length < sizeLine):DPut H a (kV k) v (upd H a (.dK (iV kvs k v))):=.inl ⟨kvs,k,e,rfl,hl,rfl⟩
section
variable {X:Cx} {pins:List (Addr × Obj)} {σ:St} {H:Hp} {s:Shared} {a:Addr} {y v:V} {u r:Value} {o:Option V} {A:Around} {E:Value->Shared->Prop}
theorem pH {Q:Value->Shared->Prop} (hu:A.units + 1 < cLine) (I:Inv X pins σ H s) (g:DGet H a y (some v)) (ry:RelV y u) (h:∀ w' s',Inv X pins σ H s'->RelV v w'->Q w' s') :
  wpAny (model X.prog X.w) A (getItem (.ref a) u) Q E s:=by
 rcases g with ⟨kvs,k,e,ey,l⟩ | ⟨kvs,k,b,e,ey,eb,l⟩
 ·subst ey
  obtain ⟨z,hd,vs,rel,dd⟩:=ox I.hok e
  obtain ⟨w',hw,rw'⟩:=RelO.some_of (v:=v) (o:=valueAt vs k) (by rw [l]; exact rel.val k)
  exact wpAny_getItem_of (oB ry) dd.mapOf hw (h w' _ (I.tok _) rw')
 ·subst ey
  cases (show u = Value.ref b from ry)
  obtain ⟨z,hd,xs,rel,dd⟩:=pG I.hok e
  obtain ⟨w',hw,rw'⟩:=RelO.some_of (v:=v) (o:=(atKey xs k).map (·.2)) (by rw [l]; exact rel.val k)
  obtain ⟨p,hp,hp2⟩:=Option.map_eq_some_iff.mp hw
  refine wpAny_getItem_heap (tupleKind_room_in1 hu) (kW I.hok eb) dd hp ?_
  rw [hp2]
  exact h w' _ (I.tok _) rw'
theorem d_in {Q:Value->Shared->Prop} (hu:A.units + 1 < cLine) (I:Inv X pins σ H s) (g:DGet H a y o) (ry:RelV y u) (h:∀ s',Inv X pins σ H s'->Q (.bool o.isSome) s') :
  wpAny (model X.prog X.w) A (compareOp .In u (.ref a)) Q E s:=by
 rcases g with ⟨kvs,k,e,ey,l⟩ | ⟨kvs,k,b,e,ey,eb,l⟩
 ·subst ey
  obtain ⟨z,hd,vs,rel,dd⟩:=ox I.hok e
  refine wpAny_in_of (oB ry) hd dd.mapOf ?_
  rw [<- (rel.val k).isSome_eq,<- l]
  exact h _ (I.tok _)
 ·subst ey
  cases (show u = Value.ref b from ry)
  obtain ⟨z,hd,xs,rel,dd⟩:=pG I.hok e
  refine wpAny_in_heap (tupleKind_room_in1 hu) (kW I.hok eb) hd dd ?_
  have q:=(rel.val k).isSome_eq
  rw [Option.isSome_map] at q
  rw [<- q,<- l]
  exact h _ (I.tok _)
theorem d_notIn {Q:Value->Shared->Prop} (hu:A.units + 1 < cLine) (I:Inv X pins σ H s) (g:DGet H a y o) (ry:RelV y u) (h:∀ s',Inv X pins σ H s'->Q (.bool (!o.isSome)) s') :
  wpAny (model X.prog X.w) A (compareOp .NotIn u (.ref a)) Q E s:=by
 rcases g with ⟨kvs,k,e,ey,l⟩ | ⟨kvs,k,b,e,ey,eb,l⟩
 ·subst ey
  obtain ⟨z,hd,vs,rel,dd⟩:=ox I.hok e
  refine wpAny_notIn_of (oB ry) hd dd.mapOf ?_
  rw [<- (rel.val k).isSome_eq,<- l]
  exact h _ (I.tok _)
 ·subst ey
  cases (show u = Value.ref b from ry)
  obtain ⟨z,hd,xs,rel,dd⟩:=pG I.hok e
  refine wpAny_notIn_heap (tupleKind_room_in1 hu) (kW I.hok eb) hd dd ?_
  have q:=(rel.val k).isSome_eq
  rw [Option.isSome_map] at q
  rw [<- q,<- l]
  exact h _ (I.tok _)
theorem qO {h':Heap} {t':Nat} {ob:HO} (I:Inv X pins σ H s) (mu:Mut (H a)) (hs:Heap.SameBut a s.heap h') (he:∃ q,h'.get? a = some q) (new:ObjOk X.prog X.w (upd H a ob) h' a ob) :
  Inv X pins σ (upd H a ob) { s with heap:=h',toks:=t' } :=
 I.write (x:=a) (e:=a) mu (.inl rfl) (fun b q hb z=>(hs.2 b hb).trans z) he new
theorem dk_new {P:Program} {w:World} {H':Hp} {h':Heap} {kvs:List (Key × V)} {vs:List (Key × Value)} (z:kvs.length<=sizeLine) (hd:(a == sysModules) = false) (rel:KV kvs vs) (dd:h'.DictOf (be P w) a vs) :
  ObjOk P w H' h' a (.dK kvs):=⟨z,hd,vs,rel,dd⟩
theorem pC {H':Hp} {Q:Unit->Shared->Prop} (hu:A.units + 1 < cLine) (I:Inv X pins σ H s) (g:DPut H a y v H') (ry:RelV y u) (rv:RelV v r) (h:∀ s',Inv X pins σ H' s'->Q () s') :
  wpAny (model X.prog X.w) A (setItem (.ref a) u r) Q E s:=by
 rcases g with ⟨kvs,k,e,ey,l,eH⟩ | ⟨kvs,k,b,e,ey,eb,l,eH⟩
 ·subst ey eH
  obtain ⟨z,hd,vs,rel,dd⟩:=dk_of I.hok e
  have hz:vs.length<=sizeLine:=by rw [<- rel.length]; exact z
  have hl:(iV kvs k v).length<=sizeLine:=by have:=i4 kvs k v; omega
  refine wpAny_setItem_pairs (hsz:=hz) (oB ry) dd fun h' dd' hs=>h _ ?_
  have he:∃ q,h'.get? a = some q:=let ⟨q,_,_,hq,_⟩:=dd'; ⟨q,hq⟩
  exact qO I (by rw [e]; exact True.intro) hs he (dk_new hl hd (rel.put k rv) dd')
 ·subst ey eH
  cases (show u = Value.ref b from ry)
  obtain ⟨z,hd,xs,rel,dd⟩:=dt_of I.hok e
  have hz:xs.length<=sizeLine:=by rw [<- Paired.length rel]; exact z
  have hl:(iV kvs k v).length<=sizeLine:=by have:=i4 kvs k v; omega
  refine wpAny_setItem_heap (hsz:=hz) (tupleKind_room_in1 hu) (kW I.hok eb) dd fun h' dd' hs=>h _ ?_
  obtain ⟨q,es,ep,hq,h2,h3,h4,_,h5⟩:=dd'
  refine qO I (by rw [e]; exact True.intro) hs ⟨q,hq⟩ ⟨hl,hd,_,(rel.put k eb rv).keeps fun c ys ec=>?_,q,es,ep,hq,h2,h3,h4,h5⟩
  rw [ai (ne_of ec e (fun z=>nomatch z))]
  exact ec
end
section
variable {X:Cx} {pins:List (Addr × Obj)} {σ:St} {H:Hp} {s:Shared} {a:Addr} {kvs:List (Key × V)} {k:Key} {u:Value} {A:Around} {E:Value->Shared->Prop}
theorem d_len {Q:Value->Shared->Prop} (I:Inv X pins σ H s) (e:Rd H a (.dK kvs)) (h:∀ t s',Inv X pins σ H s'->Q (.int kvs.length t) s'):wpAny (model X.prog X.w) A (call (.builtin "len") [.ref a]) Q E s:=by
 obtain ⟨z,hd,vs,rel,dd⟩:=ox I.hok e
 refine call_len_dict hd dd (by rw [<- rel.length]; rw [sizeLine_eq] at z; omega) ?_
 rw [<- rel.length]
 exact h _ _ (I.tok _)
end
def NoSl (i:Expr):Prop:=∀ ov iv,subscripted i false ov iv = operate [ov,iv] (getItem ov iv)
theorem subD_of {prog:Program} {w:World} {A:Around} {E:Value->Shared->Prop} {s:Shared} {env:Env} {value slice:Expr} {pos:Pos} {T id:String} {Q:Value->Shared->Prop}
  (hl:typeLookup (.type T) "__getitem__" = pure (some (.builtin id))) (hs:NoSl slice)
  (h:wpAny (model prog w) A (eval value env) (fun o s₁=>wpAny (model prog w) A (eval slice env) (fun i s₂=>s₂.TypeIs o T/\wpAny (model prog w) A (getItem o i) Q E s₂) E s₁) E s) :
  wpAny (model prog w) A (eval (.Subscript value slice pos) env) Q E s:=by
 refine Subscript_ (wpAny_mono h (fun o s₁ h₁=>wpAny_mono h₁ (fun i s₂ h₂=>?_) fun _ _ x=>x) fun _ _ x=>x)
 obtain ⟨hT,h₂⟩:=h₂
 unfold subscriptTail
 refine wpAny_bind ?_
 rw [getitemInPython_of_ne hT.not_modules]
 refine wpAny_bind (wpAny_specialOf hT hl ?_)
 have fin:wpAny (model prog w) A (subscripted slice false o i) (fun r s₃=>wpAny (model prog w) A (letTemporaryGo value o r >>= fun _=>pure r) Q E s₃) E s₂:=by
  rw [hs o i]
  exact wpAny_operating (wpAny_mono h₂ (fun r s₃ h₃=>wpAny_bind (wpAny_letTemporaryGo (wpAny_pure h₃))) fun _ _ x=>x)
 first
  | exact wpAny_pure (wpAny_bind fin)
  | exact wpAny_bind (wpAny_pure (wpAny_bind fin))
  | exact wpAny_bind fin
theorem my {X:Cx} {pins:List (Addr × Obj)} {σ:St} {H:Hp} {s:Shared} {a:Addr} {y:V} {o:Option V} (I:Inv X pins σ H s) (g:DGet H a y o):s.TypeIs (.ref a) "dict":=by
 rcases g with ⟨kvs,k,e,_,_⟩ | ⟨kvs,k,b,e,_,_,_⟩
 ·obtain ⟨_,_,vs,_,dd⟩:=ox I.hok e
  exact dd.typeIs
 ·obtain ⟨_,_,xs,_,dd⟩:=pG I.hok e
  exact dd.typeIs
def tDGet (td ty:TE):TE:=fun σ H Q=>td σ H fun x H1=>ty σ H1 fun y H2=>∃ a v,x = .ref a/\DGet H2 a y (some v)/\Q v H2
def sDPut (td ty tv:TE):TS:=fun D σ H=>tv σ H fun v H1=>td σ H1 fun x H2=>ty σ H2 fun y H3=>∃ a H4,x = .ref a/\DPut H3 a y v H4/\D.nx σ H4
section
variable {X:Cx} {o i e value:Expr} {pos pos' tpos:Pos} {td ty tv:TE}
theorem mD (hu:X.A.units + 1 < cLine) (ho:PE X o td) (hi:PE X i ty) (hs:NoSl i):PE X (.Subscript o i pos) (tDGet td ty):=by
 intro pins s σ H Q I h
 refine subD_of PySem.F.slot_dict_getitem.lookup hs (thn (ho pins s σ H _ I h) fun u s1 ⟨x,H1,I1,rx,q1⟩=>thn (hi pins s1 σ H1 _ I1 q1) fun iv s2 ⟨y,H2,I2,ry,a,v,ex,g,q2⟩=>?_)
 subst ex
 obtain rfl:u = Value.ref a:=rx
 exact ⟨my I2 g,pH hu I2 g ry fun w' s3 I3 rw'=>⟨v,H2,I3,rw',q2⟩⟩
theorem iF (hu:X.A.units + 1 < cLine) (ho:PE X o td) (hi:PE X i ty) (hv:PE X value tv) (hs:swapsWith value (some (.Subscript o i pos')) pos.line X.env = pure false) :
  PS X (.Assign [.Subscript o i pos'] value pos) (sDPut td ty tv):=by
 intro pins s σ H D I h
 refine wpAny_Assign_Subscript (thn (hv pins s σ H _ I h) fun r s1 ⟨v,H1,I1,rv,q1⟩=>thn (ho pins s1 σ H1 _ I1 q1) fun u s2 ⟨x,H2,I2,rx,q2⟩=>thn (hi pins s2 σ H2 _ I2 q2) fun iv s3 ⟨y,H3,I3,ry,a,H4,ex,g,q3⟩=>?_) hs
 subst ex
 obtain rfl:u = Value.ref a:=rx
 exact pC hu I3 g ry rv fun s4 I4=>⟨σ,H4,I4,q3⟩
end
section
variable {X:Cx} {pos:Pos}
end
structure M2 (X:Cx) (o:Expr) (m:Str) (apos:Pos) (e f:Expr) (cpos:Pos):Prop where
 base:attributeBase o m X.env (eval o X.env) = eval o X.env
 few:((backTo cpos (starEach [e,f] X.env)).all (fun x=>!x.1) && (backToKw cpos (keywordEach [] X.env)).all (fun x=>x.1.isSome)
  && decide (([e,f]:List Expr).length + ([]:List Keyword).length + (if ([]:List Keyword).isEmpty then 0 else 1) < 30)) = true
 line:(apos.endLine == cpos.line) = true
 trees:backTo cpos (starEach [e,f] X.env) = [(false,eval e X.env),(false,eval f X.env)]
section
variable {X:Cx} {pins:List (Addr × Obj)} {σ:St} {H:Hp} {s:Shared} {a:Addr} {y d:V} {u r:Value} {o:Option V} {A:Around} {E:Value->Shared->Prop}
end
section
variable {X:Cx} {o e f:Expr} {apos cpos:Pos} {td ty tx:TE}
end
section
variable {X:Cx} {pins:List (Addr × Obj)} {σ:St} {H:Hp} {s:Shared} {a:Addr} {kvs:List (Key × V)} {A:Around} {E:Value->Shared->Prop}
end
section
variable {X:Cx} {pins:List (Addr × Obj)} {σ:St} {H:Hp} {s:Shared} {a:Addr} {y:V} {u:Value} {A:Around} {E:Value->Shared->Prop}
end
end L2
namespace L2
open PySem PySem.Spec PyProof.Rows
section
variable {κ:Type} [DecidableEq κ]
end
end L2
namespace Ow
open PySem PySem.Spec PyProof.Rows L2
section
variable {X:Cx} {pins:List (Addr × Obj)} {σ:L2.St} {H:Hp} {s:Shared}
end
section
variable {X:Cx} {tg:Expr}
end
theorem call_sum {X:Cx} (hc:X.calm = true):gq X (.builtin "sum") (fun xs H Q=>∃ (a:Addr) (ns:List Int),xs = [.ref a]/\SqL X.K H a (ns.map V.int)/\Q (.int ns.sum) H):=by
 intro pins s σ H xs us Q I r h
 obtain ⟨a,ns,rfl,hq,q⟩:=h
 obtain ⟨u,rfl,rx⟩:=kH r
 cases rx
 obtain ⟨its,rv,pl,hz⟩:=I.list hq
 have hl:=rv.length
 rw [List.length_map] at hl
 refine call_sum_walkG (wpAny_pyIter_list pl.isList ?_)
 have hne:a ≠ s.heap.objs.size:=by
  obtain ⟨o,ho,_⟩:=pl.isList
  exact Nat.ne_of_lt (Heap.lt_size ho)
 refine ⟨s.heap.objs.size,_,_,_,_,_,fun j=>ns.getD j 0,rfl,Walks.list (A:=X.A.in1) (I.ok.hd hc) s.heap.objs.size a hne its.toArray,⟨⟨_,Heap.get?_push_size _ rfl,rfl,rfl⟩,Heap.IsList.push pl.isList _⟩,?_,?_,?_⟩
 ·intro b hb
  show b < (s.heap.push _).objs.size
  rw [Heap.size_push]
  rcases List.mem_cons.mp hb with rfl | hb
  ·exact Nat.lt_succ_self _
  ·rw [List.mem_singleton.mp hb]
   obtain ⟨o,ho,_⟩:=pl.isList
   exact Nat.lt_succ_of_lt (Heap.lt_size ho)
 ·intro i v hP
  have hP':its[i]? = some v:=by simpa using hP
  have hi:i < its.length:=(List.getElem?_eq_some_iff.mp hP').1
  have hb:(ns.map V.int)[i]? = some (V.int (ns.getD i 0)):=by
   rw [List.getElem?_map,List.getD_eq_getElem?_getD,List.getElem?_eq_getElem (by omega)]
   rfl
  obtain ⟨u',hu',t,ru'⟩:=rv.get hb
  rw [hP'] at hu'
  cases hu'
  exact ⟨t,ru'⟩
 ·intro h' tk t' hk
  have e0:∀ (l:List Int) (m:Nat),m<=l.length->preSum (fun j=>l.getD j 0) m = (l.take m).sum:=by
   intro l m
   induction m with
   | zero=>intro _; simp [preSum]
   | succ m ih =>
    intro hm
    rw [List.take_add_one,List.sum_append,<- ih (by omega),List.getElem?_eq_getElem (by omega)]
    simp [preSum,List.getD_eq_getElem?_getD,List.getElem?_eq_getElem (show m < l.length by omega)]
  have e1:preSum (fun j=>ns.getD j 0) its.toArray.size = ns.sum:=by
   rw [List.size_toArray,<- hl,e0 ns ns.length (Nat.le_refl _),List.take_length]
  rw [e1]
  exact ⟨.int _,H,I.kept (t':=tk) fun b o e=>hk b o (fun z=>by
   have z':b = s.heap.objs.size:=by simpa using z
   exact absurd (Heap.lt_size e) (by rw [z']; exact Nat.lt_irrefl _)) (Heap.get?_push_of_some _ e),⟨t',rfl⟩,q⟩
structure GD (K:Frag) (P:Program) (w:World) (a:Addr) (vs:List (Key × Value)):Prop where
 ex:∃ o es ep,K.lookup a = some o/\o.ExactDict/\o.data = .dict es ep/\PySem.KeysOf (be P w) es/\Pairs (be P w) es.toList vs/\(vs.map (·.1)).Nodup
def gEnt (p:Params) (x:Str × Tok × Addr):DictEntry:=⟨PyData.keyHash p x.1,.str x.1 x.2.1,.ref x.2.2⟩
def gVal (x:Str × Tok × Addr):Key × Value:=(.inr x.1,.ref x.2.2)
theorem gd_mk {K:Frag} {P:Program} {w:World} {a:Addr} {ents:List (Str × Tok × Addr)} {ep:Nat} {sl:Array (Option Value)} (h:K.lookup a = some ⟨.type "dict",none,.dict (ents.map (gEnt w.params)).toArray ep,sl⟩) (nd:(ents.map (·.1)).Nodup) (hx:(⟨.type "dict",none,.dict (ents.map (gEnt w.params)).toArray ep,sl⟩:Obj).ExactDict) :
  GD K P w a (ents.map gVal):=by
 refine ⟨_,_,_,h,hx,rfl,fun e he=>?_,?_,?_⟩
 ·obtain ⟨x,_,rfl⟩:=List.mem_map.mp (List.mem_toArray.mp he)
  refine ⟨.inr x.1,?_,?_⟩
  ·show Value.isStrOf x.1 (.str x.1 x.2.1) = true
   exact beq_self_eq_true _
  ·rfl
 ·show Pairs _ (ents.map (gEnt w.params)) _
  clear h nd hx
  induction ents with
  | nil=>exact .nil
  | cons x r ih =>
   refine .cons ?_ rfl ih
   show Value.isStrOf x.1 (.str x.1 x.2.1) = true
   exact beq_self_eq_true _
 ·have e:(ents.map gVal).map (·.1) = (ents.map (·.1)).map (Sum.inr (α:=Int)):=by
   rw [List.map_map,List.map_map]
   rfl
  rw [e]
  unfold List.Nodup
  rw [List.pairwise_map]
  exact List.Pairwise.imp (fun h z=>h (Sum.inr.inj z)) nd
section
variable {X:Cx}
end
theorem op_neTD {X:Cx} {d:Nat} (hu:X.A.units + d + 1 < cLine):OpR X (compareOp .NotEq) (lP X.K d true):=by
 intro pins s σ H x y v u Q I rx ry h
 obtain ⟨p,q,xs,ys,e,rfl,rfl,hp,hq,he,k⟩:=h
 cases rx
 cases ry
 obtain ⟨its,r,pl,_⟩:=I.tuple hp
 obtain ⟨its2,r2,pl2,_⟩:=I.tuple hq
 have hl:=r.length
 have hl2:=r2.length
 refine SeqAt.RcNeAt.tuples (e:=e) pl pl2 (by omega) (fun j h1 h2=>?_) X.prog X.w X.xe _ ⟨.bl _,H,I,rfl,?_⟩
 ·have h1':j < its.length:=by simpa using h1
  have h2':j < its2.length:=by simpa using h2
  have z:=(he j (by omega) (by omega)).at I (de r h1') (de r2 h2') (A:=X.A.in1) (by show X.A.units + 1 + d < _; omega)
  simpa using z
 ·simp only [List.size_toArray,<- hl,<- hl2]
  exact k
end Ow
namespace Ow
open PySem PySem.Spec PyProof.Rows L2
section
variable {prog:Program} {w:World} {A:Around} {R:Result->Shared->Prop} {s:Shared}
end
section
variable {X:Cx} {elt iter:Expr} {x y:Str} {px py pos tp:Pos} {kk:Nat} {scope:Scope} {wi:TI} {te:TE} {N:List Str} {cl:List (Str × Addr)} {cap:L2.St->L2.St}
end
section
variable {X:Cx} {elt iter:Expr} {x y0:Str} {px py pos tp:Pos} {kk:Nat} {scope:Scope} {wi:TI} {te:TE} {cl:List (Str × Addr)}
end
end Ow
namespace L2
open PySem PySem.Spec PyProof.Rows
section
variable {X:Cx}
def Ite (K:Frag) (a:Addr):It :=
 ⟨fun i H=>∃ xs x,SqL K H a xs/\xs[i]? = some x,
  fun i H v H'=>∀ xs x,SqL K H a xs->xs[i]? = some x->∃ T,v = .ref T/\H T = none/\H' = upd H T (.tup [.int (i:Nat),x]),
  fun i H=>∃ xs,SqL K H a xs/\xs.length<=i⟩
theorem pp {P:Program} {w:World} {K:Frag} {elts:List Expr} {x1} {tp:Pos} {e it a:Addr} (hei:e ≠ it) (hae:a ≠ e) (hai:a ≠ it) :
  Turn P w K (.Tuple elts x1 tp) (Ite K a) [e,it] e (fun i h=>(∃ old,IsEnum h e it (i:Nat) old)/\h.IsListIter it a i) where
 mem:=by simp
 obj:=fun i h st c hc=>by
  obtain ⟨⟨old,q1⟩,⟨o2,e2,_,d2⟩⟩:=st
  simp only [List.mem_cons,List.not_mem_nil,or_false] at hc
  rcases hc with rfl | rfl
  ·exact ⟨_,q1,fun v z=>by cases z⟩
  ·exact ⟨_,e2,fun v z=>by rw [d2] at z; cases z⟩
 keep:=fun i h h' st k=>by
  obtain ⟨⟨old,q1⟩,q2⟩:=st
  exact ⟨⟨old,k e (by simp) _ q1⟩,q2.at fun o e=>k it (by simp) o e⟩
 item:=by
  intro X hP hw hK hc i pins s σ H E I hf st hg
  subst hP hw hK
  obtain ⟨xs,x,ha,hx⟩:=hg
  obtain ⟨⟨old,q1⟩,q2⟩:=st
  obtain ⟨its,rv,p,_⟩:=I.list ha
  obtain ⟨ux,hux,rx⟩:=rv.get hx
  refine wpAny_pyNext_enum_item q1 q2 (show s.heap.IsList a its.toArray from p.isList) (x:=ux) (by simpa using hux) hei fun h' z1 v1 pr sz all=>?_
  refine ⟨_,rfl,wpAny_letOwnedTupleGo_enum z1 fun h'' z2 sb=>?_⟩
  have nz:∀ c o,c ≠ e->h'.get? c = some o->h''.get? c = some o:=fun c o n e=>sb.extBut c o n e
  have zl:e < s.heap.objs.size:=Heap.lt_size q1
  have hT:H s.heap.objs.size = none:=I.hok.fresh (Nat.le_refl _)
  have prT:=nz _ _ (Nat.ne_of_gt zl) pr
  have kept:∀ c o,c ∉ [e,it]->s.heap.get? c = some o->h''.get? c = some o:=fun c o n e=>by
   simp only [List.mem_cons,List.not_mem_nil,or_false,not_or] at n
   exact nz c o n.1 (all c o n.1 n.2 e)
  have trk:∀ c u,H c = some u->c ∉ [e,it]:=fun c u e n=>by
   have:=(hf c n).1
   rw [e] at this; cases this
  refine ⟨.ref s.heap.objs.size,upd H s.heap.objs.size (.tup [.int (i:Nat),x]),?_,rfl,fun xs' x' ha' hx'=>?_,⟨⟨_,by simpa using z2⟩,v1.at fun o e=>nz _ o (Ne.symm hei) e⟩,fun c hc=>?_⟩
  ·refine Inv.step (s:=s) (h':=h'') (g':=s.gens) (d':=s.drawn) (t':=s.toks + 1) (ch:=[e,it]) I (fun c n=>let q:=hf c n; ⟨q.2.2.2.1,q.2.1,q.2.2.2.2.1,q.2.2.2.2.2⟩) (fun c o _ _ n e _=>kept c o n e) (fun c o _ _ n e _=>⟨o.slots,kept c o n e⟩)
    (fun c o _ e n=>by rw [ai (Nat.ne_of_lt (Heap.lt_size e))]; exact n) (fun c o n e=>⟨o,kept c o n e⟩) (fun c zs e=>by rw [ai (aE e hT)]; exact e) (fun c o u e=>by rw [ai (aE e hT)]; exact e) (fun c ps e=>⟨#[],by rw [ai (aE e hT),e]; simp⟩) (fun m hm=>?_) (fun c u e=>?_) I.bare
   ·obtain ⟨o,es,ep,ho,r⟩:=hm
    exact ⟨o,es,ep,kept _ o (fun n=>(hf _ n).2.1 rfl) ho,r⟩
   ·by_cases q:c = s.heap.objs.size
    ·subst q
     rw [ac] at e; cases e
     exact ⟨by show 2<=sizeLine; decide,[.int (i:Nat) s.toks,ux],.cons ⟨s.toks,rfl⟩ (.cons rx .nil),⟨_,prT,rfl,_,rfl⟩⟩
    ·rw [ai q] at e
     refine (I.hok c u e).stay (fun c' v hc' e'=>kept c' v ?_ e') (fun c' e'=>by rw [ai (aE e' hT)]; exact e') fun c' zs e'=>by rw [ai (aE e' hT)]; exact e'
     rcases hc' with z' | z'
     ·rw [z']; exact trk c u e
     ·exact trk c' _ z'
  ·rw [I.list_inj ha' ha,hx] at hx'
   cases hx'
   exact ⟨_,rfl,hT,rfl⟩
  ·have q:=hf c hc
   have hl:c ≠ s.heap.objs.size:=by
    simp only [List.mem_cons,List.not_mem_nil,or_false] at hc
    obtain ⟨_,e4,_⟩:=q2
    rcases hc with rfl | rfl
    ·exact Nat.ne_of_lt zl
    ·exact Nat.ne_of_lt (Heap.lt_size e4)
   rw [ai hl]
   exact q.1
 done:=by
  intro X hP hw hK hc i pins s σ H E I hf st hg
  subst hP hw hK
  obtain ⟨xs,ha,hx⟩:=hg
  obtain ⟨⟨old,q1⟩,q2⟩:=st
  obtain ⟨its,rv,p,_⟩:=I.list ha
  have hl:=rv.length
  refine wpAny_pyNext_enum_end (I.ok.hd hc) q1 q2 (show s.heap.IsList a its.toArray from p.isList) (by simp; omega) fun h' all=>⟨rfl,?_⟩
  have kept:∀ c o,c ∉ [e,it]->s.heap.get? c = some o->h'.get? c = some o:=fun c o n e=>by
   simp only [List.mem_cons,List.not_mem_nil,or_false,not_or] at n
   exact all c o n.2 e
  have trk:∀ c u,H c = some u->c ∉ [e,it]:=fun c u e n=>by
   have:=(hf c n).1
   rw [e] at this; cases this
  refine Inv.step (s:=s) (h':=h') (g':=s.gens) (d':=s.drawn) (t':=s.toks) (ch:=[e,it]) I (fun c n=>let q:=hf c n; ⟨q.2.2.2.1,q.2.1,q.2.2.2.2.1,q.2.2.2.2.2⟩) (fun c o _ _ n e _=>kept c o n e) (fun c o _ _ n e _=>⟨o.slots,kept c o n e⟩)
    (fun c o _ e n=>n) (fun c o n e=>⟨o,kept c o n e⟩) (fun c zs e=>e) (fun c o u e=>e) (fun c ps e=>⟨#[],by rw [e]; simp⟩) (fun m hm=>?_) (fun c u e=>?_) I.bare
  ·obtain ⟨o,es,ep,ho,r⟩:=hm
   exact ⟨o,es,ep,kept _ o (fun n=>(hf _ n).2.1 rfl) ho,r⟩
  ·refine (I.hok c u e).stay (fun c' v hc' e'=>kept c' v ?_ e') (fun c' e'=>e') fun c' zs e'=>e'
   rcases hc' with z' | z'
   ·rw [z']; exact trk c u e
   ·exact trk c' _ z'
 self:=fun _ _ _ _ _ st h=>by
  obtain ⟨⟨old,q1⟩,_⟩:=st
  exact wpAny_pyIter_enum q1 h
def iEnum (K:Frag) (ta:TA):TI:=fun σ H R=>ta σ H fun vs H1=>∃ a xs,vs = [.ref a]/\SqL K H1 a xs/\R (Ite K a) H1
theorem pi_enum {e1:Expr} {ta:TA} {p pos:Pos} {elts:List Expr} {x1} {tp:Pos} (hg:Gl X "enumerate") (hm:X.mg "enumerate" = none) (ha:PA X [e1] ta) (hs:starEach [e1] X.env = (false,eval e1 X.env) :: starEach [] X.env:=by rfl) (hpl:(backTo pos (starEach [] X.env)).any (·.1) = false:=by rfl) :
  PI X (.Tuple elts x1 tp) (.Call (.Name "enumerate" p) [e1] [] pos) (iEnum X.K ta):=by
 intro pins s σ H R I h
 refine Call_ (iA I hg hm PyProof.Rows.boot_enumerate (PyProof.Rows.callWith_type1 (thn (ha pos pins s σ H _ I h) fun us s1 ⟨vs,H1,I1,r1,q1⟩=>?_) hs hpl))
 obtain ⟨a,xs,e,hqa,q⟩:=q1
 subst e
 cases r1 with
 | cons r rr =>
  cases rr
  cases r
  obtain ⟨its,rv,pl,_⟩:=I1.list hqa
  refine call_enumerate_list (show s1.heap.IsList a its.toArray from pl.isList) fun h' z1 z2 sz z6=>?_
  have I2:Inv X pins σ H1 { s1 with heap:=h' }:=I1.kept (t':=s1.toks) z6
  have la:a < s1.heap.objs.size:=by obtain ⟨o,e,_⟩:=pl.isList; exact Heap.lt_size e
  refine wpAny_pyIter_enum z1 ?_
  refine ⟨s1.heap.objs.size + 1,[s1.heap.objs.size + 1,s1.heap.objs.size],_,_,H1,rfl,I2,pp (Nat.ne_of_gt (Nat.lt_succ_self _)) (Nat.ne_of_lt (Nat.lt_succ_of_lt la)) (Nat.ne_of_lt la),⟨⟨_,z1⟩,z2⟩,fun c hc=>?_,q⟩
  have le:s1.heap.objs.size<=c:=by
   simp only [List.mem_cons,List.not_mem_nil,or_false] at hc
   rcases hc with h | h <;> rw [h]
   ·exact Nat.le_add_right _ _
   ·exact Nat.le_refl _
  exact I1.fpOk le (I1.hok.fresh le)
end
end L2
namespace Ow
open PySem PySem.Spec PyProof.Rows L2
def xW (d:Addr) (fs:List (Str × V)):HO:=.ext fun h=>∃ mA,h.Ns1 d mA/\(∀ f,RelO (fs.lookup f) (mA f))/\PySem.Within mA (fs.map (·.1))
theorem xW_ok {P:Program} {w:World} {H:Hp} {h:Heap} {d:Addr} {fs:List (Str × V)} {mA:Str->Option Value} (g:h.Ns1 d mA) (r:∀ f,RelO (fs.lookup f) (mA f)) (wi:PySem.Within mA (fs.map (·.1))):ObjOk P w H h d (xW d fs) :=
 ⟨⟨mA,g,r,wi⟩,(by obtain ⟨o,es,ep,e,_⟩:=g; exact ⟨o,e⟩),fun h1 h2 ⟨m,n,q⟩ k=>⟨m,n.at k,q⟩⟩
section
variable {prog:Program} {w:World} {A:Around} {E:Value->Shared->Prop} {s:Shared} {K:Frag} {x C N:Addr} {fs:Array Value} {sl:Array (Option Value)} {name:Str} {v:Value}
variable {nm qn:Str} {bs bm:List Value} {sn:List Str} {sub:List Value} {ab:Bool} {col:Option Bool} {dd:Option Addr} {k0 k1 k2 k3 k5:Option Value} {nid:String}
theorem set_exc2 {D:Addr} {mA:Str->Option Value} {ns:List Str} {Q:Unit->Shared->Prop} (X:K.In s.heap) (hx:s.heap.get? x = some ⟨.ref C,some D,.fields fs,sl⟩) (hC:s.heap.get? C = some (excClassObj nm qn C N bs bm true sn sub ab col dd k0 k1 k2 k3 k5 nid)) (T:OwnTail s.heap VE bm)
  (sa:findIn K (.ref C) "__setattr__" = some (some (.builtin "object.__setattr__"))) (na:findIn K (.ref C) name = some none) (mo:mroIn K C (.type "object") = some true)
  (n1:s.heap.Ns1 D mA) (hw:PySem.Within mA ns) (hsz:ns.length<=100)
  (k:∀ h' t',h'.Ns1 D (fun y=>if y = name then some v else mA y)->Heap.SameBut D s.heap h'->Q () { s with heap:=h',toks:=t' }) :
  wpAny (model prog w) A (setAttr (.ref x) name v) Q E s:=by
 obtain ⟨oD0,es0,ep0,gD0,hd0,r0⟩:=id n1
 have I:PySem.W.InstAt s.heap x ⟨.ref C,some D,.fields fs,sl⟩ C (some oD0):=⟨hx,rfl,rfl,gD0⟩
 have SF:=PySem.F.store_object
 have su:PySem.W.Looks (model prog w) s.heap (isInstance (.ref x) (.type "object")) true:=I.type.andThen (PySem.W.looks_mroIn X mo)
 refine PySem.W.set_plain X I sa (codeAny_call_builtin SF.slot.plain SF.entry (@PySem.W.check_slot (model prog w) _ _ { s with toks:=s.toks + 1 } "object.__setattr__" "object" "__setattr__" (.ref x) [.str name s.toks,v] [] _ SF.kind SF.split su (SF.args (.ref x) (.str name s.toks) v) ?_))
 rw [PySem.W.osa_eq,refuse_eq]
 refine wpAny_bind (wpAny_bind (PySem.W.Looks.here (s:={ s with toks:=s.toks + 1 }) I.type (wpAny_bind (wpAny_mroOf_exc hC ?_))))
 rw [refuseLoop_ref,iY _ T]
 refine wpAny_pure (wpAny_bind (PySem.W.Looks.here (s:={ s with toks:=s.toks + 1 }) I.type (wpAny_bind (PySem.W.Looks.here (s:={ s with toks:=s.toks + 1 }) (PySem.W.looks_findIn X na) (wpAny_bind (wpAny_pure ?_))))))
 show wpAny _ _ (Builtin.ObjectAttr.storeInOwnDict (.ref x) (.ref C) (.str name s.toks) name v false) _ _ _
 have L1:PySem.W.Looks (model prog w) s.heap (classData C) _:=(PySem.W.Looks.ld (part:=none) hC).andThen .now
 refine wpAny_bind (wpAny_pure (wpAny_bind (wpAny_bind (wpAny_loadPart hx (wpAny_bind (PySem.W.Looks.here (s:={ s with toks:=s.toks + 1 }) L1 ?_))))))
 refine wpAny_pure (a:=some D) (wpAny_bind (wpAny_pure (wpAny_bind ?_)))
 refine wpAny_nsSet1 (s:={ s with toks:=s.toks + 1 }) n1 fun h' hn2 hs2=>?_
 obtain ⟨oD,esD,epD,hoD,hdD,hcD⟩:=hn2.count (PySem.Within.cons name v hw)
 refine wpAny_bind (wpAny_lookBehind hoD (by rw [hdD]; exact pastItsLine_dict (Nat.le_trans hcD (by rw [List.length_cons,sizeLine_eq]; omega))) ?_)
 exact wpAny_pure (k _ _ hn2 hs2)
end
section
variable {prog:Program} {w:World} {A:Around} {E:Value->Shared->Prop} {h:Heap} {g:Array GenState} {d:Drawn} {t:Nat} {os:OsState} {C N fI:Addr} {us:List Value} {oI:Obj} {mN:Str->Option Value}
variable {nm qn:Str} {bs bm:List Value} {hdc:Bool} {sn:List Str} {sub:List Value} {ab:Bool} {col:Option Bool} {dd:Option Addr} {k0 k1 k2 k3 k5:Option Value}
abbrev exTN (us:List Value):Obj:={ cls:=.type "tuple",data:=.seq us.toArray }
theorem pE {Q:Fin->Shared->Prop} (T:OwnTail h VE bm) (hC:h.get? C = some (excClassObj nm qn C N bs bm hdc sn sub ab col dd k0 k1 k2 k3 k5 "ValueError.__new__")) (hn:h.Ns N mN) (hi:mN "__init__" = some (.ref fI))
  (gf:h.get? fI = some oI) (cf:oI.cls = .type "function") (hz:us.length<=sizeLine)
  (k:wpAny (model prog w) A (call (.ref fI) (.ref (h.objs.size + 1) :: us)) (fun r s'=>r = .none/\Q (.done (.ret (.ref (h.objs.size + 1)))) s') E ⟨(h.push (exTN us)).push { cls:=.ref C,data:=.fields (exF h.objs.size) },g,d,t,os⟩) :
  wpAny (model prog w) A (Builtin.«type.__call__» ⟨.ref C :: us,[]⟩) Q E ⟨h,g,d,t,os⟩:=by
 have F:=PySem.F.excBase_ValueError
 have st:∀ b o,h.get? b = some o->((h.push (exTN us)).push { cls:=.ref C,data:=.fields (exF h.objs.size) }).get? b = some o:=fun b o e=>Heap.get?_push_of_some _ (Heap.get?_push_of_some _ e)
 have ge:((h.push (exTN us)).push { cls:=.ref C,data:=.fields (exF h.objs.size) }).get? (h.objs.size + 1) = some { cls:=.ref C,data:=.fields (exF h.objs.size) }:=by
  have z:=Heap.get?_push_size (h.push (exTN us)) (o:={ cls:=.ref C,data:=.fields (exF h.objs.size) }) rfl
  rwa [Heap.size_push] at z
 have cc:(Value.ref C :: bm).contains (.ref C) = true:=by rw [List.contains_cons,beq_self_eq_true,Bool.true_or]
 repeat (first | with_reducible refine wpAny_loadPart_at hC ?_ | with_reducible refine wpAny_madeBy_exc hC ?_ | wp_step)
 refine codeAny_call_builtin_code (Code.quiet_builtin _ F.quiet) (wpAny_check_new_subT F T hC (codeAny_exc_new_subT F T hC (rest:=us) (hrest:=hz) ?_))
 show wpAny _ _ _ _ _ _
 unfold isInstance
 repeat (first | with_reducible refine wpAny_loadPart_at ge ?_ | (with_reducible refine wpAny_isSubtype_exc (st _ _ hC) ?_; rw [cc]) | wp_step)
 show wpAny _ _ (typeLookup (.ref C) _) _ _ _
 refine wpAny_typeLookup_tail (st _ _ hC) (hn.keeps st) (T.keeps st) F.mroIs F.init.lookup ?_
 rw [hi]
 refine wpAny_holding (wpAny_bind ?_)
 unfold bindSpecial
 refine wpAny_bind (wpAny_typeOf (T:="function") ⟨_,st _ _ gf,cf⟩ ?_)
 rw [if_pos (by decide)]
 refine wpAny_pure (wpAny_bind (wpAny_mono k (fun r s' q=>?_) fun _ _ z=>z))
 obtain ⟨rfl,q⟩:=q
 wp_walk
 exact q
theorem pO {Q:Value->Shared->Prop} (T:OwnTail h VE bm) (hC:h.get? C = some (excClassObj nm qn C N bs bm hdc sn sub ab col dd k0 k1 k2 k3 k5 "ValueError.__new__")) (hn:h.Ns N mN) (hi:mN "__init__" = some (.ref fI))
  (gf:h.get? fI = some oI) (cf:oI.cls = .type "function") (hz:us.length<=sizeLine)
  (k:wpAny (model prog w) (A.under (.builtin "type.__call__" ⟨.ref C :: us,[]⟩)) (call (.ref fI) (.ref (h.objs.size + 1) :: us)) (fun r s'=>r = .none/\Q (.ref (h.objs.size + 1)) s') E ⟨(h.push (exTN us)).push { cls:=.ref C,data:=.fields (exF h.objs.size) },g,d,t,os⟩) :
  wpAny (model prog w) A (call (.ref C) us) Q E ⟨h,g,d,t,os⟩:=by
 have f1:=tc_lookup
 have f2:=tc_bind (.ref C)
 have tT:(⟨h,g,d,t,os⟩:Shared).TypeIs (.ref C) "type":=⟨_,hC,rfl⟩
 refine wpAny_call (codeAny_of_tree ?_)
 show wpAny _ _ (callAny (.ref C) _) _ _ _
 repeat (any_goals (first | assumption | with_reducible refine wpAny_loadPart_at hC ?_ | wp_step))
 exact ⟨rfl,codeAny_call_builtin_at (Code.quiet_builtin _ (by decide +kernel)) entry_typeCall (wpAny_check_type_call_sub hC (pE T hC hn hi gf cf hz k))⟩
end
structure XCl (K:Frag) (C fI:Addr):Prop where
 ef:mz K C fI = true
 sa:findIn K (.ref C) "__setattr__" = some (some (.builtin "object.__setattr__"))
 mo:mroIn K C (.type "object") = some true
 fn:typeIn K (.ref fI) = some (.type "function")
 kp:keepIn K (.ref C) = true
def sXs1 (K:Frag) (ta tv:TE) (f:Str):TS:=fun D σ H=>tv σ H fun y H1=>ta σ H1 fun x H2=>∃ e C t fI,x = .ref e/\H2 e = some (xO e C t none)/\XCl K C fI/\NoAttr K C f/\∀ d,H2 d = none->d ≠ e->D.nx σ (upd (upd H2 d (xW d [(f,y)])) e (xO e C t (some d)))
def sXs2 (K:Frag) (ta tv:TE) (f:Str):TS:=fun D σ H=>tv σ H fun y H1=>ta σ H1 fun x H2=>∃ e C t fI d fs,x = .ref e/\H2 e = some (xO e C t (some d))/\H2 d = some (xW d fs)/\XCl K C fI/\NoAttr K C f/\fs.length<=100/\D.nx σ (upd H2 d (xW d ((f,y) :: fs)))
section
variable {X:Cx} {f:Str} {o value:Expr} {ta tv:TE} {pos pos':Pos}
theorem ps_xs1 (ha:PE X o ta) (hv:PE X value tv) (hs:swapsWith value (some (.Attribute o f pos')) pos.line X.env = pure false):PS X (.Assign [.Attribute o f pos'] value pos) (sXs1 X.K ta tv f):=by
 intro pins s σ H D I h
 refine plainObj_wpAny_Assign_Attribute (thn (hv pins s σ H _ I h) fun u s1 ⟨y,H1,I1,ry,q⟩=>thn (ha pins s1 σ H1 _ I1 q) fun ov s2 ⟨x,H2,I2,rx,e,C,t,fI,ex,he,c,na,q2⟩=>?_) hs
 subst ex
 obtain rfl:ov = Value.ref e:=rx
 have ge:s2.heap.get? e = some ⟨.ref C,none,.fields (exF t),#[]⟩:=(I2.hok e _ he).1
 obtain ⟨bm,N,nm,qn,bs,sn,sub,ab,col,dd,k0,k1,k2,k3,k5,mN,gC,_,_,T⟩:=kU I2.kIn c.ef
 refine qu I2.kIn ge gC T c.sa na c.mo fun h' t' g1 n1 kp=>?_
 have hd:H2 s2.heap.objs.size = none:=I2.hok.fresh (Nat.le_refl _)
 have dne:s2.heap.objs.size ≠ e:=fun z=>by rw [z,he] at hd; cases hd
 obtain ⟨od,es,ep,gd,hda,rest⟩:=n1
 have gd1:(s2.heap.push od).get? s2.heap.objs.size = some od:=Heap.get?_push_size _ (by
  obtain ⟨c1,c2,c3,c4⟩:=od
  cases (show c3 = .dict es ep from hda)
  rfl)
 have I3:=I2.laid (a:=s2.heap.objs.size) (o:=xW s2.heap.objs.size [(f,y)]) (h':=s2.heap.push od) (t':=s2.toks) (fun b u q=>Heap.get?_push_of_some _ q) (Nat.le_refl _) (xW_ok ⟨od,es,ep,gd1,hda,rest⟩ (fun g=>by
  by_cases hg:g = f
  ·subst hg
   rw [if_pos rfl,List.lookup_cons_self]
   exact ry
  ·rw [if_neg hg,List.lookup_cons,beq_eq_false_iff_ne.mpr hg]
   exact True.intro) (PySem.Within.cons f u PySem.Within.nil))
 have I4:=I3.write (x:=e) (e:=e) (o:=xO e C t (some s2.heap.objs.size)) (h':=h') (t':=t') (by rw [ai (Ne.symm dne),he]; exact True.intro) (.inl rfl) (fun b v hb z=>by
  by_cases hz:b = s2.heap.objs.size
  ·subst hz
   have z1:=gd1.symm.trans z
   cases z1
   exact gd
  ·rw [Heap.get?_push_ne _ _ _ hz] at z
   exact kp b v hb z) ⟨_,g1⟩ (xO_ok g1)
 exact ⟨σ,_,I4,q2 _ hd dne⟩
theorem ps_xs2 (ha:PE X o ta) (hv:PE X value tv) (hs:swapsWith value (some (.Attribute o f pos')) pos.line X.env = pure false):PS X (.Assign [.Attribute o f pos'] value pos) (sXs2 X.K ta tv f):=by
 intro pins s σ H D I h
 refine plainObj_wpAny_Assign_Attribute (thn (hv pins s σ H _ I h) fun u s1 ⟨y,H1,I1,ry,q⟩=>thn (ha pins s1 σ H1 _ I1 q) fun ov s2 ⟨x,H2,I2,rx,e,C,t,fI,d,fs,ex,he,hd,c,na,hl,q2⟩=>?_) hs
 subst ex
 obtain rfl:ov = Value.ref e:=rx
 have ge:s2.heap.get? e = some ⟨.ref C,some d,.fields (exF t),#[]⟩:=(I2.hok e _ he).1
 obtain ⟨mA,n1,r,wi⟩:∃ mA,s2.heap.Ns1 d mA/\(∀ f,RelO (fs.lookup f) (mA f))/\PySem.Within mA (fs.map (·.1)):=(I2.hok d _ hd).1
 obtain ⟨bm,N,nm,qn,bs,sn,sub,ab,col,dd,k0,k1,k2,k3,k5,mN,gC,_,_,T⟩:=kU I2.kIn c.ef
 refine set_exc2 I2.kIn ge gC T c.sa na c.mo n1 wi (by rw [List.length_map]; exact hl) fun h' t' n2 sb=>?_
 have I3:=I2.write (x:=d) (e:=d) (o:=xW d ((f,y) :: fs)) (h':=h') (t':=t') (by rw [hd]; exact True.intro) (.inl rfl) (fun b v hb z=>(sb.2 b hb).trans z) (by obtain ⟨o,es,ep,e',_⟩:=n2; exact ⟨o,e'⟩) (xW_ok n2 (fun g=>by
  by_cases hg:g = f
  ·subst hg
   rw [if_pos rfl,List.lookup_cons_self]
   exact ry
  ·rw [if_neg hg,List.lookup_cons,beq_eq_false_iff_ne.mpr hg]
   exact r g) (PySem.Within.cons f u wi))
 exact ⟨σ,_,I3,q2⟩
end
def spXN (fl:List Str) (C:Addr):Sp:=fun vs H Q _=>∃ (e t:Addr) (us:List V),vs = .ref e :: us/\us.length = fl.length/\H e = some (xO e C t none)/\∀ d fs H',H d = none->d ≠ e->H' d = some (xW d fs)->(∀ g,fs.lookup g = (fl.zip us).lookup g)->H' e = some (xO e C t (some d))->(∀ b,b ≠ d->b ≠ e->H' b = H b)->Q .non H'
structure XMk (P:Program) (w:World) (K:Frag) (mg:Str->Option Value) (base:Heap) (k:Nat) (x:Str) (C:Addr) (ps fl:List Str):Prop where
 ex:∃ (fI:Addr) (fd:FuncData),FnOk P w K mg base CX0 k fI fd ps (spXN fl C)/\Binds K fd ps []/\XCl K C fI/\mg x = some (.ref C)/\ps.length = fl.length + 1
section
variable {X:Cx}
end
end Ow
namespace Ow
open PySem PySem.Spec PyProof.Rows L2
theorem lk_swap {f g:Str} {x y:V} (h:g ≠ f) (z:Str):[(g,y),(f,x)].lookup z = ([f,g].zip [x,y]).lookup z:=by
 show List.lookup z [(g,y),(f,x)] = List.lookup z [(f,x),(g,y)]
 by_cases a:z = g
 ·subst a
  rw [List.lookup_cons_self,List.lookup_cons,beq_eq_false_iff_ne.mpr h]
  exact List.lookup_cons_self.symm
 ·rw [List.lookup_cons,beq_eq_false_iff_ne.mpr a]
  by_cases b:z = f
  ·subst b
   show List.lookup z [(z,x)] = _
   rw [List.lookup_cons_self,List.lookup_cons_self]
  ·show List.lookup z [(f,x)] = List.lookup z [(f,x),(g,y)]
   rw [List.lookup_cons,List.lookup_cons,beq_eq_false_iff_ne.mpr b]
   show none = List.lookup z [(g,y)]
   rw [List.lookup_cons,beq_eq_false_iff_ne.mpr a]
   rfl
end Ow
namespace Ow
open PySem PySem.Spec PyProof.Rows L2
def pM (K:Frag) (j:Nat) (D:Ends) (σ':L2.St):List (Addr × (Addr->Obj->TS))->XK
 | []=>fun _ _ _=>False
 | (C₁,ts) :: r=>fun cls dd H2=>(exmOne K cls (.ref C₁) = some true/\∀ (a:Addr) (oe:Obj),oe.cls = cls->oe.dict = dd->PySem.W.notCls oe = true->H2 a = none->ts a oe (endsK j D) (σ'.set j (some (.ref a))) H2)\/(exmOne K cls (.ref C₁) = some false/\pM K j D σ' r cls dd H2)
inductive HsOk (X:Cx) (n:Str):List ExceptHandler->List (Addr × (Addr->Obj->TS))->Prop where
 | nil {hs:List ExceptHandler}:HsOk X n hs []
 | cons {c:Str} {C₁:Addr} {b₀:Stmt} {suite:List Stmt} {ts:Addr->Obj->TS} {np hpos:Pos} {hs:List ExceptHandler} {l:List (Addr × (Addr->Obj->TS))} (hgc:Gl X c) (hmc:X.mg c = some (.ref C₁)) (hb:∀ (a:Addr) (oe:Obj),Ctx0 oe->PSs (iL X a oe) (b₀ :: suite) (ts a oe)) (r:HsOk X n hs l) (hdc:(c == ("__debug__":Str)) = false:=by decide) :
   HsOk X n (.ExceptHandler (some (.Name c np)) (some n) (b₀ :: suite) hpos :: hs) ((C₁,ts) :: l)
section
variable {X:Cx} {j:Nat} {n:Str}
theorem handL {pins:List (Addr × Obj)} {σ:L2.St} {D:Ends} {H2:Hp} {B h5:Heap} {s1 s':Shared} {a:Addr} {a0 cls:Value} {dd:Option Addr} (I:Inv X pins σ H2 { s' with heap:=h5 }) (hst:X.stack = X.env :: X.outer) (hfr:X.env.frame = some X.env.locals) (hN:X.N.Nodup) (hj:X.N[j]? = some n) (hnl:X.env.scope.names.lookup n = some .local) (hno:X.xe = fun _ _=>False)
  (inv:∀ (hh:Heap) (sx:Shared),sx.heap = hh->sx.os = s1.os->AllBare sx.gens->B.StaysIn hh->Slots (frs (X.env :: X.outer)) s1.heap hh->Inv X pins σ H2 sx) (hos:s'.os = s1.os) (hba:AllBare s'.gens) (noT:∀ hh:Heap,Heap.FlyingW B (X.env :: X.outer) a cls a0 hh->a ≠ X.env.locals/\a ∉ X.fs) (fl5:Heap.FlyingW B (X.env :: X.outer) a cls a0 h5) (D5:OwnD true h5 a dd) (sl5:Slots (frs (X.env :: X.outer)) s1.heap h5) (ha0:H2 a = none) :
  ∀ {hs:List ExceptHandler} {l:List (Addr × (Addr->Obj->TS))},HsOk X n hs l->pM X.K j D σ l cls dd H2->wpAny (model X.prog X.w) X.A (handleBy (.ref a) X.env hs) (SP X pins D) X.xe { s' with heap:=h5 }
 | _,_,.nil,z=>z.elim
 | _,_,.cons (c:=c) (C₁:=C₁) (ts:=tb) hgc hmc hb r hdc,z=>by
  obtain ⟨o5,ob5,oc5⟩:=fl5.there
  obtain ⟨_,w5,ob5',_,od5,_⟩:=fl5.first
  have I5c:Inv (iL X a o5) pins σ H2 { s' with heap:=h5 }:=jz I ob5 ha0 (noT h5 fl5).1 (noT h5 fl5).2 (fun v z=>by
   rw [ob5] at ob5'
   cases ob5'
   rw [od5] at z
   cases z)
  refine wpAny_handleBy_cons (codeAny_handlers_test (dW I5c hgc hmc ?_ hdc)) (by intro z; cases z)
  have LT:PySem.W.Looks (model X.prog X.w) h5 (typeOf (.ref a)) cls:=oc5 ▸ (PySem.W.Looks.ld ob5).andThen .now
  rcases z with ⟨hm,hsu⟩ | ⟨hm,z⟩
  ·refine (PySem.W.exm_one (K:=X.K) I.kIn LT hm).here ?_
   refine codeAny_handlers_suite_as ?_
   refine eO (s:={ s' with heap:=h5 }) fl5.1 fl5.2.1 fl5.2.2.1 fl5.2.2.2 D5 fun h6 fl6 D6 up6=>?_
   have I6:Inv X pins σ H2 { s' with heap:=h6 }:=inv h6 _ rfl hos hba fl6.1 (sl5.on fl5.2.2.1 up6)
   obtain ⟨o6,w6,ob6,oc6,od6,_⟩:=fl6.first
   obtain ⟨dd6,cc6⟩:o6.dict = dd/\Ctx0 o6:=by
    obtain ⟨o7,e7,d7,c7⟩:=D6
    rw [ob6] at e7
    cases e7
    exact ⟨d7,c7 rfl⟩
   have I6c:Inv (iL X a o6) pins σ H2 { s' with heap:=h6 }:=jz I6 ob6 ha0 (noT h6 fl6).1 (noT h6 fl6).2 (fun v z=>by rw [od6] at z; cases z)
   refine gh (X:=iL X a o6) I6c hN hj (.inl hnl) (v:=.ref a) rfl (fun s7 I7=>?_) (.inr hnl)
   refine wpAny_mono (hb a o6 cc6 pins s7 _ H2 _ I7 (hsu a o6 oc6 dd6 (by unfold PySem.W.notCls; rw [od6]) ha0)) (fun fw s8 q8=>?_) fun ex s8 q8=>?_
   ·cases fw with
    | ret u =>
     obtain ⟨v,σ8,H8,I8,r8,q8⟩:=q8
     obtain ⟨m8,n8,_⟩:=I8.loc
     refine wpAny_nameGoes (env:=X.env) hnl n8 (by rw [I.ok.kind]; rfl) fun h9 m9 n9 sb=>?_
     exact ⟨v,_,H8,qc I8 I.ok n9 sb,r8,q8⟩
    | next =>
     obtain ⟨σ8,H8,I8,q8⟩:=q8
     obtain ⟨m8,n8,l8⟩:=I8.loc
     refine wpAny_nameGoes_keeps (env:=X.env) hnl n8 (by rw [I.ok.kind]; rfl) fun h9 v9 n9 sb=>?_
     exact ⟨_,H8,oG I8 I.ok hN hj l8 n9 sb,q8⟩
    | brk=>obtain ⟨_,_,_,z⟩:=q8; exact False.elim z
    | cont=>obtain ⟨_,_,_,z⟩:=q8; exact False.elim z
   ·have z:X.xe ex s8:=q8
    rw [hno] at z
    exact False.elim z
  ·refine (PySem.W.exm_one (K:=X.K) I.kIn LT hm).here ?_
   exact handL I hst hfr hN hj hnl hno inv hos hba noT fl5 D5 sl5 ha0 r z
theorem landL {pins:List (Addr × Obj)} {σ:L2.St} {H1:Hp} {s1 s':Shared} {D:Ends} {ev:Value} {hs:List ExceptHandler} {l:List (Addr × (Addr->Obj->TS))} (I:Inv X pins σ H1 s1) (hq:CX2c true X.prog X.w X.base X.stack H1 s1 (pM X.K j D σ l) ev s') (hst:X.stack = X.env :: X.outer) (hfr:X.env.frame = some X.env.locals)
  (hN:X.N.Nodup) (hj:X.N[j]? = some n) (hnl:X.env.scope.names.lookup n = some .local) (hok:HsOk X n hs l) (hno:X.xe = fun _ _=>False) :
  wpAny (model X.prog X.w) X.A (noteFrame ev X.env) (fun _ s₂=>wpAny (model X.prog X.w) X.A (setFlight ev none) (fun _ s₃=>wpAny (model X.prog X.w) X.A (handleBy ev X.env hs) (SP X pins D) X.xe s₃) X.xe s₂) X.xe s':=by
 obtain ⟨a,cls,a0,B,H2,dd,rfl,hos,hba,G,sl,fl,ha0,D0,hw⟩:=hq
 have frm:X.A.frames = some (X.env :: X.outer):=hst ▸ I.ok.frames
 rw [hst] at fl
 have sl':Slots (frs (X.env :: X.outer)) s1.heap s'.heap:=hst ▸ sl
 refine nq frm hfr fl D0 fun h4 hd4 D4 up4=>?_
 refine eO hd4.1 hd4.2.1 hd4.2.2.1 hd4.2.2.2 D4 fun h5 fl5 D5 up5=>?_
 have sl5:=(sl'.on fl.2.2.1 up4).on hd4.2.2.1 up5
 have inv:∀ (hh:Heap) (sx:Shared),sx.heap = hh->sx.os = s1.os->AllBare sx.gens->B.StaysIn hh->Slots (frs (X.env :: X.outer)) s1.heap hh->Inv X pins σ H2 sx:=fun hh sx e1 e2 e3 e4 e5=>by
  refine I.call' (ch:=[]) e2 ?_ ?_ e3 fun b z=>nomatch z
  ·rw [e1]; exact G.un e4 (hst ▸ e5)
  ·rw [e1]; exact G.hok.kept e4
 have I5:Inv X pins σ H2 { s' with heap:=h5 }:=inv h5 _ rfl hos hba fl5.1 sl5
 have noT:∀ hh:Heap,Heap.FlyingW B (X.env :: X.outer) a cls a0 hh->a ≠ X.env.locals/\a ∉ X.fs:=fun hh flx=>by
  obtain ⟨oe,ws,e1,_,e2,_⟩:=flx.first
  have key:∀ b ∈ frs (X.env :: X.outer),a ≠ b:=fun b hb z=>by
   obtain ⟨_,o,e3,d⟩:=flx.2.2.1.mem hb
   rw [<- z,e1] at e3
   cases e3
   exact d _ e2
  have mL:X.env.locals ∈ frs (X.env :: X.outer):=List.mem_filterMap.mpr ⟨X.env,List.mem_cons_self ..,hfr⟩
  refine ⟨key _ mL,fun z=>key a ?_ rfl⟩
  obtain ⟨en,he,hf⟩:=List.mem_filterMap.mp z
  exact List.mem_filterMap.mpr ⟨en,List.mem_cons_of_mem _ he,hf⟩
 exact handL I5 hst hfr hN hj hnl hno inv hos hba noT fl5 D5 sl5 ha0 hok hw
end
def tTryL (K:Frag) (j:Nat) (l:List (Addr × (Addr->Obj->TS))) (tb:(L2.St->XK)->TS):TS:=fun D σ H=>tb (fun σ'=>pM K j D σ' l) D σ H
theorem ps_tryYL {X:Cx} {j:Nat} {n:Str} {h₀:ExceptHandler} {hs:List ExceptHandler} {l:List (Addr × (Addr->Obj->TS))} {body:List Stmt} {tb:(L2.St->XK)->TS} {tpos:Pos} (hbd:∀ pins E,PSs (tryCy X pins E) body (tb E)) (hN:X.N.Nodup)
  (hj:X.N[j]? = some n) (hnl:X.env.scope.names.lookup n = some .local) (hok:HsOk X n (h₀ :: hs) l) (hno:X.xe = fun _ _=>False:=by rfl) (hst:X.stack = X.env :: X.outer:=by rfl) (hfr:X.env.frame = some X.env.locals:=by rfl):PS X (.Try body (h₀ :: hs) [] [] tpos) (tTryL X.K j l tb):=by
 intro pins s σ H D I ht
 refine wpAny_Try_except (wpAny_mono (hbd pins (fun σ'=>pM X.K j D σ' l) [] s σ H D ((qB I).wish _) ht) (fun fl s1 q=>?_) fun ev s1 q=>?_)
 ·cases fl with
  | next=>obtain ⟨σ',H',I',q⟩:=q; exact wpAny_execs_nil ⟨σ',H',dU I.ok I'.unwish,q⟩
  | brk=>obtain ⟨σ',H',I',q⟩:=q; exact ⟨σ',H',dU I.ok I'.unwish,q⟩
  | cont=>obtain ⟨σ',H',I',q⟩:=q; exact ⟨σ',H',dU I.ok I'.unwish,q⟩
  | ret u=>obtain ⟨v,σ',H',I',r,q⟩:=q; exact ⟨v,σ',H',dU I.ok I'.unwish,r,q⟩
 ·obtain ⟨pins2,σ2,H2,s2,I2,hq⟩:=q
  exact landL (dU I.ok I2) hq hst hfr hN hj hnl hok hno
end Ow
namespace Ow
open PySem PySem.Spec PyProof.Rows L2
theorem iB {K:Frag} {C D:Addr} (h1:isClsIn K D = true) (h2:typeIn K (.ref D) = some (.type "type")) (h3:mroIn K C (.ref D) = some false) (h4:mroIn K D (.type "BaseException") = some true):exmOne K (.ref C) (.ref D) = some false:=by
 unfold exmOne
 have e:PySem.W.subIn K (.ref D) (.type "BaseException") = some true:=h4
 rw [e,if_pos (by rw [beq_self_eq_true])]
 exact qr h1 h2 h3
end Ow
namespace Ow
open PySem PySem.Spec PyProof.Rows L2
section
variable {X:Cx} {st:Stmt} {rest body:List Stmt} {t u tb:TS} {e:Expr} {es:List Expr} {te:TE} {ta:TA} {pos:Pos}
end
end Ow
namespace Ow
open PySem PySem.Spec PyProof.Rows L2
theorem comp_str {z:Str} {D:Addr} {te':TE} {tl:L2.St} {G:Hp->Prop} {H1:Hp} (Pv:Nat->Hp->Prop) (h0:Pv 0 (upd H1 D (.lst [])))
  (hs:∀ i c H,z.cps[i]? = some c->Pv i H->te' (some (.str ⟨#[c]⟩) :: tl) H fun y H2=>∃ ys,H2 D = some (.lst ys)/\ys.length < sizeLine/\∃ m',m' < z.cps.size - i/\(m' = z.cps.size - (i + 1)/\i + 1<=z.cps.size/\Pv (i + 1) (upd H2 D (.lst (ys ++ [y])))))
  (hd:∀ H,Pv z.cps.size H->G H) :
  ∃ W:Nat->Nat->Hp->Prop,(∃ m,W 0 m (upd H1 D (.lst [])))/\∀ i m H,W i m H ->
   ((Its z).stop i H/\G H)\/((Its z).go i H/\∀ x H',(Its z).yld i H x H'->te' (some x :: tl) H' fun y H2=>∃ ys,H2 D = some (.lst ys)/\ys.length < sizeLine/\∃ m',m' < m/\W (i + 1) m' (upd H2 D (.lst (ys ++ [y])))):=by
 refine ⟨fun i m H=>m = z.cps.size - i/\i<=z.cps.size/\Pv i H,⟨z.cps.size,by simp,Nat.zero_le _,h0⟩,?_⟩
 rintro i m H ⟨rfl,hi,p⟩
 by_cases hlt:i < z.cps.size
 ·refine .inr ⟨hlt,fun x H' y=>?_⟩
  obtain ⟨e,c,hc,ex⟩:=y
  subst e ex
  exact hs i c _ hc p
 ·have e:i = z.cps.size:=by omega
  subst e
  exact .inl ⟨Nat.le_refl _,hd H p⟩
theorem pe_globS {X:Cx} {x v:Str} {pos:Pos} (hg:Gl X x) (hm:∃ t,X.mg x = some (.str v t)) (hd:(x == ("__debug__":Str)) = false:=by decide):PE X (.Name x pos) (tC (.str v)):=by
 obtain ⟨t,h⟩:=hm
 exact mj (v:=.str v) hg h ⟨t,rfl⟩ hd
end Ow
namespace Ow
open PySem PySem.Spec PyProof.Rows L2
section
variable {X:Cx}
end
end Ow
namespace Ow
open PySem PySem.Spec PyProof.Rows L2
theorem gg {X:Cx} {x:Str} {v:Int} {pos:Pos} (hg:Gl X x) (hm:∃ t,X.mg x = some (.int v t)) (hd:(x == ("__debug__":Str)) = false:=by decide):PE X (.Name x pos) (tC (.int v)):=by
 obtain ⟨t,h⟩:=hm
 exact mj (v:=.int v) hg h ⟨t,rfl⟩ hd
def tDead:TE:=fun _ _ _=>False
theorem pe_dead {X:Cx} {e:Expr}:PE X e tDead:=fun _ _ _ _ _ _ h=>h.elim
end Ow
namespace Ow
open PySem PySem.Spec PyProof.Rows L2
end Ow
namespace Ow
open PySem PySem.Spec PyProof.Rows L2
section
variable {X:Cx}
theorem oW:MtM X "str.startswith" (fun x vs H Q=>∃ z y:Str,x = .str z/\vs = [.str y]/\Q (.bl (Txt.startswith z y)) H):=by
 intro pins s σ H x vs v us Q I rx rv h
 obtain ⟨z,y,rfl,rfl,q⟩:=h
 obtain ⟨t,rfl⟩:=rx
 obtain ⟨u,rfl,t2,rfl⟩:=rv.one
 exact SC.startswith ⟨.bl _,H,I,rfl,q⟩
theorem mt_find:MtM X "str.find" (fun x vs H Q=>∃ z y:Str,x = .str z/\vs = [.str y]/\Q (.int (Txt.find z y)) H):=by
 intro pins s σ H x vs v us Q I rx rv h
 obtain ⟨z,y,rfl,rfl,q⟩:=h
 obtain ⟨t,rfl⟩:=rx
 obtain ⟨u,rfl,t2,rfl⟩:=rv.one
 exact SC.find ⟨.int _,H,I.tok _,⟨_,rfl⟩,q⟩
theorem mt_part:MtM X "str.partition" (fun x vs H Q=>∃ z y:Str,x = .str z/\vs = [.str y]/\(y.length == 0) = false/\z.length<=sizeLine/\∀ t,H t = none->Q (.ref t) (upd H t (.tup [.str (Txt.partition z y).1,.str (Txt.partition z y).2.1,.str (Txt.partition z y).2.2]))):=by
 intro pins s σ H x vs v us Q I rx rv h
 obtain ⟨z,y,rfl,rfl,hy,hz,q⟩:=h
 obtain ⟨t,rfl⟩:=rx
 obtain ⟨u,rfl,t2,rfl⟩:=rv.one
 have key:∀ (p1 p2 p3:Str) (ta tb tc k:Nat),(∀ a,H a = none->Q (.ref a) (upd H a (.tup [.str p1,.str p2,.str p3])))->EP X pins σ Q (.ref s.heap.objs.size) { s with heap:=s.heap.push { cls:=.type "tuple",data:=.seq [.str p1 ta,.str p2 tb,.str p3 tc].toArray },toks:=k }:=fun p1 p2 p3 ta tb tc k q =>
  ⟨.ref s.heap.objs.size,_,I.laid (a:=s.heap.objs.size) (o:=.tup [.str p1,.str p2,.str p3]) (t':=k) (fun b o e=>Heap.get?_push_of_some _ e) (Nat.le_refl _) ⟨by show 3<=sizeLine; decide,_,.cons ⟨_,rfl⟩ (.cons ⟨_,rfl⟩ (.cons ⟨_,rfl⟩ .nil)),_,Heap.get?_push_size _ rfl,rfl,_,rfl⟩,rfl,q _ (I.hok.fresh (Nat.le_refl _))⟩
 refine call_meets PySem.F.slot_str_partition (typeIs_str _ _ _) PySem.F.entry_str_partition (PySem.F.args_str_partition_2 _ _) (meets_str_partition z y t t2 hy hz) ?_
 revert q
 unfold Txt.partition
 cases Builtin.Str.occurrences z y 0 z.length 1 with
 | nil=>intro q; exact key _ _ _ _ _ _ _ q
 | cons i r=>intro q; exact key _ _ _ _ _ _ _ q
theorem eK:gq X (.type "str") (fun xs H Q=>∃ i:Int,xs = [.int i]/\-1000000000000000000<=i/\i<=1000000000000000000/\Q (.str (Str.ofString (toString i))) H):=by
 intro pins s σ H xs us Q I r h
 obtain ⟨i,rfl,i0,i1,q⟩:=h
 obtain ⟨u,rfl,t,rfl⟩:=kH r
 exact str_of_int_fit (N:=4611686018427387904) (by split <;> omega) (by omega) fun _=>⟨.str _,H,I.tok _,⟨_,rfl⟩,q⟩
def tTxt (te:TE):TT:=fun σ H Q=>te σ H fun x H1=>∃ z:Str,x = .str z/\z.length<=sizeLine/\Q (decide (z.length ≠ 0)) H1
theorem pt_txt {e:Expr} {t:TE} (h:PE X e t) (he:∀ whole,isTrue e X.env whole = (do let v <- whole; standAt e.pos; holding [v] (truthy v)):=by intro _; rfl):PT X e (tTxt t):=by
 intro pins s σ H Q I hw
 refine isTrue_plain (thn (h pins s σ H _ I hw) fun v s1 ⟨x,H1,I1,r1,q1⟩=>?_) (he _)
 obtain ⟨z,rfl,hz,q⟩:=q1
 obtain ⟨t',rfl⟩:=r1
 refine P.truthy_str (by have:=sizeLine_eq; omega) ⟨H1,I1.kept (t':=_) (fun b u e=>e),?_⟩
 have e:((z.length:Int) != 0) = decide (z.length ≠ 0):=by
  by_cases c:z.length = 0
  ·rw [c]; rfl
  ·rw [decide_eq_true c,bne_iff_ne]; omega
 rw [e]
 exact q
end
end Ow
namespace Ow
open PySem PySem.Spec PyProof.Rows L2
def FB (K:Frag) (x q:Str) (st:Stmt) (f:Addr):Prop:=∃ (oc kV dc pm cd ct:Value) (od an:Option Addr) (sl:Array (Option Value)),K.lookup f = some ⟨oc,od,.func (fnOf x q (dR st) (cZ st) (ak st) .none kV dc pm an cd ct),sl⟩/\codeIn K cd q = true/\keepIn K (.ref f) = true
theorem FB.of {K:Frag} {x q:Str} {st:Stmt} {f:Addr} {oc kV dc pm cd ct:Value} {od an:Option Addr} {sl:Array (Option Value)} (a:K.lookup f = some ⟨oc,od,.func (fnOf x q (dR st) (cZ st) (ak st) .none kV dc pm an cd ct),sl⟩) (b:codeIn K cd q = true) (c:keepIn K (.ref f) = true):FB K x q st f:=⟨oc,kV,dc,pm,cd,ct,od,an,sl,a,b,c⟩
theorem FB.fn {K:Frag} {x q:Str} {st:Stmt} {f:Addr} (h:FB K x q st f):∃ fd,Fun K x q st f fd/\keepIn K (.ref f) = true:=by
 obtain ⟨oc,kV,dc,pm,cd,ct,od,an,sl,l,c,k⟩:=h
 exact ⟨_,fun_mk (st:=st) l c k,k⟩
end Ow
namespace L2
open PySem PySem.Spec PyProof.Rows
theorem fM:∀ (ys:List Str) (k:Nat),Vals (ys.map V.str) (strsFrom k ys)
 | [],_=>.nil
 | _ :: r,k=>.cons ⟨_,rfl⟩ (fM r (k + 1))
theorem iX {X:Cx}:MtM X "str.split" (fun x vs H Q=>∃ z y:Str,x = .str z/\vs = [.str y]/\y.length ≠ 0/\z.length + 2<=sizeLine/\∀ l,H l = none->Q (.ref l) (upd H l (.lst ((Txt.split z y).map V.str)))):=by
 intro pins s σ H x vs v us Q I rx rv h
 obtain ⟨z,y,rfl,rfl,hy,hz,q⟩:=h
 obtain ⟨t,rfl⟩:=rx
 obtain ⟨u,rfl,ru⟩:=rv.one
 obtain ⟨t',rfl⟩:=ru
 have hy':(y.length == 0) = false:=beq_eq_false_iff_ne.mpr hy
 have lens:(Txt.split z y).length<=z.length + 2:=by
  have:=len_le_of_split (l:=(Txt.split z y).map fun x=>(x,0)) (x:=z) (y:=y) (by rw [List.map_map]; exact List.map_id' _)
  rw [List.length_map] at this
  exact this
 have fin:∀ (ys:List Str) (tk:Nat),ys = Txt.split z y->∀ vals,Vals (ys.map V.str) vals->∃ (x:V) (H':Hp),Inv X pins σ H' { s with heap:=s.heap.push { cls:=Value.type "list",data:=Data.seq vals.toArray },toks:=tk }/\RelV x (.ref s.heap.objs.size)/\Q x H':=by
  intro ys tk e vals rvs
  subst e
  exact ⟨.ref s.heap.objs.size,_,I.laid (t':=tk) (fun b o e=>Heap.get?_push_of_some _ e) (Nat.le_refl _) (show ObjOk X.prog X.w _ _ _ (.lst _) from ⟨by rw [List.length_map]; omega,_,0,rvs,Heap.get?_push_size _ rfl⟩),rfl,q _ (I.hok.fresh (Nat.le_refl _))⟩
 by_cases c1:(decide (z.length < y.length) || decide (Builtin.Str.strKind z < Builtin.Str.strKind y)) = true
 ·refine call_meets F.slot_str_split (typeIs_str s z t) F.entry_str_split (F.args_str_split_2 _ _) (meets_str_split_cannot_occur z y t t' c1) ?_
  exact fin [z] s.toks (by unfold Txt.split; rw [if_pos c1]) [.str z t] (.cons ⟨_,rfl⟩ .nil)
 ·have c1':=Bool.eq_false_iff.mpr c1
  by_cases c2:(Builtin.Str.occurrences z y 0 z.length (z.length + 1)).isEmpty = true
  ·refine call_meets F.slot_str_split (typeIs_str s z t) F.entry_str_split (F.args_str_split_2 _ _) (meets_str_split_not_found z y t t' c1' hy' c2) ?_
   exact fin [z] s.toks (by unfold Txt.split; rw [if_neg c1,if_pos c2]) [.str z t] (.cons ⟨_,rfl⟩ .nil)
  ·have e:Txt.split z y = Builtin.Str.partsBetween z (Builtin.Str.occurrences z y 0 z.length (z.length + 1)) y.length:=by unfold Txt.split; rw [if_neg c1,if_neg c2]
   refine call_meets F.slot_str_split (typeIs_str s z t) F.entry_str_split (F.args_str_split_2 _ _) (meets_str_split_sep z y t t' c1' hy' (Bool.eq_false_iff.mpr c2) (by omega) (by rw [<- e]; omega)) ?_
   exact fin _ _ e.symm _ (fM _ _)
end L2
namespace Ow
open PySem
theorem mK {a b:Str} (h:a.cps.toList = b.cps.toList):a = b:=by
 cases a; cases b
 exact congrArg Str.mk (Array.toList_inj.mp h)
theorem pf {c:Nat}:∀ {p q a b:List Nat},c ∉ p->c ∉ q->p ++ c :: a = q ++ c :: b->p = q/\a = b
 | [],[],_,_,_,_,e=>⟨rfl,by injection e⟩
 | [],y :: q,_,_,_,hq,e=>by injection e with e1 _; exact absurd (by rw [e1]; exact List.mem_cons_self ..) hq
 | x :: p,[],_,_,hp,_,e=>by injection e with e1 _; exact absurd (by rw [<- e1]; exact List.mem_cons_self ..) hp
 | x :: p,y :: q,a,b,hp,hq,e=>by
  injection e with e1 e2
  obtain ⟨h1,h2⟩:=pf (fun z=>hp (List.mem_cons_of_mem _ z)) (fun z=>hq (List.mem_cons_of_mem _ z)) e2
  exact ⟨by rw [e1,h1],h2⟩
theorem cg (s y z:Str) (r:List Str):(s.join (y :: z :: r)).cps.toList = y.cps.toList ++ (s.cps.toList ++ (s.join (z :: r)).cps.toList):=by
 show ((y.cps ++ s.cps) ++ (s.join (z :: r)).cps).toList = _
 simp
theorem mU {c:Nat}:∀ {ps qs:List Str},ps ≠ []->qs ≠ []->(∀ p ∈ ps,c ∉ p.cps.toList)->(∀ p ∈ qs,c ∉ p.cps.toList)->(Str.join ⟨#[c]⟩ ps).cps.toList = (Str.join ⟨#[c]⟩ qs).cps.toList->ps = qs
 | [],_,h,_,_,_,_=>absurd rfl h
 | _,[],_,h,_,_,_=>absurd rfl h
 | [p],[q],_,_,_,_,e=>by rw [mK (show p.cps.toList = q.cps.toList from e)]
 | [p],q :: z :: r,_,_,hp,_,e=>by
  rw [cg] at e
  exact absurd (by rw [show p.cps.toList = _ from e]; simp) (hp p (List.mem_cons_self ..))
 | p :: z :: r,[q],_,_,_,hq,e=>by
  rw [cg] at e
  exact absurd (by rw [<- show _ = q.cps.toList from e]; simp) (hq q (List.mem_cons_self ..))
 | p :: y :: r,q :: z :: t,_,_,hp,hq,e=>by
  rw [cg,cg] at e
  obtain ⟨h1,h2⟩:=pf (hp p (List.mem_cons_self ..)) (hq q (List.mem_cons_self ..)) (show p.cps.toList ++ c :: _ = q.cps.toList ++ c :: _ from e)
  rw [mK h1,mU (by simp) (by simp) (fun w hw=>hp w (List.mem_cons_of_mem _ hw)) (fun w hw=>hq w (List.mem_cons_of_mem _ hw)) h2]
theorem gX {c:Nat} {ps:List Str} (hne:ps ≠ []) (hf:∀ p ∈ ps,c ∉ p.cps.toList):Txt.split (Txt.join ⟨#[c]⟩ ps) ⟨#[c]⟩ = ps:=by
 have e:Txt.join ⟨#[c]⟩ ps = Str.join ⟨#[c]⟩ ps:=PySem.StrLaws.glued_eq_join _ _
 have j:=PySem.StrLaws.join_split (Txt.join ⟨#[c]⟩ ps) ⟨#[c]⟩
 refine mU ?_ hne (fun p hp=>PySem.StrLaws.split_free _ c p hp) hf ?_
 ·have:=PyProof.Rows.split_pos (Txt.join ⟨#[c]⟩ ps) ⟨#[c]⟩
  intro z
  rw [z] at this
  cases this
 ·rw [j,e]
end Ow
namespace L2
open PySem PySem.Spec PyProof.Rows Ow
def rEqLS (K:Frag) (neg:Bool):R2:=fun x y H Q=>∃ (p q:Addr) (as bs:List Str),x = .ref p/\y = .ref q/\SqL K H p (as.map V.str)/\SqL K H q (bs.map V.str)/\Q (.bl (if neg then !decide (as = bs) else decide (as = bs))) H
theorem lI (as:List Str) (j:Nat) (h:j < as.length):gM ((as.map V.str).getD j .non) = true:=by
 rw [List.getD_eq_getElem?_getD,List.getElem?_map,List.getElem?_eq_getElem h]; rfl
theorem eq_strs {as bs:List Str} (h:as.length = bs.length):(List.range (as.map V.str).length).all (fun j=>eqV ((as.map V.str).getD j .non) ((bs.map V.str).getD j .non)) = decide (as = bs):=by
 rw [List.length_map]
 by_cases e:as = bs
 ·subst e
  rw [decide_eq_true rfl,List.all_eq_true]
  intro j hj
  have hj:=List.mem_range.mp hj
  rw [List.getD_eq_getElem?_getD,List.getElem?_map,List.getElem?_eq_getElem hj]
  simp [eqV]
 ·rw [decide_eq_false e]
  refine Bool.eq_false_iff.mpr fun z=>e (List.ext_getElem h fun j h1 h2=>?_)
  have:=List.all_eq_true.mp z j (List.mem_range.mpr h1)
  rw [List.getD_eq_getElem?_getD,List.getD_eq_getElem?_getD,List.getElem?_map,List.getElem?_map,List.getElem?_eq_getElem h1,List.getElem?_eq_getElem h2] at this
  simpa [eqV] using this
theorem mC {X:Cx} (hu:X.A.units < cLine):OpR X (compareOp .Eq) (rEqLS X.K false):=by
 intro pins s σ H x y v u Q I rx ry h
 obtain ⟨p,q,as,bs,rfl,rfl,hp,hq,k⟩:=h
 cases rx
 cases ry
 obtain ⟨its,r,pl,_⟩:=I.list hp
 obtain ⟨its2,r2,pl2,_⟩:=I.list hq
 have hl:=r.length
 have hl2:=r2.length
 by_cases hle:as.length = bs.length
 ·refine SeqAt.eq_listAt (e:=fun j=>eqV ((as.map V.str).getD j .non) ((bs.map V.str).getD j .non)) pl.isList pl2.isList (by simp only [List.size_toArray]; rw [List.length_map] at hl hl2; omega) hu (fun j h1 h2=>?_) ⟨.bl _,H,I,rfl,?_⟩
  ·have h1':j < its.length:=by simpa using h1
   have h2':j < its2.length:=by simpa using h2
   rw [List.length_map] at hl hl2
   have z:=qo (A:=X.A.in1) (s:=s) (de r h1') (de r2 h2') (lI as j (by omega)) (lI bs j (by omega))
   simpa using z
  ·simp only [List.size_toArray,<- hl]
   rw [eq_strs hle]
   exact k
 ·refine SeqAt.eq_list_lengthsAt pl.isList pl2.isList (by simp only [List.size_toArray]; rw [List.length_map] at hl hl2; exact bne_iff_ne.mpr (by omega)) hu ⟨.bl _,H,I,rfl,?_⟩
  have e:decide (as = bs) = false:=decide_eq_false fun z=>hle (by rw [z])
  rw [if_neg Bool.false_ne_true,e] at k
  exact k
end L2
namespace L2
open PySem PySem.Spec PyProof.Rows
theorem Inv.retell {X:Cx} {pins:List (Addr × Obj)} {σ:St} {H:Hp} {s:Shared} {a:Addr} {φ:Heap->Prop} {o:HO} (I:Inv X pins σ H s) (ha:H a = some (.ext φ)) (new:ObjOk X.prog X.w (upd H a o) s.heap a o):Inv X pins σ (upd H a o) s :=
 I.call' (ch:=[]) rfl
  ⟨fun _ _ q _ _ _=>q,fun _ u q _ _ _=>⟨u.slots,q⟩,fun b _ _ n _=>by rw [ai (fun z=>by rw [z,ha] at n; cases n)]; exact n,fun _ u q _=>⟨u,q⟩,
   fun b xs q=>by rw [ai (fun z=>by rw [z,ha] at q; cases q)]; exact q,fun b u xs q=>by rw [ai (fun z=>by rw [z,ha] at q; cases q)]; exact q,
   fun b ps q=>⟨#[],by rw [ai (fun z=>by rw [z,ha] at q; cases q),q]; simp⟩⟩
  (fun b u e=>by
   by_cases hb:b = a
   ·subst hb; rw [ac] at e; cases e; exact new
   ·rw [ai hb] at e
    exact (I.hok b u e).stay (fun c v _ q=>q) (fun c q=>by rw [ai (fun z=>by rw [z,ha] at q; cases q)]; exact q) fun c xs q=>by rw [ai (fun z=>by rw [z,ha] at q; cases q)]; exact q) I.bare fun b z=>nomatch z
end L2
namespace Ow
open PySem PySem.Spec PyProof.Rows L2
section
variable {P:Program} {w:World} {K:Frag} {mg:Str->Option Value} {base:Heap} {N:List Str} {qual:Str} {scope:Scope} {fa:Addr} {cdv:Value} {A:Around} {outer:List Env} {s₀:Shared} {H₀:Hp} {E:XK}
def tRaiseN (C:Addr) (fl:List Str) (E:XK) (ta:TA):TS:=fun _ σ H=>ta σ H fun vs H1=>vs.length = fl.length/\vs.length<=100/\∀ d,H1 d = none->E (.ref C) (some d) (upd H1 d (.xd (fl.zip vs)))
theorem kO {k:Nat} {x:Str} {C:Addr} {ps fl:List Str} {np cpos pos:Pos} {e1:Expr} {es:List Expr} {ta:TA} (h:XMk P w K mg base k x C ps fl) (hr:Room (k + 1) (dM (CX2 P w base) P w K mg base N qual scope fa cdv A outer s₀ H₀ E).A) (hg:Gl (dM (CX2 P w base) P w K mg base N qual scope fa cdv A outer s₀ H₀ E) x)
  (ha:PA (dM (CX2 P w base) P w K mg base N qual scope fa cdv A outer s₀ H₀ E) (e1 :: es) ta) (hdb:(x == ("__debug__":Str)) = false:=by decide)
  (hst:starEach (e1 :: es) (dM (CX2 P w base) P w K mg base N qual scope fa cdv A outer s₀ H₀ E).env = (false,eval e1 (dM (CX2 P w base) P w K mg base N qual scope fa cdv A outer s₀ H₀ E).env) :: starEach es (dM (CX2 P w base) P w K mg base N qual scope fa cdv A outer s₀ H₀ E).env:=by rfl)
  (hpl:(backTo cpos (starEach es (dM (CX2 P w base) P w K mg base N qual scope fa cdv A outer s₀ H₀ E).env)).any (·.1) = false:=by rfl) :
  PS (dM (CX2 P w base) P w K mg base N qual scope fa cdv A outer s₀ H₀ E) (.Raise (some (.Call (.Name x np) (e1 :: es) [] cpos)) none pos) (tRaiseN C fl E ta):=by
 intro pins s σ H D I ht
 obtain ⟨fI,fd,F,hb,c,hm,hps⟩:=h.ex
 obtain ⟨bm,N',nm,qn,bs,sn,sub,ab,col,dd,k0,k1,k2,k3,k5,mN,gC,gN,gi,T⟩:=kU I.ok.mod.kin c.ef
 rw [arm_exec_Raise]
 refine wpAny_bind (wpAny_standAt (ju (C:=C) (nm:=nm) (qn:=qn) (N:=N') (bs:=bs) (bm:=bm) (hdc:=true) (sn:=sn) (sub:=sub) (ab:=ab) (col:=col) (dd:=dd) (k0:=k0) (k1:=k1) (k2:=k2) (k3:=k3) (k5:=k5) (nid:="ValueError.__new__")
  (T.hasType PySem.F.excBase_ValueError.hasBase) (I.ok.hd rfl) (wpAny_bind (wpAny_mono (Q:=fun v s1=>∃ (e t:Addr) (od:Option Addr),v = .ref e/\s1.heap.get? C = some (excClassObj nm qn C N' bs bm true sn sub ab col dd k0 k1 k2 k3 k5 "ValueError.__new__")/\s1.heap.get? e = some ⟨.ref C,od,.fields (exF t),#[]⟩/\(dM (CX2 P w base) P w K mg base N qual scope fa cdv A outer s₀ H₀ E).xe (.ref e) s1) ?_ (fun v s3 h3=>wpAny_bind (wpAny_standAt (wpAny_pure h3))) fun _ _ z=>z))))
 refine wpAny_Call_Name_kw (dW I hg hm ?_ hdb)
 refine PySem.W.callWith_K (h₀:=base) I.ok.mod.kin c.kp (thn (ha cpos pins s σ H _ I ht) fun us s1 ⟨vs,H1,I1,r1,hl,hz,q1⟩=>⟨I1.kIn,?_⟩) hst hpl
 have st1:=I1.bk
 obtain ⟨oI,gf,cf⟩:∃ oI,s1.heap.get? fI = some oI/\oI.cls = .type "function":=by
  obtain ⟨oI,e1,e2⟩:=Option.map_eq_some_iff.mp c.fn
  exact ⟨oI,I1.kIn _ _ e1,e2⟩
 obtain ⟨hh,g,dr,tk,os⟩:=s1
 have ge:((hh.push (exTN us)).push { cls:=.ref C,data:=.fields (exF hh.objs.size) }).get? (hh.objs.size + 1) = some { cls:=.ref C,data:=.fields (exF hh.objs.size) }:=by
  have z:=Heap.get?_push_size (hh.push (exTN us)) (o:={ cls:=.ref C,data:=.fields (exF hh.objs.size) }) rfl
  rwa [Heap.size_push] at z
 have He:H1 (hh.objs.size + 1) = none:=I1.hok.fresh (Nat.le_succ _)
 have I2:=I1.laid (a:=hh.objs.size + 1) (o:=xO (hh.objs.size + 1) C hh.objs.size none) (h':=(hh.push (exTN us)).push { cls:=.ref C,data:=.fields (exF hh.objs.size) }) (t':=tk) (fun b o q=>Heap.get?_push_of_some _ (Heap.get?_push_of_some _ q)) (Nat.le_succ _) (xO_ok ge)
 have lus:us.length = fl.length:=by rw [<- r1.length]; exact hl
 have bd:=hb _ (.ref (hh.objs.size + 1) :: us) I2.kIn (by rw [List.append_nil,List.length_cons,lus,hps])
 rw [List.append_nil] at bd
 refine pO (us:=us) (T.keeps st1) (st1 _ _ gC) (gN.keeps st1) gi gf cf (by rw [sizeLine_eq]; have:=r1.length; omega) (wpAny_call (codeAny_mono (F.run _ (dM (CX2 P w base) P w K mg base N qual scope fa cdv A outer s₀ H₀ E).stack _ _ ⟨.ref (hh.objs.size + 1) :: us,[]⟩ (.ref (hh.objs.size + 1) :: us) (.ref (hh.objs.size + 1) :: vs)
  (fun y H3=>y = .non/\∃ d fs,H1 d = none/\d ≠ hh.objs.size + 1/\H3 d = some (xW d fs)/\(∀ g,fs.lookup g = (fl.zip vs).lookup g)/\H3 (hh.objs.size + 1) = some (xO (hh.objs.size + 1) C hh.objs.size (some d))/\∀ b,b ≠ d->b ≠ hh.objs.size + 1->H3 b = H1 b) E0 (hr.make C us [])
  (I2.env0.make C us []) bd (.cons rfl r1) ⟨_,_,vs,rfl,hl,ac ..,fun d fs H' hd ne h1 h2 h3 h4=>⟨rfl,d,fs,by rw [ai ne] at hd; exact hd,ne,h1,h2,h3,fun b b1 b2=>by rw [h4 b b1 b2,ai b2]⟩⟩) fun r s' hq=>?_))
 cases r with
 | error e=>exact False.elim hq
 | ok fl' =>
  cases fl' with
  | ret u' =>
   obtain ⟨y,H3,I3,ry,rfl,d,fs,hd,ne,h1,h2,h3,h4⟩:=I2.after hq
   obtain ⟨mA,n1,rel,_⟩:=(I3.hok d _ h1).1
   have I4:=I3.retell (o:=.xd (fl.zip vs)) h1 ⟨mA,n1,fun g=>by rw [<- h2 g]; exact rel g⟩
   have he4:upd H3 d (.xd (fl.zip vs)) (hh.objs.size + 1) = some (xO (hh.objs.size + 1) C hh.objs.size (some d)):=by rw [ai (Ne.symm ne)]; exact h3
   refine ⟨ry,hh.objs.size + 1,hh.objs.size,some d,rfl,I3.bk _ _ gC,(I3.hok _ _ h3).1,?_⟩
   refine jt I4 he4 ?_ ?_
   ·refine Heap.get?_none_of_le (Nat.le_trans I1.sz (Nat.le_succ _))
   ·have e3:drop (upd H3 d (.xd (fl.zip vs))) (hh.objs.size + 1) = upd H1 d (.xd (fl.zip vs)):=by
     funext b
     by_cases hb:b = hh.objs.size + 1
     ·rw [hb,eA,ai (Ne.symm ne),He]
     ·rw [ix hb]
      by_cases hbd:b = d
      ·rw [hbd,ac,ac]
      ·rw [ai hbd,ai hbd,h4 b hbd hb]
    rw [e3]
    exact q1 d hd
  | next=>exact False.elim hq
  | brk=>exact False.elim hq
  | cont=>exact False.elim hq
end
end Ow
namespace L2
open PySem PySem.Spec PyProof.Rows
theorem oN {X:Cx}:gq X (.builtin "len") (fun xs H Q=>∃ a kvs,xs = [V.ref a]/\H a = some (.dK kvs)/\Q (.int kvs.length) H):=by
 intro pins s σ H xs us Q I r ⟨a,kvs,ex,ha,q⟩
 subst ex
 obtain ⟨u,rfl,ru⟩:=r.one
 cases (show u = Value.ref a from ru)
 exact d_len I (.inl ha) fun t s' I'=>⟨.int kvs.length,H,I',⟨t,rfl⟩,q⟩
theorem nS {X:Cx} {body:List Stmt} {h₀:ExceptHandler} {hs:List ExceptHandler} {tpos:Pos} {ts:TS} (hbd:PSs X body ts) (hno:X.xe = fun _ _=>False:=by rfl):PS X (.Try body (h₀ :: hs) [] [] tpos) ts:=by
 intro pins s σ H D I ht
 refine wpAny_Try_except (wpAny_mono (hbd pins s σ H D I ht) (fun fl s1 q=>?_) fun ev s1 q=>?_)
 ·cases fl with
  | next=>obtain ⟨σ',H',I',q⟩:=q; exact wpAny_execs_nil ⟨σ',H',I',q⟩
  | brk=>exact q
  | cont=>exact q
  | ret u=>exact q
 ·rw [hno] at q; exact q.elim
end L2
namespace L2
open PySem PySem.Spec PyProof.Rows
abbrev bW (h:Heap) (z TI TO:Addr) (f0 f1:Value):Prop:=h.get? z = some { cls:=.type "zip",dict:=none,data:=.fields #[f0,f1,.bool false,.ref TI,.ref TO],slots:=#[] }
section
variable {prog:Program} {w:World} {A:Around} {E:Value->Shared->Prop} {s:Shared}
theorem kJ {a:Addr} {h:Heap}:Heap.SameBut a h h:=⟨rfl,fun _ _=>rfl⟩
theorem mq {a:Addr} {Q:Option Obj->Shared->Prop} (h:Q (s.heap.get? a) s):wpAny (model prog w) A (loadIfAlive a) Q E s:=fun _ _ _=>h
theorem gU {z TI TO:Addr} {f0 f1:Value} {Q:Value->Shared->Prop} (hz:bW s.heap z TI TO f0 f1) (h:Q (.ref z) s):wpAny (model prog w) A (pyIter (.ref z)) Q E s:=by
 have hT:s.TypeIs (.ref z) "zip":=⟨_,hz,rfl⟩
 refine wpAny_pyIter_slot hT F.slot_zip_iter (wpAny_call_entry F.slot_zip_iter hT F.entry_zip_iter ?_ (F.args_zip_iter_1 _))
 show wpAny _ _ (ret (.ref z)) _ _ s
 exact wpAny_pure ⟨_,rfl, "zip",_,hT,F.slot_zip_next.lookup,h⟩
theorem jw {z TI TO:Addr} {f0:Value} {b:Bool} {Q:Bool->Shared->Prop} (hf:f0 = .none\/∃ a:Addr,f0 = rawInt a) (hz:bW s.heap z TI TO f0 (.bool b)) (h1:Q true s)
  (h2:∀ h',bW h' z TI TO f0 (.bool true)->Heap.SameBut z s.heap h'->Q false { s with heap:=h' }):wpAny (model prog w) A (Builtin.SmallTypes.ownedTupleIsFree (.ref z)) Q E s:=by
 unfold Builtin.SmallTypes.ownedTupleIsFree
 refine wpAny_bind (wpAny_field hz rfl (x:=f0) rfl ?_)
 rcases hf with rfl | ⟨a,rfl⟩
 ·exact wpAny_pure h1
 ·show wpAny _ _ (loadIfAlive _ >>= _) _ _ s
  refine wpAny_bind (mq ?_)
  cases e:s.heap.get? (Int.toNat (a:Int)) with
  | none=>exact wpAny_pure h1
  | some o =>
   show wpAny _ _ (field (.ref z) 1 >>= _) _ _ s
   refine wpAny_bind (wpAny_field hz rfl (x:=.bool b) rfl ?_)
   cases b with
   | true=>exact wpAny_pure (h2 s.heap hz kJ)
   | false=>exact wpAny_bind (wpAny_setField_rec hz (by simp) fun h' z' sb=>wpAny_pure (h2 h' z' sb))
theorem o8 {z TI TO i1 i2 l1 l2:Addr} {k:Nat} {xs ys:Array Value} {x y a b f0:Value} {f1:Bool} {Q:Value->Shared->Prop} (D:ZipApart z TI TO i1 i2 l1 l2) (hf:f0 = .none\/∃ a:Addr,f0 = rawInt a)
  (hz:bW s.heap z TI TO f0 (.bool f1)) (hTI:IsPair s.heap TI (.ref i1) (.ref i2)) (hTO:IsPair s.heap TO a b) (h1:s.heap.IsTupleIter i1 l1 k) (h2:s.heap.IsListIter i2 l2 k) (t1:s.heap.IsTuple l1 xs) (t2:s.heap.IsList l2 ys) (hx:xs[k]? = some x) (hy:ys[k]? = some y)
  (hQ:∀ h' g0 g1,(g0 = .none\/∃ a:Addr,g0 = rawInt a)->bW h' z TI TO g0 (.bool g1)->(∃ u v,IsPair h' TO u v)->h'.IsTupleIter i1 l1 (k + 1)->h'.IsListIter i2 l2 (k + 1)->IsPair h' s.heap.objs.size x y->h'.objs.size = s.heap.objs.size + 1 ->
   (∀ c o,c ≠ z->c ≠ TO->c ≠ i1->c ≠ i2->s.heap.get? c = some o->h'.get? c = some o)->Q (.ref s.heap.objs.size) { s with heap:=h' }) :
  wpAny (model prog w) A (Builtin.«zip.__next__» ⟨[.ref z],[]⟩) (fun fin s'=>∃ v,fin = .done (.ret v)/\Q v s') E s:=by
 show wpAny _ _ (field (.ref z) 2 >>= _) _ _ _
 refine wpAny_bind (wpAny_field hz rfl (x:=.bool false) rfl ?_)
 show wpAny _ _ (field (.ref z) 3 >>= _) _ _ _
 refine wpAny_bind (wpAny_field hz rfl (x:=.ref TI) rfl (wpAny_bind (wpAny_seqItems hTI rfl ?_)))
 show wpAny _ _ (Builtin.SmallTypes.ownedTupleIsFree (.ref z) >>= _) _ _ _
 refine wpAny_bind (jw hf hz ?_ fun g0 z0 b0=>?_)
 ·simp only [if_true]
  refine wpAny_bind (wpAny_rule (wpAny_bind (wpAny_field hz rfl (x:=.ref TO) rfl (wpAny_bind (wpAny_setField_rec hz (by simp) fun g1 z1 b1=>?_)))))
  replace z1:bW g1 z TI TO .ellipsis (.bool f1):=z1
  refine wpAny_bind ?_
  simp only [List.zipIdx_cons,List.zipIdx_nil,List.forIn_cons,List.forIn_nil]
  have k1:=b1.extBut
  refine wpAny_bind (wpAny_bind (wpAny_onRaise ?_))
  show wpAny _ _ (Builtin.SmallTypes.nextOf (.ref i1) >>= _) _ _ _
  refine wpAny_bind (jD (h1.extBut k1 D.i1z) (t1.extBut k1 D.l1z) hx fun g2 u2 b2=>wpAny_pure ?_)
  have k2:=b2.extBut
  have o2:IsPair g2 TO a b:=k2 _ _ D.TOi1 (k1 _ _ D.TOz hTO)
  refine wpAny_bind (wpAny_seqItems o2 rfl (wpAny_bind (wpAny_updateSeq_pair o2 fun g3 o3 b3=>wpAny_bind (wpAny_letGo (wpAny_pure ?_)))))
  replace o3:IsPair g3 TO x b:=o3
  have k3:=b3.extBut
  refine wpAny_bind (wpAny_bind (wpAny_onRaise ?_))
  show wpAny _ _ (Builtin.SmallTypes.nextOf (.ref i2) >>= _) _ _ _
  refine wpAny_bind (wpAny_nextOf_list_item (((h2.extBut k1 D.i2z).extBut k2 D.i12.symm).extBut k3 D.TOi2.symm) (((t2.extBut k1 D.l2z).extBut k2 D.l2i1).extBut k3 D.l2TO) hy fun g4 u4 b4=>wpAny_pure ?_)
  have k4:=b4.extBut
  have o4:IsPair g4 TO x b:=k4 _ _ D.TOi2 o3
  refine wpAny_bind (wpAny_seqItems o4 rfl (wpAny_bind (wpAny_updateSeq_pair o4 fun g5 o5 b5=>wpAny_bind (wpAny_letGo (wpAny_pure (wpAny_pure ?_))))))
  replace o5:IsPair g5 TO x y:=o5
  have k5:=b5.extBut
  refine wpAny_bind (wpAny_seqItems o5 rfl (wpAny_bind (wpAny_newTuple ?_)))
  have sz:g5.objs.size = s.heap.objs.size:=by rw [b5.1,b4.1,b3.1,b2.1,b1.1]
  have z5:bW g5 z TI TO .ellipsis (.bool f1):=k5 _ _ D.TOz.symm (k4 _ _ D.i2z.symm (k3 _ _ D.TOz.symm (k2 _ _ D.i1z.symm z1)))
  have all5:∀ c o,c ≠ z->c ≠ TO->c ≠ i1->c ≠ i2->s.heap.get? c = some o->g5.get? c = some o:=fun c o c1 c2 c3 c4 e=>k5 _ _ c2 (k4 _ _ c4 (k3 _ _ c2 (k2 _ _ c3 (k1 _ _ c1 e))))
  have v1:g5.IsTupleIter i1 l1 (k + 1):=((u2.extBut k3 D.TOi1.symm).extBut k4 D.i12).extBut k5 D.TOi1.symm
  have v2:g5.IsListIter i2 l2 (k + 1):=u4.extBut k5 D.TOi2.symm
  have zl:z < g5.objs.size:=Heap.lt_size z5
  show wpAny _ _ (Builtin.SmallTypes.ownedTupleHandOut (.ref z) (.ref g5.objs.size) >>= _) _ _ _
  refine wpAny_bind ?_
  unfold Builtin.SmallTypes.ownedTupleHandOut
  have z6:bW (g5.push { cls:=.type "tuple",data:=.seq #[x,y] }) z TI TO .ellipsis (.bool f1):=Heap.get?_push_of_some _ z5
  refine wpAny_bind (wpAny_setField_rec z6 (by simp) fun g7 z7 b7=>?_)
  replace z7:bW g7 z TI TO (rawInt g5.objs.size) (.bool f1):=z7
  refine wpAny_setField_rec z7 (by simp) fun g8 z8 b8=>?_
  replace z8:bW g8 z TI TO (rawInt g5.objs.size) (.bool false):=z8
  have up:∀ c o,c ≠ z->(g5.push { cls:=.type "tuple",data:=.seq #[x,y] }).get? c = some o->g8.get? c = some o:=fun c o c1 e=>b8.extBut _ _ c1 (b7.extBut _ _ c1 e)
  have p8:IsPair g8 g5.objs.size x y:=up _ _ (Nat.ne_of_gt zl) (Heap.get?_push_size _ rfl)
  have s8:g8.objs.size = g5.objs.size + 1:=by rw [b8.1,b7.1,Heap.size_push]
  rw [sz] at z8 p8 s8
  refine wpAny_pure ⟨_,rfl,?_⟩
  show Q (.ref g5.objs.size) _
  rw [sz]
  exact hQ g8 _ _ (.inr ⟨_,rfl⟩) z8 ⟨_,_,up _ _ D.TOz (Heap.get?_push_of_some _ o5)⟩ (v1.at fun o e=>up _ o D.i1z (Heap.get?_push_of_some _ e)) (v2.at fun o e=>up _ o D.i2z (Heap.get?_push_of_some _ e)) p8 s8 fun c o c1 c2 c3 c4 e=>up c o c1 (Heap.get?_push_of_some _ (all5 c o c1 c2 c3 c4 e))
 ·simp only [Bool.false_eq_true,if_false]
  have k0:=b0.extBut
  refine wpAny_bind ?_
  simp only [List.forIn_toArray,List.forIn_cons,List.forIn_nil]
  refine wpAny_bind (wpAny_bind (wpAny_holding ?_))
  show wpAny _ _ (Builtin.SmallTypes.nextOf (.ref i1) >>= _) _ _ _
  refine wpAny_bind (jD (h1.extBut k0 D.i1z) (t1.extBut k0 D.l1z) hx fun g2 u2 b2=>wpAny_pure (wpAny_pure ?_))
  have k2:=b2.extBut
  refine wpAny_bind (wpAny_bind (wpAny_holding ?_))
  show wpAny _ _ (Builtin.SmallTypes.nextOf (.ref i2) >>= _) _ _ _
  refine wpAny_bind (wpAny_nextOf_list_item ((h2.extBut k0 D.i2z).extBut k2 D.i12.symm) ((t2.extBut k0 D.l2z).extBut k2 D.l2i1) hy fun g4 u4 b4=>wpAny_pure (wpAny_pure (wpAny_pure ?_)))
  have k4:=b4.extBut
  have sz:g4.objs.size = s.heap.objs.size:=by rw [b4.1,b2.1,b0.1]
  refine wpAny_bind (wpAny_newTuple (hsz:=by show 2<=sizeLine; decide) ?_)
  refine wpAny_pure ⟨_,rfl,?_⟩
  have up:∀ c o,g4.get? c = some o->(g4.push { cls:=.type "tuple",data:=.seq #[x,y] }).get? c = some o:=fun c o e=>Heap.get?_push_of_some _ e
  have p8:IsPair (g4.push { cls:=.type "tuple",data:=.seq #[x,y] }) g4.objs.size x y:=Heap.get?_push_size _ rfl
  show Q (.ref g4.objs.size) _
  rw [sz] at p8 ⊢
  exact hQ _ _ _ hf (up _ _ (k4 _ _ D.i2z.symm (k2 _ _ D.i1z.symm z0))) ⟨_,_,up _ _ (k4 _ _ D.TOi2 (k2 _ _ D.TOi1 (k0 _ _ D.TOz hTO)))⟩ ((u2.extBut k4 D.i12).at fun o e=>up _ o e) (u4.at fun o e=>up _ o e) p8 (by rw [Heap.size_push,sz])
   fun c o c1 c2 c3 c4 e=>up c o (k4 _ _ c4 (k2 _ _ c3 (k0 _ _ c1 e)))
theorem zipN_end {z TI TO i1 i2 l1 l2:Addr} {k:Nat} {xs:Array Value} {a b f0:Value} {f1:Bool} {Q:PySem.Fin->Shared->Prop} (hh:A.handled = none) (D:ZipApart z TI TO i1 i2 l1 l2) (hf:f0 = .none\/∃ a:Addr,f0 = rawInt a)
  (hz:bW s.heap z TI TO f0 (.bool f1)) (hTI:IsPair s.heap TI (.ref i1) (.ref i2)) (hTO:IsPair s.heap TO a b) (h1:s.heap.IsTupleIter i1 l1 k) (t1:s.heap.IsTuple l1 xs) (hx:xs[k]? = none)
  (hE:∀ h' e,(∀ c o,c ≠ z->c ≠ TO->c ≠ i1->c ≠ i2->s.heap.get? c = some o->h'.get? c = some o)->(∃ o,h'.get? e = some o/\o.cls = .type "StopIteration")->E (.ref e) { s with heap:=h' }) :
  wpAny (model prog w) A (Builtin.«zip.__next__» ⟨[.ref z],[]⟩) Q E s:=by
 show wpAny _ _ (field (.ref z) 2 >>= _) _ _ _
 refine wpAny_bind (wpAny_field hz rfl (x:=.bool false) rfl ?_)
 show wpAny _ _ (field (.ref z) 3 >>= _) _ _ _
 refine wpAny_bind (wpAny_field hz rfl (x:=.ref TI) rfl (wpAny_bind (wpAny_seqItems hTI rfl ?_)))
 show wpAny _ _ (Builtin.SmallTypes.ownedTupleIsFree (.ref z) >>= _) _ _ _
 refine wpAny_bind (jw hf hz ?_ fun g0 z0 b0=>?_)
 ·simp only [if_true]
  refine wpAny_bind (wpAny_rule (wpAny_bind (wpAny_field hz rfl (x:=.ref TO) rfl (wpAny_bind (wpAny_setField_rec hz (by simp) fun g1 z1 b1=>?_)))))
  replace z1:bW g1 z TI TO .ellipsis (.bool f1):=z1
  refine wpAny_bind ?_
  simp only [List.zipIdx_cons,List.zipIdx_nil,List.forIn_cons,List.forIn_nil]
  refine wpAny_bind (wpAny_bind (wpAny_onRaise ?_))
  show wpAny _ _ (Builtin.SmallTypes.nextOf (.ref i1) >>= _) _ _ _
  refine wpAny_bind (fU hh (h1.extBut b1.extBut D.i1z) (t1.extBut b1.extBut D.l1z) hx fun g2 e k2 he=>?_)
  obtain ⟨oe,hoe,hce⟩:=he
  have z2:bW g2 z TI TO .ellipsis (.bool f1):=k2 _ _ D.i1z.symm z1
  have ez:e ≠ z:=fun q=>by subst q; rw [z2] at hoe; cases hoe; simp at hce
  exact wpAny_setField_rec z2 (by simp) fun g3 _ b3=>hE g3 e (fun c o c1 _ c3 _ q=>b3.extBut _ _ c1 (k2 _ _ c3 (b1.extBut _ _ c1 q))) ⟨oe,b3.extBut _ _ ez hoe,hce⟩
 ·simp only [Bool.false_eq_true,if_false]
  refine wpAny_bind ?_
  simp only [List.forIn_toArray,List.forIn_cons,List.forIn_nil]
  refine wpAny_bind (wpAny_bind (wpAny_holding ?_))
  show wpAny _ _ (Builtin.SmallTypes.nextOf (.ref i1) >>= _) _ _ _
  refine wpAny_bind (fU hh (h1.extBut b0.extBut D.i1z) (t1.extBut b0.extBut D.l1z) hx fun g2 e k2 he=>?_)
  exact hE g2 e (fun c o c1 _ c3 _ q=>k2 _ _ c3 (b0.extBut _ _ c1 q)) he
theorem lV {z TI TO i1 i2 l1 l2:Addr} {k:Nat} {xs ys:Array Value} {x y a b f0:Value} {f1:Bool} {Q:Option Value->Shared->Prop} (D:ZipApart z TI TO i1 i2 l1 l2) (hf:f0 = .none\/∃ a:Addr,f0 = rawInt a)
  (hz:bW s.heap z TI TO f0 (.bool f1)) (hTI:IsPair s.heap TI (.ref i1) (.ref i2)) (hTO:IsPair s.heap TO a b) (h1:s.heap.IsTupleIter i1 l1 k) (h2:s.heap.IsListIter i2 l2 k) (t1:s.heap.IsTuple l1 xs) (t2:s.heap.IsList l2 ys) (hx:xs[k]? = some x) (hy:ys[k]? = some y)
  (hQ:∀ h' g0 g1,(g0 = .none\/∃ a:Addr,g0 = rawInt a)->bW h' z TI TO g0 (.bool g1)->(∃ u v,IsPair h' TO u v)->h'.IsTupleIter i1 l1 (k + 1)->h'.IsListIter i2 l2 (k + 1)->IsPair h' s.heap.objs.size x y->h'.objs.size = s.heap.objs.size + 1 ->
   (∀ c o,c ≠ z->c ≠ TO->c ≠ i1->c ≠ i2->s.heap.get? c = some o->h'.get? c = some o)->Q (some (.ref s.heap.objs.size)) { s with heap:=h' }):wpAny (model prog w) A (pyNext (.ref z)) Q E s:=by
 have ty:s.TypeIs (.ref z) "zip":=⟨_,hz,rfl⟩
 unfold pyNext
 exact wpAny_bind (wpAny_attempt (wpAny_callSpecial?_slot (name:=Str.ofString "__next__") ty F.slot_zip_next (wpAny_call_entry F.slot_zip_next ty F.entry_zip_next
  (o8 D hf hz hTI hTO h1 h2 t1 t2 hx hy fun h' g0 g1 q0 q1 q2 q3 q4 q5 q6 q7=>wpAny_pure (hQ h' g0 g1 q0 q1 q2 q3 q4 q5 q6 q7)) (F.args_zip_next_1 _))))
theorem iC {z TI TO i1 i2 l1 l2:Addr} {k:Nat} {xs:Array Value} {a b f0:Value} {f1:Bool} {Q:Option Value->Shared->Prop} (hh:A.handled = none) (D:ZipApart z TI TO i1 i2 l1 l2) (hf:f0 = .none\/∃ a:Addr,f0 = rawInt a)
  (hz:bW s.heap z TI TO f0 (.bool f1)) (hTI:IsPair s.heap TI (.ref i1) (.ref i2)) (hTO:IsPair s.heap TO a b) (h1:s.heap.IsTupleIter i1 l1 k) (t1:s.heap.IsTuple l1 xs) (hx:xs[k]? = none)
  (hQ:∀ h',(∀ c o,c ≠ z->c ≠ TO->c ≠ i1->c ≠ i2->s.heap.get? c = some o->h'.get? c = some o)->Q none { s with heap:=h' }):wpAny (model prog w) A (pyNext (.ref z)) Q E s:=by
 have ty:s.TypeIs (.ref z) "zip":=⟨_,hz,rfl⟩
 unfold pyNext
 refine wpAny_bind (wpAny_attempt (wpAny_callSpecial?_slot (name:=Str.ofString "__next__") ty F.slot_zip_next (wpAny_call_entry F.slot_zip_next ty F.entry_zip_next
  (zipN_end hh D hf hz hTI hTO h1 t1 hx fun h' e hk he=>?_) (F.args_zip_next_1 _))))
 obtain ⟨o,ho,hc⟩:=he
 exact wpAny_bind (wpAny_isInstance (T:="StopIteration") (b:=true) ⟨o,ho,hc⟩ isSubtype_stop (wpAny_pure (hQ _ hk)))
abbrev zN (h:Heap) (l1 l2:Addr):Heap :=
 ((((h.push { cls:=.type "tuple_iterator",data:=.fields #[.ref l1,.int 0 0] }).push { cls:=.type "list_iterator",data:=.fields #[.ref l2,.int 0 0] }).push { cls:=.type "tuple",data:=.seq #[.ref h.objs.size,.ref (h.objs.size + 1)] }).push { cls:=.type "tuple",data:=.seq #[.none,.none] }).push { cls:=.type "zip",data:=.fields #[.none,.bool false,.bool false,.ref (h.objs.size + 2),.ref (h.objs.size + 3)] }
theorem oz (l1 l2:Addr) (xs ys:Array Value) :
  Meets (Builtin.«zip.__new__» ⟨[.type "zip",.ref l1,.ref l2],[]⟩) (fun _ R s=>s.heap.IsTuple l1 xs/\s.heap.IsList l2 ys/\R (.ok (.ret (.ref (s.heap.objs.size + 4)))) { s with heap:=zN s.heap l1 l2 }) :=
 .of_wp fun prog w A R s h=>by
  obtain ⟨hp,g,d,tk,os⟩:=s; obtain ⟨hl1,hl2,h⟩:=h
  have hsub:=PySem.sub_zip
  have hL1:Heap.IsTuple (Shared.heap ⟨hp,g,d,tk,os⟩) l1 xs:=hl1
  have hL2:Heap.IsList (Shared.heap ⟨hp.push { cls:=.type "tuple_iterator",data:=.fields #[.ref l1,.int 0 0] },g,d,tk,os⟩) l2 ys:=Heap.IsList.push hl2 _
  wp_walk using wpAny_pyIter_tuple hL1,wpAny_pyIter_list hL2
  simp only [Heap.size_push] at h ⊢
  exact ⟨_,rfl,h⟩
theorem mO (h:Heap) (a b:Addr):bW (zN h a b) (h.objs.size + 4) (h.objs.size + 2) (h.objs.size + 3) .none (.bool false)/\IsPair (zN h a b) (h.objs.size + 2) (.ref h.objs.size) (.ref (h.objs.size + 1))/\IsPair (zN h a b) (h.objs.size + 3) .none .none /\
  (zN h a b).IsTupleIter h.objs.size a 0/\(zN h a b).IsListIter (h.objs.size + 1) b 0/\∀ c o,h.get? c = some o->(zN h a b).get? c = some o:=by
 have at':∀ (g:Heap) (o:Obj) (n:Nat),g.objs.size = n->o.isFreed = false->(g.push o).get? n = some o:=fun g o n e f=>by subst e; exact Heap.get?_push_size _ f
 have up:∀ (g:Heap) (o o':Obj) (c:Addr),g.get? c = some o'->(g.push o).get? c = some o':=fun g o o' c e=>Heap.get?_push_of_some _ e
 refine ⟨at' _ _ _ (by simp only [Heap.size_push]) rfl,up _ _ _ _ (up _ _ _ _ (at' _ _ _ (by simp only [Heap.size_push]) rfl)),up _ _ _ _ (at' _ _ _ (by simp only [Heap.size_push]) rfl),
  ⟨_,up _ _ _ _ (up _ _ _ _ (up _ _ _ _ (up _ _ _ _ (at' _ _ _ rfl rfl)))),rfl,rfl⟩,⟨_,up _ _ _ _ (up _ _ _ _ (up _ _ _ _ (at' _ _ _ (by simp only [Heap.size_push]) rfl))),rfl,rfl⟩,fun c o e=>up _ _ _ _ (up _ _ _ _ (up _ _ _ _ (up _ _ _ _ (up _ _ _ _ e))))⟩
theorem pV {l1 l2:Addr} {xs ys:Array Value} {Q:Value->Shared->Prop} (t1:s.heap.IsTuple l1 xs) (t2:s.heap.IsList l2 ys) (h:Q (.ref (s.heap.objs.size + 4)) { s with heap:=zN s.heap l1 l2 }) :
  wpAny (model prog w) A (call (.type "zip") [.ref l1,.ref l2]) Q E s:=by
 refine callType_new F.called_zip (by decide) (F.typeCall_zip_2 _ _) (F.newCall_zip_2 _ _) (fun obj=>F.args_object_init_3 obj _ _) F.entry_zip_new (oz l1 l2 xs ys) ⟨t1,t2,?_⟩
 exact ⟨⟨_,(mO s.heap l1 l2).1,rfl⟩,h⟩
end
section
variable {X:Cx}
def ItzN (K:Frag) (a b:Addr):It :=
 ⟨fun i H=>∃ xs ys x y,SqT K H a xs/\SqL K H b ys/\xs[i]? = some x/\ys[i]? = some y,
  fun i H v H'=>∀ xs ys x y,SqT K H a xs->SqL K H b ys->xs[i]? = some x->ys[i]? = some y->∃ T,v = .ref T/\H T = none/\H' = upd H T (.tup [x,y]),
  fun i H=>∃ xs,SqT K H a xs/\xs.length<=i⟩
theorem pK {P:Program} {w:World} {K:Frag} {nm:Str} {tp:Pos} {z TI TO i1 i2 a b:Addr} (D:ZipApart z TI TO i1 i2 a b) :
  Turn P w K (.Name nm tp) (ItzN K a b) [z,TO,i1,i2,TI] z (fun i h=>(∃ f0 f1,(f0 = .none\/∃ a:Addr,f0 = rawInt a)/\bW h z TI TO f0 (.bool f1))/\IsPair h TI (.ref i1) (.ref i2)/\(∃ u v,IsPair h TO u v)/\h.IsTupleIter i1 a i/\h.IsListIter i2 b i) where
 mem:=by simp
 obj:=fun i h st c hc=>by
  obtain ⟨⟨f0,f1,_,q1⟩,q2,⟨u,v,q3⟩,⟨o1,e1,_,d1⟩,⟨o2,e2,_,d2⟩⟩:=st
  simp only [List.mem_cons,List.not_mem_nil,or_false] at hc
  rcases hc with rfl | rfl | rfl | rfl | rfl
  ·exact ⟨_,q1,fun v z=>by cases z⟩
  ·exact ⟨_,q3,fun v z=>by cases z⟩
  ·exact ⟨_,e1,fun v z=>by rw [d1] at z; cases z⟩
  ·exact ⟨_,e2,fun v z=>by rw [d2] at z; cases z⟩
  ·exact ⟨_,q2,fun v z=>by cases z⟩
 keep:=fun i h h' st k=>by
  obtain ⟨⟨f0,f1,hf,q1⟩,q2,⟨u,v,q3⟩,q4,q5⟩:=st
  exact ⟨⟨f0,f1,hf,k z (by simp) _ q1⟩,k TI (by simp) _ q2,⟨u,v,k TO (by simp) _ q3⟩,q4.at fun o e=>k i1 (by simp) o e,q5.at fun o e=>k i2 (by simp) o e⟩
 item:=by
  intro X hP hw hK hc i pins s σ H E I hf st hg
  subst hP hw hK
  obtain ⟨xs,ys,x,y,ha,hb,hx,hy⟩:=hg
  obtain ⟨⟨f0,f1,hf0,q1⟩,q2,⟨u,v,q3⟩,q4,q5⟩:=st
  obtain ⟨its,rv,p,_⟩:=I.tuple ha
  obtain ⟨jts,rw',p',_⟩:=I.list hb
  obtain ⟨ux,hux,rx⟩:=rv.get hx
  obtain ⟨uy,huy,ry⟩:=rw'.get hy
  refine lV D hf0 q1 q2 q3 q4 q5 (show s.heap.IsTuple a its.toArray from p) (show s.heap.IsList b jts.toArray from p'.isList) (x:=ux) (y:=uy) (by simpa using hux) (by simpa using huy) fun h' g0 g1 hg0 z1 o1 v1 v2 pr sz all=>?_
  refine ⟨_,rfl,wpAny_pure ?_⟩
  have zl:z < s.heap.objs.size:=Heap.lt_size q1
  have hT:H s.heap.objs.size = none:=I.hok.fresh (Nat.le_refl _)
  have kept:∀ c o,c ∉ [z,TO,i1,i2]->s.heap.get? c = some o->h'.get? c = some o:=fun c o n e=>by
   simp only [List.mem_cons,List.not_mem_nil,or_false,not_or] at n
   exact all c o n.1 n.2.1 n.2.2.1 n.2.2.2 e
  have sub:∀ c ∈ [z,TO,i1,i2],c ∈ [z,TO,i1,i2,TI]:=fun c h=>by
   simp only [List.mem_cons,List.not_mem_nil,or_false] at h ⊢
   rcases h with h | h | h | h <;> simp [h]
  have trk:∀ c u,H c = some u->c ∉ [z,TO,i1,i2]:=fun c u e n=>by
   have:=(hf c (sub c n)).1
   rw [e] at this; cases this
  refine ⟨.ref s.heap.objs.size,upd H s.heap.objs.size (.tup [x,y]),?_,rfl,fun xs' ys' x' y' ha' hb' hx' hy'=>?_,⟨⟨_,_,hg0,z1⟩,all _ _ D.TIz D.TITO D.TIi1 D.TIi2 q2,o1,v1,v2⟩,fun c hc=>?_⟩
  ·refine Inv.step (s:=s) (h':=h') (g':=s.gens) (d':=s.drawn) (t':=s.toks) (ch:=[z,TO,i1,i2]) I (fun c n=>let q:=hf c (sub c n); ⟨q.2.2.2.1,q.2.1,q.2.2.2.2.1,q.2.2.2.2.2⟩) (fun c o _ _ n e _=>kept c o n e) (fun c o _ _ n e _=>⟨o.slots,kept c o n e⟩)
    (fun c o _ e n=>by rw [ai (Nat.ne_of_lt (Heap.lt_size e))]; exact n) (fun c o n e=>⟨o,kept c o n e⟩) (fun c zs e=>by rw [ai (aE e hT)]; exact e) (fun c o u e=>by rw [ai (aE e hT)]; exact e) (fun c ps e=>⟨#[],by rw [ai (aE e hT),e]; simp⟩) (fun m hm=>?_) (fun c u e=>?_) I.bare
   ·obtain ⟨o,es,ep,ho,r⟩:=hm
    refine ⟨o,es,ep,kept _ o (fun n=>?_) ho,r⟩
    exact (hf _ (sub _ n)).2.1 rfl
   ·by_cases q:c = s.heap.objs.size
    ·subst q
     rw [ac] at e; cases e
     exact ⟨by show 2<=sizeLine; decide,[ux,uy],.cons rx (.cons ry .nil),⟨_,pr,rfl,_,rfl⟩⟩
    ·rw [ai q] at e
     refine (I.hok c u e).stay (fun c' v hc' e'=>kept c' v ?_ e') (fun c' e'=>by rw [ai (aE e' hT)]; exact e') fun c' zs e'=>by rw [ai (aE e' hT)]; exact e'
     rcases hc' with z' | z'
     ·rw [z']; exact trk c u e
     ·exact trk c' _ z'
  ·rw [I.tuple_inj ha' ha] at hx'
   rw [I.list_inj hb' hb] at hy'
   rw [hx] at hx'; rw [hy] at hy'
   cases hx'; cases hy'
   exact ⟨_,rfl,hT,rfl⟩
  ·have q:=hf c hc
   have hl:c ≠ s.heap.objs.size:=by
    simp only [List.mem_cons,List.not_mem_nil,or_false] at hc
    obtain ⟨_,e4,_⟩:=q4
    obtain ⟨_,e5,_⟩:=q5
    rcases hc with rfl | rfl | rfl | rfl | rfl
    ·exact Nat.ne_of_lt zl
    ·exact Nat.ne_of_lt (Heap.lt_size q3)
    ·exact Nat.ne_of_lt (Heap.lt_size e4)
    ·exact Nat.ne_of_lt (Heap.lt_size e5)
    ·exact Nat.ne_of_lt (Heap.lt_size q2)
   rw [ai hl]
   exact q.1
 done:=by
  intro X hP hw hK hc i pins s σ H E I hf st hg
  subst hP hw hK
  obtain ⟨xs,ha,hx⟩:=hg
  obtain ⟨⟨f0,f1,hf0,q1⟩,q2,⟨u,v,q3⟩,q4,q5⟩:=st
  obtain ⟨its,rv,p,_⟩:=I.tuple ha
  have hl:=rv.length
  have sub:∀ c ∈ [z,TO,i1,i2],c ∈ [z,TO,i1,i2,TI]:=fun c h=>by
   simp only [List.mem_cons,List.not_mem_nil,or_false] at h ⊢
   rcases h with h | h | h | h <;> simp [h]
  refine iC (I.ok.hd hc) D hf0 q1 q2 q3 q4 (show s.heap.IsTuple a its.toArray from p) (by simp; omega) fun h' all=>⟨rfl,?_⟩
  have kept:∀ c o,c ∉ [z,TO,i1,i2]->s.heap.get? c = some o->h'.get? c = some o:=fun c o n e=>by
   simp only [List.mem_cons,List.not_mem_nil,or_false,not_or] at n
   exact all c o n.1 n.2.1 n.2.2.1 n.2.2.2 e
  have trk:∀ c u,H c = some u->c ∉ [z,TO,i1,i2]:=fun c u e n=>by
   have:=(hf c (sub c n)).1
   rw [e] at this; cases this
  refine Inv.step (s:=s) (h':=h') (g':=s.gens) (d':=s.drawn) (t':=s.toks) (ch:=[z,TO,i1,i2]) I (fun c n=>let q:=hf c (sub c n); ⟨q.2.2.2.1,q.2.1,q.2.2.2.2.1,q.2.2.2.2.2⟩) (fun c o _ _ n e _=>kept c o n e) (fun c o _ _ n e _=>⟨o.slots,kept c o n e⟩)
    (fun c o _ e n=>n) (fun c o n e=>⟨o,kept c o n e⟩) (fun c zs e=>e) (fun c o u e=>e) (fun c ps e=>⟨#[],by rw [e]; simp⟩) (fun m hm=>?_) (fun c u e=>?_) I.bare
  ·obtain ⟨o,es,ep,ho,r⟩:=hm
   exact ⟨o,es,ep,kept _ o (fun n=>(hf _ (sub _ n)).2.1 rfl) ho,r⟩
  ·refine (I.hok c u e).stay (fun c' v hc' e'=>kept c' v ?_ e') (fun c' e'=>e') fun c' zs e'=>e'
   rcases hc' with z' | z'
   ·rw [z']; exact trk c u e
   ·exact trk c' _ z'
 self:=fun _ _ _ _ _ st h=>by
  obtain ⟨⟨f0,f1,_,q1⟩,_⟩:=st
  exact gU q1 h
def iZipN (K:Frag) (ta:TA):TI:=fun σ H R=>ta σ H fun vs H1=>∃ a b xs ys,vs = [.ref a,.ref b]/\SqT K H1 a xs/\SqL K H1 b ys/\R (ItzN K a b) H1
theorem pi_zipN {e1 e2:Expr} {ta:TA} {p pos:Pos} {nm:Str} {tp:Pos} (hg:Gl X "zip") (hm:X.mg "zip" = none) (ha:PA X [e1,e2] ta) (hs:starEach [e1,e2] X.env = (false,eval e1 X.env) :: starEach [e2] X.env:=by rfl) (hpl:(backTo pos (starEach [e2] X.env)).any (·.1) = false:=by rfl) :
  PI X (.Name nm tp) (.Call (.Name "zip" p) [e1,e2] [] pos) (iZipN X.K ta):=by
 intro pins s σ H R I h
 refine Call_ (iA I hg hm PyProof.Rows.boot_zip (PyProof.Rows.callWith_type1 (thn (ha pos pins s σ H _ I h) fun us s1 ⟨vs,H1,I1,r1,q1⟩=>?_) hs hpl))
 obtain ⟨a,b,xs,ys,e,hqa,hqb,q⟩:=q1
 subst e
 cases r1 with
 | cons r rr =>
  cases rr with
  | cons r' rr' =>
   cases rr'
   cases r
   cases r'
   obtain ⟨its,rv,pl,_⟩:=I1.tuple hqa
   obtain ⟨jts,rw',pl',_⟩:=I1.list hqb
   refine pV (show s1.heap.IsTuple a its.toArray from pl) (show s1.heap.IsList b jts.toArray from pl'.isList) ?_
   obtain ⟨z1,z2,z3,z4,z5,z6⟩:=mO s1.heap a b
   have I2:Inv X pins σ H1 { s1 with heap:=zN s1.heap a b }:=I1.kept (t':=s1.toks) z6
   have la:a < s1.heap.objs.size:=by obtain ⟨o,e,_⟩:=pl; exact Heap.lt_size e
   have lb:b < s1.heap.objs.size:=by obtain ⟨o,e,_⟩:=pl'.isList; exact Heap.lt_size e
   refine wpAny_pyIter_zip z1 ?_
   refine ⟨s1.heap.objs.size + 4,[s1.heap.objs.size + 4,s1.heap.objs.size + 3,s1.heap.objs.size,s1.heap.objs.size + 1,s1.heap.objs.size + 2],_,_,H1,rfl,I2,pK (zipApart_new la lb),⟨⟨_,_,.inl rfl,z1⟩,z2,⟨_,_,z3⟩,z4,z5⟩,fun c hc=>?_,q⟩
   have le:s1.heap.objs.size<=c:=by
    simp only [List.mem_cons,List.not_mem_nil,or_false] at hc
    rcases hc with h | h | h | h | h <;> rw [h]
    ·exact Nat.le_add_right _ _
    ·exact Nat.le_add_right _ _
    ·exact Nat.le_refl _
    ·exact Nat.le_add_right _ _
    ·exact Nat.le_add_right _ _
   exact I1.fpOk le (I1.hok.fresh le)
end
end L2
namespace Ow
open PySem PySem.Spec PyProof.Rows L2
def qK (K:Frag) (wi:TI) (tc:TT) (te:TE) (cap:L2.St->L2.St):TE:=fun σ H Q=>wi σ H fun J H1=>∀ D,H1 D = none->∃ W:Nat->Nat->Hp->Prop,(∃ m,W 0 m (upd H1 D (.lst [])))/\∀ i m H,W i m H ->
 (J.stop i H/\Q (.ref D) H)\/(J.go i H/\∀ x H',J.yld i H x H'->∃ a u v,x = .ref a/\SqT K H' a [u,v]/\tc (some u :: some v :: cap σ) H' fun b HA=>if b = true then te (some u :: some v :: cap σ) HA (fun y H2=>∃ ys,H2 D = some (.lst ys)/\ys.length < sizeLine/\∃ m',m' < m/\W (i + 1) m' (upd H2 D (.lst (ys ++ [y])))) else ∃ m',m' < m/\W (i + 1) m' HA)
section
variable {X:Cx} {elt iter cc:Expr} {x y:Str} {px py pos tp:Pos} {kk:Nat} {scope:Scope} {wi:TI} {tc:TT} {te:TE} {N:List Str} {cl:List (Str × Addr)} {cap:L2.St->L2.St}
theorem qa {K:Frag} (hK:X.K = K) (hc:X.calm = true) (hclos:closureFor scope X.env = pure cl) (hsub:∀ n c,cl.lookup n = some c->X.env.cells.lookup n = some c)
  (hcell:∀ y ∈ scope.names,y.2 ≠ .cell) (hkind:scope.kind = .function) (hnames:∀ y ∈ scope.names,y.2 = .local->scope.names.lookup y.1 = some .local) (hx:scope.names.lookup x = some .local) (hy:scope.names.lookup y = some .local)
  (hhas:∀ q,(Env.kindOf (compEnvC scope cl 0 X.env) q = some .cell\/Env.kindOf (compEnvC scope cl 0 X.env) q = some .free)->∃ c,cl.lookup q = some c)
  (hN:(x :: y :: N).Nodup) (hcapl:∀ σ,(cap σ).length = N.length)
  (hcap:∀ (σ:L2.St) (i:Nat) (y:Str) (v:V),σ.length = X.N.length->N[i]? = some y->(cap σ)[i]? = some (some v)->(Env.kindOf (compEnvC scope cl 0 X.env) y = some .cell\/Env.kindOf (compEnvC scope cl 0 X.env) y = some .free)/\X.env.kindOf y = some .cell/\∃ j:Nat,X.N[j]? = some y/\σ[j]? = some (some v))
  (hi:PI X (.Tuple [.Name x px,.Name y py] kk tp) iter wi) (ht:∀ C s2 H2 fp,PT (aL X (x :: y :: N) scope cl C s2 H2 fp) cc tc) (he:∀ C s2 H2 fp,PE (aL X (x :: y :: N) scope cl C s2 H2 fp) elt te)
  (hn2:∀ C s2 H2 fp,(assignEach [Expr.Name x px,.Name y py] (aL X (x :: y :: N) scope cl C s2 H2 fp).env).map (·.2) = [assign (.Name x px) (aL X (x :: y :: N) scope cl C s2 H2 fp).env,assign (.Name y py) (aL X (x :: y :: N) scope cl C s2 H2 fp).env]:=by intros; rfl)
  (hs:∀ z,foldedSetIterable iter X.env z = pure z:=by intro _; rfl) :
  PE X (.ListComp elt [⟨.Tuple [.Name x px,.Name y py] kk tp,iter,[cc],0⟩] scope pos) (qK K wi tc te cap):=by
 intro pins s σ H Q I h
 rw [eval_ListComp]
 refine wpAny_comprehension_free (use:=none) rfl hs hclos hkind hnames (thn (hi pins s σ H _ I h) fun xv s1 h1=>thn h1 fun itv s2 h2=>?_)
 obtain ⟨it,fp,tn,J,H2,e,I2,T,st2,f2,hW⟩:=h2
 subst e
 have hD:H2 s2.heap.objs.size = none:=I2.hok.fresh (Nat.le_refl _)
 obtain ⟨W,⟨m0,w0⟩,turn⟩:=hW s2.heap.objs.size hD
 refine wpAny_newObj_type (wpAny_newFunctionEnv hcell (by intro y hy; simp at hy) (fun h4 hns4 hsb4=>?_) hkind) (by show 0<=sizeLine; decide)
 dsimp only at hns4 hsb4 ⊢
 generalize hH3:s2.heap.push { cls:=.type "list",dict:=none,data:=.seq ([]:List Value).toArray } = H3 at hns4 hsb4 ⊢
 have hCz:H3.objs.size = s2.heap.objs.size + 1:=by rw [<- hH3,Heap.size_push]
 have old3:∀ b o,s2.heap.get? b = some o->H3.get? b = some o:=fun b o e=>hH3 ▸ Heap.get?_push_of_some _ e
 have eD3:H3.get? s2.heap.objs.size = some { cls:=.type "list",dict:=none,data:=.seq ([]:List Value).toArray }:=hH3 ▸ Heap.get?_push_size _ rfl
 have old4:∀ b o,H3.get? b = some o->h4.get? b = some o:=fun b o e=>hsb4.extBut b o (Nat.ne_of_lt (Heap.lt_size e)) (Heap.get?_push_of_some _ e)
 have old:∀ b o,s2.heap.get? b = some o->h4.get? b = some o:=fun b o e=>old4 b o (old3 b o e)
 have szC:s2.heap.objs.size < H3.objs.size:=by rw [hCz]; exact Nat.lt_succ_self _
 have fpC:∀ b ∈ fp,b ≠ H3.objs.size:=fun b hb=>by
  obtain ⟨o,ho,_⟩:=T.obj 0 _ st2 b hb
  exact Nat.ne_of_lt (Nat.lt_trans (Heap.lt_size ho) szC)
 have ok':(aL X (x :: y :: N) scope cl H3.objs.size s2 H2 fp).Ok:=by
  refine ⟨I2.ok.mod,hkind,I2.ok.glob,I2.ok.blt,(Nat.le_of_lt szC),fun a b c e1 e2=>I2.ok.inj a b c (hsub a c e1) (hsub b c e2),fun y hy=>hhas y hy,fun y c z _=>absurd (show false = true from z) (by decide),
   fun _=>I2.ok.hd hc,I2.ok.frames,.inl rfl,fun b hb=>⟨fpC b hb,fun y c e=>(f2 b hb).2.2.2.2.1 y c (hsub y c e)⟩,I2.bs,Nat.le_trans I2.ok.bsz I2.sz,fun b o e hb=>?_,fun b hb z=>?_,I2.stack,I2.stkFree⟩
  ·rcases (f2 b hb).2.2.2.1 with q | q
   ·exact I2.ok.noex b o e q
   ·exact absurd (Nat.lt_of_lt_of_le (Heap.lt_size e) (Nat.le_trans I2.ok.bsz q)) (Nat.lt_irrefl _)
  ·rcases List.mem_cons.mp (I2.stkSub b z) with q | q
   ·exact (f2 b hb).2.1 q
   ·exact (f2 b hb).2.2.1 q
 have okD:ObjOk X.prog X.w (upd H2 s2.heap.objs.size (.lst [])) h4 s2.heap.objs.size (.lst []):=⟨Nat.zero_le _,[],0,.nil,old4 _ _ eD3⟩
 have I4:Inv (aL X (x :: y :: N) scope cl H3.objs.size s2 H2 fp) [] (none :: none :: cap σ) (upd H2 s2.heap.objs.size (.lst [])) { s2 with heap:=h4,toks:=s2.toks + ([]:List (Str × Value)).length }:=by
  refine ⟨ok',rfl,I2.bare,Un.laid old (Nat.le_refl _) hD,⟨_,hns4,fun i y' v e1 e2 _=>?_⟩,fun y' c e=>?_,?_,fun y' c e=>?_,fun p hp=>absurd hp (by show p ∉ ([] ++ []:List (Addr × Obj)); simp),I2.hok.laid old (Nat.le_refl _) okD,?_⟩
  ·cases i with
   | zero=>simp at e2
   | succ i =>
   cases i with
   | zero=>simp at e2
   | succ i =>
    obtain ⟨k1,k2,j,e3,e4⟩:=hcap σ i y' v I2.len (show N[i]? = some y' from e1) (show (cap σ)[i]? = some (some v) from e2)
    obtain ⟨m,_,hl⟩:=I2.loc
    obtain ⟨u,ru,lk⟩:=hl j y' v e3 e4 (.inr (.inl k2))
    refine ⟨u,ru,.inr ⟨k1,?_⟩⟩
    rcases lk with ⟨z,_⟩ | ⟨_,c,e5,hcl⟩
    ·rw [k2] at z; cases z
    ·obtain ⟨c',e6⟩:=hhas y' k1
     have:c' = c:=by
      have:=hsub y' c' e6
      rw [e5] at this
      exact (Option.some.inj this).symm
     subst this
     obtain ⟨oc,ho,hd⟩:=hcl
     exact ⟨c',e6,oc,old _ _ ho,hd⟩
  ·obtain ⟨v,oc,ho,hd⟩:=I2.cell y' c (hsub y' c e)
   exact ⟨v,oc,old _ _ ho,hd⟩
  ·show upd H2 s2.heap.objs.size (.lst []) H3.objs.size = none
   rw [ai (Nat.ne_of_gt szC)]
   exact I2.hok.fresh (Nat.le_of_lt szC)
  ·have h1:=I2.freeC y' c (hsub y' c e)
   obtain ⟨v,oc,ho,_⟩:=I2.cell y' c (hsub y' c e)
   rw [ai (Nat.ne_of_lt (Heap.lt_size ho))]
   exact h1
  ·show (none :: none :: cap σ).length = (x :: y :: N).length
   simp [hcapl]
 have stat:∀ {H':Hp},(∀ b ∈ fp,H' b = none)->∀ b ∈ fp,FpOk (aL X (x :: y :: N) scope cl H3.objs.size s2 H2 fp) [] H' b:=fun {H'} hn b hb =>
  ⟨hn b hb,(ok'.exf b hb).1,ok'.exfs b hb,.inl hb,(ok'.exf b hb).2,fun p hp=>absurd hp (by show p ∉ ([] ++ []:List (Addr × Obj)); simp)⟩
 have loop:codeAny (model X.prog X.w) X.A (.compLoop (.ListComp elt [⟨.Tuple [.Name x px,.Name y py] kk tp,iter,[cc],0⟩] scope pos) 0 (.ref it) (.ref s2.heap.objs.size) (compEnvC scope cl H3.objs.size X.env))
   (compPost (model X.prog X.w) X.A X.xe none (EP X pins σ Q) (.ref s2.heap.objs.size) H3.objs.size) { s2 with heap:=h4,toks:=s2.toks + ([]:List (Str × Value)).length }:=by
  refine PySem.W.kct_loop (fun n s'=>∃ (i:Nat) (z0 z1:Option V) (H':Hp),Inv (aL X (x :: y :: N) scope cl H3.objs.size s2 H2 fp) [] (z0 :: z1 :: cap σ) H' s'/\tn i s'.heap/\(∀ b ∈ fp,H' b = none)/\W i n H') ?_ m0
   ⟨0,none,none,_,I4,T.keep 0 _ _ st2 (fun b _ o e=>old b o e),fun b hb=>?_,w0⟩
  ·rintro n s5 ⟨i,z0,z1,H5,I5,st5,fr5,w5⟩
   rcases turn i n H5 w5 with ⟨stop,qn⟩ | ⟨go,step⟩
   ·refine wpAny_mono (T.done (aL X (x :: y :: N) scope cl H3.objs.size s2 H2 fp) rfl rfl rfl rfl i [] s5 _ H5 _ I5 (stat fr5) st5 stop) (fun r s6 ⟨hr,I6⟩=>?_) fun _ _ z=>z
    subst hr
    obtain ⟨m,hn6,_⟩:=id I6.loc
    refine ⟨m,hn6,fun h' sb=>⟨.ref s2.heap.objs.size,H5,?_,rfl,qn⟩⟩
    have kp:∀ b o,b ≠ H3.objs.size->s6.heap.get? b = some o->h'.get? b = some o:=fun b o hb e=>sb.extBut b o hb e
    have nC:∀ b o,s2.heap.get? b = some o->b ≠ H3.objs.size:=fun b o e=>Nat.ne_of_lt (Nat.lt_trans (Heap.lt_size e) szC)
    have fC:H5 H3.objs.size = none:=I6.free
    refine I2.call' (ch:=fp) (s':={ s6 with heap:=h' }) I6.os ?_ ?_ I6.bare fun b hb=>⟨(f2 b hb).2.2.2.1,(f2 b hb).2.1,(f2 b hb).2.2.2.2.1,(f2 b hb).2.2.2.2.2⟩
    ·have U:Un (frs X.stack) fp H2 H5 s2.heap s6.heap:=I6.base
     exact ⟨fun b o e n1 n2 n3=>kp b o (nC b o e) (U.keep b o e n1 n2 n3),fun b o e n1 n2 n3=>by
       obtain ⟨sl,q⟩:=U.slot b o e n1 n2 n3
       exact ⟨sl,kp b _ (nC b o e) q⟩,U.free,fun b o e n3=>by
       obtain ⟨o',q⟩:=U.there b o e n3
       exact ⟨o',kp b _ (nC b o e) q⟩,U.tups,U.frzs,U.tbls⟩
    ·intro b u e
     refine (I6.hok b u e).stay (fun c v hc q=>kp c v (fun z=>?_) q) (fun _ q=>q) fun _ _ q=>q
     rcases hc with y | y
     ·rw [<- y,z,fC] at e
      cases e
     ·rw [z,fC] at y
      cases y
   ·refine wpAny_mono (T.item (aL X (x :: y :: N) scope cl H3.objs.size s2 H2 fp) rfl rfl rfl rfl i [] s5 _ H5 _ I5 (stat fr5) st5 go) (fun r s6 ⟨u,hr,h6⟩=>?_) fun _ _ z=>z
    subst hr
    dsimp only
    refine wpAny_mono h6 (fun _ s7 ⟨v,H7,I7,r7,y7,st7,fr7⟩=>?_) fun _ _ z=>z
    have I7':=I7.pinned (stat fr7) (T.obj _ _ st7)
    obtain ⟨ta,ux,uy,ev,hsq,step'⟩:=step v H7 y7
    have hl2:(assignEach [Expr.Name x px,.Name y py] (aL X (x :: y :: N) scope cl H3.objs.size s2 H2 fp).env).length = 2:=by
     have:=congrArg List.length (hn2 H3.objs.size s2 H2 fp)
     rw [List.length_map] at this
     exact this
    have pg:PG (aL X (x :: y :: N) scope cl H3.objs.size s2 H2 fp) (.Tuple [.Name x px,.Name y py] kk tp) (gTup X.K 2 (gCons (oy 0) (gCons (oy 1) gNil))) :=
     pg_tup (X:=aL X (x :: y :: N) scope cl H3.objs.size s2 H2 fp) rfl (nc (bu hN rfl (.inl (lookup_relabel_local hx)) (.inr (lookup_relabel_local hx))) (nc (bu hN rfl (.inl (lookup_relabel_local hy)) (.inr (lookup_relabel_local hy))) pgs_nil)) hl2
    refine wpAny_mono (pg _ s7 _ H7 v u (fun σ' H'=>σ' = some ux :: some uy :: cap σ/\H' = H7) I7' r7 ⟨ta,[ux,uy],ev,by rw [hK]; exact hsq,rfl,_,_,rfl,_,_,rfl,rfl,rfl,rfl⟩) (fun _ s8 ⟨σ8,H8,I8,e8,e8'⟩=>?_) fun _ _ z=>z.elim
    subst e8 e8'
    have behind:∀ (m':Nat) (H10:Hp) (s10:Shared),m' < n->Inv (aL X (x :: y :: N) scope cl H3.objs.size s2 H2 fp) ([] ++ kh fp s7.heap) (some ux :: some uy :: cap σ) H10 s10->W (i + 1) m' H10->∃ m,m < n/\∃ (i:Nat) (z0 z1:Option V) (H':Hp),Inv (aL X (x :: y :: N) scope cl H3.objs.size s2 H2 fp) [] (z0 :: z1 :: cap σ) H' s10/\tn i s10.heap/\(∀ b ∈ fp,H' b = none)/\W i m H':=by
     intro m' H10 s10 hm I10 w9'
     refine ⟨m',hm,i + 1,some ux,some uy,_,I10.unpinned,T.keep _ _ _ st7 fun b hb o e=>(I10.pin (b,o) (List.mem_append_right _ (List.mem_append_right _ (bH hb e)))).1,fun b hb=>?_,w9'⟩
     obtain ⟨o,e,d⟩:=T.obj _ _ st7 b hb
     exact (I10.pin (b,o) (List.mem_append_right _ (List.mem_append_right _ (bH hb e)))).2.1
    refine wpAny_mono (ht H3.objs.size s2 H2 fp _ s8 (some ux :: some uy :: cap σ) H8 _ I8 step') (fun ok sA ⟨HA,IA,hA⟩=>?_) fun _ _ z=>z.elim
    cases ok with
    | false =>
     rw [if_neg (by decide)] at hA ⊢
     obtain ⟨m',hm,wA⟩:=hA
     exact behind m' HA sA hm IA wA
    | true =>
     rw [if_pos rfl] at hA ⊢
     refine wpAny_mono (he H3.objs.size s2 H2 fp _ sA (some ux :: some uy :: cap σ) HA _ IA hA) (fun w9 s9 ⟨y9,H9,I9,r9,ys,hys,hlt,m',hm,w9'⟩=>?_) fun _ _ z=>z.elim
     refine wpAny_mono (aP (X:=aL X (x :: y :: N) scope cl H3.objs.size s2 H2 fp) _ s9 _ H9 (.ref s2.heap.objs.size) [y9] _ [w9] (fun _ Hn=>Hn = upd H9 s2.heap.objs.size (.lst (ys ++ [y9]))) I9 rfl (.cons r9 .nil) ⟨_,ys,y9,rfl,rfl,hys,hlt,rfl⟩) (fun _ s10 ⟨_,H10,I10,_,e10⟩=>?_) fun _ _ z=>z.elim
     subst e10
     exact behind m' _ s10 hm I10 w9'
  ·obtain ⟨o,ho,_⟩:=T.obj 0 _ st2 b hb
   rw [ai (Nat.ne_of_lt (Heap.lt_size ho))]
   exact (f2 b hb).1
 exact codeAny_compStart_list loop (T.self X.A 0 _ _ _ (T.keep 0 _ _ st2 (fun b _ o e=>old b o e)) loop)
end
section
variable {X:Cx} {elt iter cc:Expr} {x y0:Str} {px py pos tp:Pos} {kk:Nat} {scope:Scope} {wi:TI} {tc:TT} {te:TE} {cl:List (Str × Addr)}
theorem oA {K:Frag} (hK:X.K = K) (js:List Nat) (ns:List Str) (hc:X.calm = true) (hclos:closureFor scope X.env = pure cl) (hcls:cl.map (·.1) = ns) (hsub:∀ p ∈ cl,X.env.cells.lookup p.1 = some p.2)
  (hno:∀ p ∈ scope.names,p.2 ≠ .cell/\(p.2 = .free->p.1 ∈ ns)) (hkind:scope.kind = .function) (hnames:∀ y ∈ scope.names,y.2 = .local->scope.names.lookup y.1 = some .local) (hx:scope.names.lookup x = some .local) (hy0:scope.names.lookup y0 = some .local)
  (hN:(x :: y0 :: ns).Nodup) (hkd:∀ y ∈ ns,(Env.kindOf (compEnvC scope cl 0 X.env) y = some .cell\/Env.kindOf (compEnvC scope cl 0 X.env) y = some .free)/\X.env.kindOf y = some .cell)
  (hjl:js.length = ns.length) (hj:js.map (fun j=>X.N[j]?) = ns.map some)
  (hi:PI X (.Tuple [.Name x px,.Name y0 py] kk tp) iter wi) (ht:∀ C s2 H2 fp,PT (aL X (x :: y0 :: ns) scope cl C s2 H2 fp) cc tc) (he:∀ C s2 H2 fp,PE (aL X (x :: y0 :: ns) scope cl C s2 H2 fp) elt te)
  (hs:∀ z,foldedSetIterable iter X.env z = pure z:=by intro _; rfl) :
  PE X (.ListComp elt [⟨.Tuple [.Name x px,.Name y0 py] kk tp,iter,[cc],0⟩] scope pos) (qK K wi tc te fun σ=>js.map fun j=>(σ[j]?).getD none):=by
 refine qa hK (N:=ns) (cl:=cl) hc hclos (fun n c e=>hsub (n,c) (PySem.mem_of_lookup e)) (fun y hy=>(hno y hy).1) hkind hnames hx hy0 (fun y hy=>?_) hN (fun σ=>by rw [List.length_map]; exact hjl) (fun σ i y v _ e1 e2=>?_) hi ht he (hs:=hs)
 ·have sub:∀ (l:List (Str × NameKind)),(∀ p ∈ l,p.2 ≠ .cell/\(p.2 = .free->p.1 ∈ ns))->∀ p ∈ (l.map fun (n,k)=>if (k == NameKind.free && X.env.scope.kind == ScopeKind.function && X.env.kindOf n == some NameKind.cell) then (n,NameKind.cell) else (n,k)),(p.2 = .cell\/p.2 = .free)->p.1 ∈ ns:=by
   intro l hl p hp hk
   obtain ⟨q,hq,e⟩:=List.mem_map.mp hp
   have h1:=hl q hq
   obtain ⟨n,k⟩:=q
   dsimp only at e
   by_cases hf:k = .free
   ·have h2:=h1.2 hf
    split at e
    ·rw [<- e]; exact h2
    ·rw [<- e]; exact h2
   ·have hf':(k == NameKind.free) = false:=by
     cases k <;> first | rfl | exact absurd rfl hf
    rw [hf',Bool.false_and,Bool.false_and,if_neg (by decide)] at e
    rw [<- e] at hk
    rcases hk with z | z
    ·exact absurd z h1.1
    ·exact absurd z hf
  have hy':y ∈ ns:=by
   rcases hy with z | z
   ·exact sub scope.names hno (y,.cell) (PySem.mem_of_lookup z) (.inl rfl)
   ·exact sub scope.names hno (y,.free) (PySem.mem_of_lookup z) (.inr rfl)
  rw [<- hcls] at hy'
  have key:∀ l:List (Str × Addr),y ∈ l.map (·.1)->∃ c,l.lookup y = some c:=by
   intro l
   induction l with
   | nil=>intro h; simp at h
   | cons p r ih =>
    intro h
    by_cases e:y = p.1
    ·exact ⟨p.2,by obtain ⟨p1,p2⟩:=p; dsimp only at e; subst e; simp [List.lookup]⟩
    ·have h':y ∈ r.map (·.1):=by
      rw [List.map_cons] at h
      exact (List.mem_cons.mp h).resolve_left e
     obtain ⟨c,hc'⟩:=ih h'
     refine ⟨c,?_⟩
     obtain ⟨p1,p2⟩:=p
     have:(y == p1) = false:=by simpa using e
     rw [List.lookup_cons,this]
     exact hc'
  exact key cl hy'
 ·have hm:y ∈ ns:=List.mem_of_getElem? e1
  refine ⟨(hkd y hm).1,(hkd y hm).2,?_⟩
  rw [List.getElem?_map] at e2
  cases hji:js[i]? with
  | none=>rw [hji] at e2; cases e2
  | some j =>
   rw [hji] at e2
   have e3:(σ[j]?).getD none = some v:=by
    have:=Option.some.inj e2
    exact this
   have e4:=congrArg (fun l=>l[i]?) hj
   rw [List.getElem?_map,List.getElem?_map,hji,e1] at e4
   have e5:X.N[j]? = some y:=by
    have:=Option.some.inj e4
    exact this
   refine ⟨j,e5,?_⟩
   cases hσ:σ[j]? with
   | none=>rw [hσ] at e3; cases e3
   | some o =>
    rw [hσ] at e3
    have e6:o = some v:=e3
    rw [e6]
end
theorem oa {K:Frag} {a D:Addr} {xs:List V} {tc':TT} {te':TE} {tl:L2.St} {G:Hp->Prop} {H1:Hp} (Pv:Nat->Hp->Prop) (h0:Pv 0 (upd H1 D (.lst []))) (hl:∀ i H,i<=xs.length->Pv i H->SqL K H a xs)
  (hs:∀ i x H,xs[i]? = some x->Pv i H->∀ T,H T = none->tc' (some (.int (i:Nat)) :: some x :: tl) (upd H T (.tup [.int (i:Nat),x])) fun b HA=>if b = true then te' (some (.int (i:Nat)) :: some x :: tl) HA (fun y H2=>∃ ys,H2 D = some (.lst ys)/\ys.length < sizeLine/\Pv (i + 1) (upd H2 D (.lst (ys ++ [y])))) else Pv (i + 1) HA)
  (hm:∀ (i:Nat) (x:V) (H:Hp) (R R':V->Hp->Prop),(∀ y H2,R y H2->R' y H2)->te' (some (.int (i:Nat)) :: some x :: tl) H R->te' (some (.int (i:Nat)) :: some x :: tl) H R')
  (hmT:∀ (i:Nat) (x:V) (H:Hp) (R R':Bool->Hp->Prop),(∀ y H2,R y H2->R' y H2)->tc' (some (.int (i:Nat)) :: some x :: tl) H R->tc' (some (.int (i:Nat)) :: some x :: tl) H R')
  (hd:∀ H,Pv xs.length H->G H) :
  ∃ W:Nat->Nat->Hp->Prop,(∃ m,W 0 m (upd H1 D (.lst [])))/\∀ i m H,W i m H ->
   ((Ite K a).stop i H/\G H)\/((Ite K a).go i H/\∀ x H',(Ite K a).yld i H x H'->∃ a u v,x = .ref a/\SqT K H' a [u,v]/\tc' (some u :: some v :: tl) H' fun b HA=>if b = true then te' (some u :: some v :: tl) HA (fun y H2=>∃ ys,H2 D = some (.lst ys)/\ys.length < sizeLine/\∃ m',m' < m/\W (i + 1) m' (upd H2 D (.lst (ys ++ [y])))) else ∃ m',m' < m/\W (i + 1) m' HA):=by
 refine ⟨fun i m H=>m = xs.length - i/\i<=xs.length/\Pv i H,⟨xs.length,by simp,Nat.zero_le _,h0⟩,?_⟩
 rintro i m H ⟨rfl,hi,p⟩
 have q:=hl i H hi p
 by_cases hlt:i < xs.length
 ·have ex:xs[i]? = some xs[i]:=List.getElem?_eq_getElem hlt
  refine .inr ⟨⟨xs,xs[i],q,ex⟩,fun x H' y=>?_⟩
  obtain ⟨T,rfl,hT,rfl⟩:=y xs _ q ex
  refine ⟨T,_,_,rfl,SqT.of ac,hmT _ _ _ _ _ (fun b HA h=>?_) (hs i _ H ex p T hT)⟩
  cases b with
  | true =>
   rw [if_pos rfl] at h ⊢
   refine hm _ _ _ _ _ (fun y H2 h=>?_) h
   obtain ⟨ys,e,l,p'⟩:=h
   exact ⟨ys,e,l,xs.length - (i + 1),by omega,rfl,hlt,p'⟩
  | false =>
   rw [if_neg (by decide)] at h ⊢
   exact ⟨xs.length - (i + 1),by omega,rfl,hlt,h⟩
 ·have e:i = xs.length:=by omega
  subst e
  exact .inl ⟨⟨xs,q,Nat.le_refl _⟩,hd H p⟩
theorem lB {K:Frag} {a b D:Addr} {xs ys:List V} {te':TE} {tl:L2.St} {G:Hp->Prop} {H1:Hp} (Pv:Nat->Hp->Prop) (h0:Pv 0 (upd H1 D (.lst []))) (hl:∀ i H,i<=xs.length->Pv i H->SqT K H a xs/\SqL K H b ys) (hle:xs.length = ys.length)
  (hs:∀ i x y H,xs[i]? = some x->ys[i]? = some y->Pv i H->∀ T,H T = none->te' (some (.ref T) :: tl) (upd H T (.tup [x,y])) fun z H2=>∃ zs,H2 D = some (.lst zs)/\zs.length < sizeLine/\∃ m',m' < xs.length - i/\(m' = xs.length - (i + 1)/\i + 1<=xs.length/\Pv (i + 1) (upd H2 D (.lst (zs ++ [z])))))
  (hd:∀ H,Pv xs.length H->G H) :
  ∃ W:Nat->Nat->Hp->Prop,(∃ m,W 0 m (upd H1 D (.lst [])))/\∀ i m H,W i m H ->
   ((ItzN K a b).stop i H/\G H)\/((ItzN K a b).go i H/\∀ x H',(ItzN K a b).yld i H x H'->te' (some x :: tl) H' fun y H2=>∃ ys,H2 D = some (.lst ys)/\ys.length < sizeLine/\∃ m',m' < m/\W (i + 1) m' (upd H2 D (.lst (ys ++ [y])))):=by
 refine ⟨fun i m H=>m = xs.length - i/\i<=xs.length/\Pv i H,⟨xs.length,by simp,Nat.zero_le _,h0⟩,?_⟩
 rintro i m H ⟨rfl,hi,p⟩
 have q:=hl i H hi p
 by_cases hlt:i < xs.length
 ·have ex:xs[i]? = some xs[i]:=List.getElem?_eq_getElem hlt
  have ey:ys[i]? = some (ys[i]'(by omega)):=List.getElem?_eq_getElem (by omega)
  refine .inr ⟨⟨xs,ys,_,_,q.1,q.2,ex,ey⟩,fun x H' y=>?_⟩
  obtain ⟨T,rfl,hT,rfl⟩:=y xs ys _ _ q.1 q.2 ex ey
  exact hs i _ _ H ex ey p T hT
 ·have e:i = xs.length:=by omega
  subst e
  exact .inl ⟨⟨xs,q.1,Nat.le_refl _⟩,hd H p⟩
def tGD2 (a:Addr) (vs:List (Key × Value)) (tO ti tf:TE):TE:=fun σ H Q=>tO σ H fun x H1=>x = .ref a/\ti σ H1 fun y H2=>tf σ H2 fun _ H3=>∃ k b,y = .str k/\valueAt vs (.inr k) = some (.ref b)/\Q (.ref b) H3
theorem qw {X:Cx} {a:Addr} {vs:List (Key × Value)} {o i f:Expr} {tO ti tf:TE} {apos cpos:Pos} (g:GD X.K X.prog X.w a vs) (nd:(a == sysModules) = false) (ho:PE X o tO) (hi:PE X i ti) (hf:PE X f tf) (m:M2 X o "get" apos i f cpos) :
  PE X (.Call (.Attribute o "get" apos) [i,f] [] cpos) (tGD2 a vs tO ti tf):=by
 intro pins s σ H Q I h
 refine wpAny_Call_method m.base m.few m.line PySem.F.plainAttrs_dict PySem.F.slot_dict_get PySem.F.type_dict_get (thn (ho pins s σ H _ I h) fun u s1 ⟨x,H1,I1,rx,ex,q1⟩=>?_)
 subst ex
 obtain rfl:u = Value.ref a:=rx
 obtain ⟨oo,es,ep,lk,xd,dt,ko,pr,nd'⟩:=g.ex
 have dd1:s1.heap.DictOf (be X.prog X.w) a vs:=⟨oo,es,ep,I1.kIn _ _ lk,xd,dt,ko,pr,nd'⟩
 refine ⟨dd1.typeIs,fun b q=>?_,?_⟩
 ·cases q
  exact ⟨oo,I1.kIn _ _ lk,xd.2.1⟩
 rw [m.trees]
 refine Calls.callWith_builtin rfl (Calls.evalArgs_plain (Calls.spliced_cons (thn (hi pins s1 σ H1 _ I1 q1) fun iv s2 ⟨y,H2,I2,ry,q2⟩ =>
  Calls.spliced_cons (thn (hf pins s2 σ H2 _ I2 q2) fun fv s3 ⟨z,H3,I3,rz,k,b,ey,hv,q3⟩=>Calls.spliced_nil ?_))))
 subst ey
 have dd:s3.heap.DictOf (be X.prog X.w) a vs:=⟨oo,es,ep,I3.kIn _ _ lk,xd,dt,ko,pr,nd'⟩
 refine call_meetsIn PySem.F.slot_dict_get dd.typeIs PySem.F.entry_dict_get (PySem.F.args_dict_get_3 _ _ _) (meets_dict_get_default (be X.prog X.w) a (oB (k:=.inr k) ry) nd fv) ⟨_,dd.mapOf,?_⟩
 refine ⟨.ref b,H3,I3.tok _,?_,q3⟩
 show RelV _ ((valueAt vs (.inr k)).getD fv)
 rw [hv]
 rfl
end Ow
namespace Ow
open PySem PySem.Spec PyProof.Rows L2
def rInsN:V->List V->Hp->VK->Prop:=fun x vs H Q=>∃ l xs y,∃ k:Nat,x = .ref l/\vs = [.int k,y]/\H l = some (.lst xs)/\xs.length < sizeLine/\k<=xs.length/\xs.length<=1000000/\Q .non (upd H l (.lst (xs.take k ++ y :: xs.drop k)))
theorem mt_insN {X:Cx}:MtR X "list.insert" rInsN:=by
 intro pins s σ H x vs v us Q I rx rv h
 obtain ⟨l,xs,y,k,rfl,rfl,hH,hz,hk,hs,q⟩:=h
 cases rx
 obtain ⟨u0,u,rfl,r0,ru⟩:=rv.two
 obtain ⟨t0,rfl⟩:=r0
 obtain ⟨z,its,n,r,hl,e⟩:=I.lstM hH
 have hle:=r.length
 have fit:Builtin.List.listFitsIndex (k:Int) = true:=by
  unfold Builtin.List.listFitsIndex
  exact Bool.and_eq_true_iff.mpr ⟨decide_eq_true (Int.le_trans (by decide) (Int.natCast_nonneg k)),decide_eq_true (Int.lt_of_le_of_lt (show (k:Int)<=1000000 by omega) (by decide))⟩
 have nf:¬ (!Builtin.List.listFitsIndex (k:Int)) = true:=by rw [fit]; exact Bool.false_ne_true
 have sz:its.toArray.size<=sizeLine:=by rw [List.size_toArray]; exact hl ▸ z
 have ei:((its.toArray.extract 0 k).push u ++ its.toArray.extract k) = (its.take k ++ u :: its.drop k).toArray:=by
  apply Array.ext'
  simp
  exact List.take_of_length_le (by rw [List.length_drop]; exact Nat.le_refl _)
 have e1:(if (k:Int) < 0 then ((k:Int) + ((its.toArray.size:Nat):Int)).toNat else min (k:Int).toNat its.toArray.size) = k:=by
  rw [if_neg (Int.not_lt.mpr (Int.natCast_nonneg k)),List.size_toArray,Int.toNat_natCast]
  exact Nat.min_eq_left (hl ▸ hk)
 generalize hK:(k:Int) = K at nf e1 ⊢
 refine call_meets F.slot_list_insert ⟨_,e,rfl⟩ F.entry_list_insert (F.args_list_insert_3 _ _ _) (PySem.AutoListH.list_insert_list_int_val_1 l its.toArray n K t0 u nf sz) ⟨e,?_⟩
 have ei:(fun xs:Array Value=>have k:=if K < 0 then (K + ((xs.size:Nat):Int)).toNat else min K.toNat xs.size; (xs.extract 0 k).push u ++ xs.extract k) its.toArray = (its.take k ++ u :: its.drop k).toArray:=by
  dsimp only
  rw [e1,ei]
 refine ⟨.non,_,I.lset (its':=its.take k ++ u :: its.drop k) hH e ei (Vals.append (r.take k) (.cons ru (r.drop k))) ?_,rfl,q⟩
 rw [List.length_append,List.length_cons,List.length_take,List.length_drop]
 omega
end Ow
namespace L2
open PySem PySem.Spec PyProof.Rows
def rDIn (neg:Bool):R2:=fun y x H Q=>∃ a o,x = .ref a/\DGet H a y o/\Q (.bl (if neg = true then !o.isSome else o.isSome)) H
theorem p9 {X:Cx} (hu:X.A.units + 1 < cLine):OpR X (compareOp .In) (rDIn false):=by
 intro pins s σ H y x v u Q I ry rx h
 obtain ⟨a,ov,ex,g,q⟩:=h
 subst ex
 obtain rfl:u = Value.ref a:=rx
 exact d_in hu I g ry fun s3 I3=>⟨.bl ov.isSome,H,I3,rfl,q⟩
theorem kQ {X:Cx} (hu:X.A.units + 1 < cLine):OpR X (compareOp .NotIn) (rDIn true):=by
 intro pins s σ H y x v u Q I ry rx h
 obtain ⟨a,ov,ex,g,q⟩:=h
 subst ex
 obtain rfl:u = Value.ref a:=rx
 exact d_notIn hu I g ry fun s3 I3=>⟨.bl (!ov.isSome),H,I3,rfl,q⟩
end L2
namespace Ow
open PySem PySem.Spec PyProof.Rows L2
open Builtin.Int (intBits)
def top (i:Nat):Stmt:=PySem.Challenge.pw_overwise_k68_too_much.main.body.getD i (.Pass ⟨0,0,0,0⟩)
abbrev br:Stmt:=aO (top 7) 0
theorem eE:FnScope ["self", "line"] ["self", "line"] (ak br):=⟨rfl,rfl,rfl,by decide +kernel,rfl,by decide +kernel,by decide +kernel⟩
abbrev bQ:Stmt:=aO (top 8) 0
theorem fF:FnScope ["self", "line"] ["self", "line"] (ak bQ):=⟨rfl,rfl,rfl,by decide +kernel,rfl,by decide +kernel,by decide +kernel⟩
abbrev bM:Stmt:=aO (top 9) 0
theorem fm:FnScope ["self", "line", "name"] ["self", "line", "name"] (ak bM):=⟨rfl,rfl,rfl,by decide +kernel,rfl,by decide +kernel,by decide +kernel⟩
abbrev gw:Stmt:=top 13
theorem lK:FnScope ["thing"] ["thing"] (ak gw):=⟨rfl,rfl,rfl,by decide +kernel,rfl,by decide +kernel,by decide +kernel⟩
abbrev ee:Stmt:=top 14
theorem jJ:FnScope ["thing", "low", "high"] ["thing", "low", "high"] (ak ee):=⟨rfl,rfl,rfl,by decide +kernel,rfl,by decide +kernel,by decide +kernel⟩
abbrev eg:Stmt:=top 15
theorem jU:FnScope ["width"] ["width"] (ak eg):=⟨rfl,rfl,rfl,by decide +kernel,rfl,by decide +kernel,by decide +kernel⟩
abbrev iR:Stmt:=top 16
theorem ol:FnScope ["width", "thing"] ["width", "thing"] (ak iR):=⟨rfl,rfl,rfl,by decide +kernel,rfl,by decide +kernel,by decide +kernel⟩
abbrev cN:Stmt:=aO (top 19) 0
theorem ig:FnScope ["self", "width", "point"] ["self", "width", "point"] (ak cN):=⟨rfl,rfl,rfl,by decide +kernel,rfl,by decide +kernel,by decide +kernel⟩
abbrev cO:Stmt:=aO (top 19) 1
theorem ib:FnScope ["self", "bits"] ["self", "bits"] (ak cO):=⟨rfl,rfl,rfl,by decide +kernel,rfl,by decide +kernel,by decide +kernel⟩
abbrev c9:Stmt:=aO (top 19) 2
theorem iG:FnScope ["self", "count"] ["self", "count"] (ak c9):=⟨rfl,rfl,rfl,by decide +kernel,rfl,by decide +kernel,by decide +kernel⟩
abbrev dY:Stmt:=aO (top 19) 6
theorem sc_Kind_shown:FnScope ["self", "bits", "count", "sign", "whole", "behind"] ["self", "bits"] (ak dY):=⟨rfl,rfl,rfl,by decide +kernel,rfl,by decide +kernel,by decide +kernel⟩
abbrev fA:Stmt:=aO (top 19) 7
theorem sc_Kind_read:FnScope ["self", "text", "count", "bits"] ["self", "text"] (ak fA):=⟨rfl,rfl,rfl,by decide +kernel,rfl,by decide +kernel,by decide +kernel⟩
abbrev cB:Stmt:=aO (top 20) 0
theorem gP:FnScope ["self", "width"] ["self", "width"] (ak cB):=⟨rfl,rfl,rfl,by decide +kernel,rfl,by decide +kernel,by decide +kernel⟩
abbrev eM:Stmt:=aO (top 20) 1
theorem jV:FnScope ["self"] ["self"] (ak eM):=⟨rfl,rfl,rfl,by decide +kernel,rfl,by decide +kernel,by decide +kernel⟩
abbrev dw:Stmt:=aO (top 20) 2
theorem jo:FnScope ["self"] ["self"] (ak dw):=⟨rfl,rfl,rfl,by decide +kernel,rfl,by decide +kernel,by decide +kernel⟩
abbrev cA:Stmt:=aO (top 20) 3
theorem g9:FnScope ["self"] ["self"] (ak cA):=⟨rfl,rfl,rfl,by decide +kernel,rfl,by decide +kernel,by decide +kernel⟩
abbrev fz:Stmt:=top 23
theorem kI:FnScope ["one", "other"] ["one", "other"] (ak fz):=⟨rfl,rfl,rfl,by decide +kernel,rfl,by decide +kernel,by decide +kernel⟩
abbrev cE:Stmt:=top 25
theorem sc_figures_behind:FnScope ["rest", "point", "figures"] ["rest", "point"] (ak cE):=⟨rfl,rfl,rfl,by decide +kernel,rfl,by decide +kernel,by decide +kernel⟩
abbrev gt:Stmt:=top 26
theorem sc_count_in:FnScope ["text", "point", "negative", "parts", "number", "worth", "figure", "count"] ["text", "point"] (ak gt):=⟨rfl,rfl,rfl,by decide +kernel,rfl,by decide +kernel,by decide +kernel⟩
abbrev fG:Stmt:=top 27
theorem sc_number_in:FnScope ["figures", "number", "figure", "worth"] ["figures"] (ak fG):=⟨rfl,rfl,rfl,by decide +kernel,rfl,by decide +kernel,by decide +kernel⟩
abbrev gO:Stmt:=top 29
theorem mE:FnScope ["word", "most"] ["word", "most"] (ak gO):=⟨rfl,rfl,rfl,by decide +kernel,rfl,by decide +kernel,by decide +kernel⟩
abbrev cY:Stmt:=aO (top 40) 0
theorem iT:FnScope ["self", "line", "deed", "goals"] ["self", "line", "deed", "goals"] (ak cY):=⟨rfl,rfl,rfl,by decide +kernel,rfl,by decide +kernel,by decide +kernel⟩
abbrev cq:Stmt:=aO (top 41) 0
theorem fP:FnScope ["self", "line", "times"] ["self", "line", "times"] (ak cq):=⟨rfl,rfl,rfl,by decide +kernel,rfl,by decide +kernel,by decide +kernel⟩
abbrev cy:Stmt:=aO (top 42) 0
theorem gE:FnScope ["self", "width"] ["self", "width"] (ak cy):=⟨rfl,rfl,rfl,by decide +kernel,rfl,by decide +kernel,by decide +kernel⟩
abbrev dm:Stmt:=aO (top 42) 1
theorem je:FnScope ["self", "line", "words"] ["self", "line", "words"] (ak dm):=⟨rfl,rfl,rfl,by decide +kernel,rfl,by decide +kernel,by decide +kernel⟩
abbrev cz:Stmt:=aO (top 42) 2
theorem sc_Draft_takes_in:FnScope ["self", "line", "words", "kind"] ["self", "line", "words"] (ak cz):=⟨rfl,rfl,rfl,by decide +kernel,rfl,by decide +kernel,by decide +kernel⟩
abbrev ca:Stmt:=aO (top 42) 3
theorem gp:FnScope ["self", "line", "words"] ["self", "line", "words"] (ak ca):=⟨rfl,rfl,rfl,by decide +kernel,rfl,by decide +kernel,by decide +kernel⟩
abbrev bt:Stmt:=aO (top 42) 4
theorem sc_Draft_takes_repeat:FnScope ["self", "line", "words", "times", "loop"] ["self", "line", "words"] (ak bt):=⟨rfl,rfl,rfl,by decide +kernel,rfl,by decide +kernel,by decide +kernel⟩
abbrev ce:Stmt:=aO (top 42) 5
theorem fZ:FnScope ["self"] ["self"] (ak ce):=⟨rfl,rfl,rfl,by decide +kernel,rfl,by decide +kernel,by decide +kernel⟩
abbrev bZ:Stmt:=aO (top 42) 6
theorem sc_Draft_takes_row:FnScope ["self", "line", "words", "pair", "name"] ["self", "line", "words"] (ak bZ):=⟨rfl,rfl,rfl,by decide +kernel,rfl,by decide +kernel,by decide +kernel⟩
abbrev bY:Stmt:=aO (top 42) 7
theorem gm:FnScope ["self"] ["self"] (ak bY):=⟨rfl,rfl,rfl,by decide +kernel,rfl,by decide +kernel,by decide +kernel⟩
abbrev bE:Stmt:=aO (top 42) 8
theorem eQ:FnScope ["self"] ["self"] (ak bE):=⟨rfl,rfl,rfl,by decide +kernel,rfl,by decide +kernel,by decide +kernel⟩
abbrev iU:Stmt:=top 43
theorem oF:FnScope ["word"] ["word"] (ak iU):=⟨rfl,rfl,rfl,by decide +kernel,rfl,by decide +kernel,by decide +kernel⟩
abbrev dq:Stmt:=top 44
theorem sc_number_told:FnScope ["word", "low", "high", "number"] ["word", "low", "high"] (ak dq):=⟨rfl,rfl,rfl,by decide +kernel,rfl,by decide +kernel,by decide +kernel⟩
abbrev e9:Stmt:=top 45
theorem kA:FnScope ["width", "words", "point"] ["width", "words"] (ak e9):=⟨rfl,rfl,rfl,by decide +kernel,rfl,by decide +kernel,by decide +kernel⟩
abbrev hB:Stmt:=top 46
theorem sc_row_told:FnScope ["width", "line", "words", "many", "goals", "row", "things", "shape"] ["width", "line", "words"] (ak hB):=⟨rfl,rfl,rfl,by decide +kernel,rfl,by decide +kernel,by decide +kernel⟩
abbrev gZ:Stmt:=top 47
theorem sc_set_told:FnScope ["width", "row", "things", "kind"] ["width", "row", "things"] (ak gZ):=⟨rfl,rfl,rfl,by decide +kernel,rfl,by decide +kernel,by decide +kernel⟩
abbrev gy:Stmt:=top 48
theorem sc_put_into:FnScope ["width", "row", "part", "word", "low", "high", "number"] ["width", "row", "part", "word"] (ak gy):=⟨rfl,rfl,rfl,by decide +kernel,rfl,by decide +kernel,by decide +kernel⟩
abbrev eG:Stmt:=top 50
theorem sc_first_walk:FnScope ["text", "lines", "words", "width", "draft", "line"] ["text"] (ak eG):=⟨rfl,rfl,rfl,by decide +kernel,rfl,by decide +kernel,by decide +kernel⟩
abbrev bN:Stmt:=aO (top 55) 0
theorem fu:FnScope ["self", "draft", "kinds", "source"] ["self", "draft", "kinds", "source"] (ak bN):=⟨rfl,rfl,rfl,by decide +kernel,rfl,by decide +kernel,by decide +kernel⟩
abbrev bO:Stmt:=aO (top 55) 3
theorem fD:FnScope ["self"] ["self"] (ak bO):=⟨rfl,rfl,rfl,by decide +kernel,rfl,by decide +kernel,by decide +kernel⟩
abbrev dP:Stmt:=top 57
theorem jL:FnScope ["rows"] ["rows"] (ak dP):=⟨rfl,rfl,rfl,by decide +kernel,rfl,by decide +kernel,by decide +kernel⟩
abbrev dn:Stmt:=top 58
theorem sc_not_of_word:FnScope ["names", "kinds", "word", "name"] ["names", "kinds", "word"] (ak dn):=⟨rfl,rfl,rfl,by decide +kernel,rfl,by decide +kernel,by decide +kernel⟩
abbrev c5:Stmt:=top 59
theorem sc_wrongly_read:FnScope ["width", "row", "kinds", "wrong"] ["width", "row", "kinds"] (ak c5):=⟨rfl,rfl,rfl,by decide +kernel,rfl,by decide +kernel,by decide +kernel⟩
abbrev gF:Stmt:=top 60
theorem lO:FnScope ["width", "row", "told", "kinds"] ["width", "row", "told", "kinds"] (ak gF):=⟨rfl,rfl,rfl,by decide +kernel,rfl,by decide +kernel,by decide +kernel⟩
abbrev gQ:Stmt:=top 61
theorem sc_need_row:FnScope ["width", "row", "told", "kinds", "name", "wrong", "kind"] ["width", "row", "told", "kinds"] (ak gQ):=⟨rfl,rfl,rfl,by decide +kernel,rfl,by decide +kernel,by decide +kernel⟩
abbrev eZ:Stmt:=top 62
theorem sc_need_outs:FnScope ["outs", "kinds", "met", "out"] ["outs", "kinds"] (ak eZ):=⟨rfl,rfl,rfl,by decide +kernel,rfl,by decide +kernel,by decide +kernel⟩
abbrev dG:Stmt:=top 63
theorem sc_second_walk:FnScope ["draft", "kinds", "thing", "pair"] ["draft"] (ak dG):=⟨rfl,rfl,rfl,by decide +kernel,rfl,by decide +kernel,by decide +kernel⟩
abbrev c8:Stmt:=top 64
theorem sc_read_program:FnScope ["text", "draft", "kinds"] ["text"] (ak c8):=⟨rfl,rfl,rfl,by decide +kernel,rfl,by decide +kernel,by decide +kernel⟩
abbrev fc:Stmt:=top 66
theorem kY:FnScope ["_law_script", "_law_k"] ["_law_script", "_law_k"] (ak fc):=⟨rfl,rfl,rfl,by decide +kernel,rfl,by decide +kernel,by decide +kernel⟩
abbrev gW:Stmt:=top 67
theorem lM:FnScope ["_law_cell_here"] ["_law_cell_here"] (ak gW):=⟨rfl,rfl,rfl,by decide +kernel,rfl,by decide +kernel,by decide +kernel⟩
abbrev fj:Stmt:=top 68
theorem sc__law_take:FnScope ["_law_box_here", "_law_many", "_law_digit", "_law_number"] ["_law_box_here", "_law_many"] (ak fj):=⟨rfl,rfl,rfl,by decide +kernel,rfl,by decide +kernel,by decide +kernel⟩
abbrev fB:Stmt:=top 69
theorem sc__law_told:FnScope ["_law_lines", "_law_told_here", "e"] ["_law_lines"] (ak fB):=⟨rfl,rfl,rfl,by decide +kernel,rfl,by decide +kernel,by decide +kernel⟩
abbrev bP:Stmt:=top 70
theorem sc__law_lines_right:FnScope ["_law_box_here", "_law_many", "_law_lines", "_law_due"] ["_law_box_here"] (ak bP):=⟨rfl,rfl,rfl,by decide +kernel,rfl,by decide +kernel,by decide +kernel⟩
abbrev bL:Stmt:=top 71
theorem sc__law_names_right:FnScope ["_law_box_here", "_law_many", "_law_ins", "_law_names", "_law_lines", "_law_k", "_law_at", "_law_due"] ["_law_box_here"] (ak bL):=⟨rfl,rfl,rfl,by decide +kernel,rfl,by decide +kernel,by decide +kernel⟩
abbrev bR:Stmt:=top 72
theorem sc__law_loops_right:FnScope ["_law_box_here", "_law_deep", "_law_turns", "_law_lines", "_law_many", "_law_one"] ["_law_box_here"] (ak bR):=⟨rfl,rfl,rfl,by decide +kernel,rfl,by decide +kernel,by decide +kernel⟩
abbrev bb:Stmt:=top 73
theorem sc__law_rows_done_right:FnScope ["_law_box_here", "_law_turns", "_law_rows", "_law_behind", "_law_inner", "_law_lines", "_law_many"] ["_law_box_here"] (ak bb):=⟨rfl,rfl,rfl,by decide +kernel,rfl,by decide +kernel,by decide +kernel⟩
abbrev jH:Stmt:=top 74
theorem sc_law:FnScope ["_law_script", "_law_k", "_law_box_here", "_law_j", "_law_most"] ["_law_script"] (ak jH):=⟨rfl,rfl,rfl,by decide +kernel,rfl,by decide +kernel,by decide +kernel⟩
structure Ad where
 Kind:Addr
 Plain:Addr
 Row:Addr
 Repeat:Addr
 Draft:Addr
 Program:Addr
 NoProgram:Addr
 TooMuch:Addr
 Unknown:Addr
 WiseError:Addr
 NoText:Addr
 RESERVED:Addr
 READ_PLAIN:Addr
 READ_ALIKE:Addr
 SHAPES:Addr
structure Txt (K:Frag) (mg:Str->Option Value) (c:Ad):Prop where
 n_isinstance:mg "isinstance" = none
 n_int:mg "int" = none
 n_bool:mg "bool" = none
 n_str:mg "str" = none
 n_list:mg "list" = none
 n_tuple:mg "tuple" = none
 n_dict:mg "dict" = none
 n_len:mg "len" = none
 n_max:mg "max" = none
 n_min:mg "min" = none
 n_range:mg "range" = none
 n_all:mg "all" = none
 n_sum:mg "sum" = none
 n_abs:mg "abs" = none
 n_zip:mg "zip" = none
 n_enumerate:mg "enumerate" = none
 g_Kind:mg "Kind" = some (.ref c.Kind)
 cl_Kind:Cls K c.Kind
 g_Plain:mg "Plain" = some (.ref c.Plain)
 cl_Plain:Cls K c.Plain
 na_Plain_width:NoAttr K c.Plain "width"
 na_Plain_point:NoAttr K c.Plain "point"
 g_Row:mg "Row" = some (.ref c.Row)
 cl_Row:Cls K c.Row
 na_Row_line:NoAttr K c.Row "line"
 na_Row_deed:NoAttr K c.Row "deed"
 na_Row_goals:NoAttr K c.Row "goals"
 na_Row_reads:NoAttr K c.Row "reads"
 na_Row_numbers:NoAttr K c.Row "numbers"
 na_Row_way:NoAttr K c.Row "way"
 g_Repeat:mg "Repeat" = some (.ref c.Repeat)
 cl_Repeat:Cls K c.Repeat
 na_Repeat_line:NoAttr K c.Repeat "line"
 na_Repeat_times:NoAttr K c.Repeat "times"
 na_Repeat_rows:NoAttr K c.Repeat "rows"
 g_Draft:mg "Draft" = some (.ref c.Draft)
 cl_Draft:Cls K c.Draft
 na_Draft_width:NoAttr K c.Draft "width"
 na_Draft_inputs:NoAttr K c.Draft "inputs"
 na_Draft_rows:NoAttr K c.Draft "rows"
 na_Draft_outs:NoAttr K c.Draft "outs"
 na_Draft_row_pairs:NoAttr K c.Draft "row_pairs"
 na_Draft_loops:NoAttr K c.Draft "loops"
 na_Draft_met:NoAttr K c.Draft "met"
 g_Program:mg "Program" = some (.ref c.Program)
 cl_Program:Cls K c.Program
 na_Program_width:NoAttr K c.Program "width"
 na_Program_inputs:NoAttr K c.Program "inputs"
 na_Program_rows:NoAttr K c.Program "rows"
 na_Program_outs:NoAttr K c.Program "outs"
 na_Program_kinds:NoAttr K c.Program "kinds"
 na_Program_source:NoAttr K c.Program "source"
 g_NoProgram:mg "NoProgram" = some (.ref c.NoProgram)
 g_TooMuch:mg "TooMuch" = some (.ref c.TooMuch)
 g_Unknown:mg "Unknown" = some (.ref c.Unknown)
 g_WiseError:mg "WiseError" = some (.ref c.WiseError)
 g_NoText:mg "NoText" = some (.ref c.NoText)
 g_RESERVED:mg "RESERVED" = some (.ref c.RESERVED)
 q_RESERVED:∀ H,SqT K H c.RESERVED [.str "width",.str "in",.str "out",.str "plain",.str "signed",.str "point",.str "set",.str "copy",.str "add",.str "sub",.str "addstop",.str "substop",.str "low",.str "high",.str "left",.str "right",.str "less",.str "same",.str "pick",.str "div",.str "rest",.str "over",.str "times",.str "mul",.str "part",.str "repeat",.str "end",.str "down",.str "up",.str "cut",.str "near"]
 g_READ_PLAIN:mg "READ_PLAIN" = some (.ref c.READ_PLAIN)
 q_READ_PLAIN:∀ H,SqT K H c.READ_PLAIN [.str "low",.str "high",.str "over",.str "rest",.str "part"]
 g_READ_ALIKE:mg "READ_ALIKE" = some (.ref c.READ_ALIKE)
 q_READ_ALIKE:∀ H,SqT K H c.READ_ALIKE [.str "add",.str "sub",.str "addstop",.str "substop",.str "less",.str "same",.str "mul",.str "pick"]
 g_SHAPES:mg "SHAPES" = some (.ref c.SHAPES)
 g_LETTERS:∃ t,mg "LETTERS" = some (.str "abcdefghijklmnopqrstuvwxyz" t)
 g_LONGEST_SHOWN:∃ t,mg "LONGEST_SHOWN" = some (.int 43 t)
 g_MOST_LINES:∃ t,mg "MOST_LINES" = some (.int 60 t)
 g_MOST_NAMES:∃ t,mg "MOST_NAMES" = some (.int 30 t)
 g_MOST_LOOPS:∃ t,mg "MOST_LOOPS" = some (.int 3 t)
 g_MOST_ROWS:∃ t,mg "MOST_ROWS" = some (.int 600 t)
 kf_og:PySem.W.specialIn K (.builtin "object.__class__") "__get__" = some (some (.builtin "getset_descriptor.__get__"))
 kf_ot:PySem.W.takesIn K (.builtin "object.__class__") = some true
 kf_fcA:findIn K (.ref c.Row) "__class__" = some (some (.builtin "object.__class__"))
 kf_fcB:findIn K (.ref c.Repeat) "__class__" = some (some (.builtin "object.__class__"))
 kf_moA:mroIn K c.Row (.type "object") = some true
 kf_moB:mroIn K c.Repeat (.type "object") = some true
 kf_if:isClsIn K c.Repeat = true
 kf_tf:typeIn K (.ref c.Repeat) = some (.type "type")
 kf_mAB:mroIn K c.Row (.ref c.Repeat) = some false
 kf_mAA:mroIn K c.Row (.ref c.Row) = some true
 kf_mBB:mroIn K c.Repeat (.ref c.Repeat) = some true
 kf_kr_SHAPES:(c.SHAPES == PySem.sysModules) = false
 kf_if_NoProgram:isClsIn K c.NoProgram = true
 kf_tf_NoProgram:typeIn K (.ref c.NoProgram) = some (.type "type")
 kf_mf_NoProgram:mroIn K c.NoProgram (.ref c.NoProgram) = some true
 kf_wb_NoProgram:mroIn K c.NoProgram (.type "BaseException") = some true
 kf_ga_NoProgram:findIn K (.ref c.NoProgram) "__getattribute__" = some (some (.builtin "BaseException.__getattribute__"))
 kf_gn_NoProgram:findIn K (.ref c.NoProgram) "__getattr__" = some none
 kf_gc_NoProgram:findIn K (.ref c.NoProgram) "__class__" = some (some (.builtin "object.__class__"))
 kf_mo_NoProgram:mroIn K c.NoProgram (.type "object") = some true
 kf_mb_NoProgram:mroIn K c.NoProgram (.type "BaseException") = some true
 kf_hd_NoProgram:hasDictIn K c.NoProgram = true
 kf_nf_NoProgram:findIn K (.ref c.NoProgram) "line" = some none
 kf_if_TooMuch:isClsIn K c.TooMuch = true
 kf_tf_TooMuch:typeIn K (.ref c.TooMuch) = some (.type "type")
 kf_mf_TooMuch:mroIn K c.TooMuch (.ref c.TooMuch) = some true
 kf_wb_TooMuch:mroIn K c.TooMuch (.type "BaseException") = some true
 kf_ga_TooMuch:findIn K (.ref c.TooMuch) "__getattribute__" = some (some (.builtin "BaseException.__getattribute__"))
 kf_gn_TooMuch:findIn K (.ref c.TooMuch) "__getattr__" = some none
 kf_gc_TooMuch:findIn K (.ref c.TooMuch) "__class__" = some (some (.builtin "object.__class__"))
 kf_mo_TooMuch:mroIn K c.TooMuch (.type "object") = some true
 kf_mb_TooMuch:mroIn K c.TooMuch (.type "BaseException") = some true
 kf_hd_TooMuch:hasDictIn K c.TooMuch = true
 kf_nf_TooMuch:findIn K (.ref c.TooMuch) "line" = some none
 kf_if_Unknown:isClsIn K c.Unknown = true
 kf_tf_Unknown:typeIn K (.ref c.Unknown) = some (.type "type")
 kf_mf_Unknown:mroIn K c.Unknown (.ref c.Unknown) = some true
 kf_wb_Unknown:mroIn K c.Unknown (.type "BaseException") = some true
 kf_ga_Unknown:findIn K (.ref c.Unknown) "__getattribute__" = some (some (.builtin "BaseException.__getattribute__"))
 kf_gn_Unknown:findIn K (.ref c.Unknown) "__getattr__" = some none
 kf_gc_Unknown:findIn K (.ref c.Unknown) "__class__" = some (some (.builtin "object.__class__"))
 kf_mo_Unknown:mroIn K c.Unknown (.type "object") = some true
 kf_mb_Unknown:mroIn K c.Unknown (.type "BaseException") = some true
 kf_hd_Unknown:hasDictIn K c.Unknown = true
 kf_nf_Unknown:findIn K (.ref c.Unknown) "line" = some none
 kf_m_TooMuch_NoProgram:mroIn K c.TooMuch (.ref c.NoProgram) = some false
 kf_m_Unknown_NoProgram:mroIn K c.Unknown (.ref c.NoProgram) = some false
 kf_m_Unknown_TooMuch:mroIn K c.Unknown (.ref c.TooMuch) = some false
theorem pP {w:Int} (h1:4<=w) (h2:w<=32):16<=(2:Int) ^ w.toNat/\(2:Int) ^ w.toNat<=4294967296:=by
 have a:(2:Int) ^ 4<=2 ^ w.toNat:=pF (by omega)
 have b:(2:Int) ^ w.toNat<=2 ^ 32:=pF (by omega)
 exact ⟨a,b⟩
theorem kl {m:Int} (h0:0 < m) (h:m < 2 ^ 64):m.natAbs.log2 < 9000:=by
 have h1:m.natAbs ≠ 0:=by omega
 have h2:m.natAbs < 2 ^ 64:=by omega
 have:=(Nat.log2_lt h1).mpr h2
 omega
theorem md {w:Int} (h1:0<=w) (h2:w<=100000):CPow 1 w:=⟨h1,by omega,by decide⟩
theorem nE {x y m:Int} (h0:0 < m) (h:m<=2 ^ 64):CMul (x % m) y:=by
 have a:=Int.emod_nonneg x (show m ≠ 0 by omega)
 have b:=Int.emod_lt_of_pos x h0
 exact .inl ⟨by omega,by omega⟩
def lW:Sp:=fun vs H Q _=>∃ i:Int,vs = [.int i]/\Q (.bl true) H
def df:Sp:=fun vs H Q _=>∃ i lo hi:Int,vs = [.int i,.int lo,.int hi]/\lo<=i/\i<=hi/\Q (.bl true) H
def mF:Sp:=fun vs H Q _=>∃ i:Int,vs = [.int i]/\4<=i/\i<=32/\Q .non H
def spLaw (K:Frag):Sp:=fun vs H Q _=>∃ (a:Addr) (ns:List Int),vs = [.ref a]/\SqL K H a (ns.map V.int)/\ns.length<=63/\∀ H',Q (.bl true) H'
def pR (K:Frag):Sp:=fun vs H Q _=>∃ (a:Addr) (ns:List Int) (k:Int),vs = [.ref a,.int k]/\SqL K H a (ns.map V.int)/\0<=k/\∀ c:Int,Q (.int c) H
def spBox:Sp:=fun vs H Q _=>∃ c:Int,vs = [.int c]/\∀ p H',H p = none->Box H' p->Same H H'->Q (.ref p) H'
def jv:Sp:=fun vs H Q _=>∃ (p:Addr) (m:Int),vs = [.ref p,.int m]/\Box H p/\0 < m/\m < 2 ^ 64/\∀ (d:Int) H',0<=d->d < m->Box H' p->SameX p H H'->Q (.int d) H'
def cOf (c:Ad):Nat->Addr
 | _=>c.Plain
def lo (kd:Nat) (w:Int):Int:=if kd = 0 then 0 else -(1 * 2 ^ (w - 1).toNat)
def hi (kd:Nat) (w:Int):Int:=if kd = 0 then 1 * 2 ^ w.toNat - 1 else 1 * 2 ^ (w - 1).toNat - 1
def KO (c:Ad) (H:Hp) (x:Addr) (kd:Nat) (w pt:Int):Prop:=∃ dx,H x = some (.ins (cOf c kd) dx [("width",.int w),("point",.int pt)])
def mi (K:Frag):Sp:=fun vs H Q _=>∃ (x C dx:Addr) (w p:Int),vs = [.ref x,.int w,.int p]/\H x = some (.ins C dx [])/\Cls K C/\NoAttr K C "width"/\NoAttr K C "point"/\∀ H',SameX x H H'->H' x = some (.ins C dx [("width",.int w),("point",.int p)])->Q .non H'
def m6 (c:Ad) (kd:Nat):Sp:=fun vs H Q _=>∃ (x dx:Addr) (w:Int),vs = [.ref x,.int w]/\H x = some (.ins (cOf c kd) dx [])/\4<=w/\w<=32/\∀ H',SameX x H H'->KO c H' x kd w 0->Q .non H'
def jS (c:Ad) (kd:Nat):Sp:=fun vs H Q _=>∃ (x:Addr) (w p:Int),vs = [.ref x]/\KO c H x kd w p/\4<=w/\w<=32/\Q (.int (lo kd w)) H
def iz (c:Ad) (kd:Nat):Sp:=fun vs H Q _=>∃ (x:Addr) (w p:Int),vs = [.ref x]/\KO c H x kd w p/\4<=w/\w<=32/\Q (.int (hi kd w)) H
def oQ (c:Ad):Sp:=fun vs H Q _=>∃ (kd:Nat) (x:Addr) (w p n:Int),vs = [.ref x,.int n]/\kd < 1/\KO c H x kd w p/\4<=w/\w<=32/\lo kd w<=n/\n<=hi kd w/\Q (.int (n % (1 * 2 ^ w.toNat))) H
theorem aX {x dx C:Addr} {H H':Hp} (hx:H x = none) (hd:H dx = none) (s:SameX x (upd (upd H dx (.own x)) x (.ins C dx [])) H'):Same H H':=fun b o h=>s b o (aE h hx) (by rw [ai (aE h hx),ai (aE h hd)]; exact h)
def cnt (kd:Nat) (w b:Int):Int:=if b<=hi kd w then b else b - 1 * 2 ^ w.toNat
def spIsW:Sp:=fun vs H Q _=>∃ w b:Int,vs = [.int w,.int b]/\4<=w/\w<=32/\0<=b/\b < 2 ^ w.toNat/\Q (.bl true) H
def spCnt (c:Ad):Sp:=fun vs H Q _=>∃ (kd:Nat) (x:Addr) (w p b:Int),vs = [.ref x,.int b]/\kd < 1/\KO c H x kd w p/\4<=w/\w<=32/\0<=b/\b < 2 ^ w.toNat/\Q (.int (cnt kd w b)) H
theorem b200 {x:Int} (h1:-(2 ^ 200) < x) (h2:x < 2 ^ 200):intBits x<=100000:=Nat.le_trans (intBits_le_iff.mpr (show x.natAbs < 2 ^ 200 by omega)) (by decide)
theorem Txt.cls {K:Frag} {mg:Str->Option Value} {c:Ad} (T:Txt K mg c) (kd:Nat):Cls K (cOf c kd):=T.cl_Plain
theorem Txt.naw {K:Frag} {mg:Str->Option Value} {c:Ad} (T:Txt K mg c) (kd:Nat):NoAttr K (cOf c kd) "width":=T.na_Plain_width
theorem Txt.nap {K:Frag} {mg:Str->Option Value} {c:Ad} (T:Txt K mg c) (kd:Nat):NoAttr K (cOf c kd) "point":=T.na_Plain_point
theorem iteC {c A B:Prop} [Decidable c] (h1:c->A) (h2:¬ c->B):if decide c = true then A else B:=by
 by_cases h:c
 ·exact cP h (h1 h)
 ·exact aN h (h2 h)
theorem iteI {a b:Int} {A B:Prop} (h1:a = b->A) (h2:a ≠ b->B):if decide (V.int a = V.int b) = true then A else B:=iteC (fun z=>h1 (by injection z)) (fun z=>h2 (fun e=>z (congrArg V.int e)))
local macro_rules | `(tactic| walk_at "s")=>`(tactic| first
 | omega | assumption | exact ty_int | exact rfl | (dsimp only; omega) | exact md (by omega) (by omega) | exact ⟨by decide,by decide⟩ | exact ⟨by omega,kl (by omega) (by omega)⟩
 | exact .inr ⟨by decide,by decide⟩ | exact .inl ⟨by decide,by decide⟩ | exact .inl ⟨by omega,by omega⟩ | exact .inr ⟨by omega,by omega⟩ | exact ⟨b200 (by omega) (by omega),b200 (by omega) (by omega)⟩
 | exact ⟨by decide,by decide,by decide⟩ | exact Nat.le_of_ble_eq_true rfl)
local macro_rules | `(tactic| walk_at "q")=>`(tactic| first | exact SqT.of (by first | assumption | exact ac) | exact SqL.of (by first | assumption | exact ac) | assumption)
local macro_rules | `(tactic| walk_at "o")=>`(tactic| repeat (first
 | refine ⟨_,rfl,?_⟩ | refine ⟨_,_,rfl,rfl,?_⟩ | with_reducible refine cu ?_ | with_reducible refine jd ?_
 | refine ⟨_,_,_,_,rfl,rfl,(by walk_at "q"),rfl,?_⟩
 | refine And.intro (by walk_at "s") ?_
 | refine ⟨_,_,rfl,?_⟩ | refine ⟨_,_,_,rfl,?_⟩
 | refine ⟨_,_,_,_,_,rfl,rfl,TyOf.int _,iO _,?_⟩ | refine ⟨_,_,_,_,_,rfl,rfl,TyOf.int _,hU _,?_⟩
 | refine ⟨_,_,_,_,_,rfl,rfl,TyOf.bl _,rfl,?_⟩
 | refine ⟨_,_,_,_,_,rfl,rfl,TyOf.tup (by assumption),rfl,?_⟩
 | refine ⟨_,_,rfl,.inr (SqT.of (by assumption)),?_⟩ | refine ⟨_,_,rfl,.inl (SqL.of (by assumption)),?_⟩
 | with_reducible refine cP (by omega) ?_ | with_reducible refine aN (by omega) ?_ | with_reducible refine iteN (by omega) ?_ | with_reducible refine g6 (by omega) ?_
 | with_reducible refine g6 rfl ?_))
local macro_rules | `(tactic| walk_at "c")=>`(tactic| first | with_reducible refine iteI ?_ ?_ | with_reducible refine iteIN ?_ ?_ | with_reducible refine iteC ?_ ?_ | with_reducible refine iteCN ?_ ?_ | refine ite2 ?_ ?_)
local macro_rules | `(tactic| walk_at "n")=>`(tactic| (intro z; injection z with z; revert z; decide +kernel))
open PySem.NumText (AllDigits digitsVal)
theorem lS:∀ (cs:List Nat) (a:Nat),cs.foldl (fun acc c=>acc * 10 + (c - 48)) a = a * 10 ^ cs.length + digitsVal cs
 | [],a=>by simp [digitsVal]
 | c :: cs,a=>by
  show cs.foldl _ (a * 10 + (c - 48)) = a * 10 ^ (cs.length + 1) + cs.foldl _ (0 * 10 + (c - 48))
  rw [lS cs (a * 10 + (c - 48)),lS cs (0 * 10 + (c - 48)),Nat.zero_mul,Nat.zero_add,Nat.add_mul,Nat.pow_succ,Nat.mul_assoc a 10,Nat.mul_comm 10 (10 ^ cs.length)]
  omega
theorem dv_cons (c:Nat) (cs:List Nat):digitsVal (c :: cs) = (c - 48) * 10 ^ cs.length + digitsVal cs:=by
 show cs.foldl _ (0 * 10 + (c - 48)) = _
 rw [lS,Nat.zero_mul,Nat.zero_add]
theorem dv_lt:∀ {cs:List Nat},AllDigits cs->digitsVal cs < 10 ^ cs.length
 | [],_=>by decide
 | c :: cs,h=>by
  have:=dv_lt h.tail
  have hc:=h.head
  rw [dv_cons,List.length_cons,Nat.pow_succ]
  have:(c - 48) * 10 ^ cs.length<=9 * 10 ^ cs.length:=Nat.mul_le_mul_right _ (by omega)
  omega
def oV:Option Int->V
 | some v=>.int v
 | none=>.non
theorem oK {α:Type} {l:List α} {j:Nat} {x:α} (h:l[j]? = some x):l.take (j + 1) = l.take j ++ [x]:=by rw [List.take_add_one,h]; rfl
theorem find_dig (ch:Nat):Txt.find (Str.ofString "0123456789") ⟨#[ch]⟩ = if 48<=ch/\ch<=57 then ((ch - 48:Nat):Int) else -1:=by
 by_cases c:48<=ch/\ch<=57
 ·rw [if_pos c]
  have a:∀ d ∈ List.range 58,48<=d->Txt.find (Str.ofString "0123456789") ⟨#[d]⟩ = ((d - 48:Nat):Int):=by decide +kernel
  exact a ch (List.mem_range.mpr (by omega)) c.1
 ·rw [if_neg c]
  have f:=PySem.StrLaws.found_one (Str.ofString "0123456789") ch
  rw [decide_eq_false (fun m=>c ?_)] at f
  ·unfold Txt.find
   cases e:Builtin.Str.occurrences (Str.ofString "0123456789") ⟨#[ch]⟩ 0 (Str.ofString "0123456789").length 1 with
   | nil=>rfl
   | cons a r=>rw [e] at f; cases f
  ·have a:∀ d ∈ (Str.ofString "0123456789").cps.toList,48<=d/\d<=57:=by decide +kernel
   exact a ch m
theorem Same.updL {H H':Hp} {l:Addr} {o:HO} (s:Same H H') (hl:H l = none):Same H (upd H' l o):=fun b u e=>by rw [ai (aE e hl)]; exact s b u e
theorem iH (z:Str):z.cps.toList.length = z.length:=Array.length_toList
def mZ:Sp:=fun vs H Q _=>∃ z:Str,vs = [.str z]/\z.length<=43/\∀ o:Option Int,(PySem.NumText.AllDigits z.cps.toList->o = some ((digitsVal z.cps.toList:Nat):Int))->(∀ n,o = some n->0<=n/\n < 10 ^ 43)->Q (oV o) H
def Num (z:Str):Prop:=PySem.NumText.AllDigits z.cps.toList/\1<=z.length/\z.length<=10/\(z.cps[0]? = some 48->z = "0")
def nV (z:Str):Int:=((digitsVal z.cps.toList:Nat):Int)
def qG:Sp:=fun vs H Q _=>∃ z:Str,vs = [.str z,.int 10]/\Num z/\Q (.int (nV z)) H
def kN:Sp:=fun vs H Q _=>∃ (z:Str) (lo hi:Int),vs = [.str z,.int lo,.int hi]/\Num z/\Q (if lo<=nV z/\nV z<=hi then .int (nV z) else .non) H
def inS (j i:Str):Bool:=!(Builtin.Str.occurrences j i 0 j.length 1).isEmpty
def LT:Str:="abcdefghijklmnopqrstuvwxyz"
def resW:List Str:=["width", "in", "out", "plain", "signed", "point", "set", "copy", "add", "sub", "addstop", "substop", "low", "high", "left", "right", "less", "same", "pick", "div", "rest", "over", "times", "mul", "part", "repeat", "end", "down", "up", "cut", "near"]
def Nm (z:Str):Prop:=1<=z.length/\z.length<=6/\(z.cps.toList.all fun n=>inS LT ⟨#[n]⟩) = true/\resW.contains z = false
def spNm:Sp:=fun vs H Q _=>∃ z:Str,vs = [.str z]/\Nm z/\∀ H',Same H H'->Q (.bl true) H'
theorem inV_str {z:Str} {xs:List Str}:inV (.str z) (xs.map V.str) = xs.contains z:=by
 unfold inV
 rw [List.any_map]
 induction xs with
 | nil=>rfl
 | cons y r ih =>
  rw [List.any_cons,List.contains_cons,ih]
  congr 1
  show decide _ = _
  by_cases e:z = y
  ·subst e; simp
  ·rw [beq_eq_false_iff_ne.mpr e]; simp [Ne.symm e]
theorem cS (xs:List Str):(xs.map V.str).all gM = true:=by
 rw [List.all_map]
 exact List.all_eq_true.mpr fun _ _=>rfl
section
variable {P:Program} {w:World} {K:Frag} {mg:Str->Option Value} {base:Heap} {c:Ad}
theorem ml {f:Addr} {fd:FuncData} (F:Fun K "is_whole" "is_whole" gw f fd) (T:Txt K mg c) :FnOk P w K mg base CX0 1 f fd ["thing"] lW:=by
 refine F.ok lK (fun vs H Q E h=>?_) (fun cdv A outer s H vs Q E hr h=>?_)
 ·obtain ⟨i,rfl,_⟩:=h
  rfl
 obtain ⟨i,rfl,q⟩:=h
 refine ⟨_,(aj (aB (fV (aF cM rfl T.n_isinstance boot_isinstance (aa (pv 0) (aa (pe_ty rfl T.n_int boot_int) af))) (hG (pe_not (aF cM rfl T.n_isinstance boot_isinstance (aa (pv 0) (aa (pe_ty rfl T.n_bool boot_bool) af)))))))),?_⟩
 refine ⟨_,rfl,_,_,_,_,_,rfl,rfl,TyOf.int _,iO _,_,rfl,jd ?_⟩
 refine ⟨_,rfl,_,_,_,_,_,rfl,rfl,TyOf.int _,hU _,_,rfl,?_⟩
 exact q
theorem jZ {f:Addr} {fd:FuncData} (F:Fun K "is_between" "is_between" ee f fd) (T:Txt K mg c) (H_is_whole:Has P w K mg base 1 "is_whole" ["thing"] lW):FnOk P w K mg base CX0 2 f fd ["thing", "low", "high"] df:=by
 refine F.ok jJ (fun vs H Q E h=>?_) (fun cdv A outer s H vs Q E hr h=>?_)
 ·obtain ⟨i,lo,hi,rfl,_⟩:=h
  rfl
 obtain ⟨i,lo,hi,rfl,h1,h2,q⟩:=h
 refine ⟨_,(aj (aB (fV (aJ H_is_whole (hr.mono (by omega)) rfl (aa (pv 0) af)) (hG (nH jk jk (pv 1) (pv 0) (pv 2)))))),?_⟩
 refine ⟨_,rfl,_,rfl,_,rfl,jd ?_⟩
 refine ⟨_,rfl,_,rfl,_,_,rfl,rfl,_,rfl,cP h1 ?_⟩
 refine ⟨_,rfl,_,_,rfl,rfl,?_⟩
 exact ret_true h2 q
theorem kD {f:Addr} {fd:FuncData} (F:Fun K "_law_cell" "_law_cell" fc f fd) (T:Txt K mg c) :FnOk P w K mg base CX0 1 f fd ["_law_script", "_law_k"] (pR K):=by
 refine F.ok kY (fun vs H Q E h=>?_) (fun cdv A outer s H vs Q E hr h=>?_)
 ·obtain ⟨a,ns,k,rfl,_⟩:=h
  rfl
 obtain ⟨a,ns,k,rfl,hS,h0,q⟩:=h
 refine ⟨_,(ae (aK (au nR (pv 1) (aF aM rfl T.n_len boot_len (aa (pv 0) af)) (aw _))
   (aj (aB (aH aD (pv 0) (pv 1) (fun _ _=>rfl))))
   az)
  (aj (aB (aA aW (aA dI ah (pv 1)) ah)))),?_⟩
 have hl:(ns.map V.int).length = ns.length:=List.length_map _
 refine ⟨_,rfl,_,rfl,a,_,rfl,.inl hS,_,_,rfl,rfl,_,rfl,?_⟩
 by_cases hc:k < (((ns.map V.int).length:Nat):Int)
 ·refine cP hc ?_
  rw [hl] at hc
  have e:k = ((k.toNat:Nat):Int):=by omega
  have g:=getI ns k.toNat (by omega)
  rw [<- e] at g
  exact ⟨_,rfl,_,rfl,a,_,_,_,rfl,rfl,hS,g,q _⟩
 ·refine aN hc ?_
  exact ⟨_,rfl,_,_,rfl,rfl,.inl ⟨by decide,by decide⟩,_,_,rfl,rfl,q _⟩
theorem lX {f:Addr} {fd:FuncData} (F:Fun K "_law_box" "_law_box" gW f fd) (T:Txt K mg c) :FnOk P w K mg base CX0 1 f fd ["_law_cell_here"] spBox:=by
 refine F.ok lM (fun vs H Q E h=>?_) (fun cdv A outer s H vs Q E hr h=>?_)
 ·obtain ⟨c,rfl,_⟩:=h
  rfl
 obtain ⟨c,rfl,q⟩:=h
 refine ⟨_,(aj (aB (aI (aa (aF (kc rfl) rfl T.n_max boot_max (aa ah (aa (aA dj (pv 0) (aA op_pow ah ah)) af))) (aa (aA dL (pv 0) ah) (aa ah af)))))),?_⟩
 refine ⟨_,rfl,_,_,rfl,rfl,⟨by decide,by decide,by decide⟩,_,_,rfl,rfl,_,_,rfl,?_⟩
 refine ⟨_,rfl,_,_,rfl,rfl,(by show (0:Int) < 2147483647; decide),(by show 3<=sizeLine; decide),fun p hp=>?_⟩
 exact q p _ hp ⟨_,_,_,ac⟩ (aq hp _)
theorem kZ {f:Addr} {fd:FuncData} (F:Fun K "_law_take" "_law_take" fj f fd) (T:Txt K mg c) :FnOk P w K mg base CX0 1 f fd ["_law_box_here", "_law_many"] jv:=by
 refine F.ok sc__law_take (fun vs H Q E h=>?_) (fun cdv A outer s H vs Q E hr h=>?_)
 ·obtain ⟨p,m,rfl,_⟩:=h
  rfl
 obtain ⟨p,m,rfl,⟨r,s1,c,hp⟩,h1,h2,q⟩:=h
 refine ⟨_,(ae (aK (au fq (aH aD (pv 0) ah (fun _ _=>rfl)) ah (aw _))
   (ae (ay (i:=2) sc__law_take.nd rfl (Or.inl rfl) (aA dL (aH aD (pv 0) ah (fun _ _=>rfl)) (pv 1)))
   (ae (kb (aA j7 (aH aD (pv 0) ah (fun _ _=>rfl)) (pv 1)) (kG (pv 0) ah gb))
   (aj (aB (pv 2)))))
   az)
  (ae (kb (aA aW (aH aD (pv 0) ah (fun _ _=>rfl)) ah) (kG (pv 0) ah gb))
  (ae (ay (i:=3) sc__law_take.nd rfl (Or.inl rfl) (aA dL (aA dI (aA aW (aA aW (aH aD (pv 0) ah (fun _ _=>rfl)) (aA dI ah (aH aD (pv 0) ah (fun _ _=>rfl)))) ah) ah) ah))
  (ae (ay (i:=3) sc__law_take.nd rfl (Or.inl rfl) (aA dL (aA aW (aA aW (aA dI (pv 3) (pv 3)) (aA dI ah (aH aD (pv 0) ah (fun _ _=>rfl)))) ah) ah))
  (aj (aB (aA dL (aA j7 (aA dL (aA dI (pv 3) (aA aW (pv 3) ah)) ah) ah) (pv 1)))))))),?_⟩
 refine ⟨_,rfl,p,_,_,_,rfl,rfl,SqL.of hp,rfl,_,_,rfl,rfl,_,rfl,?_⟩
 by_cases hc:0 < r
 ·refine cP hc ?_
  refine ⟨_,rfl,p,_,_,_,rfl,rfl,SqL.of hp,rfl,_,rfl,_,_,rfl,rfl,h1,?_⟩
  refine ⟨_,rfl,p,_,_,_,rfl,rfl,SqL.of hp,rfl,_,rfl,_,_,rfl,rfl,⟨h1,kl h1 h2⟩,?_⟩
  refine ⟨_,rfl,p,_,_,_,rfl,rfl,hp,rfl,?_⟩
  refine ⟨_,rfl,?_⟩
  exact q _ _ (Int.emod_nonneg _ (by omega)) (Int.emod_lt_of_pos _ h1) ⟨_,_,_,ac⟩ SameX.upd
 ·refine aN hc ?_
  refine ⟨_,rfl,p,_,_,_,rfl,rfl,SqL.of hp,rfl,_,_,rfl,rfl,?_⟩
  refine ⟨_,rfl,p,_,_,_,rfl,rfl,hp,rfl,?_⟩
  refine ⟨_,rfl,p,_,_,_,rfl,rfl,SqL.of ac,rfl,_,rfl,p,_,_,_,rfl,rfl,SqL.of ac,rfl,_,_,rfl,rfl,.inl ⟨by decide,by decide⟩,_,_,rfl,rfl,_,_,rfl,rfl,_,_,rfl,rfl,.inr ⟨by decide,by decide⟩,_,_,rfl,rfl,(by show (0:Int) < 2147483629; decide),?_⟩
  refine ⟨_,rfl,_,rfl,_,_,rfl,rfl,nE (by decide) (by decide),_,rfl,p,_,_,_,rfl,rfl,SqL.of ac,rfl,_,_,rfl,rfl,.inl ⟨by decide,by decide⟩,_,_,rfl,rfl,_,_,rfl,rfl,_,_,rfl,rfl,(by show (0:Int) < 2147483587; decide),?_⟩
  refine ⟨_,rfl,_,rfl,_,_,rfl,rfl,_,_,rfl,rfl,nE (by decide) (by decide),_,_,rfl,rfl,(by show (0:Int) < 2147483647; decide),_,_,rfl,rfl,⟨by decide,by decide⟩,_,rfl,_,_,rfl,rfl,h1,?_⟩
  exact q _ _ (Int.emod_nonneg _ (by omega)) (Int.emod_lt_of_pos _ h1) ⟨_,_,_,ac⟩ SameX.upd
theorem ij {f:Addr} {fd:FuncData} (F:Fun K "__init__" "Kind.__init__" cN f fd) (T:Txt K mg c) :FnOk P w K mg base CX0 1 f fd ["self", "width", "point"] (mi K):=by
 refine F.ok ig (fun vs H Q E h=>?_) (fun cdv A outer s H vs Q E hr h=>?_)
 ·obtain ⟨x,C,dx,w0,p,rfl,_⟩:=h
  rfl
 obtain ⟨x,C,dx,w0,p,rfl,hx,cl,n1,n2,q⟩:=h
 refine ⟨_,(ae (bf (pv 0) (pv 1) rfl)
  (aj (bf (pv 0) (pv 2) rfl))),?_⟩
 refine ⟨_,rfl,_,rfl,x,C,dx,_,rfl,hx,cl,n1,by decide,?_⟩
 refine ⟨_,rfl,_,rfl,x,C,dx,_,rfl,ac,cl,n2,(by show 1 < 1000; decide),?_⟩
 exact q _ (SameX.upd.trans SameX.upd) ac
theorem gR {f:Addr} {fd:FuncData} (F:Fun K "__init__" "Plain.__init__" cB f fd) (T:Txt K mg c) (H_need_width:Has P w K mg base 3 "need_width" ["width"] mF) (B_Kind___init__:BHas P w K mg base 1 "Kind" "__init__" ["self", "width", "point"] (mi K)):FnOk P w K mg base CX0 4 f fd ["self", "width"] (m6 c 0):=by
 refine F.ok gP (fun vs H Q E h=>?_) (fun cdv A outer s H vs Q E hr h=>?_)
 ·obtain ⟨x,dx,w0,rfl,_⟩:=h
  rfl
 obtain ⟨x,dx,w0,rfl,hx,h1,h2,q⟩:=h
 refine ⟨_,(ae (aV (aJ H_need_width (hr.mono (by omega)) rfl (aa (pv 1) af)))
  (aj (aV (pe_clsP B_Kind___init__ (hr.mono (by omega)) rfl (aa (pv 0) (aa (pv 1) (aa ah af))))))),?_⟩
 refine ⟨_,rfl,_,rfl,h1,h2,?_⟩
 refine ⟨_,rfl,_,rfl,x,_,dx,_,_,rfl,hx,T.cls 0,T.naw 0,T.nap 0,fun H' s' h'=>?_⟩
 exact q H' s' ⟨dx,h'⟩
theorem ji {f:Addr} {fd:FuncData} (F:Fun K "least" "Plain.least" dw f fd) (T:Txt K mg c) :FnOk P w K mg base CX0 2 f fd ["self"] (jS c 0):=by
 refine F.ok jo (fun vs H Q E h=>?_) (fun cdv A outer s H vs Q E hr h=>?_)
 ·obtain ⟨x,w0,p,rfl,_⟩:=h
  rfl
 obtain ⟨x,w0,p,rfl,ko,h1,h2,q⟩:=h
 refine ⟨_,(aj (aB ah)),?_⟩
 exact q
theorem gK {f:Addr} {fd:FuncData} (F:Fun K "greatest" "Plain.greatest" cA f fd) (T:Txt K mg c) :FnOk P w K mg base CX0 2 f fd ["self"] (iz c 0):=by
 refine F.ok g9 (fun vs H Q E h=>?_) (fun cdv A outer s H vs Q E hr h=>?_)
 ·obtain ⟨x,w0,p,rfl,_⟩:=h
  rfl
 obtain ⟨x,w0,p,rfl,ko,h1,h2,q⟩:=h
 refine ⟨_,(aj (aB (aA dj (aA iN ah (aC (pv 0) rfl)) ah))),?_⟩
 obtain ⟨dx,hx⟩:=ko
 exact ⟨_,rfl,x,_,dx,_,_,rfl,hx,T.cls 0,T.naw 0,rfl,_,_,rfl,rfl,md (by omega) (by omega),_,_,rfl,rfl,q⟩
theorem iW {f:Addr} {fd:FuncData} (F:Fun K "bits_of" "Kind.bits_of" c9 f fd) (T:Txt K mg c) (H_is_between:Has P w K mg base 2 "is_between" ["thing", "low", "high"] df) (ML:∀ i,i < 1->MHas P w K mg base 2 (cOf c i) "least" ["self"] (jS c i)) (MG:∀ i,i < 1->MHas P w K mg base 2 (cOf c i) "greatest" ["self"] (iz c i)):FnOk P w K mg base CX0 3 f fd ["self", "count"] (oQ c):=by
 refine F.ok iG (fun vs H Q E h=>?_) (fun cdv A outer s H vs Q E hr h=>?_)
 ·obtain ⟨kd,x,w0,p,n,rfl,_⟩:=h
  rfl
 obtain ⟨kd,x,w0,p,n,rfl,hk,ko,h1,h2,n1,n2,q⟩:=h
 refine ⟨_,(ae (aK (bV (bD (aJ H_is_between (hr.mono (by omega)) rfl (aa (pv 1) (aa (aT (k:=2) (pv 0) (hr.mono (by omega))) (aa (aT (k:=2) (pv 0) (hr.mono (by omega))) af))))))
   aZ
   az)
  (aj (aB (aA dL (pv 1) (aA iN ah (aC (pv 0) rfl)))))),?_⟩
 obtain ⟨dx,hx⟩:=id ko
 refine ⟨_,rfl,_,rfl,x,_,dx,_,_,_,rfl,hx,rfl,ML kd hk,x,w0,p,rfl,ko,h1,h2,_,rfl,x,_,dx,_,_,_,rfl,hx,rfl,MG kd hk,x,w0,p,rfl,ko,h1,h2,_,_,_,rfl,n1,n2,_,rfl,cu ?_⟩
 exact ⟨_,rfl,_,rfl,x,_,dx,_,_,rfl,hx,T.cls kd,T.naw kd,rfl,_,_,rfl,rfl,md (by omega) (by omega),_,_,rfl,rfl,p1_pos _,q⟩
theorem jT {f:Addr} {fd:FuncData} (F:Fun K "need_width" "need_width" eg f fd) (T:Txt K mg c) (H_is_between:Has P w K mg base 2 "is_between" ["thing", "low", "high"] df):FnOk P w K mg base CX0 3 f fd ["width"] mF:=by
 refine F.ok jU (fun vs H Q E h=>?_) (fun cdv A outer s H vs Q E hr h=>?_)
 ·obtain ⟨i,rfl,_⟩:=h
  rfl
 obtain ⟨i,rfl,h1,h2,q⟩:=h
 refine ⟨_,(aj (aK (bV (bD (aJ H_is_between (hr.mono (by omega)) rfl (aa (pv 0) (aa ah (aa ah af))))))
   aZ
   az)),?_⟩
 refine ⟨_,rfl,_,_,_,rfl,h1,h2,_,rfl,cu ?_⟩
 exact q
theorem ou {f:Addr} {fd:FuncData} (F:Fun K "is_word" "is_word" iR f fd) (T:Txt K mg c) (H_is_between:Has P w K mg base 2 "is_between" ["thing", "low", "high"] df):FnOk P w K mg base CX0 3 f fd ["width", "thing"] spIsW:=by
 refine F.ok ol (fun vs H Q E h=>?_) (fun cdv A outer s H vs Q E hr h=>?_)
 ·obtain ⟨i,b,rfl,_⟩:=h
  rfl
 obtain ⟨i,b,rfl,h1,h2,b0,b1,q⟩:=h
 refine ⟨_,(aj (aB (aJ H_is_between (hr.mono (by omega)) rfl (aa (pv 1) (aa ah (aa (aA dj (aA iN ah (pv 0)) ah) af)))))),?_⟩
 exact ⟨_,rfl,_,rfl,_,_,rfl,rfl,md (by omega) (by omega),_,_,rfl,rfl,b,_,_,rfl,b0,by omega,q⟩
theorem ie {f:Addr} {fd:FuncData} (F:Fun K "count_of" "Kind.count_of" cO f fd) (T:Txt K mg c) (H_is_word:Has P w K mg base 3 "is_word" ["width", "thing"] spIsW) (MG:∀ i,i < 1->MHas P w K mg base 2 (cOf c i) "greatest" ["self"] (iz c i)):FnOk P w K mg base CX0 4 f fd ["self", "bits"] (spCnt c):=by
 refine F.ok ib (fun vs H Q E h=>?_) (fun cdv A outer s H vs Q E hr h=>?_)
 ·obtain ⟨kd,x,w0,p,b,rfl,_⟩:=h
  rfl
 obtain ⟨kd,x,w0,p,b,rfl,hk,ko,h1,h2,b0,b1,q⟩:=h
 refine ⟨_,(ae (aK (bV (bD (aJ H_is_word (hr.mono (by omega)) rfl (aa (aC (pv 0) rfl) (aa (pv 1) af)))))
   aZ
   az)
  (aj (aB (bn (au jk (pv 1) (aT (k:=2) (pv 0) (hr.mono (by omega))) (aw _)) (pv 1) (aA dj (pv 1) (aA iN ah (aC (pv 0) rfl))))))),?_⟩
 obtain ⟨dx,hx⟩:=id ko
 refine ⟨_,rfl,x,_,dx,_,_,rfl,hx,T.cls kd,T.naw kd,rfl,_,rfl,_,_,rfl,h1,h2,b0,b1,_,rfl,cu ?_⟩
 unfold cnt at q
 refine ⟨_,rfl,_,rfl,x,_,dx,_,_,_,rfl,hx,rfl,MG kd hk,x,w0,p,rfl,ko,h1,h2,_,_,rfl,rfl,_,rfl,?_⟩
 walk_at "c" <;> intro c0
 ·rw [if_pos c0] at q
  exact ⟨_,rfl,q⟩
 ·rw [if_neg c0] at q
  exact ⟨_,rfl,_,rfl,x,_,dx,_,_,rfl,hx,T.cls kd,T.naw kd,rfl,_,_,rfl,rfl,md (by omega) (by omega),_,_,rfl,rfl,q⟩
theorem lj {f:Addr} {fd:FuncData} (F:Fun K "number_in" "number_in" fG f fd) (T:Txt K mg c) :FnOk P w K mg base CX0 1 f fd ["figures"] mZ:=by
 refine F.ok sc_number_in (fun vs H Q E h=>?_) (fun cdv A outer s H vs Q E hr h=>?_)
 ·obtain ⟨z,rfl,_⟩:=h
  rfl
 obtain ⟨z,rfl,hz,q⟩:=h
 refine ⟨_,(ae (ay (i:=1) sc_number_in.nd rfl (Or.inl rfl) ah)
  (ae (cU PassesOwn.never rfl (pd (pv 0)) (bu (i:=2) sc_number_in.nd rfl (Or.inl rfl))
   (ae (ay (i:=3) sc_number_in.nd rfl (Or.inl rfl) (cK PySem.F.plainAttrs_str PySem.F.slot_str_find PySem.F.type_str_find mt_find av (aa (pv 2) af)))
   (ae (aK (au nR (pv 3) ah (aw _))
    (aj (aB aR))
    az)
   (aj (ay (i:=1) sc_number_in.nd rfl (Or.inl rfl) (aA aW (aA dI (pv 1) ah) (pv 3)))))))
  (aj (aB (pv 1))))),?_⟩
 have L1000:(1000:Nat)<=sizeLine:=by decide
 refine ⟨_,rfl,z,rfl,ql (z:=z) (fun i σ G=>∃ (n:Nat) (y1 y2:Option V),σ = [some (.str z),some (.int (n:Int)),y1,y2]/\G = H/\PySem.NumText.AllDigits (z.cps.toList.take i)/\n = PySem.NumText.digitsVal (z.cps.toList.take i)) ⟨0,_,_,rfl,rfl,(fun _ h=>nomatch h),rfl⟩ ?_ ?_⟩
 ·rintro i ch σ G hc ⟨n,y1,y2,rfl,rfl,ad,en⟩
  have hc':z.cps.toList[i]? = some ch:=by rw [Array.getElem?_toList]; exact hc
  have tk:=oK hc'
  refine ⟨eW,_,rfl,_,_,rfl,rfl,?_⟩
  have fd:=find_dig ch
  have mem:ch ∈ z.cps.toList:=List.mem_of_getElem? hc'
  by_cases c1:48<=ch/\ch<=57
  ·rw [if_pos c1] at fd
   rw [fd]
   refine ⟨_,rfl,_,_,rfl,rfl,_,rfl,aN (by omega) ?_⟩
   refine ⟨_,rfl,_,_,rfl,rfl,.inr ⟨by decide,by decide⟩,_,rfl,_,_,rfl,rfl,?_⟩
   refine ⟨n * 10 + (ch - 48),some (.str ⟨#[ch]⟩),some (.int ((ch - 48:Nat):Int)),?_,rfl,?_,?_⟩
   ·show [some (V.str z),some (V.int ((n:Int) * 10 + ((ch - 48:Nat):Int))),some (V.str ⟨#[ch]⟩),some (V.int ((ch - 48:Nat):Int))] = _
    rw [show (n:Int) * 10 + ((ch - 48:Nat):Int) = ((n * 10 + (ch - 48):Nat):Int) by omega]
   ·rw [tk]
    intro d hd
    rcases List.mem_append.mp hd with hd | hd
    ·exact ad d hd
    ·rw [List.mem_singleton.mp hd]; exact c1
   ·rw [tk,PySem.NumText.digitsVal_snoc,en]
  ·rw [if_neg c1] at fd
   rw [fd]
   refine ⟨_,rfl,_,_,rfl,rfl,_,rfl,cP (by decide) ?_⟩
   exact q none (fun a=>absurd (a ch mem) c1) (fun n e=>nomatch e)
 ·rintro σ G ⟨n,y1,y2,rfl,rfl,ad,en⟩
  rw [show z.cps.toList.take z.cps.size = z.cps.toList by rw [<- Array.length_toList,List.take_length]] at ad en
  refine ⟨_,rfl,q (some (n:Int)) (fun _=>by rw [en]) fun m e=>?_⟩
  injection e with e
  subst e
  have:=dv_lt ad
  have l:z.cps.toList.length<=43:=by rw [iH]; exact hz
  have:(10:Nat) ^ z.cps.toList.length<=10 ^ 43:=Nat.pow_le_pow_right (by decide) l
  rw [<- en] at *
  refine ⟨by omega,?_⟩
  have h2:n < 10 ^ 43:=by omega
  exact_mod_cast h2
theorem lL {f:Addr} {fd:FuncData} (F:Fun K "whole_in" "whole_in" gO f fd) (T:Txt K mg c) (H_number_in:Has P w K mg base 1 "number_in" ["figures"] mZ):FnOk P w K mg base CX0 2 f fd ["word", "most"] qG:=by
 refine F.ok mE (fun vs H Q E h=>?_) (fun cdv A outer s H vs Q E hr h=>?_)
 ·obtain ⟨z,rfl,_⟩:=h
  rfl
 obtain ⟨z,rfl,⟨ad,l1,l2,n0⟩,q⟩:=h
 refine ⟨_,(ae (aK (PW.pt (dS (bV (nu jk jk ah (aF dO rfl T.n_len boot_len (aa (pv 0) af)) (pv 1))) (di (PW.pt (eF (au op_eq (aH qE (pv 0) ah (fun _ _=>rfl)) av (aw _)) (dE (au op_ne (pv 0) av (aw _))))))))
   (aj (aB aR))
   az)
  (aj (aB (aJ H_number_in (hr.mono (by omega)) rfl (aa (pv 0) af))))),?_⟩
 have L1000:(1000:Nat)<=sizeLine:=by decide
 have hz:z.length<=sizeLine:=by omega
 refine ⟨_,rfl,z,rfl,hz,_,_,rfl,rfl,_,rfl,cP (show (1:Int)<=(z.length:Int) by omega) ⟨_,rfl,_,_,rfl,rfl,_,rfl,g6 (show (z.length:Int)<=10 by omega) ?_⟩⟩
 have lz:z.length = z.cps.size:=rfl
 have e0:z.cps[0]? = some z.cps[0]:=Array.getElem?_eq_getElem (by omega)
 have a0:atI z.cps.toList 0 = some z.cps[0]:=gu (j:=0) (by rw [Array.getElem?_toList]; exact e0)
 have fin:∀ o:Option Int,(PySem.NumText.AllDigits z.cps.toList->o = some ((PySem.NumText.digitsVal z.cps.toList:Nat):Int))->(∀ n,o = some n->0<=n/\n < 10 ^ 43)->Q (oV o) H:=fun o h1 _=>by rw [h1 ad]; exact q
 refine ⟨_,rfl,z,0,_,rfl,rfl,hz,a0,rfl,_,rfl,?_⟩
 by_cases c0:z.cps[0] = 48
 ·have ez:z = "0":=n0 (by rw [e0,c0])
  refine cP (congrArg V.str (show (⟨#[z.cps[0]]⟩:Str) = "0" by rw [c0]; rfl)) ⟨_,rfl,rfl,_,rfl,g6 (congrArg V.str ez) ?_⟩
  exact ⟨_,rfl,z,rfl,by omega,fin⟩
 ·refine aN (fun e=>c0 ?_) ?_
  ·injection e with e
   have e':(⟨#[z.cps[0]]⟩:Str).cps = ("0":Str).cps:=congrArg Str.cps e
   exact congrArg (fun a:Array Nat=>a.getD 0 0) e'
  ·exact ⟨_,rfl,z,rfl,by omega,fin⟩
theorem jg {f:Addr} {fd:FuncData} (F:Fun K "number_told" "number_told" dq f fd) (T:Txt K mg c) (H_whole_in:Has P w K mg base 2 "whole_in" ["word", "most"] qG):FnOk P w K mg base CX0 3 f fd ["word", "low", "high"] kN:=by
 refine F.ok sc_number_told (fun vs H Q E h=>?_) (fun cdv A outer s H vs Q E hr h=>?_)
 ·obtain ⟨z,lo,hi,rfl,_⟩:=h
  rfl
 obtain ⟨z,lo,hi,rfl,nm,q⟩:=h
 refine ⟨_,(ae (ay (i:=3) sc_number_told.nd rfl (Or.inl rfl) (aJ H_whole_in (hr.mono (by omega)) rfl (aa (pv 0) (aa ah af))))
  (aj (aB (bn (PW.pt (eF (au j9 (pv 3) aR (aw _)) (dE (nu jk jk (pv 1) (pv 3) (pv 2))))) (pv 3) aR)))),?_⟩
 refine ⟨_,rfl,z,rfl,nm,?_⟩
 refine ⟨_,rfl,rfl,_,rfl,jd ?_⟩
 refine ⟨_,rfl,_,rfl,_,_,rfl,rfl,_,rfl,?_⟩
 by_cases c1:lo<=nV z
 ·refine cP c1 ⟨_,rfl,_,_,rfl,rfl,_,rfl,?_⟩
  by_cases c2:nV z<=hi
  ·rw [if_pos ⟨c1,c2⟩] at q
   exact cP c2 ⟨_,rfl,q⟩
  ·rw [if_neg (fun z=>c2 z.2)] at q
   exact aN c2 q
 ·rw [if_neg (fun z=>c1 z.1)] at q
  exact aN c1 ⟨_,rfl,cu q⟩
theorem oH {f:Addr} {fd:FuncData} (F:Fun K "is_name" "is_name" iU f fd) (T:Txt K mg c) :FnOk P w K mg base CX0 1 f fd ["word"] spNm:=by
 refine F.ok oF (fun vs H Q E h=>?_) (fun cdv A outer s H vs Q E hr h=>?_)
 ·obtain ⟨z,rfl,_⟩:=h
  rfl
 obtain ⟨z,rfl,⟨l1,l2,al,nr⟩,q⟩:=h
 refine ⟨_,(aj (aB (fV (nH jk jk ah (aF dO rfl T.n_len boot_len (aa (pv 0) af)) ah) (fV (aF (fk rfl) rfl T.n_all boot_all (aa (cR rfl (by first | rfl | with_unfolding_all rfl) (by decide +kernel) rfl (by decide +kernel) rfl (pd (pv 0)) (fun C s2 H2 fp=>(aS lc (pv 0) (pe_globS rfl T.g_LETTERS) (by with_unfolding_all rfl)))) af)) (hG (aS lJ (pv 0) (lw rfl T.g_RESERVED) (by with_unfolding_all rfl))))))),?_⟩
 have L1000:(1000:Nat)<=sizeLine:=by decide
 have hz:z.length<=sizeLine:=by omega
 refine ⟨_,rfl,z,rfl,hz,_,_,rfl,rfl,_,rfl,cP (show (1:Int)<=(z.length:Int) by omega) ?_⟩
 refine ⟨_,_,rfl,rfl,_,rfl,cP (show (z.length:Int)<=6 by omega) ?_⟩
 have lz:z.length = z.cps.size:=rfl
 refine ⟨_,rfl,z,rfl,fun D hD=>?_⟩
 refine comp_str (z:=z) (fun j HJ=>HJ D = some (.lst (((z.cps.toList.take j).map fun n=>inS LT ⟨#[n]⟩).map V.bl))/\Same H HJ) ⟨ac,aq hD _⟩ ?_ ?_
 ·rintro j n HJ hn ⟨hy,sJ⟩
  have jl:=(Array.getElem?_eq_some_iff.mp hn).1
  refine ⟨_,rfl,_,_,rfl,rfl,_,hy,(by rw [List.length_map,List.length_map,List.length_take]; omega),_,(show z.cps.size - (j + 1) < _ by omega),rfl,(by omega),?_,Same.updL sJ hD⟩
  rw [ac,List.take_add_one,show z.cps.toList[j]? = some n by rw [Array.getElem?_toList]; exact hn,Option.toList_some,List.map_append,List.map_append]
  rfl
 ·rintro HJ ⟨hy,sJ⟩
  rw [show z.cps.toList.take z.cps.size = z.cps.toList by rw [<- Array.length_toList,List.take_length]] at hy
  refine ⟨D,_,rfl,SqL.of hy,_,rfl,?_⟩
  rw [List.all_map,show (id ∘ fun n=>inS LT ⟨#[n]⟩) = fun n=>inS LT ⟨#[n]⟩ from rfl,al]
  refine jd ⟨_,rfl,_,_,rfl,.inr (T.q_RESERVED _),rfl,cS resW,?_⟩
  have e:(if true = true then !inV (.str z) (resW.map V.str) else inV (.str z) (resW.map V.str)) = true:=by rw [inV_str,nr]; rfl
  have:=q HJ sJ
  rw [<- e] at this
  exact this
theorem updX {H:Hp} {x:Addr} {o:HO}:SameX x H (upd H x o):=fun b u n e=>by rw [ai n]; exact e
theorem newX {H:Hp} {l x:Addr} {o:HO} (h:H l = none):SameX x H (upd H l o):=fun b u _ e=>by rw [ai (aE e h)]; exact e
def dfl (w:Int) (Li Lr Lo Lp Ll M:Addr):List (Str × V):=[("width",.int w),("inputs",.ref Li),("rows",.ref Lr),("outs",.ref Lo),("row_pairs",.ref Lp),("loops",.ref Ll),("met",.ref M)]
def rfl6 (line:Int) (deed:Str) (g r n:Addr) (way:V):List (Str × V):=[("line",.int line),("deed",.str deed),("goals",.ref g),("reads",.ref r),("numbers",.ref n),("way",way)]
def pfl (line times:Int) (l:Addr):List (Str × V):=[("line",.int line),("times",.int times),("rows",.ref l)]
def pc (c:Ad):Sp:=fun vs H Q _=>∃ (x dx:Addr) (line times:Int),vs = [.ref x,.int line,.int times]/\H x = some (.ins c.Repeat dx [])/\∀ l H',H l = none->H' x = some (.ins c.Repeat dx (pfl line times l))->H' l = some (.lst [])->SameX x H H'->Q .non H'
def qJ (c:Ad):Sp:=fun vs H Q _=>∃ (x dx:Addr) (line:Int) (deed:Str) (g:Addr),vs = [.ref x,.int line,.str deed,.ref g]/\H x = some (.ins c.Row dx [])/\∀ r n H',H r = none->H n = none->r ≠ n->H' x = some (.ins c.Row dx (rfl6 line deed g r n (.str "")))->H' r = some (.lst [])->H' n = some (.lst [])->SameX x H H'->Q .non H'
def spDrI (c:Ad):Sp:=fun vs H Q _=>∃ (x dx:Addr) (w:Int),vs = [.ref x,.int w]/\H x = some (.ins c.Draft dx [])/\∀ Li Lr Lo Lp Ll M H',(∀ a ∈ [Li,Lr,Lo,Lp,Ll,M],H a = none)->[x,Li,Lr,Lo,Lp,Ll,M].Nodup->H' x = some (.ins c.Draft dx (dfl w Li Lr Lo Lp Ll M))->(∀ a ∈ [Li,Lr,Lo,Lp,Ll],H' a = some (.lst []))->H' M = some (.dK [])->SameX x H H'->Q .non H'
theorem gr {f:Addr} {fd:FuncData} (F:Fun K "__init__" "Repeat.__init__" cq f fd) (T:Txt K mg c) :FnOk P w K mg base CX0 1 f fd ["self", "line", "times"] (pc c):=by
 refine F.ok fP (fun vs H Q E h=>?_) (fun cdv A outer s H vs Q E hr h=>?_)
 ·obtain ⟨x,dx,line,times,rfl,_⟩:=h
  rfl
 obtain ⟨x,dx,line,times,rfl,hx,q⟩:=h
 refine ⟨_,(ae (bf (pv 0) (pv 1) rfl)
  (ae (bf (pv 0) (pv 2) rfl)
  (aj (bf (pv 0) (aI af) rfl)))),?_⟩
 refine ⟨_,rfl,_,rfl,x,c.Repeat,dx,_,rfl,hx,T.cl_Repeat,T.na_Repeat_line,(by show 0 < 1000; decide),?_⟩
 refine ⟨_,rfl,_,rfl,x,c.Repeat,dx,_,rfl,ac,T.cl_Repeat,T.na_Repeat_times,(by show 1 < 1000; decide),?_⟩
 refine ⟨(by show 0<=sizeLine; decide),fun l hl=>?_⟩
 have nx:x ≠ l:=fun z=>by rw [<- z,ac] at hl; cases hl
 have h0:H l = none:=by rw [ai (Ne.symm nx),ai (Ne.symm nx)] at hl; exact hl
 refine ⟨_,rfl,x,c.Repeat,dx,_,rfl,(by rw [ai nx]; exact ac),T.cl_Repeat,T.na_Repeat_rows,(by show 2 < 1000; decide),?_⟩
 refine q l _ h0 ac (by rw [ai (Ne.symm nx)]; exact ac) fun b o hb e=>?_
 rw [ai hb,ai (aE e h0),ai hb,ai hb]
 exact e
theorem iK {f:Addr} {fd:FuncData} (F:Fun K "__init__" "Row.__init__" cY f fd) (T:Txt K mg c) :FnOk P w K mg base CX0 1 f fd ["self", "line", "deed", "goals"] (qJ c):=by
 refine F.ok iT (fun vs H Q E h=>?_) (fun cdv A outer s H vs Q E hr h=>?_)
 ·obtain ⟨x,dx,line,deed,g,rfl,_⟩:=h
  rfl
 obtain ⟨x,dx,line,deed,g,rfl,hx,q⟩:=h
 refine ⟨_,(ae (bf (pv 0) (pv 1) rfl)
  (ae (bf (pv 0) (pv 2) rfl)
  (ae (bf (pv 0) (pv 3) rfl)
  (ae (bf (pv 0) (aI af) rfl)
  (ae (bf (pv 0) (aI af) rfl)
  (aj (bf (pv 0) av rfl))))))),?_⟩
 refine ⟨_,rfl,_,rfl,x,c.Row,dx,_,rfl,hx,T.cl_Row,T.na_Row_line,(by show 0 < 1000; decide),?_⟩
 refine ⟨_,rfl,_,rfl,x,c.Row,dx,_,rfl,ac,T.cl_Row,T.na_Row_deed,(by show 1 < 1000; decide),?_⟩
 refine ⟨_,rfl,_,rfl,x,c.Row,dx,_,rfl,ac,T.cl_Row,T.na_Row_goals,(by show 2 < 1000; decide),?_⟩
 have s3:SameX x H (upd (upd (upd H x (.ins c.Row dx [("line",.int line)])) x (.ins c.Row dx [("line",.int line),("deed",.str deed)])) x (.ins c.Row dx [("line",.int line),("deed",.str deed),("goals",.ref g)])):=updX.trans (updX.trans updX)
 have x3:upd (upd (upd H x (.ins c.Row dx [("line",.int line)])) x (.ins c.Row dx [("line",.int line),("deed",.str deed)])) x (.ins c.Row dx [("line",.int line),("deed",.str deed),("goals",.ref g)]) x = some (.ins c.Row dx [("line",.int line),("deed",.str deed),("goals",.ref g)]):=ac
 have n3:∀ b,b ≠ x->upd (upd (upd H x (.ins c.Row dx [("line",.int line)])) x (.ins c.Row dx [("line",.int line),("deed",.str deed)])) x (.ins c.Row dx [("line",.int line),("deed",.str deed),("goals",.ref g)]) b = H b:=fun b n=>by rw [ai n,ai n,ai n]
 refine ⟨(by show 0<=sizeLine; decide),fun r hr'=>?_⟩
 have nr:x ≠ r:=fun z=>by rw [<- z] at hr'; exact absurd (x3.symm.trans hr') (by nofun)
 have r0:H r = none:=(n3 r (Ne.symm nr)).symm.trans hr'
 refine ⟨_,rfl,x,c.Row,dx,_,rfl,(by rw [ai nr]; exact ac),T.cl_Row,T.na_Row_reads,(by show 3 < 1000; decide),?_⟩
 refine ⟨(by show 0<=sizeLine; decide),fun n hn=>?_⟩
 have nn:x ≠ n:=fun z=>by rw [<- z,ac] at hn; cases hn
 rw [ai (Ne.symm nn)] at hn
 have nrn:r ≠ n:=fun z=>by rw [<- z,ac] at hn; cases hn
 rw [ai (Ne.symm nrn)] at hn
 have n0:H n = none:=(n3 n (Ne.symm nn)).symm.trans hn
 refine ⟨_,rfl,x,c.Row,dx,_,rfl,(by rw [ai nn]; exact ac),T.cl_Row,T.na_Row_numbers,(by show 4 < 1000; decide),?_⟩
 refine ⟨_,rfl,x,c.Row,dx,_,rfl,ac,T.cl_Row,T.na_Row_way,(by show 5 < 1000; decide),?_⟩
 refine q r n _ r0 n0 nrn ac ?_ ?_ fun b o hb e=>?_
 ·rw [ai (Ne.symm nr),ai (Ne.symm nr),ai nrn,ai (Ne.symm nr),ac]
 ·rw [ai (Ne.symm nn),ai (Ne.symm nn),ac]
 ·rw [ai hb,ai hb,ai (aE e n0),ai hb,ai (aE e r0)]
  exact s3 b o hb e
theorem gz {f:Addr} {fd:FuncData} (F:Fun K "__init__" "Draft.__init__" cy f fd) (T:Txt K mg c) :FnOk P w K mg base CX0 1 f fd ["self", "width"] (spDrI c):=by
 refine F.ok gE (fun vs H Q E h=>?_) (fun cdv A outer s H vs Q E hr h=>?_)
 ·obtain ⟨x,dx,w',rfl,_⟩:=h
  rfl
 obtain ⟨x,dx,w',rfl,hx,q⟩:=h
 refine ⟨_,(ae (bf (pv 0) (pv 1) rfl)
  (ae (bf (pv 0) (aI af) rfl)
  (ae (bf (pv 0) (aI af) rfl)
  (ae (bf (pv 0) (aI af) rfl)
  (ae (bf (pv 0) (aI af) rfl)
  (ae (bf (pv 0) (aI af) rfl)
  (aj (bf (pv 0) jP rfl)))))))),?_⟩
 refine ⟨_,rfl,_,rfl,x,c.Draft,dx,_,rfl,hx,T.cl_Draft,T.na_Draft_width,(by show 0 < 1000; decide),?_⟩
 have z5:(0:Nat)<=sizeLine:=by decide
 have nx:∀ {G:Hp} {fs:List (Str × V)} {a:Addr},G x = some (.ins c.Draft dx fs)->G a = none->x ≠ a:=fun h1 h2 z=>by rw [<- z,h1] at h2; cases h2
 refine ⟨z5,fun a1 h1=>?_⟩
 have x1:x ≠ a1:=nx ac h1
 have y1:a1 ≠ x:=Ne.symm x1
 refine ⟨_,rfl,x,c.Draft,dx,_,rfl,(by rw [ai x1]; exact ac),T.cl_Draft,T.na_Draft_inputs,(by show 1 < 1000; decide),?_⟩
 refine ⟨z5,fun a2 h2=>?_⟩
 have x2:x ≠ a2:=nx ac h2
 have y2:a2 ≠ x:=Ne.symm x2
 have m12:a1 ≠ a2:=fun z=>by rw [<- z] at h2; simp [upd,y1,x1] at h2
 have n12:=Ne.symm m12
 refine ⟨_,rfl,x,c.Draft,dx,_,rfl,(by rw [ai x2]; exact ac),T.cl_Draft,T.na_Draft_rows,(by show 2 < 1000; decide),?_⟩
 refine ⟨z5,fun a3 h3=>?_⟩
 have x3:x ≠ a3:=nx ac h3
 have y3:a3 ≠ x:=Ne.symm x3
 have m13:a1 ≠ a3:=fun z=>by rw [<- z] at h3; simp [upd,y1,y2,x1,x2,m12,n12] at h3
 have n13:=Ne.symm m13
 have m23:a2 ≠ a3:=fun z=>by rw [<- z] at h3; simp [upd,y1,y2,x1,x2,m12,n12] at h3
 have n23:=Ne.symm m23
 refine ⟨_,rfl,x,c.Draft,dx,_,rfl,(by rw [ai x3]; exact ac),T.cl_Draft,T.na_Draft_outs,(by show 3 < 1000; decide),?_⟩
 refine ⟨z5,fun a4 h4=>?_⟩
 have x4:x ≠ a4:=nx ac h4
 have y4:a4 ≠ x:=Ne.symm x4
 have m14:a1 ≠ a4:=fun z=>by rw [<- z] at h4; simp [upd,y1,y2,y3,x1,x2,x3,m12,m13,m23,n12,n13,n23] at h4
 have n14:=Ne.symm m14
 have m24:a2 ≠ a4:=fun z=>by rw [<- z] at h4; simp [upd,y1,y2,y3,x1,x2,x3,m12,m13,m23,n12,n13,n23] at h4
 have n24:=Ne.symm m24
 have m34:a3 ≠ a4:=fun z=>by rw [<- z] at h4; simp [upd,y1,y2,y3,x1,x2,x3,m12,m13,m23,n12,n13,n23] at h4
 have n34:=Ne.symm m34
 refine ⟨_,rfl,x,c.Draft,dx,_,rfl,(by rw [ai x4]; exact ac),T.cl_Draft,T.na_Draft_row_pairs,(by show 4 < 1000; decide),?_⟩
 refine ⟨z5,fun a5 h5=>?_⟩
 have x5:x ≠ a5:=nx ac h5
 have y5:a5 ≠ x:=Ne.symm x5
 have m15:a1 ≠ a5:=fun z=>by rw [<- z] at h5; simp [upd,y1,y2,y3,y4,x1,x2,x3,x4,m12,m13,m14,m23,m24,m34,n12,n13,n14,n23,n24,n34] at h5
 have n15:=Ne.symm m15
 have m25:a2 ≠ a5:=fun z=>by rw [<- z] at h5; simp [upd,y1,y2,y3,y4,x1,x2,x3,x4,m12,m13,m14,m23,m24,m34,n12,n13,n14,n23,n24,n34] at h5
 have n25:=Ne.symm m25
 have m35:a3 ≠ a5:=fun z=>by rw [<- z] at h5; simp [upd,y1,y2,y3,y4,x1,x2,x3,x4,m12,m13,m14,m23,m24,m34,n12,n13,n14,n23,n24,n34] at h5
 have n35:=Ne.symm m35
 have m45:a4 ≠ a5:=fun z=>by rw [<- z] at h5; simp [upd,y1,y2,y3,y4,x1,x2,x3,x4,m12,m13,m14,m23,m24,m34,n12,n13,n14,n23,n24,n34] at h5
 have n45:=Ne.symm m45
 refine ⟨_,rfl,x,c.Draft,dx,_,rfl,(by rw [ai x5]; exact ac),T.cl_Draft,T.na_Draft_loops,(by show 5 < 1000; decide),?_⟩
 refine fun a6 h6=>?_
 have x6:x ≠ a6:=nx ac h6
 have y6:a6 ≠ x:=Ne.symm x6
 have m16:a1 ≠ a6:=fun z=>by rw [<- z] at h6; simp [upd,y1,y2,y3,y4,y5,x1,x2,x3,x4,x5,m12,m13,m14,m15,m23,m24,m25,m34,m35,m45,n12,n13,n14,n15,n23,n24,n25,n34,n35,n45] at h6
 have n16:=Ne.symm m16
 have m26:a2 ≠ a6:=fun z=>by rw [<- z] at h6; simp [upd,y1,y2,y3,y4,y5,x1,x2,x3,x4,x5,m12,m13,m14,m15,m23,m24,m25,m34,m35,m45,n12,n13,n14,n15,n23,n24,n25,n34,n35,n45] at h6
 have n26:=Ne.symm m26
 have m36:a3 ≠ a6:=fun z=>by rw [<- z] at h6; simp [upd,y1,y2,y3,y4,y5,x1,x2,x3,x4,x5,m12,m13,m14,m15,m23,m24,m25,m34,m35,m45,n12,n13,n14,n15,n23,n24,n25,n34,n35,n45] at h6
 have n36:=Ne.symm m36
 have m46:a4 ≠ a6:=fun z=>by rw [<- z] at h6; simp [upd,y1,y2,y3,y4,y5,x1,x2,x3,x4,x5,m12,m13,m14,m15,m23,m24,m25,m34,m35,m45,n12,n13,n14,n15,n23,n24,n25,n34,n35,n45] at h6
 have n46:=Ne.symm m46
 have m56:a5 ≠ a6:=fun z=>by rw [<- z] at h6; simp [upd,y1,y2,y3,y4,y5,x1,x2,x3,x4,x5,m12,m13,m14,m15,m23,m24,m25,m34,m35,m45,n12,n13,n14,n15,n23,n24,n25,n34,n35,n45] at h6
 have n56:=Ne.symm m56
 refine ⟨_,rfl,x,c.Draft,dx,_,rfl,(by rw [ai x6]; exact ac),T.cl_Draft,T.na_Draft_met,(by show 6 < 1000; decide),?_⟩
 have f0:∀ a ∈ [a1,a2,a3,a4,a5,a6],H a = none:=by
  intro a ha
  simp only [List.mem_cons,List.not_mem_nil,or_false] at ha
  rcases ha with rfl | rfl | rfl | rfl | rfl | rfl
  ·simpa [upd,y1,y2,y3,y4,y5,y6,x1,x2,x3,x4,x5,x6,m12,m13,m14,m15,m16,m23,m24,m25,m26,m34,m35,m36,m45,m46,m56,n12,n13,n14,n15,n16,n23,n24,n25,n26,n34,n35,n36,n45,n46,n56] using h1
  ·simpa [upd,y1,y2,y3,y4,y5,y6,x1,x2,x3,x4,x5,x6,m12,m13,m14,m15,m16,m23,m24,m25,m26,m34,m35,m36,m45,m46,m56,n12,n13,n14,n15,n16,n23,n24,n25,n26,n34,n35,n36,n45,n46,n56] using h2
  ·simpa [upd,y1,y2,y3,y4,y5,y6,x1,x2,x3,x4,x5,x6,m12,m13,m14,m15,m16,m23,m24,m25,m26,m34,m35,m36,m45,m46,m56,n12,n13,n14,n15,n16,n23,n24,n25,n26,n34,n35,n36,n45,n46,n56] using h3
  ·simpa [upd,y1,y2,y3,y4,y5,y6,x1,x2,x3,x4,x5,x6,m12,m13,m14,m15,m16,m23,m24,m25,m26,m34,m35,m36,m45,m46,m56,n12,n13,n14,n15,n16,n23,n24,n25,n26,n34,n35,n36,n45,n46,n56] using h4
  ·simpa [upd,y1,y2,y3,y4,y5,y6,x1,x2,x3,x4,x5,x6,m12,m13,m14,m15,m16,m23,m24,m25,m26,m34,m35,m36,m45,m46,m56,n12,n13,n14,n15,n16,n23,n24,n25,n26,n34,n35,n36,n45,n46,n56] using h5
  ·simpa [upd,y1,y2,y3,y4,y5,y6,x1,x2,x3,x4,x5,x6,m12,m13,m14,m15,m16,m23,m24,m25,m26,m34,m35,m36,m45,m46,m56,n12,n13,n14,n15,n16,n23,n24,n25,n26,n34,n35,n36,n45,n46,n56] using h6
 have nd:[x,a1,a2,a3,a4,a5,a6].Nodup:=by simp [y1,y2,y3,y4,y5,y6,x1,x2,x3,x4,x5,x6,m12,m13,m14,m15,m16,m23,m24,m25,m26,m34,m35,m36,m45,m46,m56,n12,n13,n14,n15,n16,n23,n24,n25,n26,n34,n35,n36,n45,n46,n56]
 refine q a1 a2 a3 a4 a5 a6 _ f0 nd ac ?_ ?_ fun b o hb e=>?_
 ·intro a ha
  simp only [List.mem_cons,List.not_mem_nil,or_false] at ha
  rcases ha with rfl | rfl | rfl | rfl | rfl <;> simp [upd,y1,y2,y3,y4,y5,y6,x1,x2,x3,x4,x5,x6,m12,m13,m14,m15,m16,m23,m24,m25,m26,m34,m35,m36,m45,m46,m56,n12,n13,n14,n15,n16,n23,n24,n25,n26,n34,n35,n36,n45,n46,n56]
 ·simp [upd,y1,y2,y3,y4,y5,y6,x1,x2,x3,x4,x5,x6,m12,m13,m14,m15,m16,m23,m24,m25,m26,m34,m35,m36,m45,m46,m56,n12,n13,n14,n15,n16,n23,n24,n25,n26,n34,n35,n36,n45,n46,n56]
 ·have nb:∀ a ∈ [a1,a2,a3,a4,a5,a6],b ≠ a:=fun a ha=>aE e (f0 a ha)
  have b1:=nb a1 (by simp)
  have b2:=nb a2 (by simp)
  have b3:=nb a3 (by simp)
  have b4:=nb a4 (by simp)
  have b5:=nb a5 (by simp)
  have b6:=nb a6 (by simp)
  simp [upd,hb,b1,b2,b3,b4,b5,b6,e]
def cC (H:Hp) (L:List Addr):Hp:=fun b=>if b ∈ L then none else H b
theorem jQ {H:Hp} {L:List Addr} {a:Addr} {o:HO} (ha:a ∈ L):cC (upd H a o) L = cC H L:=funext fun b=>by
 unfold cC
 by_cases hb:b ∈ L
 ·rw [if_pos hb,if_pos hb]
 ·rw [if_neg hb,if_neg hb,ai (fun z=>hb (by rw [z]; exact ha))]
theorem bg {H:Hp} {L:List Addr}:Same (cC H L) H:=fun b o e=>by
 unfold cC at e
 split at e
 ·cases e
 ·exact e
theorem iP {H H':Hp} {L:List Addr} (s:Same H H'):Same (cC H L) (cC H' L):=fun b o e=>by
 unfold cC at e ⊢
 split at e
 ·cases e
 ·rename_i c; rw [if_neg c]; exact s _ _ e
theorem dQ {H:Hp} {L:List Addr} {b:Addr} {o:HO} (h:H b = some o) (n:b ∉ L):cC H L b = some o:=by unfold cC; rw [if_neg n]; exact h
structure RwD where
 line:Int
 deed:Str
 goals:List Str
 reads:List Str
structure DS where
 w:Int
 ins:List (Int × Str)
 outs:List (Int × Str)
 prs:List (RwD × Bool)
 top:List Int
 lps:List (Int × List Int)
 met:List Str
def PlK (c:Ad) (G:Hp) (w:Int) (k:Addr):Prop:=KO c G k 0 w 0
def InAt (c:Ad) (w:Int) (G:Hp) (p:Addr) (y:Int × Str):Prop:=∃ k,G p = some (.tup [.int y.1,.str y.2,.ref k])/\PlK c G w k
def OuAt (G:Hp) (p:Addr) (y:Int × Str):Prop:=G p = some (.tup [.int y.1,.str y.2])
def RwAt (c:Ad) (G:Hp) (x:Addr) (r:RwD):Prop:=∃ dx g rd n way,G x = some (.ins c.Row dx (rfl6 r.line r.deed g rd n way))/\G g = some (.lst (r.goals.map V.str))/\G rd = some (.lst (r.reads.map V.str))
def PrAt (c:Ad) (w:Int) (G:Hp) (p:Addr) (y:RwD × Bool):Prop:=∃ x k,G p = some (.tup [.ref x,if y.2 then .ref k else .non])/\RwAt c G x y.1/\(y.2 = true->PlK c G w k)
def Ls {α:Type} (R:Hp->Addr->α->Prop) (G:Hp) (ps:List Addr) (ys:List α):Prop:=ps.length = ys.length/\∀ (i:Nat) p y,ps[i]? = some p->ys[i]? = some y->R G p y
theorem Ls.mono {α:Type} {R:Hp->Addr->α->Prop} {G G':Hp} {ps:List Addr} {ys:List α} (h:Ls R G ps ys) (f:∀ p y,R G p y->R G' p y):Ls R G' ps ys:=⟨h.1,fun i p y a b=>f _ _ (h.2 i p y a b)⟩
theorem Ls.nil {α:Type} {R:Hp->Addr->α->Prop} {G:Hp}:Ls R G [] ([]:List α):=⟨rfl,fun i p y a _=>by simp at a⟩
theorem Ls.snoc {α:Type} {R:Hp->Addr->α->Prop} {G:Hp} {ps:List Addr} {ys:List α} {p:Addr} {y:α} (h:Ls R G ps ys) (r:R G p y):Ls R G (ps ++ [p]) (ys ++ [y]):=by
 refine ⟨by rw [List.length_append,List.length_append,h.1]; rfl,fun i q z a b=>?_⟩
 by_cases hi:i < ps.length
 ·rw [List.getElem?_append_left hi] at a
  rw [List.getElem?_append_left (by rw [<- h.1]; exact hi)] at b
  exact h.2 i q z a b
 ·rw [List.getElem?_append_right (by omega)] at a
  rw [List.getElem?_append_right (by rw [<- h.1]; omega),<- h.1] at b
  cases e:i - ps.length with
  | zero=>rw [e] at a b; cases a; cases b; exact r
  | succ n=>rw [e] at a; simp at a
def ItAt (c:Ad):Nat->Hp->Addr->Int->Prop
 | 0,G,x,n=>n = 1/\∃ dx fs,G x = some (.ins c.Row dx fs)
 | d + 1,G,x,n=>(n = 1/\∃ dx fs,G x = some (.ins c.Row dx fs))\/∃ (dx:Addr) (line t:Int) (l:Addr) (ps:List Addr) (ns:List Int),G x = some (.ins c.Repeat dx (pfl line t l))/\G l = some (.lst (ps.map V.ref))/\ps.length = ns.length/\(∀ (i:Nat) p m,ps[i]? = some p->ns[i]? = some m->ItAt c d G p m)/\n = t * ns.sum/\0<=t/\t<=100/\ns.length<=200
theorem ItAt.same {c:Ad} {G G':Hp} (s:Same G G'):∀ {d:Nat} {x:Addr} {n:Int},ItAt c d G x n->ItAt c d G' x n
 | 0,_,_,⟨h,dx,fs,e⟩=>⟨h,dx,fs,s _ _ e⟩
 | _ + 1,_,_,.inl ⟨h,dx,fs,e⟩=>.inl ⟨h,dx,fs,s _ _ e⟩
 | _ + 1,_,_,.inr ⟨dx,line,t,l,ps,ns,e1,e2,e3,e4,e5⟩=>.inr ⟨dx,line,t,l,ps,ns,s _ _ e1,s _ _ e2,e3,fun i p m a b=>(e4 i p m a b).same s,e5⟩
structure Lp where
 o:Addr
 l:Addr
 t:Int
 ns:List Int
def LvAt (c:Ad) (H G:Hp):(d:Nat)->(l:Addr)->(ns:List Int)->List Lp->Prop
 | d,l,ns,[]=>∃ ps:List Addr,H l = some (.lst (ps.map V.ref))/\Ls (ItAt c d) G ps ns
 | d,l,ns,y :: r=>∃ ps:List Addr,H l = some (.lst ((ps ++ [y.o]).map V.ref))/\Ls (ItAt c d) G ps ns/\(∃ dx line,G y.o = some (.ins c.Repeat dx (pfl line y.t y.l)))/\LvAt c H G (d - 1) y.l y.ns r
def ba (Lr:Addr):List Lp->Addr
 | []=>Lr
 | y :: r=>ba y.l r
structure DrAt (c:Ad) (H:Hp) (x:Addr) (S:DS) (Li Lr Lo Lp' Ll M:Addr) (ys:List Lp):Prop where
 nd:([x,Li,Lr,Lo,Lp',Ll,M] ++ ys.map (·.l)).Nodup
 hx:∃ dx,H x = some (.ins c.Draft dx (dfl S.w Li Lr Lo Lp' Ll M))
 ins:∃ ps:List Addr,H Li = some (.lst (ps.map V.ref))/\Ls (InAt c S.w) (cC H ([x,Li,Lr,Lo,Lp',Ll,M] ++ ys.map (·.l))) ps S.ins
 outs:∃ ps:List Addr,H Lo = some (.lst (ps.map V.ref))/\Ls OuAt (cC H ([x,Li,Lr,Lo,Lp',Ll,M] ++ ys.map (·.l))) ps S.outs
 prs:∃ ps:List Addr,H Lp' = some (.lst (ps.map V.ref))/\Ls (PrAt c S.w) (cC H ([x,Li,Lr,Lo,Lp',Ll,M] ++ ys.map (·.l))) ps S.prs
 lps:H Ll = some (.lst (ys.map fun y=>V.ref y.o))/\ys.map (fun y=>(y.t,y.ns)) = S.lps
 lv:LvAt c H (cC H ([x,Li,Lr,Lo,Lp',Ll,M] ++ ys.map (·.l))) 5 Lr S.top ys
 met:H M = some (.dK (S.met.map fun z=>(.inr z,.bl true)))
theorem oY {c:Ad} {H G:Hp}:∀ {r:List Lp} {d:Nat} {l:Addr} {ns:List Int} {y:Lp},LvAt c H G d l ns (y :: r)->∃ (zs:List Lp) (z:Lp),y :: r = zs ++ [z]/\z.l = ba l (y :: r)/\∃ dx line,G z.o = some (.ins c.Repeat dx (pfl line z.t z.l))
 | [],_,_,_,y,h=>by
  obtain ⟨ps,_,_,⟨dx,line,e⟩,_⟩:=h
  exact ⟨[],y,rfl,rfl,dx,line,e⟩
 | u :: r,d,_,_,y,h=>by
  obtain ⟨ps,_,_,_,h'⟩:=h
  obtain ⟨zs,z,e1,e2,e3⟩:=oY h'
  exact ⟨y :: zs,z,by rw [e1]; rfl,e2,e3⟩
def lh (c:Ad):Sp:=fun vs H Q _=>∃ (x:Addr) (S:DS) (Li Lr Lo Lp' Ll M:Addr) (ys:List Lp),vs = [.ref x]/\DrAt c H x S Li Lr Lo Lp' Ll M ys/\S.lps.length<=100/\∀ H',Same H H'->Q (.ref (ba Lr ys)) H'
theorem fK {f:Addr} {fd:FuncData} (F:Fun K "rows_here" "Draft.rows_here" bY f fd) (T:Txt K mg c) :FnOk P w K mg base CX0 1 f fd ["self"] (lh c):=by
 refine F.ok gm (fun vs H Q E h=>?_) (fun cdv A outer s H vs Q E hr h=>?_)
 ·obtain ⟨x,S,Li,Lr,Lo,Lp',Ll,M,ys,rfl,_⟩:=h
  rfl
 obtain ⟨x,S,Li,Lr,Lo,Lp',Ll,M,ys,rfl,D,ln,q⟩:=h
 refine ⟨_,(aj (aB (bn (au (nt (Nat.lt_of_succ_lt (bh hr))) (aC (pv 0) rfl) (aI af) (aw _)) (aC (pv 0) rfl) (aC (aH aD (aC (pv 0) rfl) (jj eX ah) (fun _ _=>rfl)) rfl)))),?_⟩
 obtain ⟨dx,hx⟩:=D.hx
 refine ⟨_,rfl,x,c.Draft,dx,_,_,rfl,hx,T.cl_Draft,T.na_Draft_loops,rfl,(by show 0<=sizeLine; decide),fun l hl=>?_⟩
 have sl:=aq hl (.lst [])
 have hLl:=sl _ _ D.lps.1
 refine ⟨Ll,l,_,rfl,rfl,SqL.of hLl,SqL.of ac,_,rfl,?_⟩
 have lv:=D.lv
 have hx':=sl _ _ hx
 cases ys with
 | nil=>exact jd ⟨_,rfl,x,c.Draft,dx,_,_,rfl,hx',T.cl_Draft,T.na_Draft_rows,rfl,q _ sl⟩
 | cons y r =>
  obtain ⟨zs,z,e1,e2,dz,line,e3⟩:=oY lv
  rw [e1,List.map_append] at hLl
  refine cu ⟨_,rfl,x,c.Draft,dx,_,_,rfl,hx',T.cl_Draft,T.na_Draft_loops,rfl,_,rfl,Ll,_,_,_,rfl,rfl,SqL.of hLl,atI_last _ _,z.o,c.Repeat,dz,_,_,rfl,sl _ _ (bg _ _ e3),T.cl_Repeat,T.na_Repeat_rows,rfl,?_⟩
  rw [e2]
  exact q _ sl
def qm (c:Ad):Sp:=fun vs H Q _=>∃ (x:Addr) (S:DS) (Li Lr Lo Lp' Ll M:Addr) (ys:List Lp),vs = [.ref x]/\DrAt c H x S Li Lr Lo Lp' Ll M ys/\Q (.bl (decide (30 < S.met.length) || decide (3 < S.lps.length))) H
theorem eP {f:Addr} {fd:FuncData} (F:Fun K "is_too_much" "Draft.is_too_much" bE f fd) (T:Txt K mg c) :FnOk P w K mg base CX0 1 f fd ["self"] (qm c):=by
 refine F.ok eQ (fun vs H Q E h=>?_) (fun cdv A outer s H vs Q E hr h=>?_)
 ·obtain ⟨x,S,Li,Lr,Lo,Lp',Ll,M,ys,rfl,_⟩:=h
  rfl
 obtain ⟨x,S,Li,Lr,Lo,Lp',Ll,M,ys,rfl,D,q⟩:=h
 refine ⟨_,(aj (aB (pe_or (aS fq (aF oN rfl T.n_len boot_len (aa (aC (pv 0) rfl) af)) (gg rfl T.g_MOST_NAMES) (aw _)) (hG (aS fq (aF aM rfl T.n_len boot_len (aa (aC (pv 0) rfl) af)) (gg rfl T.g_MOST_LOOPS) (aw _)))))),?_⟩
 obtain ⟨dx,hx⟩:=D.hx
 have el:S.lps.length = ys.length:=by rw [<- D.lps.2,List.length_map]
 refine ⟨_,rfl,x,c.Draft,dx,_,_,rfl,hx,T.cl_Draft,T.na_Draft_met,rfl,M,_,rfl,D.met,_,_,rfl,rfl,_,rfl,?_⟩
 rw [List.length_map]
 by_cases c1:30 < S.met.length
 ·rw [decide_eq_true c1,Bool.true_or] at q
  exact cP (show (30:Int) < (S.met.length:Int) by omega) q
 ·rw [decide_eq_false c1,Bool.false_or] at q
  refine aN (show ¬ (30:Int) < (S.met.length:Int) by omega) ⟨_,rfl,x,c.Draft,dx,_,_,rfl,hx,T.cl_Draft,T.na_Draft_loops,rfl,Ll,_,rfl,.inl (SqL.of D.lps.1),_,_,rfl,rfl,?_⟩
  rw [List.length_map,<- el]
  have e3:decide ((3:Int) < (S.lps.length:Int)) = decide (3 < S.lps.length):=decide_eq_decide.mpr (by omega)
  rw [<- e3] at q
  exact q
def DS.out (S:DS) (y:Int × Str):DS:={ S with outs:=S.outs ++ [y] }
theorem lD {L:List Addr} {i j:Nat} {a b:Addr} (h:L.Nodup) (ha:L[i]? = some a) (hb:L[j]? = some b) (n:i ≠ j):a ≠ b:=fun z=>by
 subst z
 obtain ⟨hi,ei⟩:=List.getElem?_eq_some_iff.mp ha
 obtain ⟨hj,ej⟩:=List.getElem?_eq_some_iff.mp hb
 have key:=List.pairwise_iff_getElem.mp h
 rcases Nat.lt_or_gt_of_ne n with q | q
 ·exact key i j hi hj q (ei.trans ej.symm)
 ·exact key j i hj hi q (ej.trans ei.symm)
abbrev aU (x Li Lr Lo Lp' Ll M:Addr) (ys:List Lp):List Addr:=[x,Li,Lr,Lo,Lp',Ll,M] ++ ys.map (·.l)
theorem InAt.same {c:Ad} {w:Int} {G G':Hp} (s:Same G G') {p:Addr} {y:Int × Str} (h:InAt c w G p y):InAt c w G' p y:=by
 obtain ⟨k,a,dx,b⟩:=h
 exact ⟨k,s _ _ a,dx,s _ _ b⟩
theorem RwAt.same {c:Ad} {G G':Hp} (s:Same G G') {p:Addr} {y:RwD} (h:RwAt c G p y):RwAt c G' p y:=by
 obtain ⟨dx,g,rd,n,way,a,b,d⟩:=h
 exact ⟨dx,g,rd,n,way,s _ _ a,s _ _ b,s _ _ d⟩
theorem PrAt.same {c:Ad} {w:Int} {G G':Hp} (s:Same G G') {p:Addr} {y:RwD × Bool} (h:PrAt c w G p y):PrAt c w G' p y:=by
 obtain ⟨x,k,a,b,d⟩:=h
 refine ⟨x,k,s _ _ a,b.same s,fun e=>?_⟩
 obtain ⟨dx,z⟩:=d e
 exact ⟨dx,s _ _ z⟩
theorem LvAt.mono {c:Ad} {H H' G G':Hp} (s:Same G G'):∀ {r:List Lp} {d:Nat} {l:Addr} {ns:List Int},(∀ y ∈ r,H' y.l = H y.l)->H' l = H l->LvAt c H G d l ns r->LvAt c H' G' d l ns r
 | [],_,_,_,_,hl,⟨ps,a,b⟩=>⟨ps,hl.trans a,b.mono fun _ _ q=>q.same s⟩
 | y :: r,_,_,_,hr,hl,⟨ps,a,b,⟨dx,line,e⟩,t⟩=>⟨ps,hl.trans a,b.mono fun _ _ q=>q.same s,⟨dx,line,s _ _ e⟩,t.mono s (fun z hz=>hr z (List.mem_cons_of_mem _ hz)) (hr y (List.mem_cons_self ..))⟩
theorem DrAt.same {c:Ad} {H H':Hp} {x:Addr} {S:DS} {Li Lr Lo Lp' Ll M:Addr} {ys:List Lp} (D:DrAt c H x S Li Lr Lo Lp' Ll M ys) (s:Same H H'):DrAt c H' x S Li Lr Lo Lp' Ll M ys:=by
 have sg:=iP (L:=aU x Li Lr Lo Lp' Ll M ys) s
 obtain ⟨nd,⟨dx,hx⟩,⟨p1,a1,b1⟩,⟨p2,a2,b2⟩,⟨p3,a3,b3⟩,⟨a4,b4⟩,lv,mt⟩:=D
 refine ⟨nd,⟨dx,s _ _ hx⟩,⟨p1,s _ _ a1,b1.mono fun _ _ q=>q.same sg⟩,⟨p2,s _ _ a2,b2.mono fun _ _ q=>sg _ _ q⟩,⟨p3,s _ _ a3,b3.mono fun _ _ q=>q.same sg⟩,⟨s _ _ a4,b4⟩,?_,s _ _ mt⟩
 have key:∀ {r:List Lp} {d:Nat} {l:Addr} {ns:List Int},LvAt c H (cC H (aU x Li Lr Lo Lp' Ll M ys)) d l ns r->LvAt c H' (cC H' (aU x Li Lr Lo Lp' Ll M ys)) d l ns r:=by
  intro r
  induction r with
  | nil=>rintro d l ns ⟨ps,a,b⟩; exact ⟨ps,s _ _ a,b.mono fun _ _ q=>q.same sg⟩
  | cons y r ih=>rintro d l ns ⟨ps,a,b,⟨dx,line,e⟩,t⟩; exact ⟨ps,s _ _ a,b.mono fun _ _ q=>q.same sg,⟨dx,line,sg _ _ e⟩,ih t⟩
 exact key lv
section
variable {c:Ad} {H:Hp} {x:Addr} {S:DS} {Li Lr Lo Lp' Ll M:Addr} {ys:List Lp}
theorem DrAt.far (D:DrAt c H x S Li Lr Lo Lp' Ll M ys) {i j:Nat} {a b:Addr} (ha:(aU x Li Lr Lo Lp' Ll M ys)[i]? = some a) (hb:(aU x Li Lr Lo Lp' Ll M ys)[j]? = some b) (n:i ≠ j):a ≠ b:=lD D.nd ha hb n
theorem DrAt.loop {y:Lp} (hy:y ∈ ys):∃ k,(aU x Li Lr Lo Lp' Ll M ys)[7 + k]? = some y.l:=by
 obtain ⟨k,hk,e⟩:=List.mem_iff_getElem.mp hy
 refine ⟨k,?_⟩
 rw [List.getElem?_append_right (by show 7<=7 + k; omega)]
 show (ys.map (·.l))[7 + k - 7]? = some y.l
 rw [show 7 + k - 7 = k by omega,List.getElem?_map,List.getElem?_eq_getElem hk,e]
 rfl
theorem DrAt.fresh (D:DrAt c H x S Li Lr Lo Lp' Ll M ys) {t:Addr} (ht:H t = none):t ∉ aU x Li Lr Lo Lp' Ll M ys:=fun m=>by
 have ne:H t ≠ none:=by
  rcases List.mem_append.mp m with m | m
  ·simp only [List.mem_cons,List.not_mem_nil,or_false] at m
   obtain ⟨dx,hx⟩:=D.hx
   obtain ⟨p1,a1,_⟩:=D.ins
   obtain ⟨p2,a2,_⟩:=D.outs
   obtain ⟨p3,a3,_⟩:=D.prs
   rcases m with rfl | rfl | rfl | rfl | rfl | rfl | rfl
   ·rw [hx]; nofun
   ·rw [a1]; nofun
   ·have lv:=D.lv
    cases ys with
    | nil=>obtain ⟨ps,a,_⟩:=lv; rw [a]; nofun
    | cons y r=>obtain ⟨ps,a,_⟩:=lv; rw [a]; nofun
   ·rw [a2]; nofun
   ·rw [a3]; nofun
   ·rw [D.lps.1]; nofun
   ·rw [D.met]; nofun
  ·obtain ⟨z,hz,rfl⟩:=List.mem_map.mp m
   have key:∀ {r:List Lp} {d:Nat} {l:Addr} {ns:List Int},LvAt c H (cC H (aU x Li Lr Lo Lp' Ll M ys)) d l ns r->∀ z ∈ r,H z.l ≠ none:=by
    intro r
    induction r with
    | nil=>rintro d l ns _ z hz; cases hz
    | cons u r ih =>
     rintro d l ns ⟨ps,_,_,_,t⟩ z hz
     rcases List.mem_cons.mp hz with rfl | hz
     ·cases r with
      | nil=>obtain ⟨ps,a,_⟩:=t; rw [a]; nofun
      | cons v r=>obtain ⟨ps,a,_⟩:=t; rw [a]; nofun
     ·exact ih t z hz
   exact key D.lv z hz
 exact ne ht
theorem DrAt.addOut (D:DrAt c H x S Li Lr Lo Lp' Ll M ys) {t:Addr} {y:Int × Str} {ps:List Addr} (ht:H t = none) (hp:H Lo = some (.lst (ps.map V.ref))) :
  DrAt c (upd (upd H t (.tup [.int y.1,.str y.2])) Lo (.lst (ps.map V.ref ++ [.ref t]))) x (S.out y) Li Lr Lo Lp' Ll M ys:=by
 have sn:=aq ht (.tup [V.int y.1,.str y.2])
 have D1:=D.same sn
 have tn:=D.fresh ht
 have hid:cC (upd (upd H t (.tup [V.int y.1,.str y.2])) Lo (.lst (ps.map V.ref ++ [.ref t]))) (aU x Li Lr Lo Lp' Ll M ys) = cC (upd H t (.tup [V.int y.1,.str y.2])) (aU x Li Lr Lo Lp' Ll M ys):=jQ (by simp)
 obtain ⟨nd,⟨dx,hx⟩,⟨p1,a1,b1⟩,⟨p2,a2,b2⟩,⟨p3,a3,b3⟩,⟨a4,b4⟩,lv,mt⟩:=D1
 have e2:p2 = ps:=by
  have e:=(sn _ _ hp).symm.trans a2
  injection e with e
  injection e with e
  exact (List.map_inj_right (fun a b h=>by injection h)).mp e.symm
 subst e2
 have nx:x ≠ Lo:=lD nd (i:=0) (j:=3) rfl rfl (by decide)
 have n1:Li ≠ Lo:=lD nd (i:=1) (j:=3) rfl rfl (by decide)
 have n2:Lr ≠ Lo:=lD nd (i:=2) (j:=3) rfl rfl (by decide)
 have n4:Lp' ≠ Lo:=lD nd (i:=4) (j:=3) rfl rfl (by decide)
 have n5:Ll ≠ Lo:=lD nd (i:=5) (j:=3) rfl rfl (by decide)
 have n6:M ≠ Lo:=lD nd (i:=6) (j:=3) rfl rfl (by decide)
 refine ⟨nd,⟨dx,by rw [ai nx]; exact hx⟩,⟨p1,by rw [ai n1]; exact a1,by rw [hid]; exact b1⟩,⟨p2 ++ [t],by rw [ac,List.map_append]; rfl,by rw [hid]; exact b2.snoc (dQ ac tn)⟩,⟨p3,by rw [ai n4]; exact a3,by rw [hid]; exact b3⟩,⟨by rw [ai n5]; exact a4,b4⟩,?_,by rw [ai n6]; exact mt⟩
 rw [hid]
 refine lv.mono (fun _ _ q=>q) (fun y hy=>?_) (by rw [ai n2])
 obtain ⟨k,hk⟩:=DrAt.loop (x:=x) (Li:=Li) (Lr:=Lr) (Lo:=Lo) (Lp':=Lp') (Ll:=Ll) (M:=M) hy
 exact ai (lD nd hk (j:=3) rfl (by omega))
end
def SameL (L:List Addr) (H H':Hp):Prop:=∀ b u,b ∉ L->H b = some u->H' b = some u
def spOut (c:Ad):Sp:=fun vs H Q _=>∃ (x:Addr) (S:DS) (Li Lr Lo Lp' Ll M:Addr) (ys:List Lp) (line:Int) (wl:Addr) (z:Str),vs = [.ref x,.int line,.ref wl]/\DrAt c H x S Li Lr Lo Lp' Ll M ys/\H wl = some (.lst [.str "out",.str z])/\wl ∉ aU x Li Lr Lo Lp' Ll M ys/\Nm z/\S.outs.length<=200 /\
 (S.lps = []->∀ H',DrAt c H' x (S.out (line,z)) Li Lr Lo Lp' Ll M ys->SameL (aU x Li Lr Lo Lp' Ll M ys) H H'->Q (.bl true) H')/\(S.lps ≠ []->∀ H',Same H H'->Q (.bl false) H')
theorem fL {f:Addr} {fd:FuncData} (F:Fun K "takes_out" "Draft.takes_out" ca f fd) (T:Txt K mg c) (H_is_name:Has P w K mg base 1 "is_name" ["word"] spNm):FnOk P w K mg base CX0 2 f fd ["self", "line", "words"] (spOut c):=by
 refine F.ok gp (fun vs H Q E h=>?_) (fun cdv A outer s H vs Q E hr h=>?_)
 ·obtain ⟨x,S,Li,Lr,Lo,Lp',Ll,M,ys,line,wl,z,rfl,_⟩:=h
  rfl
 obtain ⟨x,S,Li,Lr,Lo,Lp',Ll,M,ys,line,wl,z,rfl,D,hw,nw,nm,ln,qt,qf⟩:=h
 refine ⟨_,(ae (aK (PW.pt (dS (au op_ne (aF aM rfl T.n_len boot_len (aa (pv 2) af)) ah (aw _)) (dS (bV (bD (aJ H_is_name (hr.mono (by omega)) rfl (aa (aH aD (pv 2) ah (fun _ _=>rfl)) af)))) (di (au (jC (Nat.lt_of_succ_lt (bh hr))) (aC (pv 0) rfl) (aI af) (aw _))))))
   (aj (aB dA))
   az)
  (ae (aV (cK PySem.F.plainAttrs_list PySem.F.slot_list_append PySem.F.type_list_append aP (aC (pv 0) rfl) (aa (bq (aa (pv 1) (aa (aH aD (pv 2) ah (fun _ _=>rfl)) af))) af)))
  (aj (aB dA)))),?_⟩
 refine ⟨_,rfl,wl,_,rfl,.inl (SqL.of hw),rfl,_,rfl,g6 rfl ?_⟩
 refine ⟨_,rfl,wl,_,_,_,rfl,rfl,SqL.of hw,rfl,z,rfl,nm,fun H1 s1=>⟨_,rfl,cu ?_⟩⟩
 have D1:=D.same s1
 obtain ⟨dx,hx⟩:=D1.hx
 refine ⟨_,rfl,x,c.Draft,dx,_,_,rfl,hx,T.cl_Draft,T.na_Draft_loops,rfl,(by show 0<=sizeLine; decide),fun l hl=>?_⟩
 have sl:=aq hl (.lst [])
 have D2:=D1.same sl
 have s2:=s1.trans sl
 refine ⟨Ll,l,_,rfl,rfl,SqL.of D2.lps.1,SqL.of ac,_,rfl,?_⟩
 generalize upd H1 l (.lst []) = H2 at D2 s2 ⊢
 have e5:=D2.lps.2
 cases ys with
 | cons y r=>exact jd (qf (by rw [<- e5]; nofun) H2 s2)
 | nil =>
  refine cu ?_
  obtain ⟨dx2,hx2⟩:=D2.hx
  obtain ⟨ps,a2,b2⟩:=D2.outs
  refine ⟨_,rfl,x,c.Draft,dx2,_,_,rfl,hx2,T.cl_Draft,T.na_Draft_outs,rfl,.inl ⟨rfl,_,SqL.of a2⟩,_,rfl,_,rfl,wl,_,_,_,rfl,rfl,SqL.of (s2 _ _ hw),rfl,(by show 2<=sizeLine; decide),fun t ht=>?_⟩
  have st:=aq ht (.tup [V.int line,.str z])
  refine ⟨Lo,_,_,rfl,rfl,st _ _ a2,(by rw [List.length_map,b2.1]; exact Nat.lt_of_le_of_lt ln (by decide)),?_⟩
  refine qt (by rw [<- e5]; rfl) _ (D2.addOut (y:=(line,z)) ht a2) fun b u nb e=>?_
  rw [ai (fun q=>nb (by rw [q]; simp))]
  exact st _ _ (s2 _ _ e)
def spKT (c:Ad):Sp:=fun vs H Q _=>∃ (w:Int) (l:Addr),vs = [.int w,.ref l]/\H l = some (.lst [.str "plain"])/\4<=w/\w<=32/\∀ k H',H k = none->PlK c H' w k->Same H H'->Q (.ref k) H'
theorem lu {f:Addr} {fd:FuncData} (F:Fun K "kind_told" "kind_told" e9 f fd) (T:Txt K mg c)  (C_Plain:CHas P w K mg base 4 c.Plain "Plain" ["self", "width"] (m6 c 0)):FnOk P w K mg base CX0 6 f fd ["width", "words"] (spKT c):=by
 refine F.ok kA (fun vs H Q E h=>?_) (fun cdv A outer s H vs Q E hr h=>?_)
 ·obtain ⟨w',l,rfl,_⟩:=h
  rfl
 obtain ⟨w',l,rfl,hl,w1,w2,q⟩:=h
 refine ⟨_,(ae (aK (au (mC (Nat.lt_of_succ_lt (bh hr))) (pv 1) (aI (aa av af)) (aw _))
   (aj (aB (jy C_Plain (hr.mono (by omega)) rfl (aa (pv 0) af))))
   az) aZ),?_⟩
 refine ⟨_,rfl,(by show 1<=sizeLine; decide),fun l2 h2=>?_⟩
 have s2:=aq h2 (.lst [V.str "plain"])
 refine ⟨l,l2,["plain"],["plain"],rfl,rfl,SqL.of (s2 _ _ hl),SqL.of ac,_,rfl,?_⟩
 refine jd ?_
 refine ⟨_,rfl,fun x dx hx hdx hne=>⟨x,dx,w',rfl,ac,w1,w2,fun H' s' ko=>⟨rfl,q x H' ?_ ko (s2.trans (aX hx hdx s'))⟩⟩⟩
 cases e:H x with
 | none=>rfl
 | some o=>rw [s2 _ _ e] at hx; cases hx
def mW (ms:List Str) (z:Str):List Str:=if z ∈ ms then ms else ms ++ [z]
theorem pZ (ms:List Str) (z:Str):iV (ms.map fun z=>((Sum.inr z:Key),V.bl true)) (.inr z) (.bl true) = (mW ms z).map fun z=>((Sum.inr z:Key),V.bl true):=by
 unfold iV mW
 have an:((ms.map fun z=>((Sum.inr z:Key),V.bl true)).any fun kv=>decide (kv.1 = Sum.inr z)) = decide (z ∈ ms):=by
  rw [List.any_map]
  by_cases h:z ∈ ms
  ·rw [decide_eq_true h]
   exact List.any_eq_true.mpr ⟨z,h,by simp⟩
  ·rw [decide_eq_false h]
   refine Bool.eq_false_iff.mpr fun q=>h ?_
   obtain ⟨y,hy,e⟩:=List.any_eq_true.mp q
   have:(Sum.inr y:Key) = Sum.inr z:=by simpa using e
   injection this with this
   rw [<- this]; exact hy
 rw [an]
 by_cases h:z ∈ ms
 ·rw [decide_eq_true h,if_pos rfl,if_pos h,List.map_map]
  refine List.map_congr_left fun y _=>?_
  show (if (Sum.inr y:Key) = Sum.inr z then _ else _) = _
  split <;> rfl
 ·rw [decide_eq_false h,if_neg Bool.false_ne_true,if_neg h,List.map_append]
  rfl
def DS.inn (S:DS) (y:Int × Str):DS:={ S with ins:=S.ins ++ [y],met:=mW S.met y.2 }
section
variable {c:Ad} {H:Hp} {x:Addr} {S:DS} {Li Lr Lo Lp' Ll M:Addr} {ys:List Lp}
theorem DrAt.own (D:DrAt c H x S Li Lr Lo Lp' Ll M ys) {i:Nat} {a:Addr} {o:HO} (ha:(aU x Li Lr Lo Lp' Ll M ys)[i]? = some a):cC (upd H a o) (aU x Li Lr Lo Lp' Ll M ys) = cC H (aU x Li Lr Lo Lp' Ll M ys)/\∀ {j:Nat} {b:Addr},(aU x Li Lr Lo Lp' Ll M ys)[j]? = some b->j ≠ i->upd H a o b = H b :=
 ⟨jQ (List.mem_of_getElem? ha),fun hb n=>ai (D.far hb ha n)⟩
theorem DrAt.addIn (D:DrAt c H x S Li Lr Lo Lp' Ll M ys) {t k:Addr} {y:Int × Str} {ps:List Addr} (hk:PlK c (cC H (aU x Li Lr Lo Lp' Ll M ys)) S.w k) (ht:H t = none) (hp:H Li = some (.lst (ps.map V.ref))) :
  DrAt c (upd (upd (upd H t (.tup [.int y.1,.str y.2,.ref k])) Li (.lst (ps.map V.ref ++ [.ref t]))) M (.dK (iV (S.met.map fun z=>((Sum.inr z:Key),V.bl true)) (.inr y.2) (.bl true)))) x (S.inn y) Li Lr Lo Lp' Ll M ys:=by
 have sn:=aq ht (.tup [V.int y.1,.str y.2,.ref k])
 have D1:=D.same sn
 have tn:=D.fresh ht
 have sg:=iP (L:=aU x Li Lr Lo Lp' Ll M ys) sn
 have tg:cC (upd H t (.tup [V.int y.1,.str y.2,.ref k])) (aU x Li Lr Lo Lp' Ll M ys) t = _:=dQ ac tn
 generalize upd H t (.tup [V.int y.1,.str y.2,.ref k]) = H1 at sn D1 sg tg ⊢
 obtain ⟨h1,f1⟩:=D1.own (i:=1) (a:=Li) (o:=.lst (ps.map V.ref ++ [.ref t])) rfl
 have hM:∀ {j:Nat} {b:Addr},(aU x Li Lr Lo Lp' Ll M ys)[j]? = some b->j ≠ 6->upd (upd H1 Li (.lst (ps.map V.ref ++ [.ref t]))) M (.dK (iV (S.met.map fun z=>((Sum.inr z:Key),V.bl true)) (.inr y.2) (.bl true))) b = upd H1 Li (.lst (ps.map V.ref ++ [.ref t])) b:=fun hb n=>ai (D1.far hb (j:=6) rfl n)
 have hid:cC (upd (upd H1 Li (.lst (ps.map V.ref ++ [.ref t]))) M (.dK (iV (S.met.map fun z=>((Sum.inr z:Key),V.bl true)) (.inr y.2) (.bl true)))) (aU x Li Lr Lo Lp' Ll M ys) = cC H1 (aU x Li Lr Lo Lp' Ll M ys):=(jQ (by simp)).trans h1
 have at':∀ {j:Nat} {b:Addr},(aU x Li Lr Lo Lp' Ll M ys)[j]? = some b->j ≠ 1->j ≠ 6->upd (upd H1 Li (.lst (ps.map V.ref ++ [.ref t]))) M (.dK (iV (S.met.map fun z=>((Sum.inr z:Key),V.bl true)) (.inr y.2) (.bl true))) b = H1 b:=fun hb n1 n6=>(hM hb n6).trans (f1 hb n1)
 obtain ⟨nd,⟨dx,hx⟩,⟨p1,a1,b1⟩,⟨p2,a2,b2⟩,⟨p3,a3,b3⟩,⟨a4,b4⟩,lv,mt⟩:=D1
 have e1:p1 = ps:=by
  have e:=(sn _ _ hp).symm.trans a1
  injection e with e
  injection e with e
  exact (List.map_inj_right (fun a b h=>by injection h)).mp e.symm
 subst e1
 obtain ⟨dk,hk⟩:=hk
 refine ⟨nd,⟨dx,(at' (j:=0) rfl (by decide) (by decide)).trans hx⟩,⟨p1 ++ [t],by rw [hM (j:=1) rfl (by decide),ac,List.map_append]; rfl,by rw [hid]; exact b1.snoc ⟨k,tg,dk,sg _ _ hk⟩⟩,⟨p2,(at' (j:=3) rfl (by decide) (by decide)).trans a2,by rw [hid]; exact b2⟩,⟨p3,(at' (j:=4) rfl (by decide) (by decide)).trans a3,by rw [hid]; exact b3⟩,⟨(at' (j:=5) rfl (by decide) (by decide)).trans a4,b4⟩,?_,by rw [ac,pZ]; rfl⟩
 rw [hid]
 refine lv.mono (fun _ _ q=>q) (fun u hu=>?_) (at' (j:=2) rfl (by decide) (by decide))
 obtain ⟨n,hn⟩:=DrAt.loop (x:=x) (Li:=Li) (Lr:=Lr) (Lo:=Lo) (Lp':=Lp') (Ll:=Ll) (M:=M) hu
 exact at' hn (by omega) (by omega)
end
def spIn (c:Ad):Sp:=fun vs H Q _=>∃ (x:Addr) (S:DS) (Li Lr Lo Lp' Ll M:Addr) (ys:List Lp) (line:Int) (wl:Addr) (z:Str),vs = [.ref x,.int line,.ref wl]/\DrAt c H x S Li Lr Lo Lp' Ll M ys/\H wl = some (.lst [.str "in",.str z,.str "plain"])/\wl ∉ aU x Li Lr Lo Lp' Ll M ys/\Nm z/\4<=S.w/\S.w<=32/\S.ins.length<=200/\S.met.length<=200 /\
 (S.top = []/\ys = []/\S.outs = []->∀ H',DrAt c H' x (S.inn (line,z)) Li Lr Lo Lp' Ll M ys->SameL (aU x Li Lr Lo Lp' Ll M ys) H H'->Q (.bl true) H')/\(¬ (S.top = []/\ys = []/\S.outs = [])->∀ H',Same H H'->Q (.bl false) H')
theorem gv {f:Addr} {fd:FuncData} (F:Fun K "takes_in" "Draft.takes_in" cz f fd) (T:Txt K mg c) (H_kind_told:Has P w K mg base 6 "kind_told" ["width", "words"] (spKT c)) (H_is_name:Has P w K mg base 1 "is_name" ["word"] spNm):FnOk P w K mg base CX0 7 f fd ["self", "line", "words"] (spIn c):=by
 refine F.ok sc_Draft_takes_in (fun vs H Q E h=>?_) (fun cdv A outer s H vs Q E hr h=>?_)
 ·obtain ⟨x,S,Li,Lr,Lo,Lp',Ll,M,ys,line,wl,z,rfl,_⟩:=h
  rfl
 obtain ⟨x,S,Li,Lr,Lo,Lp',Ll,M,ys,line,wl,z,rfl,D,hw,nw,nm,w1,w2,ln,lm,qt,qf⟩:=h
 refine ⟨_,(ae (ay (i:=3) sc_Draft_takes_in.nd rfl (Or.inl rfl) (aJ H_kind_told (hr.mono (by omega)) rfl (aa (aC (pv 0) rfl) (aa (cJ eu (pv 2) (da ah) dX) af))))
  (ae (aK (PW.pt (dS (au eR (pv 3) aR (aw _)) (dS (bV (bD (aJ H_is_name (hr.mono (by omega)) rfl (aa (aH aD (pv 2) ah (fun _ _=>rfl)) af)))) (dS (au (jC (Nat.lt_of_succ_lt (bh hr))) (aC (pv 0) rfl) (aI af) (aw _)) (di (au (jC (Nat.lt_of_succ_lt (bh hr))) (aC (pv 0) rfl) (aI af) (aw _)))))))
   (aj (aB dA))
   az)
  (ae (aV (cK PySem.F.plainAttrs_list PySem.F.slot_list_append PySem.F.type_list_append aP (aC (pv 0) rfl) (aa (bq (aa (pv 1) (aa (aH aD (pv 2) ah (fun _ _=>rfl)) (aa (pv 3) af)))) af)))
  (ae (iF (bh hr) (aC (pv 0) rfl) (aH aD (pv 2) ah (fun _ _=>rfl)) dA rfl)
  (aj (aB dA)))))),?_⟩
 obtain ⟨dx,hx⟩:=D.hx
 refine ⟨_,rfl,x,c.Draft,dx,_,_,rfl,hx,T.cl_Draft,T.na_Draft_width,rfl,_,rfl,_,rfl,wl,_,rfl,SqL.of hw,fun l hl=>?_⟩
 have s1:=aq hl (.lst [V.str "plain"])
 refine ⟨S.w,l,rfl,(show upd H l (.lst [V.str "plain"]) l = _ from ac),w1,w2,fun k H2 hk ko s2=>?_⟩
 have s12:=s1.trans s2
 have D2:=D.same s12
 have kn:k ∉ aU x Li Lr Lo Lp' Ll M ys:=(D.same s1).fresh hk
 obtain ⟨dk,kz⟩:=ko
 have kg:=dQ kz kn
 refine ⟨_,rfl,rfl,_,rfl,aN (by nofun) ?_⟩
 refine ⟨_,rfl,wl,_,_,_,rfl,rfl,SqL.of (s12 _ _ hw),rfl,z,rfl,nm,fun H3 s3=>⟨_,rfl,cu ?_⟩⟩
 have s13:=s12.trans s3
 have D3:=D.same s13
 obtain ⟨dx3,hx3⟩:=D3.hx
 refine ⟨_,rfl,x,c.Draft,dx3,_,_,rfl,hx3,T.cl_Draft,T.na_Draft_rows,rfl,(by show 0<=sizeLine; decide),fun l4 h4=>?_⟩
 have s4:=aq h4 (.lst [])
 have s14:=s13.trans s4
 have D4:=D.same s14
 obtain ⟨qs,a4,e4⟩:∃ qs:List V,upd H3 l4 (.lst []) Lr = some (.lst qs)/\(qs.isEmpty = true ↔ S.top = []/\ys = []):=by
  have lv:=D4.lv
  cases ys with
  | nil =>
   obtain ⟨ps,a,b⟩:=lv
   refine ⟨_,a,?_⟩
   rw [List.isEmpty_iff,List.map_eq_nil_iff]
   refine ⟨fun z=>⟨List.eq_nil_of_length_eq_zero (by rw [<- b.1,z]; rfl),rfl⟩,fun z=>List.eq_nil_of_length_eq_zero (by rw [b.1,z.1]; rfl)⟩
  | cons y r =>
   obtain ⟨ps,a,_⟩:=lv
   refine ⟨_,a,?_⟩
   rw [List.isEmpty_iff,List.map_eq_nil_iff]
   exact ⟨fun z=>by simp at z,fun z=>by cases z.2⟩
 refine ⟨Lr,l4,qs,rfl,rfl,SqL.of a4,SqL.of ac,_,rfl,?_⟩
 generalize upd H3 l4 (.lst []) = H4 at s14 s4 D4 a4 ⊢
 by_cases c1:S.top = []/\ys = []
 rotate_left
 ·have e:qs.isEmpty = false:=Bool.eq_false_iff.mpr fun z=>c1 (e4.mp z)
  rw [e]
  exact jd (qf (fun z=>c1 ⟨z.1,z.2.1⟩) H4 s14)
 rw [e4.mpr c1]
 refine cu ?_
 obtain ⟨dx4,hx4⟩:=D4.hx
 refine ⟨_,rfl,x,c.Draft,dx4,_,_,rfl,hx4,T.cl_Draft,T.na_Draft_outs,rfl,(by show 0<=sizeLine; decide),fun l5 h5=>?_⟩
 have s5:=aq h5 (.lst [])
 have s15:=s14.trans s5
 have D5:=D.same s15
 have k5:PlK c (cC (upd H4 l5 (.lst [])) (aU x Li Lr Lo Lp' Ll M ys)) S.w k:=⟨dk,iP ((s3.trans s4).trans s5) _ _ kg⟩
 obtain ⟨p5,a5,b5⟩:=D5.outs
 refine ⟨Lo,l5,_,rfl,rfl,SqL.of a5,SqL.of ac,_,rfl,?_⟩
 generalize upd H4 l5 (.lst []) = H5 at s15 D5 a5 b5 k5 ⊢
 have e5:(p5.map V.ref).isEmpty = true ↔ S.outs = []:=by
  rw [List.isEmpty_iff,List.map_eq_nil_iff]
  exact ⟨fun z=>List.eq_nil_of_length_eq_zero (by rw [<- b5.1,z]; rfl),fun z=>List.eq_nil_of_length_eq_zero (by rw [b5.1,z]; rfl)⟩
 by_cases c2:S.outs = []
 rotate_left
 ·have e:(p5.map V.ref).isEmpty = false:=Bool.eq_false_iff.mpr fun z=>c2 (e5.mp z)
  rw [e]
  exact jd (qf (fun z=>c2 z.2.2) H5 s15)
 rw [e5.mpr c2]
 refine cu ?_
 obtain ⟨dx5,hx5⟩:=D5.hx
 obtain ⟨p6,a6,b6⟩:=D5.ins
 have hw5:=s15 _ _ hw
 refine ⟨_,rfl,x,c.Draft,dx5,_,_,rfl,hx5,T.cl_Draft,T.na_Draft_inputs,rfl,.inl ⟨rfl,_,SqL.of a6⟩,_,rfl,_,rfl,wl,_,_,_,rfl,rfl,SqL.of hw5,rfl,_,rfl,(by show 3<=sizeLine; decide),fun t ht=>?_⟩
 have st:=aq ht (.tup [V.int line,.str z,.ref k])
 refine ⟨Li,_,_,rfl,rfl,st _ _ a6,(by rw [List.length_map,b6.1]; exact Nat.lt_of_le_of_lt ln (by decide)),?_⟩
 have D6:=D5.same st
 obtain ⟨dx6,hx6⟩:=D6.hx
 have nx:x ≠ Li:=D6.far (i:=0) (j:=1) rfl rfl (by decide)
 have nM:M ≠ Li:=D6.far (i:=6) (j:=1) rfl rfl (by decide)
 have nwL:wl ≠ Li:=fun q=>nw (by rw [q]; simp)
 refine ⟨_,rfl,x,c.Draft,dx6,_,_,rfl,(by rw [ai nx]; exact hx6),T.cl_Draft,T.na_Draft_met,rfl,_,rfl,wl,_,_,_,rfl,rfl,SqL.of (by rw [ai nwL]; exact st _ _ hw5),rfl,M,_,rfl,DPut.k (k:=.inr z) (by rw [ai nM]; exact D6.met) (by rw [List.length_map]; exact Nat.lt_of_le_of_lt lm (by decide)),?_⟩
 refine qt ⟨c1.1,c1.2,c2⟩ _ (D5.addIn (y:=(line,z)) k5 ht a6) fun b u nb e=>?_
 rw [ai (fun q=>nb (by rw [q]; simp)),ai (fun q=>nb (by rw [q]; simp))]
 exact st _ _ (s15 _ _ e)
theorem gk:∀ (l:Addr) (ys:List Lp),ba l ys ∈ l :: ys.map (·.l)
 | l,[]=>List.mem_cons_self ..
 | l,y :: r=>List.mem_cons_of_mem _ (gk y.l r)
theorem qA {c:Ad} {H H' G G':Hp} (sg:Same G G') {o l:Addr} {t:Int} (ho:∃ dx line,G' o = some (.ins c.Repeat dx (pfl line t l))) (hl:H' l = some (.lst [])):∀ {ys:List Lp} {d:Nat} {l0:Addr} {ns:List Int},
  (∀ qs,H (ba l0 ys) = some (.lst qs)->H' (ba l0 ys) = some (.lst (qs ++ [.ref o])))->(∀ b ∈ l0 :: ys.map (·.l),b ≠ ba l0 ys->∀ u,H b = some u->H' b = some u)->(l0 :: ys.map (·.l)).Nodup->LvAt c H G d l0 ns ys->LvAt c H' G' d l0 ns (ys ++ [⟨o,l,t,[]⟩])
 | [],d,l0,ns,hi,_,_,⟨ps,a,b⟩=>⟨ps,by rw [List.map_append]; exact hi _ a,b.mono fun _ _ q=>q.same sg,ho,[],hl,Ls.nil⟩
 | y :: r,d,l0,ns,hi,hb,nd,⟨ps,a,b,⟨dx,line,e⟩,tl⟩=>by
  have nd':=List.nodup_cons.mp nd
  have ne:l0 ≠ ba l0 (y :: r):=fun z=>nd'.1 (by rw [z]; exact gk y.l r)
  exact ⟨ps,hb l0 (List.mem_cons_self ..) ne _ a,b.mono fun _ _ q=>q.same sg,⟨dx,line,sg _ _ e⟩,qA sg ho hl (ys:=r) (l0:=y.l) hi (fun b hm n=>hb b (List.mem_cons_of_mem _ hm) n) nd'.2 tl⟩
theorem mY {c:Ad} {H G:Hp}:∀ {ys:List Lp} {d:Nat} {l0:Addr} {ns:List Int},LvAt c H G d l0 ns ys->∃ (ps:List Addr) (ms:List Int),H (ba l0 ys) = some (.lst (ps.map V.ref))/\ps.length = ms.length/\(ms = ns\/∃ y ∈ ys,ms = y.ns)
 | [],_,_,_,⟨ps,a,b⟩=>⟨ps,_,a,b.1,.inl rfl⟩
 | y :: r,_,_,_,⟨_,_,_,_,t⟩=>by
  obtain ⟨ps,ms,a,b,e⟩:=mY (ys:=r) t
  refine ⟨ps,ms,a,b,.inr ?_⟩
  rcases e with e | ⟨z,hz,e⟩
  ·exact ⟨y,List.mem_cons_self ..,e⟩
  ·exact ⟨z,List.mem_cons_of_mem _ hz,e⟩
def DS.rep (S:DS) (t:Int):DS:={ S with lps:=S.lps ++ [(t,[])] }
section
variable {c:Ad} {H0 H:Hp} {x:Addr} {S:DS} {Li Lr Lo Lp' Ll M:Addr} {ys:List Lp}
theorem ik (Li Lr Lo Lp' Ll M x:Addr) (ys:List Lp):∃ i,(aU x Li Lr Lo Lp' Ll M ys)[i]? = some (ba Lr ys)/\(i = 2\/7<=i):=by
 cases ys with
 | nil=>exact ⟨2,rfl,.inl rfl⟩
 | cons y r =>
  have m:=gk y.l r
  have m':ba Lr (y :: r) ∈ (y :: r).map (·.l):=m
  obtain ⟨z,hz,e⟩:=List.mem_map.mp m'
  obtain ⟨k,hk⟩:=DrAt.loop (x:=x) (Li:=Li) (Lr:=Lr) (Lo:=Lo) (Lp':=Lp') (Ll:=Ll) (M:=M) hz
  exact ⟨7 + k,by rw [hk,e],.inr (by omega)⟩
theorem DrAt.addLoop (D:DrAt c H0 x S Li Lr Lo Lp' Ll M ys) (s:Same H0 H) {o l dx:Addr} {line t:Int} {qs:List V} (ho0:H0 o = none) (hl0:H0 l = none) (ho:H o = some (.ins c.Repeat dx (pfl line t l))) (hl:H l = some (.lst [])) (hq:H (ba Lr ys) = some (.lst qs)) :
  DrAt c (upd (upd H (ba Lr ys) (.lst (qs ++ [.ref o]))) Ll (.lst (ys.map (fun y=>V.ref y.o) ++ [.ref o]))) x (S.rep t) Li Lr Lo Lp' Ll M (ys ++ [⟨o,l,t,[]⟩]):=by
 have D1:=D.same s
 have lo:=D.fresh ho0
 have ll:=D.fresh hl0
 obtain ⟨iI,hI,cI⟩:=ik Li Lr Lo Lp' Ll M x ys
 have eL:aU x Li Lr Lo Lp' Ll M (ys ++ [⟨o,l,t,[]⟩]) = aU x Li Lr Lo Lp' Ll M ys ++ [l]:=by
  show [x,Li,Lr,Lo,Lp',Ll,M] ++ (ys ++ [(⟨o,l,t,[]⟩:Lp)]).map (fun y=>y.l) = [x,Li,Lr,Lo,Lp',Ll,M] ++ ys.map (·.l) ++ [l]
  rw [List.map_append,List.append_assoc]
  rfl
 have mI:ba Lr ys ∈ aU x Li Lr Lo Lp' Ll M ys:=List.mem_of_getElem? hI
 have mL:Ll ∈ aU x Li Lr Lo Lp' Ll M ys:=by simp
 have out:∀ b,b ∉ aU x Li Lr Lo Lp' Ll M ys->upd (upd H (ba Lr ys) (.lst (qs ++ [.ref o]))) Ll (.lst (ys.map (fun y=>V.ref y.o) ++ [.ref o])) b = H b:=fun b nb=>by rw [ai (fun z=>nb (by rw [z]; exact mL)),ai (fun z=>nb (by rw [z]; exact mI))]
 have at':∀ {j:Nat} {b:Addr},(aU x Li Lr Lo Lp' Ll M ys)[j]? = some b->j ≠ 5->j ≠ iI->upd (upd H (ba Lr ys) (.lst (qs ++ [.ref o]))) Ll (.lst (ys.map (fun y=>V.ref y.o) ++ [.ref o])) b = H b:=fun hb n5 nI=>by rw [ai (D1.far hb (j:=5) rfl n5),ai (D1.far hb hI nI)]
 have sg:Same (cC H0 (aU x Li Lr Lo Lp' Ll M ys)) (cC (upd (upd H (ba Lr ys) (.lst (qs ++ [.ref o]))) Ll (.lst (ys.map (fun y=>V.ref y.o) ++ [.ref o]))) (aU x Li Lr Lo Lp' Ll M (ys ++ [⟨o,l,t,[]⟩]))):=fun b u e=>by
  have nb:b ∉ aU x Li Lr Lo Lp' Ll M ys:=fun m=>by unfold cC at e; rw [if_pos m] at e; cases e
  have e0:H0 b = some u:=bg _ _ e
  rw [eL]
  refine dQ ?_ ?_
  ·rw [out b nb]; exact s _ _ e0
  ·intro m
   rcases List.mem_append.mp m with m | m
   ·exact nb m
   ·rw [List.mem_singleton.mp m,hl0] at e0; cases e0
 have ne:o ≠ l:=fun z=>by rw [z,hl] at ho; cases ho
 have go:cC (upd (upd H (ba Lr ys) (.lst (qs ++ [.ref o]))) Ll (.lst (ys.map (fun y=>V.ref y.o) ++ [.ref o]))) (aU x Li Lr Lo Lp' Ll M (ys ++ [⟨o,l,t,[]⟩])) o = some (.ins c.Repeat dx (pfl line t l)):=by
  rw [eL]
  refine dQ (by rw [out o lo]; exact ho) fun m=>?_
  rcases List.mem_append.mp m with m | m
  ·exact lo m
  ·exact ne (List.mem_singleton.mp m)
 have i5:iI ≠ 5:=by rcases cI with h | h <;> omega
 have gI:upd (upd H (ba Lr ys) (.lst (qs ++ [.ref o]))) Ll (.lst (ys.map (fun y=>V.ref y.o) ++ [.ref o])) (ba Lr ys) = some (.lst (qs ++ [.ref o])):=by rw [ai (D1.far hI (j:=5) rfl i5),ac]
 obtain ⟨nd,⟨dx0,hx⟩,⟨p1,a1,b1⟩,⟨p2,a2,b2⟩,⟨p3,a3,b3⟩,⟨a4,b4⟩,lv,mt⟩:=D
 have no:∀ j,j < 7->j ≠ 2->j ≠ iI:=fun j h1 h2 h3=>by rcases cI with h | h <;> omega
 refine ⟨?_,⟨dx0,(at' (j:=0) rfl (by decide) (no 0 (by decide) (by decide))).trans (s _ _ hx)⟩,⟨p1,(at' (j:=1) rfl (by decide) (no 1 (by decide) (by decide))).trans (s _ _ a1),b1.mono fun _ _ q=>q.same sg⟩,⟨p2,(at' (j:=3) rfl (by decide) (no 3 (by decide) (by decide))).trans (s _ _ a2),b2.mono fun _ _ q=>sg _ _ q⟩,⟨p3,(at' (j:=4) rfl (by decide) (no 4 (by decide) (by decide))).trans (s _ _ a3),b3.mono fun _ _ q=>q.same sg⟩,⟨by rw [ac,List.map_append]; rfl,by rw [List.map_append,b4]; rfl⟩,?_,(at' (j:=6) rfl (by decide) (no 6 (by decide) (by decide))).trans (s _ _ mt)⟩
 ·show (aU x Li Lr Lo Lp' Ll M (ys ++ [⟨o,l,t,[]⟩])).Nodup
  rw [eL]
  exact List.nodup_append.mpr ⟨nd,by simp,fun a ha b hb z=>ll (by rw [<- List.mem_singleton.mp hb,<- z]; exact ha)⟩
 ·refine qA sg ⟨dx,line,go⟩ (by rw [out l ll]; exact hl) (fun rs e=>?_) (fun b hm n=>?_) ?_ lv
  ·have e':=s _ _ e
   rw [hq] at e'
   injection e' with e'
   injection e' with e'
   rw [<- e']
   exact gI
  ·intro u e
   have hj:∃ j,(aU x Li Lr Lo Lp' Ll M ys)[j]? = some b/\(j = 2\/7<=j):=by
    rcases List.mem_cons.mp hm with rfl | hm
    ·exact ⟨2,rfl,.inl rfl⟩
    ·obtain ⟨z,hz,rfl⟩:=List.mem_map.mp hm
     obtain ⟨k,hk⟩:=DrAt.loop (x:=x) (Li:=Li) (Lr:=Lr) (Lo:=Lo) (Lp':=Lp') (Ll:=Ll) (M:=M) hz
     exact ⟨7 + k,hk,.inr (by omega)⟩
   obtain ⟨j,hj,cj⟩:=hj
   have nj:j ≠ iI:=fun z=>n (by rw [z,hI] at hj; injection hj with hj; exact hj.symm)
   rw [at' hj (by rcases cj with h | h <;> omega) nj]
   exact s _ _ e
  ·exact nd.sublist (List.Sublist.append_right (List.singleton_sublist.mpr (by simp)) _)
end
theorem none_of {H H':Hp} (s:Same H H') {b:Addr} (e:H' b = none):H b = none:=by
 cases z:H b with
 | none=>rfl
 | some o=>rw [s _ _ z] at e; cases e
def qI (S:DS):Prop:=S.top.length<=200/\S.lps.length<=100/\∀ p ∈ S.lps,p.2.length<=200
def spRep (c:Ad):Sp:=fun vs H Q _=>∃ (x:Addr) (S:DS) (Li Lr Lo Lp' Ll M:Addr) (ys:List Lp) (line:Int) (wl:Addr) (z:Str),vs = [.ref x,.int line,.ref wl]/\DrAt c H x S Li Lr Lo Lp' Ll M ys/\H wl = some (.lst [.str "repeat",.str z])/\wl ∉ aU x Li Lr Lo Lp' Ll M ys/\Num z/\1<=nV z/\nV z<=32/\qI S /\
 (S.outs = []->∀ o l H',H l = none->DrAt c H' x (S.rep (nV z)) Li Lr Lo Lp' Ll M (ys ++ [⟨o,l,nV z,[]⟩])->SameL (aU x Li Lr Lo Lp' Ll M ys) H H'->Q (.bl true) H')/\(S.outs ≠ []->∀ H',Same H H'->Q (.bl false) H')
theorem DrAt.small {c:Ad} {H:Hp} {x:Addr} {S:DS} {Li Lr Lo Lp' Ll M:Addr} {ys:List Lp} (D:DrAt c H x S Li Lr Lo Lp' Ll M ys) (sm:qI S):∃ ps:List Addr,H (ba Lr ys) = some (.lst (ps.map V.ref))/\ps.length<=200:=by
 obtain ⟨ps,ms,a,b,e⟩:=mY D.lv
 refine ⟨ps,a,?_⟩
 rw [b]
 rcases e with rfl | ⟨y,hy,rfl⟩
 ·exact sm.1
 ·exact sm.2.2 (y.t,y.ns) (by rw [<- D.lps.2]; exact List.mem_map.mpr ⟨y,hy,rfl⟩)
theorem dZ {f:Addr} {fd:FuncData} (F:Fun K "takes_repeat" "Draft.takes_repeat" bt f fd) (T:Txt K mg c) (H_number_told:Has P w K mg base 3 "number_told" ["word", "low", "high"] kN) (C_Repeat:CHas P w K mg base 1 c.Repeat "Repeat" ["self", "line", "times"] (pc c)) (MH:MHas P w K mg base 1 c.Draft "rows_here" ["self"] (lh c)):FnOk P w K mg base CX0 4 f fd ["self", "line", "words"] (spRep c):=by
 refine F.ok sc_Draft_takes_repeat (fun vs H Q E h=>?_) (fun cdv A outer s H vs Q E hr h=>?_)
 ·obtain ⟨x,S,Li,Lr,Lo,Lp',Ll,M,ys,line,wl,z,rfl,_⟩:=h
  rfl
 obtain ⟨x,S,Li,Lr,Lo,Lp',Ll,M,ys,line,wl,z,rfl,D,hw,nw,num,z1,z2,sm,qt,qf⟩:=h
 refine ⟨_,(ae (ay (i:=3) sc_Draft_takes_repeat.nd rfl (Or.inl rfl) (bn (au op_eq (aF aM rfl T.n_len boot_len (aa (pv 2) af)) ah (aw _)) (aJ H_number_told (hr.mono (by omega)) rfl (aa (aH aD (pv 2) ah (fun _ _=>rfl)) (aa ah (aa ah af)))) aR))
  (ae (aK (PW.pt (dS (au eR (pv 3) aR (aw _)) (di (au (jC (Nat.lt_of_succ_lt (bh hr))) (aC (pv 0) rfl) (aI af) (aw _)))))
   (aj (aB dA))
   az)
  (ae (ay (i:=4) sc_Draft_takes_repeat.nd rfl (Or.inl rfl) (jy C_Repeat (hr.mono (by omega)) rfl (aa (pv 1) (aa (pv 3) af))))
  (ae (aV (cK PySem.F.plainAttrs_list PySem.F.slot_list_append PySem.F.type_list_append aP (aT (k:=1) (pv 0) (hr.mono (by omega))) (aa (pv 4) af)))
  (ae (aV (cK PySem.F.plainAttrs_list PySem.F.slot_list_append PySem.F.type_list_append aP (aC (pv 0) rfl) (aa (pv 4) af)))
  (aj (aB dA))))))),?_⟩
 refine ⟨_,rfl,wl,_,rfl,.inl (SqL.of hw),rfl,_,rfl,cP rfl ⟨_,rfl,wl,_,_,_,rfl,rfl,SqL.of hw,rfl,z,1,32,rfl,num,?_⟩⟩
 rw [if_pos ⟨z1,z2⟩]
 refine ⟨_,rfl,rfl,_,rfl,aN (by nofun) ?_⟩
 obtain ⟨dx,hx⟩:=D.hx
 refine ⟨_,rfl,x,c.Draft,dx,_,_,rfl,hx,T.cl_Draft,T.na_Draft_outs,rfl,(by show 0<=sizeLine; decide),fun l1 h1=>?_⟩
 have s1:=aq h1 (.lst [])
 have D1:=D.same s1
 obtain ⟨p1,a1,b1⟩:=D1.outs
 refine ⟨Lo,l1,_,rfl,rfl,SqL.of a1,SqL.of ac,_,rfl,?_⟩
 generalize upd H l1 (.lst []) = H1 at s1 D1 a1 b1 ⊢
 have e1:(p1.map V.ref).isEmpty = true ↔ S.outs = []:=by
  rw [List.isEmpty_iff,List.map_eq_nil_iff]
  exact ⟨fun z=>List.eq_nil_of_length_eq_zero (by rw [<- b1.1,z]; rfl),fun z=>List.eq_nil_of_length_eq_zero (by rw [b1.1,z]; rfl)⟩
 by_cases c2:S.outs = []
 rotate_left
 ·have e:(p1.map V.ref).isEmpty = false:=Bool.eq_false_iff.mpr fun z=>c2 (e1.mp z)
  rw [e]
  exact jd (qf c2 H1 s1)
 rw [e1.mpr c2]
 refine cu ?_
 refine ⟨_,rfl,_,rfl,fun o do' ho hdo hne=>⟨o,do',line,nV z,rfl,ac,fun l H2 hl g1 g2 s2'=>⟨rfl,?_⟩⟩⟩
 have s2:=aX ho hdo s2'
 have hl1:H1 l = none:=by
  cases e:H1 l with
  | none=>rfl
  | some u=>rw [aX ho hdo (fun _ _ _ q=>q) _ _ e] at hl; cases hl
 have D2:=D1.same s2
 obtain ⟨dx2,hx2⟩:=D2.hx
 refine ⟨_,rfl,x,_,dx2,_,_,_,rfl,hx2,rfl,MH,x,S,Li,Lr,Lo,Lp',Ll,M,ys,rfl,D2,sm.2.1,fun H3 s3=>?_⟩
 have s13:=s2.trans s3
 have D3:=D1.same s13
 obtain ⟨ps,hq,lq⟩:=D3.small sm
 refine ⟨.inl ⟨rfl,_,SqL.of hq⟩,_,rfl,ba Lr ys,_,_,rfl,rfl,hq,(by rw [List.length_map]; exact Nat.lt_of_le_of_lt lq (by decide)),?_⟩
 obtain ⟨dx3,hx3⟩:=D3.hx
 obtain ⟨iI,hI,cI⟩:=ik Li Lr Lo Lp' Ll M x ys
 have nx:x ≠ ba Lr ys:=D3.far (i:=0) rfl hI (by rcases cI with h | h <;> omega)
 have nL:Ll ≠ ba Lr ys:=D3.far (i:=5) rfl hI (by rcases cI with h | h <;> omega)
 have g5:upd H3 (ba Lr ys) (.lst (ps.map V.ref ++ [.ref o])) Ll = some (.lst (ys.map fun y=>V.ref y.o)):=by rw [ai nL]; exact D3.lps.1
 have ly:ys.length = S.lps.length:=by rw [<- D3.lps.2,List.length_map]
 have hx3':upd H3 (ba Lr ys) (.lst (ps.map V.ref ++ [.ref o])) x = some (.ins c.Draft dx3 (dfl S.w Li Lr Lo Lp' Ll M)):=by rw [ai nx]; exact hx3
 refine ⟨_,rfl,x,c.Draft,dx3,_,_,rfl,hx3',T.cl_Draft,T.na_Draft_loops,rfl,.inl ⟨rfl,_,SqL.of g5⟩,_,rfl,Ll,_,_,rfl,rfl,g5,(by rw [List.length_map,ly]; exact Nat.lt_of_le_of_lt sm.2.1 (by decide)),?_⟩
 refine qt c2 o l _ (none_of s1 hl1) (D1.addLoop s13 ho hl1 (s3 _ _ g1) (s3 _ _ g2) hq) fun b u nb e=>?_
 rw [ai (fun q=>nb (by rw [q]; simp)),ai (fun q=>nb (by rw [q]; exact List.mem_of_getElem? hI))]
 exact s13 _ _ (s1 _ _ e)
def eT (n:Int):List Int->List Lp->List Int × List Lp
 | ns,[]=>(ns ++ [n],[])
 | ns,y :: r=>(ns,{ y with ns:=(eT n y.ns r).1 } :: (eT n y.ns r).2)
def ka (n:Int):List Int->List (Int × List Int)->List Int × List (Int × List Int)
 | ns,[]=>(ns ++ [n],[])
 | ns,y :: r=>(ns,(y.1,(ka n y.2 r).1) :: (ka n y.2 r).2)
theorem addYP (n:Int):∀ (ys:List Lp) (ns:List Int),(eT n ns ys).1 = (ka n ns (ys.map fun y=>(y.t,y.ns))).1/\(eT n ns ys).2.map (fun y=>(y.t,y.ns)) = (ka n ns (ys.map fun y=>(y.t,y.ns))).2
 | [],_=>⟨rfl,rfl⟩
 | y :: r,ns=>by
  obtain ⟨a,b⟩:=addYP n r y.ns
  refine ⟨rfl,?_⟩
  show (y.t,(eT n y.ns r).1) :: (eT n y.ns r).2.map (fun y=>(y.t,y.ns)) = _
  rw [a,b]
  rfl
theorem nK (n:Int):∀ (ys:List Lp) (ns:List Int),(eT n ns ys).2.map (·.l) = ys.map (·.l)/\(eT n ns ys).2.map (fun y=>V.ref y.o) = ys.map (fun y=>V.ref y.o)
 | [],_=>⟨rfl,rfl⟩
 | y :: r,ns=>by
  obtain ⟨a,b⟩:=nK n r y.ns
  exact ⟨by show y.l :: _ = y.l :: _; rw [a],by show V.ref y.o :: _ = V.ref y.o :: _; rw [b]⟩
theorem lv_pop {c:Ad} {H H' G G':Hp} (sg:Same G G') {z:Lp} (hz:∀ u,H z.l = some u->G' z.l = some u) (ht:0<=z.t/\z.t<=100/\z.ns.length<=200):∀ {zs:List Lp} {d:Nat} {l0:Addr} {ns:List Int},zs.length < d->(∀ b ∈ l0 :: zs.map (·.l),∀ u,H b = some u->H' b = some u) ->
  LvAt c H G d l0 ns (zs ++ [z])->LvAt c H' G' d l0 (eT (z.t * z.ns.sum) ns zs).1 (eT (z.t * z.ns.sum) ns zs).2
 | [],d,l0,ns,hd,hb,⟨ps,a,b,⟨dx,line,e⟩,pz,a2,b2⟩=>by
  refine ⟨ps ++ [z.o],hb l0 (List.mem_cons_self ..) _ a,(b.mono fun _ _ q=>q.same sg).snoc ?_⟩
  obtain ⟨d,rfl⟩:∃ e,d = e + 1:=⟨d - 1,by omega⟩
  exact .inr ⟨dx,line,z.t,z.l,pz,z.ns,sg _ _ e,hz _ a2,b2.1,fun i p m q1 q2=>(b2.2 i p m q1 q2).same sg,rfl,ht⟩
 | y :: r,d,l0,ns,hd,hb,⟨ps,a,b,⟨dx,line,e⟩,t⟩=>by
  refine ⟨ps,hb l0 (List.mem_cons_self ..) _ a,b.mono fun _ _ q=>q.same sg,⟨dx,line,sg _ _ e⟩,?_⟩
  exact lv_pop sg hz ht (zs:=r) (d:=d - 1) (l0:=y.l) (by simp only [List.length_cons] at hd; omega) (fun b hm=>hb b (List.mem_cons_of_mem _ hm)) t
def DS.close (S:DS) (lps:List (Int × List Int)) (n:Int):DS:={ S with top:=(ka n S.top lps).1,lps:=(ka n S.top lps).2 }
theorem DrAt.endLoop {c:Ad} {H:Hp} {x:Addr} {S:DS} {Li Lr Lo Lp' Ll M:Addr} {zs:List Lp} {z:Lp} (D:DrAt c H x S Li Lr Lo Lp' Ll M (zs ++ [z])) (hd:zs.length < 5) (ht:0<=z.t/\z.t<=100/\z.ns.length<=200) :
  DrAt c (upd H Ll (.lst (zs.map fun y=>V.ref y.o))) x (S.close (zs.map fun y=>(y.t,y.ns)) (z.t * z.ns.sum)) Li Lr Lo Lp' Ll M (eT (z.t * z.ns.sum) S.top zs).2:=by
 obtain ⟨y1,y2⟩:=nK (z.t * z.ns.sum) zs S.top
 obtain ⟨y3,y4⟩:=addYP (z.t * z.ns.sum) zs S.top
 have eL:aU x Li Lr Lo Lp' Ll M (zs ++ [z]) = aU x Li Lr Lo Lp' Ll M zs ++ [z.l]:=by
  show [x,Li,Lr,Lo,Lp',Ll,M] ++ (zs ++ [z]).map (fun y=>y.l) = [x,Li,Lr,Lo,Lp',Ll,M] ++ zs.map (fun y=>y.l) ++ [z.l]
  rw [List.map_append,List.append_assoc]
  rfl
 have eL':aU x Li Lr Lo Lp' Ll M (eT (z.t * z.ns.sum) S.top zs).2 = aU x Li Lr Lo Lp' Ll M zs:=by
  show [x,Li,Lr,Lo,Lp',Ll,M] ++ (eT (z.t * z.ns.sum) S.top zs).2.map (·.l) = _
  rw [y1]
 have ndL:(aU x Li Lr Lo Lp' Ll M zs ++ [z.l]).Nodup:=by rw [<- eL]; exact D.nd
 obtain ⟨nd1,_,nd3⟩:=List.nodup_append.mp ndL
 have zn:z.l ∉ aU x Li Lr Lo Lp' Ll M zs:=fun m=>nd3 _ m _ (List.mem_singleton.mpr rfl) rfl
 have nLl:z.l ≠ Ll:=fun q=>zn (by rw [q]; simp)
 have sg:Same (cC H (aU x Li Lr Lo Lp' Ll M (zs ++ [z]))) (cC (upd H Ll (.lst (zs.map fun y=>V.ref y.o))) (aU x Li Lr Lo Lp' Ll M zs)):=fun b u e=>by
  have nb:b ∉ aU x Li Lr Lo Lp' Ll M (zs ++ [z]):=fun m=>by unfold cC at e; rw [if_pos m] at e; cases e
  rw [eL] at nb
  have nb':b ∉ aU x Li Lr Lo Lp' Ll M zs:=fun m=>nb (List.mem_append_left _ m)
  exact dQ (by rw [ai (fun q=>nb' (by rw [q]; simp))]; exact bg _ _ e) nb'
 have far:∀ {j:Nat} {b:Addr},(aU x Li Lr Lo Lp' Ll M (zs ++ [z]))[j]? = some b->j ≠ 5->upd H Ll (.lst (zs.map fun y=>V.ref y.o)) b = H b:=fun hb n=>ai (D.far hb (j:=5) rfl n)
 obtain ⟨nd,⟨dx,hx⟩,⟨p1,a1,b1⟩,⟨p2,a2,b2⟩,⟨p3,a3,b3⟩,⟨a4,b4⟩,lv,mt⟩:=D
 refine ⟨?_,⟨dx,(far (j:=0) rfl (by decide)).trans hx⟩,⟨p1,(far (j:=1) rfl (by decide)).trans a1,?_⟩,⟨p2,(far (j:=3) rfl (by decide)).trans a2,?_⟩,⟨p3,(far (j:=4) rfl (by decide)).trans a3,?_⟩,⟨by rw [ac,y2],y4⟩,?_,(far (j:=6) rfl (by decide)).trans mt⟩
 ·show (aU x Li Lr Lo Lp' Ll M (eT (z.t * z.ns.sum) S.top zs).2).Nodup
  rw [eL']; exact nd1
 ·show Ls _ (cC _ (aU x Li Lr Lo Lp' Ll M (eT (z.t * z.ns.sum) S.top zs).2)) _ _
  rw [eL']; exact b1.mono fun _ _ q=>q.same sg
 ·show Ls _ (cC _ (aU x Li Lr Lo Lp' Ll M (eT (z.t * z.ns.sum) S.top zs).2)) _ _
  rw [eL']; exact b2.mono fun _ _ q=>sg _ _ q
 ·show Ls _ (cC _ (aU x Li Lr Lo Lp' Ll M (eT (z.t * z.ns.sum) S.top zs).2)) _ _
  rw [eL']; exact b3.mono fun _ _ q=>q.same sg
 ·show LvAt c _ (cC _ (aU x Li Lr Lo Lp' Ll M (eT (z.t * z.ns.sum) S.top zs).2)) 5 Lr (ka (z.t * z.ns.sum) S.top (zs.map fun y=>(y.t,y.ns))).1 _
  rw [eL',<- y3]
  refine lv_pop sg (fun u e=>dQ (by rw [ai nLl]; exact e) zn) ht hd (fun b hm u e=>?_) lv
  rcases List.mem_cons.mp hm with rfl | hm
  ·rw [far (j:=2) rfl (by decide)]; exact e
  ·obtain ⟨y,hy,rfl⟩:=List.mem_map.mp hm
   obtain ⟨k,hk⟩:=DrAt.loop (x:=x) (Li:=Li) (Lr:=Lr) (Lo:=Lo) (Lp':=Lp') (Ll:=Ll) (M:=M) (List.mem_append_left [z] hy)
   rw [far hk (by omega)]; exact e
theorem kL {c:Ad} {H G:Hp}:∀ {zs:List Lp} {z:Lp} {d:Nat} {l0:Addr} {ns:List Int},LvAt c H G d l0 ns (zs ++ [z])->(∃ ps:List Addr,H z.l = some (.lst (ps.map V.ref))/\ps.length = z.ns.length)/\ba l0 (zs ++ [z]) = z.l
 | [],_,_,_,_,⟨_,_,_,_,pz,a,b⟩=>⟨⟨pz,a,b.1⟩,rfl⟩
 | y :: r,z,d,l0,ns,⟨_,_,_,_,t⟩=>kL (zs:=r) t
def spEnd (c:Ad):Sp:=fun vs H Q _=>∃ (x:Addr) (S:DS) (Li Lr Lo Lp' Ll M:Addr) (zs:List Lp) (z:Lp),vs = [.ref x]/\DrAt c H x S Li Lr Lo Lp' Ll M (zs ++ [z])/\qI S/\zs.length < 5/\z.ns ≠ []/\(0<=z.t/\z.t<=100/\z.ns.length<=200) /\
 ∀ H',DrAt c H' x (S.close (zs.map fun y=>(y.t,y.ns)) (z.t * z.ns.sum)) Li Lr Lo Lp' Ll M (eT (z.t * z.ns.sum) S.top zs).2->SameL (aU x Li Lr Lo Lp' Ll M (zs ++ [z])) H H'->Q (.bl true) H'
theorem fT {f:Addr} {fd:FuncData} (F:Fun K "takes_end" "Draft.takes_end" ce f fd) (T:Txt K mg c)  (MH:MHas P w K mg base 1 c.Draft "rows_here" ["self"] (lh c)):FnOk P w K mg base CX0 2 f fd ["self"] (spEnd c):=by
 refine F.ok fZ (fun vs H Q E h=>?_) (fun cdv A outer s H vs Q E hr h=>?_)
 ·obtain ⟨x,S,Li,Lr,Lo,Lp',Ll,M,zs,z,rfl,_⟩:=h
  rfl
 obtain ⟨x,S,Li,Lr,Lo,Lp',Ll,M,zs,z,rfl,D,sm,hd,nz,tt,q⟩:=h
 refine ⟨_,(ae (aK (PW.pt (dS (au (nt (Nat.lt_of_succ_lt (bh hr))) (aC (pv 0) rfl) (aI af) (aw _)) (di (au (nt (Nat.lt_of_succ_lt (bh hr))) (aT (k:=1) (pv 0) (hr.mono (by omega))) (aI af) (aw _)))))
   (aj (aB dA))
   az)
  (ae (aV (pe_bm0 PySem.F.plainAttrs_list PySem.F.slot_list_pop PySem.F.type_list_pop mt_pop (aC (pv 0) rfl)))
  (aj (aB dA)))),?_⟩
 have z5:(0:Nat)<=sizeLine:=by decide
 obtain ⟨dx,hx⟩:=D.hx
 refine ⟨_,rfl,x,c.Draft,dx,_,_,rfl,hx,T.cl_Draft,T.na_Draft_loops,rfl,z5,fun l1 h1=>?_⟩
 have s1:=aq h1 (.lst [])
 have D1:=D.same s1
 have e1:((zs ++ [z]).map fun y=>V.ref y.o).isEmpty = false:=by rw [List.map_append]; cases zs <;> rfl
 refine ⟨Ll,l1,_,rfl,rfl,SqL.of D1.lps.1,SqL.of ac,_,rfl,?_⟩
 generalize upd H l1 (.lst []) = H1 at s1 D1 ⊢
 rw [e1]
 refine cu ?_
 obtain ⟨dx1,hx1⟩:=D1.hx
 refine ⟨_,rfl,x,_,dx1,_,_,_,rfl,hx1,rfl,MH,x,S,Li,Lr,Lo,Lp',Ll,M,_,rfl,D1,sm.2.1,fun H2 s2=>?_⟩
 refine ⟨z5,fun l3 h3=>?_⟩
 have s3:=aq h3 (.lst [])
 have s13:=s1.trans (s2.trans s3)
 have D3:=D.same s13
 obtain ⟨⟨ps,a3,b3⟩,ei⟩:=kL D3.lv
 rw [ei]
 refine ⟨z.l,l3,_,rfl,rfl,SqL.of a3,SqL.of ac,_,rfl,?_⟩
 generalize upd H2 l3 (.lst []) = H3 at s13 D3 a3 ⊢
 have e3:(ps.map V.ref).isEmpty = false:=by
  refine Bool.eq_false_iff.mpr fun q=>nz ?_
  rw [List.isEmpty_iff,List.map_eq_nil_iff] at q
  exact List.eq_nil_of_length_eq_zero (by rw [<- b3,q]; rfl)
 rw [e3]
 refine cu ?_
 obtain ⟨dx3,hx3⟩:=D3.hx
 have g3:=D3.lps.1
 refine ⟨_,rfl,x,c.Draft,dx3,_,_,rfl,hx3,T.cl_Draft,T.na_Draft_loops,rfl,.inl ⟨rfl,_,SqL.of g3⟩,Ll,_,V.ref z.o,rfl,rfl,g3,(by rw [List.map_append]; simp),?_⟩
 have ed:((zs ++ [z]).map fun y=>V.ref y.o).dropLast = zs.map fun y=>V.ref y.o:=by rw [List.map_append]; exact List.dropLast_concat
 rw [ed]
 refine q _ (D3.endLoop hd tt) fun b u nb e=>?_
 rw [ai (fun q=>nb (by rw [q]; simp))]
 exact s13 _ _ e
def spPut (c:Ad):Sp:=fun vs H Q _=>∃ (w:Int) (x dx:Addr) (line:Int) (deed:Str) (g rd nm:Addr) (way:V) (part z:Str),vs = [.int w,.ref x,.str part,.str z]/\H x = some (.ins c.Row dx (rfl6 line deed g rd nm way))/\4<=w/\w<=32 /\
 ((part = "name"/\Nm z/\∃ rs:List Str,H rd = some (.lst (rs.map V.str))/\rs.length<=100/\∀ H',H' rd = some (.lst ((rs ++ [z]).map V.str))->SameX rd H H'->Q (.bl true) H') \/
  (part = "divisor"/\Num z/\1<=nV z/\nV z<=15/\∃ ns:List V,H nm = some (.lst ns)/\ns.length<=100/\∀ H' ms,H' nm = some (.lst ms)->SameX nm H H'->Q (.bl true) H'))
theorem mh {f:Addr} {fd:FuncData} (F:Fun K "put_into" "put_into" gy f fd) (T:Txt K mg c) (H_number_told:Has P w K mg base 3 "number_told" ["word", "low", "high"] kN) (H_is_name:Has P w K mg base 1 "is_name" ["word"] spNm):FnOk P w K mg base CX0 4 f fd ["width", "row", "part", "word"] (spPut c):=by
 refine F.ok sc_put_into (fun vs H Q E h=>?_) (fun cdv A outer s H vs Q E hr h=>?_)
 ·obtain ⟨w',x,dx,line,deed,g,rd,nm,way,part,z,rfl,_⟩:=h
  rfl
 obtain ⟨w',x,dx,line,deed,g,rd,nm,way,part,z,rfl,hx,w1,w2,h⟩:=h
 refine ⟨_,(ae (aK (au op_eq (pv 2) av (aw _))
   (ae (aV (cK PySem.F.plainAttrs_list PySem.F.slot_list_append PySem.F.type_list_append aP (aC (pv 1) rfl) (aa (pv 3) af)))
   (aj (aB (aJ H_is_name (hr.mono (by omega)) rfl (aa (pv 3) af)))))
   az)
  (ae (aK (au op_eq (pv 2) av (aw _))
   aZ
   az)
  (ae (aK (au op_eq (pv 2) av (aw _))
   aZ
   az)
  (ae (ay (i:=4) sc_put_into.nd rfl (Or.inl rfl) (bn (au op_eq (pv 2) av (aw _)) ah ah))
  (ae (ay (i:=5) sc_put_into.nd rfl (Or.inl rfl) (bn (au op_eq (pv 2) av (aw _)) (aA dj (pv 0) ah) (aA dj (aA iN ah (pv 0)) ah)))
  (ae (ay (i:=6) sc_put_into.nd rfl (Or.inl rfl) (aJ H_number_told (hr.mono (by omega)) rfl (aa (pv 3) (aa (pv 4) (aa (pv 5) af)))))
  (ae (aV (cK PySem.F.plainAttrs_list PySem.F.slot_list_append PySem.F.type_list_append aP (aC (pv 1) rfl) (aa (pv 6) af)))
  (aj (aB (aS j9 (pv 6) aR (aw _))))))))))),?_⟩
 rcases h with ⟨rfl,hn,rs,hr',lr,q⟩ | ⟨rfl,hn,z1,z2,ns,hm,lm,q⟩
 ·refine ⟨_,rfl,rfl,_,rfl,cP rfl ?_⟩
  refine ⟨_,rfl,x,c.Row,dx,_,_,rfl,hx,T.cl_Row,T.na_Row_reads,rfl,.inl ⟨rfl,_,SqL.of hr'⟩,_,rfl,rd,_,_,rfl,rfl,hr',(by rw [List.length_map]; exact Nat.lt_of_le_of_lt lr (by decide)),?_⟩
  refine ⟨_,rfl,z,rfl,hn,fun H' s'=>q H' ?_ fun b o hb e=>s' _ _ (by rw [ai hb]; exact e)⟩
  exact s' _ _ (by rw [ac,List.map_append]; rfl)
 ·have pb:=pP w1 w2
  have p4:(16:Int)<=2 ^ w'.toNat:=by
   have:(2:Int) ^ 4<=2 ^ w'.toNat:=pF (by omega)
   omega
  refine ⟨_,rfl,rfl,_,rfl,aN (by walk_at "n") ?_⟩
  refine ⟨_,rfl,rfl,_,rfl,aN (by walk_at "n") ?_⟩
  refine ⟨_,rfl,rfl,_,rfl,aN (by walk_at "n") ?_⟩
  refine ⟨_,rfl,rfl,_,rfl,aN (by walk_at "n") ?_⟩
  refine ⟨_,rfl,rfl,_,rfl,aN (by walk_at "n") ⟨_,rfl,_,_,rfl,rfl,md (by omega) (by omega),_,_,rfl,rfl,?_⟩⟩
  refine ⟨_,rfl,_,rfl,_,rfl,z,1,_,rfl,hn,?_⟩
  rw [if_pos ⟨z1,by omega⟩]
  refine ⟨_,rfl,x,c.Row,dx,_,_,rfl,hx,T.cl_Row,T.na_Row_numbers,rfl,.inl ⟨rfl,_,SqL.of hm⟩,_,rfl,nm,_,_,rfl,rfl,hm,Nat.lt_of_le_of_lt lm (by decide),?_⟩
  exact ⟨_,rfl,rfl,q _ _ ac updX⟩
theorem eV {H:Hp} {p:Addr} (h:H p = none) (o:HO):∃ G,upd H p o = G/\Same H G/\G p = some o:=⟨_,rfl,aq h _,ac⟩
def pT:Sp:=fun vs H Q _=>vs = [.int 0,.int 0]/\∀ H',Same H H'->Q (.str "") H'
theorem gH {f:Addr} {fd:FuncData} (F:Fun K "figures_behind" "figures_behind" cE f fd) (T:Txt K mg c) :FnOk P w K mg base CX0 1 f fd ["rest", "point"] pT:=by
 refine F.ok sc_figures_behind (fun vs H Q E h=>?_) (fun cdv A outer s H vs Q E hr h=>?_)
 ·obtain ⟨rfl,_⟩:=h
  rfl
 obtain ⟨rfl,q⟩:=h
 refine ⟨_,(ae (ay (i:=2) sc_figures_behind.nd rfl (Or.inl rfl) (aI af))
  (ae (mR PassesOwn.never (au op_ne (pv 0) ah (aw _))
   (ae (ay (i:=0) sc_figures_behind.nd rfl (Or.inl rfl) (aA dI (pv 0) ah))
   (ae (aV (cK PySem.F.plainAttrs_list PySem.F.slot_list_append PySem.F.type_list_append aP (pv 2) (aa (bv eK rfl T.n_str boot_str (aa (aA op_shr (pv 0) (pv 1)) af)) af)))
   (aj (ay (i:=0) sc_figures_behind.nd rfl (Or.inl rfl) (aA dL (pv 0) (aA iN ah (pv 1))))))))
  (aj (aB (cK PySem.F.plainAttrs_str PySem.F.slot_str_join PySem.F.type_str_join jW av (aa (pv 2) af)))))),?_⟩
 refine ⟨(by show 0<=sizeLine; decide),fun l hl=>?_⟩
 refine mT (fun σ G=>σ = [some (.int 0),some (.int 0),some (.ref l)]/\G l = some (.lst [])/\Same H G) (fun _ _=>0) ⟨rfl,ac,aq hl _⟩ ?_ ?_
 ·rintro σ G ⟨rfl,gl,SG⟩
  refine ⟨_,rfl,rfl,_,rfl,g6 rfl ?_⟩
  exact ⟨eW,_,rfl,_,l,[],rfl,rfl,SqL.of gl,by decide,q G SG⟩
 ·rintro σ G Q1 Q2 m ⟨v,hv,f,b,hb,q⟩
  exact ⟨v,hv,f,b,hb,m _ _ q⟩
theorem i7 (K:Frag):kitOne K (.type "str") (.type "str") = some true:=by with_unfolding_all rfl
structure Dg (z:Str) (n:Int):Prop where
 l:z.length = 1
 st:Txt.startswith z (Str.ofString "-") = false
 pt:Txt.partition z (Str.ofString ".") = (z,Str.ofString "",Str.ofString "")
 ad:PySem.NumText.AllDigits z.cps.toList
 dv:((PySem.NumText.digitsVal z.cps.toList:Nat):Int) = n
 sh:Str.ofString (toString n) = z
 ap:(z ++ Str.ofString "":Str) = z
 r:1<=n/\n<=3
theorem Dg.of {n:Int} (h:n = 1\/n = 2\/n = 3):Dg (Str.ofString (toString n)) n:=by
 rcases h with rfl | rfl | rfl <;> exact ⟨by decide +kernel,by decide +kernel,by decide +kernel,by unfold PySem.NumText.AllDigits; decide +kernel,by decide +kernel,rfl,by decide +kernel,by decide,by decide⟩
def spCI1:Sp:=fun vs H Q _=>∃ (z:Str) (n:Int),vs = [.str z,.int 0]/\Dg z n/\∀ H',Same H H'->Q (.int n) H'
theorem mH {f:Addr} {fd:FuncData} (F:Fun K "count_in" "count_in" gt f fd) (T:Txt K mg c) (H_number_in:Has P w K mg base 1 "number_in" ["figures"] mZ):FnOk P w K mg base CX0 2 f fd ["text", "point"] spCI1:=by
 refine F.ok sc_count_in (fun vs H Q E h=>?_) (fun cdv A outer s H vs Q E hr h=>?_)
 ·obtain ⟨z,n,rfl,_⟩:=h
  rfl
 obtain ⟨z,n,rfl,D,q⟩:=h
 refine ⟨_,(ae (aK (PW.pt (dS (bV (bD (aF cM rfl T.n_isinstance boot_isinstance (aa (pv 0) (aa (pe_ty rfl T.n_str boot_str) af))))) (di (au fq (aF dO rfl T.n_len boot_len (aa (pv 0) af)) (gg rfl T.g_LONGEST_SHOWN) (aw _)))))
   (aj (aB aR))
   az)
  (ae (ay (i:=2) sc_count_in.nd rfl (Or.inl rfl) (cK PySem.F.plainAttrs_str PySem.F.slot_str_startswith PySem.F.type_str_startswith oW (pv 0) (aa av af)))
  (ae (ay (i:=3) sc_count_in.nd rfl (Or.inl rfl) (cK PySem.F.plainAttrs_str PySem.F.slot_str_partition PySem.F.type_str_partition mt_part (bn (bD (pv 2)) (cJ sl_str (pv 0) (da ah) dX) (pv 0)) (aa av af)))
  (ae (ay (i:=4) sc_count_in.nd rfl (Or.inl rfl) (aJ H_number_in (hr.mono (by omega)) rfl (aa (aA aG (aH cF (pv 3) ah (fun _ _=>rfl)) (aH cF (pv 3) ah (fun _ _=>rfl))) af)))
  (ae (aK (au eR (pv 4) aR (aw _))
   (aj (aB aR))
   az)
  (ae (ay (i:=5) sc_count_in.nd rfl (Or.inl rfl) ah)
  (ae (cU PassesOwn.never rfl (pd (aH cF (pv 3) ah (fun _ _=>rfl))) (bu (i:=6) sc_count_in.nd rfl (Or.inl rfl))
   (aj (ay (i:=5) sc_count_in.nd rfl (Or.inl rfl) (aA op_mulB (pv 5) ah))))
  (ae (ay (i:=7) sc_count_in.nd rfl (Or.inl rfl) (aA j7 (aA op_shlB (pv 4) (pv 1)) (pv 5)))
  (aj (aB (bn (bD (pv 2)) (jj eX (pv 7)) (pv 7)))))))))))),?_⟩
 have L100:(100000:Nat)<=sizeLine:=by decide
 have lz:=D.l
 have r1:=D.r.1
 have r2:=D.r.2
 refine ⟨_,rfl,_,_,_,_,_,rfl,rfl,TyOf.str _,i7 _,_,rfl,cu ?_⟩
 refine ⟨_,rfl,z,rfl,by omega,_,_,rfl,rfl,_,rfl,?_⟩
 walk_at "c" <;> intro c1
 ·omega
 refine ⟨_,rfl,eW,z,_,rfl,rfl,?_⟩
 rw [D.st]
 refine ⟨_,rfl,_,rfl,cu ⟨_,rfl,eW,_,_,rfl,rfl,rfl,by omega,fun t ht=>?_⟩⟩
 rw [D.pt]
 obtain ⟨G1,e1,s1,f1⟩:=eV ht (.tup [.str z,.str (Str.ofString ""),.str (Str.ofString "")])
 rw [e1]
 refine ⟨_,rfl,t,_,_,_,rfl,rfl,SqT.of f1,rfl,_,rfl,t,_,_,_,rfl,rfl,SqT.of f1,rfl,z,Str.ofString "",rfl,rfl,by show z.length + 0<=_; omega,z ++ Str.ofString "",rfl,by rw [D.ap]; omega,fun o h1 h2=>?_⟩
 rw [D.ap] at h1
 rw [h1 D.ad,D.dv]
 refine ⟨_,rfl,rfl,_,rfl,aN (fun z=>nomatch z) ?_⟩
 refine ⟨_,rfl,t,_,_,_,rfl,rfl,SqT.of f1,rfl,Str.ofString "",rfl,ql (z:=Str.ofString "") (fun i σ G=>∃ y6 y7:Option V,σ = [some (.str z),some (.int 0),some (.bl false),some (.ref t),some (.int n),some (.int 1),y6,y7]/\G = G1) ⟨_,_,rfl,rfl⟩ ?_ ?_⟩
 ·rintro i ch σ G hc _
  exact absurd (Array.getElem?_eq_some_iff.mp hc).1 (Nat.not_lt_zero _)
 ·rintro σ G ⟨y6,y7,rfl,rfl⟩
  refine ⟨_,rfl,_,rfl,_,_,rfl,rfl,⟨by omega,by omega,b200 (by omega) (by omega)⟩,_,rfl,_,_,rfl,rfl,⟨by decide,by decide⟩,?_⟩
  refine ⟨_,rfl,_,rfl,cu ⟨_,rfl,?_⟩⟩
  have e:n * 2 ^ ((0:Int)).toNat / 1 = n:=by show n * 1 / 1 = n; rw [Int.mul_one,Int.ediv_one]
  dsimp only
  rw [e]
  exact q G s1
def spSh1 (c:Ad):Sp:=fun vs H Q _=>∃ (x:Addr) (w n:Int) (z:Str),vs = [.ref x,.int n]/\KO c H x 0 w 0/\4<=w/\w<=32/\Dg z n/\∀ H',Same H H'->Q (.str z) H'
theorem pw16 {w:Int} (h:4<=w):(16:Int)<=2 ^ w.toNat:=by
 have:(2:Nat) ^ 4<=2 ^ w.toNat:=Nat.pow_le_pow_right (by decide) (by omega)
 exact_mod_cast this
theorem cnt1 {w n:Int} (h:4<=w) (r:n<=3):cnt 0 w n = n:=by
 unfold cnt hi
 have:=pw16 h
 rw [if_pos rfl,if_pos (by omega)]
theorem jY {f:Addr} {fd:FuncData} (F:Fun K "shown" "Kind.shown" dY f fd) (T:Txt K mg c) (H_figures_behind:Has P w K mg base 1 "figures_behind" ["rest", "point"] pT) (MC:∀ i,i < 1->MHas P w K mg base 4 (cOf c i) "count_of" ["self", "bits"] (spCnt c)):FnOk P w K mg base CX0 5 f fd ["self", "bits"] (spSh1 c):=by
 refine F.ok sc_Kind_shown (fun vs H Q E h=>?_) (fun cdv A outer s H vs Q E hr h=>?_)
 ·obtain ⟨x,w',n,z,rfl,_⟩:=h
  rfl
 obtain ⟨x,w',n,z,rfl,ko,w0,w1,D,q⟩:=h
 refine ⟨_,(ae (ay (i:=2) sc_Kind_shown.nd rfl (Or.inl rfl) (cG (k:=4) (pv 0) (hr.mono (by omega)) (aa (pv 1) af)))
  (ae (ay (i:=3) sc_Kind_shown.nd rfl (Or.inl rfl) (bn (au nR (pv 2) ah (aw _)) av av))
  (ae (ay (i:=4) sc_Kind_shown.nd rfl (Or.inl rfl) (bv eK rfl T.n_str boot_str (aa (aA op_shr (aF m5 rfl T.n_abs boot_abs (aa (pv 2) af)) (aC (pv 0) rfl)) af)))
  (ae (ay (i:=5) sc_Kind_shown.nd rfl (Or.inl rfl) (aJ H_figures_behind (hr.mono (by omega)) rfl (aa (aA dL (aF m5 rfl T.n_abs boot_abs (aa (pv 2) af)) (aA iN ah (aC (pv 0) rfl))) (aa (aC (pv 0) rfl) af))))
  (aj (aB (aA aG (aA aG (pv 3) (pv 4)) (bn (pt_txt (pv 5)) (aA aG av (pv 5)) av)))))))),?_⟩
 have L1000:(1000:Nat)<=sizeLine:=by decide
 obtain ⟨dx,hx⟩:=id ko
 have r1:=D.r.1
 have r2:=D.r.2
 have pw:=pw16 w0
 have lz:=D.l
 refine ⟨_,rfl,x,_,dx,_,_,_,rfl,hx,rfl,MC 0 (by decide),_,rfl,0,x,w',_,n,rfl,by decide,ko,w0,w1,by omega,by omega,?_⟩
 rw [cnt1 w0 r2]
 have e0:(if n < 0 then -n else n) = n:=if_neg (by omega)
 have e1:(if n < 0 then -n else n) / 2 ^ ((0:Int)).toNat = n:=by rw [e0]; exact Int.ediv_one n
 have e2:(if n < 0 then -n else n) % (1 * 2 ^ ((0:Int)).toNat) = 0:=by rw [e0]; exact Int.emod_one n
 refine ⟨_,rfl,_,_,rfl,rfl,_,rfl,?_⟩
 refine iteC (fun c0=>absurd c0 (by omega)) (fun c0=>?_)
 refine ⟨_,rfl,_,rfl,_,rfl,x,_,dx,_,_,rfl,hx,T.cls 0,T.nap 0,rfl,_,_,rfl,rfl,(by omega),n,congrArg (fun z=>[V.int z]) e1,by omega,by omega,?_⟩
 rw [D.sh]
 refine ⟨_,rfl,_,rfl,_,rfl,x,_,dx,_,_,rfl,hx,T.cls 0,T.nap 0,rfl,_,_,rfl,rfl,md (by omega) (by omega),_,_,rfl,rfl,p1_pos _,_,rfl,x,_,dx,_,_,rfl,hx,T.cls 0,T.nap 0,rfl,congrArg (fun z=>[V.int z,V.int 0]) e2,fun H1 s1=>?_⟩
 have m0:(Str.ofString "").length = 0:=by decide
 refine ⟨_,rfl,_,rfl,_,_,rfl,rfl,by omega,_,rfl,Str.ofString "",rfl,by omega,?_⟩
 rw [decide_eq_false (fun z=>z m0)]
 have ez:(Str.ofString "" ++ z ++ Str.ofString "":Str) = z:=by
  rw [<- D.sh]
  have:n = 1\/n = 2\/n = 3:=by omega
  rcases this with rfl | rfl | rfl <;> decide +kernel
 refine cu ⟨_,_,rfl,rfl,by rw [PySem.Str.length_append]; omega,?_⟩
 rw [ez]
 exact q H1 s1
def spRd1 (c:Ad):Sp:=fun vs H Q _=>∃ (x:Addr) (w n:Int) (z:Str),vs = [.ref x,.str z]/\KO c H x 0 w 0/\4<=w/\w<=32/\Dg z n/\∀ H',Same H H'->Q (.int n) H'
theorem kP {f:Addr} {fd:FuncData} (F:Fun K "read" "Kind.read" fA f fd) (T:Txt K mg c) (H_count_in:Has P w K mg base 2 "count_in" ["text", "point"] spCI1) (H_is_between:Has P w K mg base 2 "is_between" ["thing", "low", "high"] df) (ML:∀ i,i < 1->MHas P w K mg base 2 (cOf c i) "least" ["self"] (jS c i)) (MG:∀ i,i < 1->MHas P w K mg base 2 (cOf c i) "greatest" ["self"] (iz c i)) (MB:∀ i,i < 1->MHas P w K mg base 3 (cOf c i) "bits_of" ["self", "count"] (oQ c)) (MS:∀ i,i < 1->MHas P w K mg base 5 (cOf c i) "shown" ["self", "bits"] (spSh1 c)):FnOk P w K mg base CX0 6 f fd ["self", "text"] (spRd1 c):=by
 refine F.ok sc_Kind_read (fun vs H Q E h=>?_) (fun cdv A outer s H vs Q E hr h=>?_)
 ·obtain ⟨x,w',n,z,rfl,_⟩:=h
  rfl
 obtain ⟨x,w',n,z,rfl,ko,w0,w1,D,q⟩:=h
 refine ⟨_,(ae (ay (i:=2) sc_Kind_read.nd rfl (Or.inl rfl) (aJ H_count_in (hr.mono (by omega)) rfl (aa (pv 1) (aa (aC (pv 0) rfl) af))))
  (ae (aK (bV (bD (aJ H_is_between (hr.mono (by omega)) rfl (aa (pv 2) (aa (aT (k:=2) (pv 0) (hr.mono (by omega))) (aa (aT (k:=2) (pv 0) (hr.mono (by omega))) af))))))
   aZ
   az)
  (ae (ay (i:=3) sc_Kind_read.nd rfl (Or.inl rfl) (cG (k:=3) (pv 0) (hr.mono (by omega)) (aa (pv 2) af)))
  (ae (aK (au op_ne (cG (k:=5) (pv 0) (hr.mono (by omega)) (aa (pv 3) af)) (pv 1) (aw _))
   aZ
   az)
  (aj (aB (pv 3))))))),?_⟩
 obtain ⟨dx,hx⟩:=id ko
 have r1:=D.r.1
 have r2:=D.r.2
 have pw:=pw16 w0
 refine ⟨_,rfl,_,rfl,x,_,dx,_,_,rfl,hx,T.cls 0,T.nap 0,rfl,z,n,rfl,D,fun H1 s1=>?_⟩
 have ko1:KO c H1 x 0 w' 0:=⟨dx,s1 _ _ hx⟩
 have hx1:=s1 _ _ hx
 have l0:lo 0 w'<=n:=by show (0:Int)<=n; omega
 have h0:n<=hi 0 w':=by show n<=1 * 2 ^ w'.toNat - 1; omega
 refine ⟨_,rfl,_,rfl,x,_,dx,_,_,_,rfl,hx1,rfl,ML 0 (by decide),x,w',_,rfl,ko1,w0,w1,_,rfl,x,_,dx,_,_,_,rfl,hx1,rfl,MG 0 (by decide),x,w',_,rfl,ko1,w0,w1,n,_,_,rfl,l0,h0,?_⟩
 refine ⟨_,rfl,cu ?_⟩
 refine ⟨_,rfl,x,_,dx,_,_,_,rfl,hx1,rfl,MB 0 (by decide),_,rfl,0,x,w',_,n,rfl,by decide,ko1,w0,w1,l0,h0,?_⟩
 have em:n % (1 * 2 ^ w'.toNat) = n:=Int.emod_eq_of_lt (by omega) (by omega)
 rw [em]
 refine ⟨_,rfl,x,_,dx,_,_,_,rfl,hx1,rfl,MS 0 (by decide),_,rfl,x,w',n,z,rfl,ko1,w0,w1,D,fun H2 s2=>?_⟩
 exact ⟨_,rfl,rfl,_,rfl,g6 rfl ⟨_,rfl,q H2 (s1.trans s2)⟩⟩
def pJ (c:Ad):Sp:=fun vs H Q _=>∃ (w:Int) (x dx:Addr) (line:Int) (deed:Str) (g rd nm t:Addr) (way:V) (z:Str) (n:Int),vs = [.int w,.ref x,.ref t]/\H x = some (.ins c.Row dx (rfl6 line deed g rd nm way))/\H t = some (.lst [.str "plain",.str z])/\4<=w/\w<=32/\Dg z n/\∃ ns:List V,H nm = some (.lst ns)/\ns.length<=100/\∀ k m H' ms,H k = none->H m = none->PlK c H' w k->H' m = some (.tup [.ref x,.ref k])->H' nm = some (.lst ms)->SameX nm H H'->Q (.ref m) H'
theorem lN {f:Addr} {fd:FuncData} (F:Fun K "set_told" "set_told" gZ f fd) (T:Txt K mg c) (H_kind_told:Has P w K mg base 6 "kind_told" ["width", "words"] (spKT c)) (MR:∀ i,i < 1->MHas P w K mg base 6 (cOf c i) "read" ["self", "text"] (spRd1 c)):FnOk P w K mg base CX0 7 f fd ["width", "row", "things"] (pJ c):=by
 refine F.ok sc_set_told (fun vs H Q E h=>?_) (fun cdv A outer s H vs Q E hr h=>?_)
 ·obtain ⟨w',x,dx,line,deed,g,rd,nm,t,way,z,n,rfl,_⟩:=h
  rfl
 obtain ⟨w',x,dx,line,deed,g,rd,nm,t,way,z,n,rfl,hx,ht,w1,w2,D,ns,hm,ln,q⟩:=h
 refine ⟨_,(ae (ay (i:=3) sc_set_told.nd rfl (Or.inl rfl) (aJ H_kind_told (hr.mono (by omega)) rfl (aa (pv 0) (aa (cJ eu (pv 2) dX (da (jj eX ah))) af))))
  (ae (aK (au eR (pv 3) aR (aw _))
   (aj (aB aR))
   az)
  (ae (nS (aj (aV (cK PySem.F.plainAttrs_list PySem.F.slot_list_append PySem.F.type_list_append aP (aC (pv 1) rfl) (aa (cG (k:=6) (pv 3) (hr.mono (by omega)) (aa (aH aD (pv 2) (jj eX ah) (fun _ _=>rfl)) af)) af)))))
  (aj (aB (bq (aa (pv 1) (aa (pv 3) af)))))))),?_⟩
 refine ⟨_,rfl,_,rfl,_,rfl,_,rfl,t,_,rfl,SqL.of ht,fun l hl=>?_⟩
 have s1:=aq hl (.lst [V.str "plain"])
 refine ⟨w',l,rfl,(show upd H l (.lst [V.str "plain"]) l = _ from ac),w1,w2,fun k H2 hk ko s2=>?_⟩
 have s12:=s1.trans s2
 obtain ⟨dk,kz⟩:=id ko
 refine ⟨_,rfl,rfl,_,rfl,aN (by nofun) ?_⟩
 refine ⟨_,rfl,x,c.Row,dx,_,_,rfl,s12 _ _ hx,T.cl_Row,T.na_Row_numbers,rfl,.inl ⟨rfl,_,SqL.of (s12 _ _ hm)⟩,?_⟩
 refine ⟨_,rfl,k,_,dk,_,_,_,rfl,kz,rfl,MR 0 (by decide),_,rfl,_,rfl,t,_,_,_,rfl,rfl,SqL.of (s12 _ _ ht),rfl,k,w',n,z,rfl,ko,w1,w2,D,fun H3 s3=>?_⟩
 have s13:=s12.trans s3
 have hm3:=s13 _ _ hm
 refine ⟨nm,_,_,rfl,rfl,hm3,Nat.lt_of_le_of_lt ln (by decide),?_⟩
 refine ⟨_,rfl,_,rfl,(by show 2<=sizeLine; decide),fun m hmm=>?_⟩
 have k3:=s3 _ _ kz
 have k0:H k = none:=by
  cases e:H k with
  | none=>rfl
  | some o=>have hk':upd H l (.lst [V.str "plain"]) k = none:=hk; rw [s1 _ _ e] at hk'; cases hk'
 have kn:k ≠ nm:=fun e=>by rw [e,hm] at k0; cases k0
 have mn:m ≠ nm:=fun e=>by rw [e,ac] at hmm; cases hmm
 rw [ai mn] at hmm
 have km:k ≠ m:=fun e=>by rw [<- e,k3] at hmm; cases hmm
 have m0:H m = none:=by
  cases e:H m with
  | none=>rfl
  | some o=>rw [s13 _ _ e] at hmm; cases hmm
 show Q (.ref m) (upd (upd H3 nm (.lst (ns ++ [V.int n]))) m (.tup [V.ref x,V.ref k]))
 refine q k m _ (ns ++ [V.int n]) k0 m0 ⟨dk,?_⟩ ac ?_ fun b o hb e=>?_
 ·rw [ai km,ai kn]; exact k3
 ·rw [ai (Ne.symm mn)]; exact ac
 ·have bm:b ≠ m:=fun z=>by rw [z,m0] at e; cases e
  rw [ai bm,ai hb]; exact s13 _ _ e
def spWP:Sp:=fun vs H Q _=>∃ x:Addr,vs = [.ref x]/\Q (.str "plain") H
theorem jE {f:Addr} {fd:FuncData} (F:Fun K "word" "Plain.word" eM f fd) (T:Txt K mg c) :FnOk P w K mg base CX0 1 f fd ["self"] spWP:=by
 refine F.ok jV (fun vs H Q E h=>?_) (fun cdv A outer s H vs Q E hr h=>?_)
 ·obtain ⟨x,rfl,_⟩:=h
  rfl
 obtain ⟨x,rfl,q⟩:=h
 refine ⟨_,(aj (aB av)),?_⟩
 exact q
def jR (c:Ad):Sp:=fun vs H Q _=>∃ (x y:Addr) (w:Int),vs = [.ref x,.ref y]/\PlK c H w x/\PlK c H w y/\Q (.bl true) H
theorem kM {f:Addr} {fd:FuncData} (F:Fun K "same_kind" "same_kind" fz f fd) (T:Txt K mg c)  (MW:∀ i,i < 1->MHas P w K mg base 1 (cOf c i) "word" ["self"] spWP):FnOk P w K mg base CX0 2 f fd ["one", "other"] (jR c):=by
 refine F.ok kI (fun vs H Q E h=>?_) (fun cdv A outer s H vs Q E hr h=>?_)
 ·obtain ⟨x,y,w',rfl,_⟩:=h
  rfl
 obtain ⟨x,y,w',rfl,⟨dx,hx⟩,⟨dy,hy⟩,q⟩:=h
 refine ⟨_,(aj (aB (fV (aS op_eq (aT (k:=1) (pv 0) (hr.mono (by omega))) (aT (k:=1) (pv 1) (hr.mono (by omega))) (aw _)) (fV (aS op_eq (aC (pv 0) rfl) (aC (pv 1) rfl) (aw _)) (hG (aS op_eq (aC (pv 0) rfl) (aC (pv 1) rfl) (aw _))))))),?_⟩
 refine ⟨_,rfl,x,_,dx,_,_,_,rfl,hx,rfl,MW 0 (by decide),x,rfl,_,rfl,y,_,dy,_,_,_,rfl,hy,rfl,MW 0 (by decide),y,rfl,rfl,_,rfl,cP rfl ?_⟩
 refine ⟨_,rfl,x,_,dx,_,_,rfl,hx,T.cls 0,T.naw 0,rfl,_,rfl,y,_,dy,_,_,rfl,hy,T.cls 0,T.naw 0,rfl,rfl,_,rfl,cP rfl ?_⟩
 refine ⟨_,rfl,x,_,dx,_,_,rfl,hx,T.cls 0,T.nap 0,rfl,_,rfl,y,_,dy,_,_,rfl,hy,T.cls 0,T.nap 0,rfl,rfl,?_⟩
 exact q
def spKP (c:Ad):Sp:=fun vs H Q _=>∃ (w w2:Int) (x dx:Addr) (line:Int) (deed:Str) (g rd nm kd:Addr) (way t:V),vs = [.int w,.ref x,t,.ref kd]/\H x = some (.ins c.Row dx (rfl6 line deed g rd nm way))/\((∃ k:Addr,t = .ref k/\PlK c H w2 k)\/(t = .non/\(deed = "copy"\/deed = "part")/\∃ (z:Str) (kvs:List (Key × V)) (k:Addr),H rd = some (.lst [.str z])/\H kd = some (.dK kvs)/\ii kvs (Sum.inr z:Key) = some (.ref k)/\PlK c H w2 k))/\∀ k H',Same H H'->PlK c H' w2 k->Q (.ref k) H'
theorem lQ {f:Addr} {fd:FuncData} (F:Fun K "kind_put" "kind_put" gF f fd) (T:Txt K mg c)  (C_Plain:CHas P w K mg base 4 c.Plain "Plain" ["self", "width"] (m6 c 0)):FnOk P w K mg base CX0 6 f fd ["width", "row", "told", "kinds"] (spKP c):=by
 refine F.ok lO (fun vs H Q E h=>?_) (fun cdv A outer s H vs Q E hr h=>?_)
 ·obtain ⟨w',w2,x,dx,line,deed,g,rd,nm,kd,way,t,rfl,_⟩:=h
  rfl
 obtain ⟨w',w2,x,dx,line,deed,g,rd,nm,kd,way,t,rfl,hx,h,q⟩:=h
 refine ⟨_,(ae (aK (au j9 (pv 2) aR (aw _))
   (aj (aB (pv 2)))
   az)
  (ae (aK (au fX (aC (pv 1) rfl) (bq (aa av (aa av af))) (by with_unfolding_all rfl))
   (aj (aB (jy C_Plain (hr.mono (by omega)) rfl (aa (pv 0) af))))
   az)
  (aj (aB (mD (bh hr) (pv 3) (aH aD (aC (pv 1) rfl) (jj eX ah) (fun _ _=>rfl)) (fun _ _=>rfl)))))),?_⟩
 rcases h with ⟨k,rfl,pk⟩ | ⟨rfl,hd,z,kvs,v,hr',hk,hv,pk⟩
 ·exact ⟨_,rfl,rfl,_,rfl,iteN (by nofun) ⟨_,rfl,q k H (fun _ _ e=>e) pk⟩⟩
 refine ⟨_,rfl,rfl,_,rfl,g6 rfl ?_⟩
 refine ⟨_,rfl,x,c.Row,dx,_,_,rfl,hx,T.cl_Row,T.na_Row_deed,rfl,(by show 2<=sizeLine; decide),fun p hp=>?_⟩
 have s1:=aq hp (.tup [V.str "less",V.str "same"])
 refine ⟨p,_,rfl,.inr (SqT.of ac),rfl,rfl,_,rfl,?_⟩
 have ni:inV (.str deed) [V.str "less",V.str "same"] = false:=by rcases hd with rfl | rfl <;> decide +kernel
 show if inV (.str deed) [V.str "less",V.str "same"] = true then _ else _
 rw [ni]
 refine cu ⟨_,rfl,_,rfl,x,c.Row,dx,_,_,rfl,s1 _ _ hx,T.cl_Row,T.na_Row_reads,rfl,_,rfl,rd,_,_,_,rfl,rfl,SqL.of (s1 _ _ hr'),rfl,kd,.ref v,rfl,?_,q v _ s1 (by obtain ⟨dk,z⟩:=pk; exact ⟨dk,s1 _ _ z⟩)⟩
 rw [<- hv]
 exact DGet.k (k:=Sum.inr z) (s1 _ _ hk)
def spNW (c:Ad):Sp:=fun vs H Q _=>∃ (l kd k:Addr) (w:Int) (z:Str) (kvs:List (Key × V)),vs = [.ref l,.ref kd,.str "plain"]/\H l = some (.lst [.str z])/\H kd = some (.dK kvs)/\ii kvs (Sum.inr z:Key) = some (.ref k)/\PlK c H w k/\Q .non H
theorem jq {f:Addr} {fd:FuncData} (F:Fun K "not_of_word" "not_of_word" dn f fd) (T:Txt K mg c)  (MW:∀ i,i < 1->MHas P w K mg base 1 (cOf c i) "word" ["self"] spWP):FnOk P w K mg base CX0 2 f fd ["names", "kinds", "word"] (spNW c):=by
 refine F.ok sc_not_of_word (fun vs H Q E h=>?_) (fun cdv A outer s H vs Q E hr h=>?_)
 ·obtain ⟨l,kd,k,w',z,kvs,rfl,_⟩:=h
  rfl
 obtain ⟨l,kd,k,w',z,kvs,rfl,hl,hk,hv,⟨dk,kz⟩,q⟩:=h
 refine ⟨_,(ae (cU PassesOwn.never rfl (bF (pv 0)) (bu (i:=3) sc_not_of_word.nd rfl (Or.inl rfl))
   (aj (aK (au op_ne (aT (k:=1) (mD (bh hr) (pv 1) (pv 3) (fun _ _=>rfl)) (hr.mono (by omega))) (pv 2) (aw _))
    (aj (aB (pv 3)))
    az)))
  (aj (aB aR))),?_⟩
 refine ⟨_,rfl,l,rfl,⟨_,SqL.of hl⟩,cL (xs:=[V.str z]) (fun i σ G=>(∃ y:Option V,σ = [some (.ref l),some (.ref kd),some (.str "plain"),y])/\G = H) ⟨⟨_,rfl⟩,rfl⟩ (fun _ _ _ _ h=>by rw [h.2]; exact SqL.of hl) ?_ ?_⟩
 ·rintro i v σ G hi ⟨⟨y,rfl⟩,rfl⟩
  have:v = .str z:=by
   cases i with
   | zero=>injection hi with e; exact e.symm
   | succ n=>cases hi
  subst this
  refine ⟨_,rfl,_,rfl,kd,_,rfl,hv ▸ DGet.k (k:=Sum.inr z) hk,k,_,dk,_,_,_,rfl,kz,rfl,MW 0 (by decide),k,rfl,_,rfl,rfl,_,rfl,g6 rfl ⟨⟨_,rfl⟩,rfl⟩⟩
 ·rintro σ G ⟨⟨y,rfl⟩,rfl⟩
  exact q
def newP (H H':Hp):Hp:=fun b=>match H b with
 | none=>H' b
 | some _=>none
theorem bi {H H':Hp} {b:Addr} (h:H b = none):newP H H' b = H' b:=by unfold newP; rw [h]
theorem oU {H H':Hp} {b:Addr} {o:HO} (e:newP H H' b = some o):H b = none/\H' b = some o:=by
 unfold newP at e
 split at e
 ·rename_i h; exact ⟨h,e⟩
 ·cases e
def GDS (K:Frag) (P:Program) (w:World) (a:Addr):Prop:=∃ vs:List (Key × Value),GD K P w a vs/\(∃ b,valueAt vs (.inr "copy") = some (.ref b)/\∀ H,SqT K H b [.str "name"])/\∃ b,valueAt vs (.inr "part") = some (.ref b)/\∀ H,SqT K H b [.str "name",.str "divisor"]
def RowW (line:Int) (ws:List Str) (o:Option (RwD × Bool)):Prop :=
 (∃ g,ws = ([g, "=", "copy"]:List Str)/\Nm g/\o = none)\/(∃ g a,ws = ([g, "=", "copy",a]:List Str)/\Nm g/\Nm a/\o = some (⟨line, "copy",[g],[a]⟩,false)) \/
 (∃ g z n,ws = ([g, "=", "set", "plain",z]:List Str)/\Nm g/\Dg z n/\o = some (⟨line, "set",[g],[]⟩,true))\/(∃ g h a,ws = ([g,h, "=", "part",a, "3"]:List Str)/\Nm g/\Nm h/\Nm a/\g ≠ h/\o = some (⟨line, "part",[g,h],[a]⟩,false))
structure RowF (ws xs gs ts:List Str) (deed:Str) (m:Int):Prop where
 h34:qx (ws.map V.str) (some 3) (some 4) = xs.map V.str
 hm:(if decide (xs = (["part"]:List Str)) = true then V.int 2 else V.int 1) = V.int m
 hg:qx (ws.map V.str) none (some m) = gs.map V.str
 hl:m + 2<=(ws.map V.str).length
 he:atI (ws.map V.str) m = some (.str "=")
 hd:atI (ws.map V.str) (m + 1) = some (.str deed)
 ht:qx (ws.map V.str) (some (m + 2)) none = ts.map V.str
 hn:∀ g ∈ gs,Nm g
 lg:gs.length<=2
theorem nm_ne {z:Str} (h:Nm z) {y:Str} (hy:resW.contains y = true):z ≠ y:=fun e=>by rw [e,Nm,hy] at h; exact absurd h.2.2.2 (by decide)
def RowC (line:Int) (gs ts:List Str) (deed:Str) (o:Option (RwD × Bool)):Prop :=
 (∃ g,gs = [g]/\ts = []/\deed = "copy"/\o = none)\/(∃ g a,gs = [g]/\ts = [a]/\Nm a/\deed = "copy"/\o = some (⟨line, "copy",[g],[a]⟩,false)) \/
 (∃ g z n,gs = [g]/\ts = (["plain",z]:List Str)/\Dg z n/\deed = "set"/\o = some (⟨line, "set",[g],[]⟩,true))\/(∃ g h a,gs = [g,h]/\ts = ([a, "3"]:List Str)/\Nm a/\g ≠ h/\deed = "part"/\o = some (⟨line, "part",[g,h],[a]⟩,false))
theorem RowW.f {line:Int} {ws:List Str} {o:Option (RwD × Bool)} (h:RowW line ws o):∃ xs gs ts deed m,RowF ws xs gs ts deed m/\RowC line gs ts deed o:=by
 rcases h with ⟨g,rfl,ng,rfl⟩ | ⟨g,a,rfl,ng,na,rfl⟩ | ⟨g,z,n,rfl,ng,D,rfl⟩ | ⟨g,h2,a,rfl,ng,nh,na,ne,rfl⟩
 ·exact ⟨[],[g],[], "copy",1,⟨rfl,rfl,rfl,by show (3:Int)<=((3:Nat):Int); decide,rfl,rfl,rfl,fun x hx=>by cases List.mem_singleton.mp hx; exact ng,by show 1<=2; decide⟩,.inl ⟨g,rfl,rfl,rfl,rfl⟩⟩
 ·have e:([a]:List Str) ≠ ([Str.ofString "part"]:List Str):=fun z=>nm_ne na (y:="part") (by decide +kernel) (by injection z)
  exact ⟨[a],[g],[a], "copy",1,⟨rfl,by rw [decide_eq_false e]; rfl,rfl,by show (3:Int)<=((4:Nat):Int); decide,rfl,rfl,rfl,fun x hx=>by cases List.mem_singleton.mp hx; exact ng,by show 1<=2; decide⟩,.inr (.inl ⟨g,a,rfl,rfl,na,rfl,rfl⟩)⟩
 ·have e:([Str.ofString "plain"]:List Str) ≠ ([Str.ofString "part"]:List Str):=by decide +kernel
  exact ⟨["plain"],[g],["plain",z], "set",1,⟨rfl,by rw [decide_eq_false e]; rfl,rfl,by show (3:Int)<=((5:Nat):Int); decide,rfl,rfl,rfl,fun x hx=>by cases List.mem_singleton.mp hx; exact ng,by show 1<=2; decide⟩,.inr (.inr (.inl ⟨g,z,n,rfl,rfl,D,rfl,rfl⟩))⟩
 ·refine ⟨["part"],[g,h2],[a, "3"], "part",2,⟨rfl,by rw [decide_eq_true rfl]; rfl,rfl,by show (4:Int)<=((6:Nat):Int); decide,rfl,rfl,rfl,fun x hx=>?_,by show 2<=2; decide⟩,.inr (.inr (.inr ⟨g,h2,a,rfl,rfl,na,ne,rfl,rfl⟩))⟩
  rcases List.mem_cons.mp hx with rfl | hx
  ·exact ng
  ·cases List.mem_singleton.mp hx; exact nh
theorem num3:Num "3":=⟨by unfold PySem.NumText.AllDigits; decide +kernel,by decide +kernel,by decide +kernel,fun z=>absurd z (by decide +kernel)⟩
theorem nV3:nV "3" = 3:=by decide +kernel
theorem if_tC {b:Bool} {x y:V} {σ:L2.St} {H:Hp} {Q:VK} (h:Q (if b = true then x else y) H):if b = true then tC x σ H Q else tC y σ H Q:=by
 cases b
 ·exact h
 ·exact h
def spRT (c:Ad):Sp:=fun vs H Q _=>∃ (w line:Int) (wl:Addr) (ws:List Str) (o:Option (RwD × Bool)),vs = [.int w,.int line,.ref wl]/\H wl = some (.lst (ws.map V.str))/\4<=w/\w<=32/\RowW line ws o /\
 (o = none->∀ H',Same H H'->Q .non H')/\∀ y,o = some y->∀ m H',PrAt c w (newP H H') m y->Same H H'->Q (.ref m) H'
theorem lR {f:Addr} {fd:FuncData} (F:Fun K "row_told" "row_told" hB f fd) (T:Txt K mg c) (H_set_told:Has P w K mg base 7 "set_told" ["width", "row", "things"] (pJ c)) (H_put_into:Has P w K mg base 4 "put_into" ["width", "row", "part", "word"] (spPut c)) (H_is_name:Has P w K mg base 1 "is_name" ["word"] spNm) (C_Row:CHas P w K mg base 1 c.Row "Row" ["self", "line", "deed", "goals"] (qJ c)) (RA:GDS K P w c.SHAPES):FnOk P w K mg base CX0 8 f fd ["width", "line", "words"] (spRT c):=by
 refine F.ok sc_row_told (fun vs H Q E h=>?_) (fun cdv A outer s H vs Q E hr h=>?_)
 ·obtain ⟨w',line,wl,ws,o,rfl,_⟩:=h
  rfl
 obtain ⟨w',line,wl,ws,o,rfl,hw,w1,w2,rw',qn,qs⟩:=h
 obtain ⟨vs,gd_SHAPES,⟨bc,vc,sc⟩,bp,vp,sp'⟩:=RA
 refine ⟨_,(ae (ay (i:=3) sc_row_told.nd rfl (Or.inl rfl) (bn (au (mC (Nat.lt_of_succ_lt (bh hr))) (cJ eu (pv 2) (da ah) (da ah)) (aI (aa av af)) (aw _)) ah ah))
  (ae (ay (i:=4) sc_row_told.nd rfl (Or.inl rfl) (cJ eu (pv 2) dX (da (pv 3))))
  (ae (aK (PW.pt (dS (au nR (aF aM rfl T.n_len boot_len (aa (pv 2) af)) (aA aW (pv 3) ah) (aw _)) (dS (au op_ne (aH aD (pv 2) (pv 3) (fun _ _=>rfl)) av (aw _)) (di (bV (bD (aF (fk rfl) rfl T.n_all boot_all (aa (cR rfl (by first | rfl | with_unfolding_all rfl) (by decide +kernel) rfl (by decide +kernel) rfl (bF (pv 4)) (fun C s2 H2 fp=>(aJ H_is_name (hr.mono (by omega)) rfl (aa (pv 0) af)))) af))))))))
   (aj (aB aR))
   az)
  (ae (ay (i:=5) sc_row_told.nd rfl (Or.inr rfl) (jy C_Row (hr.mono (by omega)) rfl (aa (pv 1) (aa (aH aD (pv 2) (aA aW (pv 3) ah) (fun _ _=>rfl)) (aa (pv 4) af)))))
  (ae (ay (i:=6) sc_row_told.nd rfl (Or.inl rfl) (cJ eu (pv 2) (da (aA aW (pv 3) ah)) dX))
  (ae (aK (au op_eq (aC (pv 5) rfl) av (aw _))
   (aj (aB (aJ H_set_told (hr.mono (by omega)) rfl (aa (pv 0) (aa (pv 5) (aa (pv 6) af))))))
   az)
  (ae (ay (i:=7) sc_row_told.nd rfl (Or.inl rfl) (qw gd_SHAPES T.kf_kr_SHAPES (lw rfl T.g_SHAPES) (aC (pv 5) rfl) (bq af) ⟨rfl,rfl,rfl,rfl⟩))
  (ae (aK (PW.pt (dS (au (pL (d:=0) (bh hr)) (pv 7) (bq af) (aw _)) (di (au op_ne (aF aM rfl T.n_len boot_len (aa (pv 6) af)) (aF aM rfl T.n_len boot_len (aa (pv 7) af)) (aw _)))))
   (aj (aB aR))
   az)
  (ae (aK (PW.pt (eF (au op_eq (aC (pv 5) rfl) av (aw _)) (dE (au op_eq (aH aD (pv 4) ah (fun _ _=>rfl)) (aH aD (pv 4) (jj eX ah) (fun _ _=>rfl)) (aw _)))))
   (aj (aB aR))
   az)
  (ae (aK (bV (bD (aF (fk rfl) rfl T.n_all boot_all (aa (pe_compC [0,5] ["width", "row"] rfl (by first | rfl | with_unfolding_all rfl) (by rfl) (by exact (List.forall_mem_cons.mpr ⟨rfl,(List.forall_mem_cons.mpr ⟨rfl,(fun _ h=>nomatch h)⟩)⟩)) (by decide +kernel) rfl (by decide +kernel) rfl (by decide +kernel) (by exact (List.forall_mem_cons.mpr ⟨⟨by first | exact Or.inl rfl | exact Or.inr rfl,rfl⟩,(List.forall_mem_cons.mpr ⟨⟨by first | exact Or.inl rfl | exact Or.inr rfl,rfl⟩,(fun _ h=>nomatch h)⟩)⟩)) rfl (by rfl) (pi_zipN rfl T.n_zip (aa (pv 7) (aa (pv 6) af))) (fun C s2 H2 fp=>(aJ H_put_into (hr.mono (by omega)) rfl (aa (pv 1) (aa (pv 2) (aa (aH (jc (K:=K) rfl) (pv 0) ah (fun _ _=>rfl)) (aa (aH (jc (K:=K) rfl) (pv 0) ah (fun _ _=>rfl)) af))))))) af))))
   (aj (aB aR))
   az)
  (aj (aB (bq (aa (pv 5) (aa aR af))))))))))))))),?_⟩
 have z5:(0:Nat)<=sizeLine:=by decide
 have k1:(1:Nat)<=sizeLine:=by decide
 obtain ⟨xs,gs,ts,deed,m,F1,C1⟩:=rw'.f
 refine ⟨_,rfl,_,rfl,_,rfl,wl,_,rfl,SqL.of hw,fun l1 hl1=>?_⟩
 rw [F1.h34]
 have s1:=aq hl1 (.lst (xs.map V.str))
 refine ⟨k1,fun l2 hl2=>?_⟩
 have s2:=aq hl2 (.lst [V.str "part"])
 refine ⟨l1,l2,xs,["part"],rfl,rfl,SqL.of (s2 _ _ ac),SqL.of ac,_,rfl,if_tC ?_⟩
 have hm':=F1.hm
 simp only [Bool.false_eq_true,if_false]
 rw [hm']
 have s12:=s1.trans s2
 generalize upd (upd H l1 (.lst (xs.map V.str))) l2 (.lst [V.str "part"]) = H2 at s12 ⊢
 refine ⟨_,rfl,_,rfl,_,rfl,wl,_,rfl,SqL.of (s12 _ _ hw),fun l3 hl3=>?_⟩
 rw [F1.hg]
 have s3:=aq hl3 (.lst (gs.map V.str))
 have s13:=s12.trans s3
 have g3:upd H2 l3 (.lst (gs.map V.str)) l3 = some (.lst (gs.map V.str)):=ac
 generalize upd H2 l3 (.lst (gs.map V.str)) = H3 at s13 g3 ⊢
 have hw3:=s13 _ _ hw
 refine ⟨_,rfl,wl,_,rfl,.inl (SqL.of hw3),_,rfl,_,_,rfl,rfl,_,_,rfl,rfl,_,rfl,aN (by have:=F1.hl; omega) ?_⟩
 refine ⟨_,rfl,_,rfl,wl,_,_,_,rfl,rfl,SqL.of hw3,F1.he,rfl,_,rfl,g6 rfl ?_⟩
 refine ⟨_,rfl,l3,rfl,⟨_,SqL.of g3⟩,fun D hD=>?_⟩
 refine dh (xs:=gs.map V.str) (fun j HJ=>HJ D = some (.lst ((List.replicate j true).map V.bl))/\Same H3 HJ) ⟨ac,aq hD _⟩ (fun _ _ _ q=>SqL.of (q.2 _ _ g3)) ?_ ?_
 ·rintro j y HJ hy ⟨hj,sJ⟩
  obtain ⟨g,hg,rfl⟩:∃ g ∈ gs,y = V.str g:=by
   obtain ⟨g,hg,e⟩:=List.mem_map.mp (List.mem_of_getElem? hy)
   exact ⟨g,hg,e.symm⟩
  have jl:j < (gs.map V.str).length:=(List.getElem?_eq_some_iff.mp hy).1
  have lg:=F1.lg
  rw [List.length_map] at jl
  refine ⟨_,rfl,g,rfl,F1.hn g hg,fun HK sK=>⟨_,sK _ _ hj,(by rw [List.length_map,List.length_replicate]; exact Nat.lt_of_lt_of_le (show j < 100 by omega) (by decide)),_,(show (gs.map V.str).length - (j + 1) < _ by rw [List.length_map]; omega),rfl,(by rw [List.length_map]; omega),?_,Same.updL (sJ.trans sK) hD⟩⟩
  rw [ac,List.replicate_succ',List.map_append]
  rfl
 rintro HJ ⟨hj,sJ⟩
 refine ⟨D,_,rfl,SqL.of hj,_,rfl,?_⟩
 rw [show (List.replicate (gs.map V.str).length true).all id = true from List.all_eq_true.mpr fun x hx=>(List.mem_replicate.mp hx).2]
 refine cu ?_
 have s14:=s13.trans sJ
 clear hj hD
 have hw4:=s14 _ _ hw
 have g34:=sJ _ _ g3
 have l30:H l3 = none:=none_of s12 hl3
 refine ⟨_,rfl,_,rfl,_,rfl,_,_,rfl,rfl,wl,_,_,_,rfl,rfl,SqL.of hw4,F1.hd,_,rfl,fun x dx hx hdx hne=>⟨x,dx,line,deed,l3,rfl,ac,fun r nm H5 hr' hn' nrn g0 g1 g2 sx=>⟨rfl,?_⟩⟩⟩
 have s5:=aX hx hdx sx
 have s15:=s14.trans s5
 have x0:=none_of s14 hx
 have r0:=none_of (s14.trans (aX hx hdx (fun _ _ _ q=>q))) hr'
 have nm0:=none_of (s14.trans (aX hx hdx (fun _ _ _ q=>q))) hn'
 have g35:=s5 _ _ g34
 have xr:x ≠ r:=fun e=>by rw [<- e,ac] at hr'; cases hr'
 have xnm:x ≠ nm:=fun e=>by rw [<- e,ac] at hn'; cases hn'
 have l3nm:l3 ≠ nm:=fun e=>by rw [<- e,aX hx hdx (fun _ _ _ q=>q) _ _ g34] at hn'; cases hn'
 have l3r:l3 ≠ r:=fun e=>by rw [<- e,aX hx hdx (fun _ _ _ q=>q) _ _ g34] at hr'; cases hr'
 have l3x:l3 ≠ x:=fun e=>by rw [<- e,g34] at hx; cases hx
 clear hr' hn' sx hdx hx
 refine ⟨_,rfl,_,rfl,_,_,rfl,rfl,_,rfl,wl,_,rfl,SqL.of (s15 _ _ hw),fun l4 hl4=>?_⟩
 rw [F1.ht]
 have s6:=aq hl4 (.lst (ts.map V.str))
 have s16:=s15.trans s6
 have g46:upd H5 l4 (.lst (ts.map V.str)) l4 = some (.lst (ts.map V.str)):=ac
 have l4r:l4 ≠ r:=fun e=>by rw [e,g1] at hl4; cases hl4
 have l4nm:l4 ≠ nm:=fun e=>by rw [e,g2] at hl4; cases hl4
 generalize upd H5 l4 (.lst (ts.map V.str)) = H6 at s6 s16 g46 ⊢
 have q0:=s6 _ _ g0
 have q1:=s6 _ _ g1
 have q2:=s6 _ _ g2
 have q3:=s6 _ _ g35
 refine ⟨_,rfl,x,c.Row,dx,_,_,rfl,q0,T.cl_Row,T.na_Row_deed,rfl,rfl,_,rfl,?_⟩
 rcases C1 with ⟨g,rfl,rfl,rfl,rfl⟩ | ⟨g,a,rfl,rfl,na,rfl,rfl⟩ | ⟨g,z,n,rfl,rfl,D,rfl,rfl⟩ | ⟨g,h2,a,rfl,rfl,na,ne,rfl,rfl⟩
 ·refine aN (by walk_at "n") ?_
  refine ⟨rfl,_,rfl,x,c.Row,dx,_,_,rfl,q0,T.cl_Row,T.na_Row_deed,rfl,z5,fun te hte=>⟨"copy",bc,rfl,vc,?_⟩⟩
  have s7:=aq hte (.tup [])
  refine ⟨_,rfl,z5,fun t1 ht1=>⟨bc,t1,_,[],fun _=>true,rfl,rfl,sc _,SqT.of ac,(fun j _ z=>absurd z (Nat.not_lt_zero _)),_,rfl,?_⟩⟩
  have s8:=s7.trans (aq ht1 (.tup []))
  generalize upd (upd H6 te (.tup [])) t1 (.tup []) = H8 at s8 ⊢
  have s18:=s16.trans s8
  refine cu ⟨_,rfl,l4,_,rfl,.inl (SqL.of (s8 _ _ g46)),_,rfl,bc,_,rfl,.inr (sc _),rfl,_,rfl,?_⟩
  exact iteN (fun z=>by injection z with z; exact absurd z (by decide)) (qn rfl _ s18)
 ·refine aN (by walk_at "n") ?_
  refine ⟨rfl,_,rfl,x,c.Row,dx,_,_,rfl,q0,T.cl_Row,T.na_Row_deed,rfl,z5,fun te hte=>⟨"copy",bc,rfl,vc,?_⟩⟩
  have s7:=aq hte (.tup [])
  refine ⟨_,rfl,z5,fun t1 ht1=>⟨bc,t1,_,[],fun _=>true,rfl,rfl,sc _,SqT.of ac,(fun j _ z=>absurd z (Nat.not_lt_zero _)),_,rfl,?_⟩⟩
  have s8:=s7.trans (aq ht1 (.tup []))
  generalize upd (upd H6 te (.tup [])) t1 (.tup []) = H8 at s8 ⊢
  have s18:=s16.trans s8
  refine cu ⟨_,rfl,l4,_,rfl,.inl (SqL.of (s8 _ _ g46)),_,rfl,bc,_,rfl,.inr (sc _),rfl,_,rfl,?_⟩
  refine g6 rfl ⟨_,rfl,x,c.Row,dx,_,_,rfl,s8 _ _ q0,T.cl_Row,T.na_Row_deed,rfl,rfl,_,rfl,aN (by walk_at "n") ?_⟩
  have p0:=s8 _ _ q0
  have p1:=s8 _ _ q1
  have p2:=s8 _ _ q2
  have p3:=s8 _ _ q3
  have p4:=s8 _ _ g46
  refine ⟨_,rfl,_,rfl,bc,l4,_,_,rfl,sc _,SqL.of p4,fun D hD=>?_⟩
  have Dn:∀ {b u},H8 b = some u->b ≠ D:=fun e z=>by rw [z,hD] at e; cases e
  refine lB (xs:=[V.str "name"]) (ys:=[V.str a]) (fun j HJ=>HJ D = some (.lst ((List.replicate j true).map V.bl))/\HJ r = some (.lst ((if j = 0 then ([]:List Str) else [a]).map V.str))/\(j<=1->HJ nm = some (.lst []))/\∀ b u,b ≠ r->b ≠ nm->H8 b = some u->HJ b = some u)
   ⟨ac,by rw [ai (Dn p1)]; exact p1,fun _=>by rw [ai (Dn p2)]; exact p2,fun b u _ _ e=>by rw [ai (Dn e)]; exact e⟩ (fun _ _ _ q=>⟨sc _,SqL.of (q.2.2.2 _ _ l4r l4nm p4)⟩) rfl ?_ ?_
  ·rintro j xv yv HJ hx hy ⟨hj,jr,jn,sJ⟩ Tp hTp
   have sT:=aq hTp (.tup [xv,yv])
   have tT:upd HJ Tp (.tup [xv,yv]) Tp = some (.tup [xv,yv]):=ac
   generalize upd HJ Tp (.tup [xv,yv]) = HT at sT tT ⊢
   have j0:j = 0:=by have:=(List.getElem?_eq_some_iff.mp hx).1; simpa using this
   subst j0
   cases hx; cases hy
   refine ⟨_,rfl,_,rfl,_,rfl,Tp,_,_,_,rfl,rfl,SqT.of tT,rfl,_,rfl,Tp,_,_,_,rfl,rfl,SqT.of tT,rfl,w',x,dx,line,_,l3,r,nm,_, "name",a,rfl,sT _ _ (sJ _ _ xr xnm p0),w1,w2,.inl ⟨rfl,na,[],sT _ _ jr,Nat.zero_le _,fun H9 h9 s9=>?_⟩⟩
   have d9:=s9 _ _ (Ne.symm (Dn p1)) (sT _ _ hj)
   refine ⟨_,d9,(by show 0 < _; decide),_,(show 0 < 1 by decide),rfl,(by show 1<=1; decide),?_,?_,?_,fun b u b1 b2 e=>?_⟩
   ·rw [ac]; rfl
   ·rw [ai (Dn p1)]; exact h9
   ·intro _; rw [ai (Dn p2)]; exact s9 _ _ (Ne.symm nrn) (sT _ _ (jn (by decide)))
   ·rw [ai (Dn e)]; exact s9 _ _ b1 (sT _ _ (sJ _ _ b1 b2 e))
  ·rintro HJ ⟨hj,jr,jn,sJ⟩
   refine ⟨D,_,rfl,SqL.of hj,_,rfl,?_⟩
   rw [show (List.replicate ([V.str "name"]:List V).length true).all id = true from rfl]
   refine cu ⟨_,rfl,(by show 2<=sizeLine; decide),fun p hp=>?_⟩
   have sp:=aq hp (.tup [.ref x,.non])
   have s19:Same H HJ:=fun b u e=>sJ _ _ (fun z=>by rw [z,r0] at e; cases e) (fun z=>by rw [z,nm0] at e; cases e) (s18 _ _ e)
   have p0':=none_of s19 hp
   refine qs _ rfl p _ ⟨x,x,?_,⟨dx,l3,r,nm,.str "",?_,?_,?_⟩,fun z=>absurd (show false = true from z) (by decide)⟩ (s19.trans sp)
   ·rw [bi p0',ac]; rfl
   ·rw [bi x0]; exact sp _ _ (sJ _ _ xr xnm p0)
   ·rw [bi l30]; exact sp _ _ (sJ _ _ l3r l3nm p3)
   ·rw [bi r0]; exact sp _ _ jr
 ·refine cP rfl ⟨_,rfl,_,rfl,_,rfl,w',x,dx,line,_,l3,r,nm,l4,_,z,n,rfl,q0,g46,w1,w2,D,[],q2,Nat.zero_le _,fun k p H7 ms hk hp ko p7 m7 sx=>?_⟩
  have s17:∀ b u,b ≠ nm->H b = some u->H7 b = some u:=fun b u nb e=>sx b u nb (s16 _ _ e)
  have k0:=none_of s16 hk
  have p0:=none_of s16 hp
  refine qs _ rfl p H7 ⟨x,k,?_,⟨dx,l3,r,nm,.str "",?_,?_,?_⟩,fun _=>?_⟩ fun b u e=>s17 b u (fun e'=>by rw [e',nm0] at e; cases e) e
  ·rw [bi p0]; exact p7
  ·rw [bi x0]; exact sx _ _ xnm q0
  ·rw [bi l30]; exact sx _ _ l3nm q3
  ·rw [bi r0]; exact sx _ _ nrn q1
  ·obtain ⟨dk,e⟩:=ko
   exact ⟨dk,by rw [bi k0]; exact e⟩
 ·refine aN (by walk_at "n") ?_
  refine ⟨rfl,_,rfl,x,c.Row,dx,_,_,rfl,q0,T.cl_Row,T.na_Row_deed,rfl,z5,fun te hte=>⟨"part",bp,rfl,vp,?_⟩⟩
  have s7:=aq hte (.tup [])
  refine ⟨_,rfl,z5,fun t1 ht1=>⟨bp,t1,_,[],fun _=>true,rfl,rfl,sp' _,SqT.of ac,(fun j _ z=>absurd z (Nat.not_lt_zero _)),_,rfl,?_⟩⟩
  have s8:=s7.trans (aq ht1 (.tup []))
  generalize upd (upd H6 te (.tup [])) t1 (.tup []) = H8 at s8 ⊢
  have s18:=s16.trans s8
  refine cu ⟨_,rfl,l4,_,rfl,.inl (SqL.of (s8 _ _ g46)),_,rfl,bp,_,rfl,.inr (sp' _),rfl,_,rfl,?_⟩
  refine g6 rfl ⟨_,rfl,x,c.Row,dx,_,_,rfl,s8 _ _ q0,T.cl_Row,T.na_Row_deed,rfl,rfl,_,rfl,cP rfl ?_⟩
  refine ⟨_,rfl,l3,_,_,_,rfl,rfl,SqL.of (s8 _ _ q3),rfl,_,rfl,_,rfl,l3,_,_,_,rfl,rfl,SqL.of (s8 _ _ q3),rfl,rfl,_,rfl,aN (fun z=>ne (by injection z)) ?_⟩
  have p0:=s8 _ _ q0
  have p1:=s8 _ _ q1
  have p2:=s8 _ _ q2
  have p3:=s8 _ _ q3
  have p4:=s8 _ _ g46
  refine ⟨_,rfl,_,rfl,bp,l4,_,_,rfl,sp' _,SqL.of p4,fun D hD=>?_⟩
  have Dn:∀ {b u},H8 b = some u->b ≠ D:=fun e z=>by rw [z,hD] at e; cases e
  refine lB (xs:=[V.str "name",V.str "divisor"]) (ys:=[V.str a,V.str "3"]) (fun j HJ=>HJ D = some (.lst ((List.replicate j true).map V.bl))/\HJ r = some (.lst ((if j = 0 then ([]:List Str) else [a]).map V.str))/\(j<=1->HJ nm = some (.lst []))/\∀ b u,b ≠ r->b ≠ nm->H8 b = some u->HJ b = some u)
   ⟨ac,by rw [ai (Dn p1)]; exact p1,fun _=>by rw [ai (Dn p2)]; exact p2,fun b u _ _ e=>by rw [ai (Dn e)]; exact e⟩ (fun _ _ _ q=>⟨sp' _,SqL.of (q.2.2.2 _ _ l4r l4nm p4)⟩) rfl ?_ ?_
  ·rintro j xv yv HJ hx hy ⟨hj,jr,jn,sJ⟩ Tp hTp
   have sT:=aq hTp (.tup [xv,yv])
   have tT:upd HJ Tp (.tup [xv,yv]) Tp = some (.tup [xv,yv]):=ac
   generalize upd HJ Tp (.tup [xv,yv]) = HT at sT tT ⊢
   match j,hx,hy with
   | 0,hx,hy =>
    cases hx; cases hy
    refine ⟨_,rfl,_,rfl,_,rfl,Tp,_,_,_,rfl,rfl,SqT.of tT,rfl,_,rfl,Tp,_,_,_,rfl,rfl,SqT.of tT,rfl,w',x,dx,line,_,l3,r,nm,_, "name",a,rfl,sT _ _ (sJ _ _ xr xnm p0),w1,w2,.inl ⟨rfl,na,[],sT _ _ jr,Nat.zero_le _,fun H9 h9 s9=>?_⟩⟩
    have d9:=s9 _ _ (Ne.symm (Dn p1)) (sT _ _ hj)
    refine ⟨_,d9,(by show 0 < _; decide),_,(show 1 < 2 by decide),rfl,(by show 1<=2; decide),?_,?_,?_,fun b u b1 b2 e=>?_⟩
    ·rw [ac]; rfl
    ·rw [ai (Dn p1)]; exact h9
    ·intro _; rw [ai (Dn p2)]; exact s9 _ _ (Ne.symm nrn) (sT _ _ (jn (by decide)))
    ·rw [ai (Dn e)]; exact s9 _ _ b1 (sT _ _ (sJ _ _ b1 b2 e))
   | 1,hx,hy =>
    cases hx; cases hy
    refine ⟨_,rfl,_,rfl,_,rfl,Tp,_,_,_,rfl,rfl,SqT.of tT,rfl,_,rfl,Tp,_,_,_,rfl,rfl,SqT.of tT,rfl,w',x,dx,line,_,l3,r,nm,_, "divisor", "3",rfl,sT _ _ (sJ _ _ xr xnm p0),w1,w2,.inr ⟨rfl,num3,by rw [nV3]; decide,by rw [nV3]; decide,[],sT _ _ (jn (by decide)),Nat.zero_le _,fun H9 ms h9 s9=>?_⟩⟩
    have d9:=s9 _ _ (Ne.symm (Dn p2)) (sT _ _ hj)
    refine ⟨_,d9,(by show 1 < _; decide),_,(show 0 < 1 by decide),rfl,(by show 2<=2; decide),?_,?_,?_,fun b u b1 b2 e=>?_⟩
    ·rw [ac]; rfl
    ·rw [ai (Dn p1)]; exact s9 _ _ nrn (sT _ _ jr)
    ·exact fun z=>absurd z (by decide)
    ·rw [ai (Dn e)]; exact s9 _ _ b2 (sT _ _ (sJ _ _ b1 b2 e))
   | j + 2,hx,_=>simp at hx
  ·rintro HJ ⟨hj,jr,jn,sJ⟩
   refine ⟨D,_,rfl,SqL.of hj,_,rfl,?_⟩
   rw [show (List.replicate ([V.str "name",V.str "divisor"]:List V).length true).all id = true from rfl]
   refine cu ⟨_,rfl,(by show 2<=sizeLine; decide),fun p hp=>?_⟩
   have sp:=aq hp (.tup [.ref x,.non])
   have s19:Same H HJ:=fun b u e=>sJ _ _ (fun z=>by rw [z,r0] at e; cases e) (fun z=>by rw [z,nm0] at e; cases e) (s18 _ _ e)
   have p0':=none_of s19 hp
   refine qs _ rfl p _ ⟨x,x,?_,⟨dx,l3,r,nm,.str "",?_,?_,?_⟩,fun z=>absurd (show false = true from z) (by decide)⟩ (s19.trans sp)
   ·rw [bi p0',ac]; rfl
   ·rw [bi x0]; exact sp _ _ (sJ _ _ xr xnm p0)
   ·rw [bi l30]; exact sp _ _ (sJ _ _ l3r l3nm p3)
   ·rw [bi r0]; exact sp _ _ jr
def DS.item (S:DS):DS:={ S with top:=(ka 1 S.top S.lps).1,lps:=(ka 1 S.top S.lps).2 }
def DS.pair (S:DS) (y:RwD × Bool):DS:={ S with prs:=S.prs ++ [y] }
def DS.mets (S:DS) (zs:List Str):DS:={ S with met:=zs.foldl mW S.met }
theorem ItAt.row {c:Ad} {G:Hp} {x dx:Addr} {fs:List (Str × V)} (h:G x = some (.ins c.Row dx fs)):∀ d,ItAt c d G x 1
 | 0=>⟨rfl,dx,fs,h⟩
 | _ + 1=>.inl ⟨rfl,dx,fs,h⟩
theorem lv_add {c:Ad} {H H' G:Hp} {o:Addr} (ho:∀ d,ItAt c d G o 1):∀ {ys:List Lp} {d:Nat} {l0:Addr} {ns:List Int},
  (∀ qs,H (ba l0 ys) = some (.lst qs)->H' (ba l0 ys) = some (.lst (qs ++ [.ref o])))->(∀ b ∈ l0 :: ys.map (·.l),b ≠ ba l0 ys->∀ u,H b = some u->H' b = some u)->(l0 :: ys.map (·.l)).Nodup->LvAt c H G d l0 ns ys->LvAt c H' G d l0 (eT 1 ns ys).1 (eT 1 ns ys).2
 | [],d,l0,ns,hi,_,_,⟨ps,a,b⟩=>⟨ps ++ [o],by rw [List.map_append]; exact hi _ a,b.snoc (ho d)⟩
 | y :: r,d,l0,ns,hi,hb,nd,⟨ps,a,b,e,tl⟩=>by
  have nd':=List.nodup_cons.mp nd
  have ne:l0 ≠ ba l0 (y :: r):=fun z=>nd'.1 (by rw [z]; exact gk y.l r)
  exact ⟨ps,hb l0 (List.mem_cons_self ..) ne _ a,b,e,lv_add ho (ys:=r) (l0:=y.l) hi (fun b hm n=>hb b (List.mem_cons_of_mem _ hm) n) nd'.2 tl⟩
section
variable {c:Ad} {H:Hp} {x:Addr} {S:DS} {Li Lr Lo Lp' Ll M:Addr} {ys:List Lp}
theorem ir (n:Int) (ns:List Int):aU x Li Lr Lo Lp' Ll M (eT n ns ys).2 = aU x Li Lr Lo Lp' Ll M ys:=by
 show [x,Li,Lr,Lo,Lp',Ll,M] ++ (eT n ns ys).2.map (·.l) = _
 rw [(nK n ys ns).1]
theorem DrAt.addItem (D:DrAt c H x S Li Lr Lo Lp' Ll M ys) {o dx:Addr} {fs:List (Str × V)} {qs:List V} (ho:cC H (aU x Li Lr Lo Lp' Ll M ys) o = some (.ins c.Row dx fs)) (hq:H (ba Lr ys) = some (.lst qs)) :
  DrAt c (upd H (ba Lr ys) (.lst (qs ++ [.ref o]))) x S.item Li Lr Lo Lp' Ll M (eT 1 S.top ys).2:=by
 obtain ⟨iI,hI,cI⟩:=ik Li Lr Lo Lp' Ll M x ys
 obtain ⟨hid,far⟩:=D.own (o:=.lst (qs ++ [.ref o])) hI
 have eL:=ir (x:=x) (Li:=Li) (Lr:=Lr) (Lo:=Lo) (Lp':=Lp') (Ll:=Ll) (M:=M) (ys:=ys) 1 S.top
 have no:∀ j,j < 7->j ≠ 2->j ≠ iI:=fun j h1 h2 h3=>by rcases cI with h | h <;> omega
 obtain ⟨nd,⟨dx0,hx⟩,⟨p1,a1,b1⟩,⟨p2,a2,b2⟩,⟨p3,a3,b3⟩,⟨a4,b4⟩,lv,mt⟩:=D
 refine ⟨?_,⟨dx0,(far (j:=0) rfl (no 0 (by decide) (by decide))).trans hx⟩,⟨p1,(far (j:=1) rfl (no 1 (by decide) (by decide))).trans a1,?_⟩,⟨p2,(far (j:=3) rfl (no 3 (by decide) (by decide))).trans a2,?_⟩,⟨p3,(far (j:=4) rfl (no 4 (by decide) (by decide))).trans a3,?_⟩,⟨?_,?_⟩,?_,(far (j:=6) rfl (no 6 (by decide) (by decide))).trans mt⟩
 ·show (aU x Li Lr Lo Lp' Ll M (eT 1 S.top ys).2).Nodup
  rw [eL]; exact nd
 ·show Ls _ (cC _ (aU x Li Lr Lo Lp' Ll M (eT 1 S.top ys).2)) _ _
  rw [eL,hid]; exact b1
 ·show Ls _ (cC _ (aU x Li Lr Lo Lp' Ll M (eT 1 S.top ys).2)) _ _
  rw [eL,hid]; exact b2
 ·show Ls _ (cC _ (aU x Li Lr Lo Lp' Ll M (eT 1 S.top ys).2)) _ _
  rw [eL,hid]; exact b3
 ·rw [(nK 1 ys S.top).2]
  exact (far (j:=5) rfl (no 5 (by decide) (by decide))).trans a4
 ·show _ = (ka 1 S.top S.lps).2
  rw [(addYP 1 ys S.top).2,b4]
 ·show LvAt c _ (cC _ (aU x Li Lr Lo Lp' Ll M (eT 1 S.top ys).2)) 5 Lr (ka 1 S.top S.lps).1 _
  have e1:=(addYP 1 ys S.top).1
  rw [b4] at e1
  rw [eL,hid,<- e1]
  refine lv_add (fun d=>ItAt.row ho d) (fun rs e=>?_) (fun b hm n=>?_) ?_ lv
  ·rw [hq] at e
   injection e with e
   injection e with e
   rw [<- e]
   exact ac
  ·intro u e
   rw [ai n]; exact e
  ·exact nd.sublist (List.Sublist.append_right (List.singleton_sublist.mpr (by simp)) _)
theorem DrAt.addPair (D:DrAt c H x S Li Lr Lo Lp' Ll M ys) {m:Addr} {y:RwD × Bool} {ps:List Addr} (hm:PrAt c S.w (cC H (aU x Li Lr Lo Lp' Ll M ys)) m y) (hp:H Lp' = some (.lst (ps.map V.ref))) :
  DrAt c (upd H Lp' (.lst (ps.map V.ref ++ [.ref m]))) x (S.pair y) Li Lr Lo Lp' Ll M ys:=by
 obtain ⟨hid,far⟩:=D.own (i:=4) (a:=Lp') (o:=.lst (ps.map V.ref ++ [.ref m])) rfl
 obtain ⟨nd,⟨dx0,hx⟩,⟨p1,a1,b1⟩,⟨p2,a2,b2⟩,⟨p3,a3,b3⟩,⟨a4,b4⟩,lv,mt⟩:=D
 have e1:p3 = ps:=by
  have e:=a3.symm.trans hp
  injection e with e
  injection e with e
  exact (List.map_inj_right (fun a b h=>by injection h)).mp e
 subst e1
 refine ⟨nd,⟨dx0,(far (j:=0) rfl (by decide)).trans hx⟩,⟨p1,(far (j:=1) rfl (by decide)).trans a1,by rw [hid]; exact b1⟩,⟨p2,(far (j:=3) rfl (by decide)).trans a2,by rw [hid]; exact b2⟩,⟨p3 ++ [m],by rw [ac,List.map_append]; rfl,by rw [hid]; exact b3.snoc hm⟩,⟨(far (j:=5) rfl (by decide)).trans a4,b4⟩,?_,(far (j:=6) rfl (by decide)).trans mt⟩
 rw [hid]
 refine lv.mono (fun _ _ q=>q) (fun u hu=>?_) (far (j:=2) rfl (by decide))
 obtain ⟨n,hn⟩:=DrAt.loop (x:=x) (Li:=Li) (Lr:=Lr) (Lo:=Lo) (Lp':=Lp') (Ll:=Ll) (M:=M) hu
 exact far hn (by omega)
theorem DrAt.setMet (D:DrAt c H x S Li Lr Lo Lp' Ll M ys) (z:Str) :
  DrAt c (upd H M (.dK (iV (S.met.map fun z=>((Sum.inr z:Key),V.bl true)) (.inr z) (.bl true)))) x (S.mets [z]) Li Lr Lo Lp' Ll M ys:=by
 obtain ⟨hid,far⟩:=D.own (i:=6) (a:=M) (o:=.dK (iV (S.met.map fun z=>((Sum.inr z:Key),V.bl true)) (.inr z) (.bl true))) rfl
 obtain ⟨nd,⟨dx0,hx⟩,⟨p1,a1,b1⟩,⟨p2,a2,b2⟩,⟨p3,a3,b3⟩,⟨a4,b4⟩,lv,mt⟩:=D
 refine ⟨nd,⟨dx0,(far (j:=0) rfl (by decide)).trans hx⟩,⟨p1,(far (j:=1) rfl (by decide)).trans a1,by rw [hid]; exact b1⟩,⟨p2,(far (j:=3) rfl (by decide)).trans a2,by rw [hid]; exact b2⟩,⟨p3,(far (j:=4) rfl (by decide)).trans a3,by rw [hid]; exact b3⟩,⟨(far (j:=5) rfl (by decide)).trans a4,b4⟩,?_,by rw [ac,pZ]; rfl⟩
 rw [hid]
 refine lv.mono (fun _ _ q=>q) (fun u hu=>?_) (far (j:=2) rfl (by decide))
 obtain ⟨n,hn⟩:=DrAt.loop (x:=x) (Li:=Li) (Lr:=Lr) (Lo:=Lo) (Lp':=Lp') (Ll:=Ll) (M:=M) hu
 exact far hn (by omega)
end
theorem SameL.trans {L:List Addr} {H H1 H2:Hp} (a:SameL L H H1) (b:SameL L H1 H2):SameL L H H2:=fun x u n e=>b x u n (a x u n e)
theorem SameL.of {L:List Addr} {H H1:Hp} (s:Same H H1):SameL L H H1:=fun x u _ e=>s x u e
theorem SameL.upd {L:List Addr} {H:Hp} {a:Addr} {o:HO} (h:a ∈ L):SameL L H (upd H a o):=fun x u n e=>by rw [ai (fun z=>n (by rw [z]; exact h))]; exact e
theorem SameL.hid {L:List Addr} {H H1:Hp} (s:SameL L H H1):Same (cC H L) (cC H1 L):=fun b u e=>by
 unfold cC at e ⊢
 split at e
 ·cases e
 ·rename_i c; rw [if_neg c]; exact s _ _ c e
theorem addM_len (ms:List Str) (z:Str):(mW ms z).length<=ms.length + 1:=by
 unfold mW
 split
 ·omega
 ·rw [List.length_append]; exact Nat.le_refl _
theorem kj:∀ (zs ms:List Str),(zs.foldl mW ms).length<=ms.length + zs.length
 | [],ms=>Nat.le_refl _
 | z :: r,ms=>by
  have h1:=kj r (mW ms z)
  have h2:=addM_len ms z
  show (r.foldl mW (mW ms z)).length<=ms.length + (r.length + 1)
  omega
theorem RowW.g2 {line:Int} {ws:List Str} {y:RwD × Bool} (h:RowW line ws (some y)):y.1.goals.length<=2:=by
 rcases h with ⟨g,_,_,e⟩ | ⟨g,a,_,_,_,e⟩ | ⟨g,z,n,_,_,_,e⟩ | ⟨g,h2,a,_,_,_,_,_,e⟩ <;> cases e <;> first | (show 1<=2; decide) | (show 2<=2; decide)
theorem pA (S:DS) (a:List Str) (z:Str):(S.mets a).mets [z] = S.mets (a ++ [z]):=by
 unfold DS.mets
 rw [List.foldl_append]
def DS.row (S:DS) (y:RwD × Bool):DS:=((S.item).pair y).mets y.1.goals
def spRow (c:Ad):Sp:=fun vs H Q _=>∃ (x:Addr) (S:DS) (Li Lr Lo Lp' Ll M:Addr) (ys:List Lp) (line:Int) (wl:Addr) (ws:List Str) (o:Option (RwD × Bool)),vs = [.ref x,.int line,.ref wl]/\DrAt c H x S Li Lr Lo Lp' Ll M ys/\H wl = some (.lst (ws.map V.str))/\RowW line ws o/\4<=S.w/\S.w<=32/\qI S/\S.prs.length<=200/\S.met.length<=200 /\
 ((o = none\/S.outs ≠ [])->∀ H',Same H H'->Q (.bl false) H')/\(∀ y,o = some y->S.outs = []->∀ H',DrAt c H' x (S.row y) Li Lr Lo Lp' Ll M (eT 1 S.top ys).2->SameL (aU x Li Lr Lo Lp' Ll M ys) H H'->Q (.bl true) H')
theorem fQ {f:Addr} {fd:FuncData} (F:Fun K "takes_row" "Draft.takes_row" bZ f fd) (T:Txt K mg c) (H_row_told:Has P w K mg base 8 "row_told" ["width", "line", "words"] (spRT c)) (MH:MHas P w K mg base 1 c.Draft "rows_here" ["self"] (lh c)):FnOk P w K mg base CX0 9 f fd ["self", "line", "words"] (spRow c):=by
 refine F.ok sc_Draft_takes_row (fun vs H Q E h=>?_) (fun cdv A outer s H vs Q E hr h=>?_)
 ·obtain ⟨x,S,Li,Lr,Lo,Lp',Ll,M,ys,line,wl,ws,o,rfl,_⟩:=h
  rfl
 obtain ⟨x,S,Li,Lr,Lo,Lp',Ll,M,ys,line,wl,ws,o,rfl,D,hw,rw',w1,w2,sm,lp,lm,qf,qt⟩:=h
 refine ⟨_,(ae (ay (i:=3) sc_Draft_takes_row.nd rfl (Or.inl rfl) (aJ H_row_told (hr.mono (by omega)) rfl (aa (aC (pv 0) rfl) (aa (pv 1) (aa (pv 2) af)))))
  (ae (aK (PW.pt (dS (au eR (pv 3) aR (aw _)) (di (au (jC (Nat.lt_of_succ_lt (bh hr))) (aC (pv 0) rfl) (aI af) (aw _)))))
   (aj (aB dA))
   az)
  (ae (aV (cK PySem.F.plainAttrs_list PySem.F.slot_list_append PySem.F.type_list_append aP (aT (k:=1) (pv 0) (hr.mono (by omega))) (aa (aH cF (pv 3) ah (fun _ _=>rfl)) af)))
  (ae (aV (cK PySem.F.plainAttrs_list PySem.F.slot_list_append PySem.F.type_list_append aP (aC (pv 0) rfl) (aa (pv 3) af)))
  (ae (cU PassesOwn.never rfl (bF (aC (aH cF (pv 3) ah (fun _ _=>rfl)) rfl)) (bu (i:=4) sc_Draft_takes_row.nd rfl (Or.inl rfl))
   (aj (iF (bh hr) (aC (pv 0) rfl) (pv 4) dA rfl)))
  (aj (aB dA))))))),?_⟩
 have z5:(0:Nat)<=sizeLine:=by decide
 obtain ⟨dx,hx⟩:=D.hx
 refine ⟨_,rfl,x,c.Draft,dx,_,_,rfl,hx,T.cl_Draft,T.na_Draft_width,rfl,_,rfl,_,rfl,S.w,line,wl,ws,o,rfl,hw,w1,w2,rw',fun en H1 s1=>?_,fun y ey m H1 pr s1=>?_⟩
 ·refine ⟨_,rfl,rfl,_,rfl,cP rfl ?_⟩
  exact qf (.inl en) H1 s1
 refine ⟨_,rfl,rfl,_,rfl,aN (by nofun) ?_⟩
 have D1:=D.same s1
 obtain ⟨dx1,hx1⟩:=D1.hx
 refine ⟨_,rfl,x,c.Draft,dx1,_,_,rfl,hx1,T.cl_Draft,T.na_Draft_outs,rfl,z5,fun l2 h2=>?_⟩
 have s2:=aq h2 (.lst [])
 have D2:=D1.same s2
 have s12:=s1.trans s2
 obtain ⟨p2,a2,b2⟩:=D2.outs
 refine ⟨Lo,l2,_,rfl,rfl,SqL.of a2,SqL.of ac,_,rfl,?_⟩
 generalize upd H1 l2 (.lst []) = H2 at s2 s12 D2 a2 b2 ⊢
 have e2:(p2.map V.ref).isEmpty = true ↔ S.outs = []:=by
  rw [List.isEmpty_iff,List.map_eq_nil_iff]
  exact ⟨fun z=>List.eq_nil_of_length_eq_zero (by rw [<- b2.1,z]; rfl),fun z=>List.eq_nil_of_length_eq_zero (by rw [b2.1,z]; rfl)⟩
 by_cases c2:S.outs = []
 rotate_left
 ·have e:(p2.map V.ref).isEmpty = false:=Bool.eq_false_iff.mpr fun z=>c2 (e2.mp z)
  rw [e]
  exact jd (qf (.inr c2) H2 s12)
 rw [e2.mpr c2]
 refine cu ?_
 obtain ⟨dx2,hx2⟩:=D2.hx
 refine ⟨_,rfl,x,_,dx2,_,_,_,rfl,hx2,rfl,MH,x,S,Li,Lr,Lo,Lp',Ll,M,ys,rfl,D2,sm.2.1,fun H3 s3=>?_⟩
 have s13:=s12.trans s3
 have D3:=D.same s13
 obtain ⟨ps,hq,lq⟩:=D3.small sm
 have sN:Same (newP H H1) (cC H3 (aU x Li Lr Lo Lp' Ll M ys)):=fun b u e=>by
  obtain ⟨e0,e1⟩:=oU e
  exact dQ (s3 _ _ (s2 _ _ e1)) (D.fresh e0)
 have pr3:=pr.same sN
 obtain ⟨rx,rk,prm,⟨rdx,rg,rrd,rn,rway,r1,r2,r3⟩,rpk⟩:=id pr3
 have prm3:=bg _ _ prm
 refine ⟨.inl ⟨rfl,_,SqL.of hq⟩,_,rfl,m,_,_,_,rfl,rfl,SqT.of prm3,rfl,ba Lr ys,_,_,rfl,rfl,hq,(by rw [List.length_map]; exact Nat.lt_of_le_of_lt lq (by decide)),?_⟩
 have D4:=D3.addItem r1 hq
 have mI:ba Lr ys ∈ aU x Li Lr Lo Lp' Ll M ys:=List.mem_of_getElem? (ik Li Lr Lo Lp' Ll M x ys).choose_spec.1
 have sl4:SameL (aU x Li Lr Lo Lp' Ll M ys) H3 (upd H3 (ba Lr ys) (.lst (ps.map V.ref ++ [.ref rx]))):=.upd mI
 have eL:=ir (x:=x) (Li:=Li) (Lr:=Lr) (Lo:=Lo) (Lp':=Lp') (Ll:=Ll) (M:=M) (ys:=ys) 1 S.top
 generalize upd H3 (ba Lr ys) (.lst (ps.map V.ref ++ [.ref rx])) = H4 at D4 sl4 ⊢
 obtain ⟨dx4,hx4⟩:=D4.hx
 obtain ⟨p4,a4,b4⟩:=D4.prs
 have nin:∀ {b u},cC H3 (aU x Li Lr Lo Lp' Ll M ys) b = some u->b ∉ aU x Li Lr Lo Lp' Ll M ys:=fun {b u} e q=>by unfold cC at e; rw [if_pos q] at e; cases e
 refine ⟨_,rfl,x,c.Draft,dx4,_,_,rfl,hx4,T.cl_Draft,T.na_Draft_row_pairs,rfl,.inl ⟨rfl,_,SqL.of a4⟩,_,rfl,Lp',_,_,rfl,rfl,a4,(by rw [List.length_map,b4.1]; exact Nat.lt_of_le_of_lt lp (by decide)),?_⟩
 have pr4:PrAt c S.item.w (cC H4 (aU x Li Lr Lo Lp' Ll M (eT 1 S.top ys).2)) m y:=by rw [eL]; exact pr3.same sl4.hid
 have D5:=D4.addPair pr4 a4
 have sl5:SameL (aU x Li Lr Lo Lp' Ll M ys) H3 (upd H4 Lp' (.lst (p4.map V.ref ++ [.ref m]))):=sl4.trans (.upd (by simp))
 generalize upd H4 Lp' (.lst (p4.map V.ref ++ [.ref m])) = H5 at D5 sl5 ⊢
 have prm5:=sl5 _ _ (nin prm) prm3
 have r15:=sl5 _ _ (nin r1) (bg _ _ r1)
 have r25:=sl5 _ _ (nin r2) (bg _ _ r2)
 subst ey
 have g2:=rw'.g2
 refine ⟨_,rfl,m,_,_,_,rfl,rfl,SqT.of prm5,rfl,rx,c.Row,rdx,_,_,rfl,r15,T.cl_Row,T.na_Row_goals,rfl,rg,rfl,⟨_,SqL.of r25⟩,cL (xs:=y.1.goals.map V.str) (fun i σ G=>(∃ y4:Option V,σ = [some (.ref x),some (.int line),some (.ref wl),some (.ref m),y4])/\DrAt c G x ((S.item.pair y).mets (y.1.goals.take i)) Li Lr Lo Lp' Ll M (eT 1 S.top ys).2/\SameL (aU x Li Lr Lo Lp' Ll M ys) H5 G) ⟨⟨_,rfl⟩,D5,fun _ _ _ e=>e⟩ (fun _ _ _ _ q=>SqL.of (q.2.2 _ _ (nin r2) r25)) ?_ ?_⟩
 ·rintro i v σ G hi ⟨⟨y4,rfl⟩,DG,sG⟩
  obtain ⟨dxG,hxG⟩:=DG.hx
  obtain ⟨z,hz,rfl⟩:∃ z,y.1.goals[i]? = some z/\v = V.str z:=by
   rw [List.getElem?_map] at hi
   obtain ⟨z,hz,e⟩:=Option.map_eq_some_iff.mp hi
   exact ⟨z,hz,e.symm⟩
  refine ⟨_,rfl,x,c.Draft,dxG,_,_,rfl,hxG,T.cl_Draft,T.na_Draft_met,rfl,_,rfl,M,_,rfl,DPut.k (k:=.inr z) DG.met ?_,⟨_,rfl⟩,?_,sG.trans ?_⟩
  ·rw [List.length_map]
   have:=kj (y.1.goals.take i) S.met
   rw [List.length_take] at this
   exact Nat.lt_of_le_of_lt (show _<=300 by show ((y.1.goals.take i).foldl mW S.met).length<=300; omega) (by decide)
  ·have DZ:=DG.setMet z
   rw [pA] at DZ
   rw [List.take_add_one,hz]
   exact DZ
  ·exact .upd (by simp)
 ·rintro σ G ⟨⟨y4,rfl⟩,DG,sG⟩
  rw [List.length_map,List.take_length] at DG
  exact qt y rfl c2 G DG ((SameL.of s13).trans (sl5.trans sG))
inductive LnD where
 | inn (z:Str) | out (z:Str) | rep (z:Str) | fin | bad (g:Str) | cp (g a:Str) | st (g z:Str) | pt (g h a:Str)
def LnD.ws:LnD->List Str
 | .inn z=>["in",z, "plain"] | .out z=>["out",z] | .rep z=>["repeat",z] | .fin=>["end"] | .bad g=>[g, "=", "copy"] | .cp g a=>[g, "=", "copy",a] | .st g z=>[g, "=", "set", "plain",z] | .pt g h a=>[g,h, "=", "part",a, "3"]
def LnOk:LnD->Prop
 | .inn z=>Nm z | .out z=>Nm z | .rep z=>Num z/\1<=nV z/\nV z<=32 | .fin=>True | .bad g=>Nm g | .cp g a=>Nm g/\Nm a | .st g z=>Nm g/\∃ n,Dg z n | .pt g h a=>Nm g/\Nm h/\Nm a/\g ≠ h
def LnD.row (line:Int):LnD->Option (RwD × Bool)
 | .cp g a=>some (⟨line, "copy",[g],[a]⟩,false) | .st g _=>some (⟨line, "set",[g],[]⟩,true) | .pt g h a=>some (⟨line, "part",[g,h],[a]⟩,false) | _=>none
def jh (S:DS) (o:Option (RwD × Bool)):Option DS :=
 match o with
 | none=>none
 | some y=>if S.outs.isEmpty = true then some (S.row y) else none
def db (S:DS) (line:Int):LnD->Option DS
 | .inn z=>if (S.top.isEmpty && S.lps.isEmpty && S.outs.isEmpty) = true then some (S.inn (line,z)) else none
 | .out z=>if S.lps.isEmpty = true then some (S.out (line,z)) else none
 | .rep z=>if S.outs.isEmpty = true then some (S.rep (nV z)) else none
 | .fin=>match S.lps.getLast? with
  | none=>none
  | some p=>some (S.close S.lps.dropLast (p.1 * p.2.sum))
 | L=>jh S (L.row line)
structure SzOk (S:DS):Prop where
 w1:4<=S.w
 w2:S.w<=32
 sm:qI S
 pr:S.prs.length<=200
 mt:S.met.length<=200
 is:S.ins.length<=200
 os:S.outs.length<=200
 tt:∀ p ∈ S.lps,0<=p.1/\p.1<=100
def FinOk (S:DS) (L:LnD):Prop:=L = .fin->∃ pre p,S.lps = pre ++ [p]/\p.2 ≠ []/\pre.length < 5
def lU (c:Ad):Sp:=fun vs H Q _=>∃ (x:Addr) (S:DS) (Li Lr Lo Lp' Ll M:Addr) (ys:List Lp) (line:Int) (wl:Addr) (L:LnD),vs = [.ref x,.int line,.ref wl]/\DrAt c H x S Li Lr Lo Lp' Ll M ys/\H wl = some (.lst (L.ws.map V.str))/\wl ∉ aU x Li Lr Lo Lp' Ll M ys/\LnOk L/\SzOk S/\FinOk S L /\
 (db S line L = none->∀ H',Same H H'->Q (.bl false) H') /\
 (∀ S',db S line L = some S'->∀ ys' H',DrAt c H' x S' Li Lr Lo Lp' Ll M ys'->SameL (aU x Li Lr Lo Lp' Ll M ys) H H'->(∀ a ∈ aU x Li Lr Lo Lp' Ll M ys',a ∈ aU x Li Lr Lo Lp' Ll M ys\/H a = none)->Q (.bl true) H')
structure RowL (line:Int) (L:LnD) (g:Str):Prop where
 g0:atI (L.ws.map V.str) 0 = some (.str g)
 ng:Nm g
 ne:L.ws ≠ [Str.ofString "end"]
 rw:RowW line L.ws (L.row line)
 st:∀ S,db S line L = jh S (L.row line)
theorem row_line {line:Int} {L:LnD} (h:LnOk L) (nr:L.row line ≠ none\/∃ g,L = .bad g):∃ g,RowL line L g:=by
 cases L with
 | inn z=>rcases nr with n | ⟨_,n⟩; exact absurd rfl n; cases n
 | out z=>rcases nr with n | ⟨_,n⟩; exact absurd rfl n; cases n
 | rep z=>rcases nr with n | ⟨_,n⟩; exact absurd rfl n; cases n
 | fin=>rcases nr with n | ⟨_,n⟩; exact absurd rfl n; cases n
 | bad g=>exact ⟨g,rfl,h,(fun z=>by injection z with _ z; cases z),.inl ⟨g,rfl,h,rfl⟩,fun _=>rfl⟩
 | cp g a=>exact ⟨g,rfl,h.1,(fun z=>by injection z with _ z; cases z),.inr (.inl ⟨g,a,rfl,h.1,h.2,rfl⟩),fun _=>rfl⟩
 | st g z=>obtain ⟨n,D⟩:=h.2; exact ⟨g,rfl,h.1,(fun z=>by injection z with _ z; cases z),.inr (.inr (.inl ⟨g,z,n,rfl,h.1,D,rfl⟩)),fun _=>rfl⟩
 | pt g h2 a=>exact ⟨g,rfl,h.1,(fun z=>by injection z with _ z; cases z),.inr (.inr (.inr ⟨g,h2,a,rfl,h.1,h.2.1,h.2.2.1,h.2.2.2,rfl⟩)),fun _=>rfl⟩
theorem jf {f:Addr} {fd:FuncData} (F:Fun K "takes" "Draft.takes" dm f fd) (T:Txt K mg c)  (MIn:MHas P w K mg base 7 c.Draft "takes_in" ["self", "line", "words"] (spIn c)) (MOu:MHas P w K mg base 2 c.Draft "takes_out" ["self", "line", "words"] (spOut c)) (MRe:MHas P w K mg base 4 c.Draft "takes_repeat" ["self", "line", "words"] (spRep c)) (MEn:MHas P w K mg base 2 c.Draft "takes_end" ["self"] (spEnd c)) (MRo:MHas P w K mg base 9 c.Draft "takes_row" ["self", "line", "words"] (spRow c)):FnOk P w K mg base CX0 10 f fd ["self", "line", "words"] (lU c):=by
 refine F.ok je (fun vs H Q E h=>?_) (fun cdv A outer s H vs Q E hr h=>?_)
 ·obtain ⟨x,S,Li,Lr,Lo,Lp',Ll,M,ys,line,wl,L,rfl,_⟩:=h
  rfl
 obtain ⟨x,S,Li,Lr,Lo,Lp',Ll,M,ys,line,wl,L,rfl,D,hw,nw,ok,sz,fo,qf,qt⟩:=h
 refine ⟨_,(ae (aK (au op_eq (aH aD (pv 2) ah (fun _ _=>rfl)) av (aw _))
   (aj (aB (cG (k:=7) (pv 0) (hr.mono (by omega)) (aa (pv 1) (aa (pv 2) af)))))
   az)
  (ae (aK (au op_eq (aH aD (pv 2) ah (fun _ _=>rfl)) av (aw _))
   (aj (aB (cG (k:=2) (pv 0) (hr.mono (by omega)) (aa (pv 1) (aa (pv 2) af)))))
   az)
  (ae (aK (au op_eq (aH aD (pv 2) ah (fun _ _=>rfl)) av (aw _))
   (aj (aB (cG (k:=4) (pv 0) (hr.mono (by omega)) (aa (pv 1) (aa (pv 2) af)))))
   az)
  (ae (aK (au (mC (Nat.lt_of_succ_lt (bh hr))) (pv 2) (aI (aa av af)) (aw _))
   (aj (aB (aT (k:=2) (pv 0) (hr.mono (by omega)))))
   az)
  (aj (aB (cG (k:=9) (pv 0) (hr.mono (by omega)) (aa (pv 1) (aa (pv 2) af))))))))),?_⟩
 have k1:(1:Nat)<=sizeLine:=by decide
 obtain ⟨dx,hx⟩:=D.hx
 by_cases nr:L.row line ≠ none\/∃ g,L = .bad g
 ·obtain ⟨g,R⟩:=row_line ok nr
  have n1:=nm_ne R.ng (y:="in") (by decide +kernel)
  have n2:=nm_ne R.ng (y:="out") (by decide +kernel)
  have n3:=nm_ne R.ng (y:="repeat") (by decide +kernel)
  refine ⟨_,rfl,wl,_,_,_,rfl,rfl,SqL.of hw,R.g0,rfl,_,rfl,aN (fun z=>n1 (by injection z)) ?_⟩
  refine ⟨_,rfl,wl,_,_,_,rfl,rfl,SqL.of hw,R.g0,rfl,_,rfl,aN (fun z=>n2 (by injection z)) ?_⟩
  refine ⟨_,rfl,wl,_,_,_,rfl,rfl,SqL.of hw,R.g0,rfl,_,rfl,aN (fun z=>n3 (by injection z)) ?_⟩
  refine ⟨_,rfl,k1,fun l hl=>?_⟩
  have s1:=aq hl (.lst [V.str "end"])
  have D1:=D.same s1
  refine ⟨wl,l,L.ws,["end"],rfl,rfl,SqL.of (s1 _ _ hw),SqL.of ac,_,rfl,aN R.ne ?_⟩
  generalize upd H l (.lst [V.str "end"]) = H1 at s1 D1 ⊢
  obtain ⟨dx1,hx1⟩:=D1.hx
  refine ⟨_,rfl,x,_,dx1,_,_,_,rfl,hx1,rfl,MRo,_,rfl,_,rfl,x,S,Li,Lr,Lo,Lp',Ll,M,ys,line,wl,L.ws,L.row line,rfl,D1,s1 _ _ hw,R.rw,sz.w1,sz.w2,sz.sm,sz.pr,sz.mt,fun c2 H' s'=>?_,fun y ey c2 H' D' s'=>?_⟩
  ·refine qf ?_ H' (s1.trans s')
   rw [R.st]
   unfold jh
   rcases c2 with e | e
   ·rw [e]
   ·cases L.row line with
    | none=>rfl
    | some y=>exact if_neg (fun z=>e (List.isEmpty_iff.mp z))
  ·refine qt (S.row y) ?_ _ H' D' ((SameL.of s1).trans s') fun a ha=>.inl (by rw [ir] at ha; exact ha)
   rw [R.st]
   unfold jh
   rw [ey,c2]
   exact if_pos rfl
 cases L with
 | inn z =>
  refine ⟨_,rfl,wl,_,_,_,rfl,rfl,SqL.of hw,rfl,rfl,_,rfl,cP rfl ⟨_,rfl,x,_,dx,_,_,_,rfl,hx,rfl,MIn,_,rfl,_,rfl,x,S,Li,Lr,Lo,Lp',Ll,M,ys,line,wl,z,rfl,D,hw,nw,ok,sz.w1,sz.w2,sz.is,sz.mt,fun e H' D' s'=>?_,fun e H' s'=>?_⟩⟩
  ·have e3:S.lps = []:=by rw [<- D.lps.2,e.2.1]; rfl
   exact qt (S.inn (line,z)) (if_pos (by rw [e.1,e3,e.2.2]; rfl)) ys H' D' s' fun a ha=>.inl ha
  ·refine qf (if_neg fun q=>e ?_) H' s'
   simp only [Bool.and_eq_true,List.isEmpty_iff] at q
   refine ⟨q.1.1,?_,q.2⟩
   have:=q.1.2
   rw [<- D.lps.2] at this
   exact List.map_eq_nil_iff.mp this
 | out z =>
  refine ⟨_,rfl,wl,_,_,_,rfl,rfl,SqL.of hw,rfl,rfl,_,rfl,aN (by walk_at "n") ?_⟩
  refine ⟨_,rfl,wl,_,_,_,rfl,rfl,SqL.of hw,rfl,rfl,_,rfl,cP rfl ⟨_,rfl,x,_,dx,_,_,_,rfl,hx,rfl,MOu,_,rfl,_,rfl,x,S,Li,Lr,Lo,Lp',Ll,M,ys,line,wl,z,rfl,D,hw,nw,ok,sz.os,fun e H' D' s'=>?_,fun e H' s'=>?_⟩⟩
  ·exact qt (S.out (line,z)) (if_pos (by rw [e]; rfl)) ys H' D' s' fun a ha=>.inl ha
  ·exact qf (if_neg fun q=>e (List.isEmpty_iff.mp q)) H' s'
 | rep z =>
  refine ⟨_,rfl,wl,_,_,_,rfl,rfl,SqL.of hw,rfl,rfl,_,rfl,aN (by walk_at "n") ?_⟩
  refine ⟨_,rfl,wl,_,_,_,rfl,rfl,SqL.of hw,rfl,rfl,_,rfl,aN (by walk_at "n") ?_⟩
  refine ⟨_,rfl,wl,_,_,_,rfl,rfl,SqL.of hw,rfl,rfl,_,rfl,cP rfl ⟨_,rfl,x,_,dx,_,_,_,rfl,hx,rfl,MRe,_,rfl,_,rfl,x,S,Li,Lr,Lo,Lp',Ll,M,ys,line,wl,z,rfl,D,hw,nw,ok.1,ok.2.1,ok.2.2,sz.sm,fun e o l H' hl D' s'=>?_,fun e H' s'=>?_⟩⟩
  ·refine qt (S.rep (nV z)) (if_pos (by rw [e]; rfl)) _ H' D' s' fun a ha=>?_
   have ha':a ∈ [x,Li,Lr,Lo,Lp',Ll,M] ++ (ys ++ [(⟨o,l,nV z,[]⟩:Lp)]).map (fun y=>y.l):=ha
   rw [List.map_append,<- List.append_assoc] at ha'
   rcases List.mem_append.mp ha' with ha' | ha'
   ·exact .inl ha'
   ·cases List.mem_singleton.mp ha'
    exact .inr hl
  ·exact qf (if_neg fun q=>e (List.isEmpty_iff.mp q)) H' s'
 | fin =>
  obtain ⟨pre,p,ep,pn,pl⟩:=fo rfl
  have el:=D.lps.2
  rw [ep] at el
  obtain ⟨zs,z',rfl,e1,e2⟩:=List.map_eq_append_iff.mp el
  obtain ⟨z,rfl,e3⟩:∃ z,z' = [z]/\(z.t,z.ns) = p:=by
   cases z' with
   | nil=>cases e2
   | cons z r =>
    cases r with
    | nil=>injection e2 with e2; exact ⟨z,rfl,e2⟩
    | cons _ _=>injection e2 with _ e2; cases e2
  subst e3
  refine ⟨_,rfl,wl,_,_,_,rfl,rfl,SqL.of hw,rfl,rfl,_,rfl,aN (by walk_at "n") ?_⟩
  refine ⟨_,rfl,wl,_,_,_,rfl,rfl,SqL.of hw,rfl,rfl,_,rfl,aN (by walk_at "n") ?_⟩
  refine ⟨_,rfl,wl,_,_,_,rfl,rfl,SqL.of hw,rfl,rfl,_,rfl,aN (by walk_at "n") ?_⟩
  refine ⟨_,rfl,k1,fun l hl=>?_⟩
  have s1:=aq hl (.lst [V.str "end"])
  have D1:=D.same s1
  refine ⟨wl,l,[Str.ofString "end"],["end"],rfl,rfl,SqL.of (s1 _ _ hw),SqL.of ac,_,rfl,jd ?_⟩
  generalize upd H l (.lst [V.str "end"]) = H1 at s1 D1 ⊢
  obtain ⟨dx1,hx1⟩:=D1.hx
  refine ⟨_,rfl,x,_,dx1,_,_,_,rfl,hx1,rfl,MEn,x,S,Li,Lr,Lo,Lp',Ll,M,zs,z,rfl,D1,sz.sm,(by rw [<- e1,List.length_map] at pl; exact pl),pn,⟨(sz.tt (z.t,z.ns) (by rw [ep]; simp)).1,(sz.tt (z.t,z.ns) (by rw [ep]; simp)).2,sz.sm.2.2 (z.t,z.ns) (by rw [ep]; simp)⟩,fun H' D' s'=>?_⟩
  refine qt (S.close (zs.map fun y=>(y.t,y.ns)) (z.t * z.ns.sum)) ?_ _ H' D' ((SameL.of s1).trans s') fun a ha=>.inl ?_
  ·show (match S.lps.getLast? with | none=>none | some p=>some (S.close S.lps.dropLast (p.1 * p.2.sum))) = _
   rw [ep,List.getLast?_concat,List.dropLast_concat,<- e1]
  ·rw [ir] at ha
   show a ∈ [x,Li,Lr,Lo,Lp',Ll,M] ++ (zs ++ [z]).map (fun y=>y.l)
   rw [List.map_append,<- List.append_assoc]
   exact List.mem_append_left _ ha
 | bad g=>exact absurd (.inr ⟨g,rfl⟩) nr
 | cp g a=>exact absurd (.inl nofun) nr
 | st g a=>exact absurd (.inl nofun) nr
 | pt g h2 a=>exact absurd (.inl nofun) nr
theorem m3 {s:Str} {n:Nat}:∀ {ps:List Str},n ∈ (Str.join s ps).cps.toList->n ∈ s.cps.toList\/∃ p ∈ ps,n ∈ p.cps.toList
 | [],h=>absurd h (by show n ∉ (#[]:Array Nat).toList; simp)
 | [p],h=>.inr ⟨p,List.mem_cons_self ..,h⟩
 | y :: z :: r,h=>by
  rw [cg] at h
  rcases List.mem_append.mp h with h | h
  ·exact .inr ⟨y,List.mem_cons_self ..,h⟩
  ·rcases List.mem_append.mp h with h | h
   ·exact .inl h
   ·rcases m3 h with h | ⟨p,hp,h⟩
    ·exact .inl h
    ·exact .inr ⟨p,List.mem_cons_of_mem _ hp,h⟩
theorem iq (s:Str) (ps:List Str):Txt.join s ps = Str.join s ps:=PySem.StrLaws.glued_eq_join _ _
theorem jF {s:Str} (hs:s.length = 1):∀ {ps:List Str} {k:Nat},(∀ p ∈ ps,p.length<=k)->(Str.join s ps).length<=ps.length * (k + 1)
 | [],_,_=>Nat.zero_le _
 | [p],k,h=>by have:=h p (List.mem_cons_self ..); show p.length<=1 * (k + 1); omega
 | y :: z :: r,k,h=>by
  have h1:=h y (List.mem_cons_self ..)
  have h2:=jF hs (ps:=z :: r) (k:=k) fun p hp=>h p (List.mem_cons_of_mem _ hp)
  have e:(Str.join s (y :: z :: r)).length = y.length + (1 + (Str.join s (z :: r)).length):=by
   have e:=congrArg List.length (cg s y z r)
   rw [List.length_append,List.length_append,iH,iH,iH,iH,hs] at e
   exact e
  rw [e]
  simp only [List.length_cons] at h2 ⊢
  have:(r.length + 1 + 1) * (k + 1) = (r.length + 1) * (k + 1) + (k + 1):=Nat.succ_mul _ _
  omega
def Wd (z:Str):Prop:=10 ∉ z.cps.toList/\32 ∉ z.cps.toList/\z.length<=10
theorem Nm.wd {z:Str} (h:Nm z):Wd z:=by
 have k10:inS LT ⟨#[10]⟩ = false:=by decide +kernel
 have k32:inS LT ⟨#[32]⟩ = false:=by decide +kernel
 have al:=List.all_eq_true.mp h.2.2.1
 refine ⟨fun m=>?_,fun m=>?_,Nat.le_trans h.2.1 (by decide)⟩
 ·have:=al _ m; rw [k10] at this; cases this
 ·have:=al _ m; rw [k32] at this; cases this
theorem mP {z:Str} (h:PySem.NumText.AllDigits z.cps.toList) (l:z.length<=10):Wd z:=⟨fun m=>absurd (h _ m).1 (by decide),fun m=>absurd (h _ m).1 (by decide),l⟩
theorem LnOk.wd {L:LnD} (h:LnOk L):∀ p ∈ L.ws,Wd p:=by
 have kw:∀ p ∈ (["in", "plain", "out", "repeat", "end", "=", "copy", "set", "part"]:List Str),Wd p:=by unfold Wd; decide +kernel
 have k:=fun p hp=>kw p (List.mem_of_elem_eq_true hp)
 cases L with
 | inn z=>intro p hp; rcases List.mem_cons.mp hp with rfl | hp; exact k _ (by decide +kernel); rcases List.mem_cons.mp hp with rfl | hp; exact Nm.wd h; cases List.mem_singleton.mp hp; exact k _ (by decide +kernel)
 | out z=>intro p hp; rcases List.mem_cons.mp hp with rfl | hp; exact k _ (by decide +kernel); cases List.mem_singleton.mp hp; exact Nm.wd h
 | rep z=>intro p hp; rcases List.mem_cons.mp hp with rfl | hp; exact k _ (by decide +kernel); cases List.mem_singleton.mp hp; exact mP h.1.1 h.1.2.2.1
 | fin=>intro p hp; cases List.mem_singleton.mp hp; exact k _ (by decide +kernel)
 | bad g=>intro p hp; rcases List.mem_cons.mp hp with rfl | hp; exact Nm.wd h; rcases List.mem_cons.mp hp with rfl | hp; exact k _ (by decide +kernel); cases List.mem_singleton.mp hp; exact k _ (by decide +kernel)
 | cp g a=>intro p hp; rcases List.mem_cons.mp hp with rfl | hp; exact Nm.wd h.1; rcases List.mem_cons.mp hp with rfl | hp; exact k _ (by decide +kernel); rcases List.mem_cons.mp hp with rfl | hp; exact k _ (by decide +kernel); cases List.mem_singleton.mp hp; exact Nm.wd h.2
 | st g z =>
  obtain ⟨n,D⟩:=h.2
  intro p hp; rcases List.mem_cons.mp hp with rfl | hp; exact Nm.wd h.1; rcases List.mem_cons.mp hp with rfl | hp; exact k _ (by decide +kernel); rcases List.mem_cons.mp hp with rfl | hp; exact k _ (by decide +kernel); rcases List.mem_cons.mp hp with rfl | hp; exact k _ (by decide +kernel); cases List.mem_singleton.mp hp; exact mP D.ad (by rw [D.l]; decide)
 | pt g h2 a=>intro p hp; rcases List.mem_cons.mp hp with rfl | hp; exact Nm.wd h.1; rcases List.mem_cons.mp hp with rfl | hp; exact Nm.wd h.2.1; rcases List.mem_cons.mp hp with rfl | hp; exact k _ (by decide +kernel); rcases List.mem_cons.mp hp with rfl | hp; exact k _ (by decide +kernel); rcases List.mem_cons.mp hp with rfl | hp; exact Nm.wd h.2.2.1; cases List.mem_singleton.mp hp; exact mP num3.1 num3.2.2.1
def SPs:Str:=⟨#[32]⟩
def NLs:Str:=⟨#[10]⟩
def lnT (L:LnD):Str:=Txt.join SPs L.ws
def wdT (wz:Str):Str:=Txt.join SPs ["width",wz]
def lZ (wz:Str) (ls:List LnD):Str:=Txt.join NLs (wdT wz :: ls.map lnT)
theorem ws_ne (L:LnD):L.ws ≠ []/\L.ws.length<=6:=by cases L <;> exact ⟨nofun,by show _<=6; simp [LnD.ws]⟩
theorem split_ln {L:LnD} (h:LnOk L):Txt.split (lnT L) SPs = L.ws:=gX (ws_ne L).1 fun p hp=>(h.wd p hp).2.1
theorem mS {wz:Str} (h:Num wz):∀ p ∈ (["width",wz]:List Str),Wd p:=by
 intro p hp
 rcases List.mem_cons.mp hp with rfl | hp
 ·unfold Wd; decide +kernel
 ·cases List.mem_singleton.mp hp; exact mP h.1 h.2.2.1
theorem split_wd {wz:Str} (h:Num wz):Txt.split (wdT wz) SPs = ([Str.ofString "width",wz]:List Str):=gX nofun fun p hp=>(mS h p hp).2.1
theorem pX {ps:List Str} (h:∀ p ∈ ps,Wd p):10 ∉ (Txt.join SPs ps).cps.toList:=fun m=>by
 rw [iq] at m
 rcases m3 m with m | ⟨p,hp,m⟩
 ·exact absurd m (by decide)
 ·exact (h p hp).1 m
theorem m4 {ps:List Str} (h:∀ p ∈ ps,Wd p) (l:ps.length<=6):(Txt.join SPs ps).length<=66:=by
 have:=jF (s:=SPs) rfl (ps:=ps) (k:=10) fun p hp=>(h p hp).2.2
 rw [iq]
 omega
theorem ip {wz:Str} {ls:List LnD} (hw:Num wz) (h:∀ L ∈ ls,LnOk L):∀ p ∈ wdT wz :: ls.map lnT,10 ∉ p.cps.toList/\p.length<=66:=by
 intro p hp
 rcases List.mem_cons.mp hp with rfl | hp
 ·exact ⟨pX (mS hw),m4 (mS hw) (by show 2<=6; decide)⟩
 ·obtain ⟨L,hL,rfl⟩:=List.mem_map.mp hp
  exact ⟨pX (h L hL).wd,m4 (h L hL).wd (ws_ne L).2⟩
theorem nY {wz:Str} {ls:List LnD} (hw:Num wz) (h:∀ L ∈ ls,LnOk L):Txt.split (lZ wz ls) NLs = wdT wz :: ls.map lnT:=gX nofun fun p hp=>(ip hw h p hp).1
theorem prog_len {wz:Str} {ls:List LnD} (hw:Num wz) (h:∀ L ∈ ls,LnOk L):(lZ wz ls).length<=(ls.length + 1) * 67:=by
 have:=jF (s:=NLs) rfl (ps:=wdT wz :: ls.map lnT) (k:=66) fun p hp=>(ip hw h p hp).2
 unfold lZ
 rw [iq]
 rw [List.length_cons,List.length_map] at this
 exact this
inductive ErrD where
 | form (n:Int) | much (n:Int) | unk (n:Int) (z:Str)
def DS0 (w:Int):DS:=⟨w,[],[],[],[],[],[]⟩
def bI:DS->Int->List LnD->ErrD ⊕ DS
 | S,_,[]=>.inr S
 | S,n,L :: r=>match db S n L with
  | none=>.inl (.form n)
  | some S'=>if 60<=n\/30 < S'.met.length\/3 < S'.lps.length then .inl (.much n) else bI S' (n + 1) r
def cr (w:Int) (ls:List LnD):ErrD ⊕ DS :=
 match bI (DS0 w) 1 ls with
 | .inl e=>.inl e
 | .inr S=>if S.lps = []/\S.outs ≠ [] then .inr S else .inl (.form (ls.length + 1))
def dN:DS->Int->List LnD->Prop
 | _,_,[]=>True
 | S,n,L :: r=>(L = .fin->∃ pre p,S.lps = pre ++ [p]/\p.2 ≠ [])/\∀ S',db S n L = some S'->¬ (60<=n\/30 < S'.met.length\/3 < S'.lps.length)->dN S' (n + 1) r
structure Bd (S:DS) (n:Nat):Prop where
 w1:4<=S.w
 w2:S.w<=32
 top:S.top.length<=n
 lps:S.lps.length<=3
 inn:∀ p ∈ S.lps,p.2.length<=n
 prs:S.prs.length<=n
 met:S.met.length<=30
 ins:S.ins.length<=n
 outs:S.outs.length<=n
 tt:∀ p ∈ S.lps,0<=p.1/\p.1<=100
theorem Bd.sz {S:DS} {n:Nat} (h:Bd S n) (hn:n<=200):SzOk S:=⟨h.w1,h.w2,⟨Nat.le_trans h.top hn,Nat.le_trans h.lps (by decide),fun p hp=>Nat.le_trans (h.inn p hp) hn⟩,Nat.le_trans h.prs hn,Nat.le_trans h.met (by decide),Nat.le_trans h.ins hn,Nat.le_trans h.outs hn,h.tt⟩
theorem jO (k:Int):∀ {lps:List (Int × List Int)} {ns:List Int} {n:Nat},ns.length<=n->(∀ p ∈ lps,p.2.length<=n)->(ka k ns lps).1.length<=n + 1/\∀ p ∈ (ka k ns lps).2,p.2.length<=n + 1
 | [],ns,n,h,_=>⟨by show (ns ++ [k]).length<=n + 1; rw [List.length_append]; exact Nat.succ_le_succ h,fun p hp=>nomatch hp⟩
 | y :: r,ns,n,h,hy=>by
  obtain ⟨a,b⟩:=jO k (lps:=r) (ns:=y.2) (n:=n) (hy y (List.mem_cons_self ..)) fun p hp=>hy p (List.mem_cons_of_mem _ hp)
  refine ⟨Nat.le_succ_of_le h,fun p hp=>?_⟩
  rcases List.mem_cons.mp (show p ∈ (y.1,(ka k y.2 r).1) :: (ka k y.2 r).2 from hp) with rfl | hp
  ·exact a
  ·exact b p hp
theorem jI (k:Int):∀ {lps:List (Int × List Int)} {ns:List Int},(∀ p ∈ lps,0<=p.1/\p.1<=100)->∀ p ∈ (ka k ns lps).2,0<=p.1/\p.1<=100
 | [],_,_,p,hp=>nomatch hp
 | y :: r,ns,h,p,hp=>by
  rcases List.mem_cons.mp (show p ∈ (y.1,(ka k y.2 r).1) :: (ka k y.2 r).2 from hp) with rfl | hp
  ·exact h y (List.mem_cons_self ..)
  ·exact jI k (fun p hp=>h p (List.mem_cons_of_mem _ hp)) p hp
theorem Bd.row {S:DS} {n:Nat} (h:Bd S n) {y:RwD × Bool} (m:(S.row y).met.length<=30) (l:(S.row y).lps.length<=3):Bd (S.row y) (n + 1):=by
 obtain ⟨a,b⟩:=jO 1 h.top h.inn
 refine ⟨h.w1,h.w2,a,l,b,?_,m,Nat.le_succ_of_le h.ins,Nat.le_succ_of_le h.outs,jI 1 h.tt⟩
 show (S.prs ++ [y]).length<=n + 1
 rw [List.length_append]; exact Nat.succ_le_succ h.prs
theorem Bd.step {S S':DS} {n:Nat} {line:Int} {L:LnD} (h:Bd S n) (ok:LnOk L) (e:db S line L = some S') (m:S'.met.length<=30) (l:S'.lps.length<=3):Bd S' (n + 1):=by
 have up:=fun {k:Nat} (q:k<=n)=>Nat.le_succ_of_le q
 have rw_:∀ o,jh S o = some S'->Bd S' (n + 1):=fun o e=>by
  unfold jh at e
  cases o with
  | none=>cases e
  | some y =>
   dsimp only at e
   split at e
   ·cases e; exact h.row m l
   ·cases e
 cases L with
 | inn z =>
  change (if (S.top.isEmpty && S.lps.isEmpty && S.outs.isEmpty) = true then some (S.inn (line,z)) else none) = some S' at e
  split at e
  ·cases e
   exact ⟨h.w1,h.w2,up h.top,l,fun p hp=>up (h.inn p hp),up h.prs,m,by show (S.ins ++ [_]).length<=n + 1; rw [List.length_append]; exact Nat.succ_le_succ h.ins,up h.outs,h.tt⟩
  ·cases e
 | out z =>
  change (if S.lps.isEmpty = true then some (S.out (line,z)) else none) = some S' at e
  split at e
  ·cases e
   exact ⟨h.w1,h.w2,up h.top,l,fun p hp=>up (h.inn p hp),up h.prs,m,up h.ins,by show (S.outs ++ [_]).length<=n + 1; rw [List.length_append]; exact Nat.succ_le_succ h.outs,h.tt⟩
  ·cases e
 | rep z =>
  change (if S.outs.isEmpty = true then some (S.rep (nV z)) else none) = some S' at e
  split at e
  ·cases e
   refine ⟨h.w1,h.w2,up h.top,l,fun p hp=>?_,up h.prs,m,up h.ins,up h.outs,fun p hp=>?_⟩
   ·rcases List.mem_append.mp (show p ∈ S.lps ++ [(nV z,[])] from hp) with hp | hp
    ·exact up (h.inn p hp)
    ·cases List.mem_singleton.mp hp; exact Nat.zero_le _
   ·rcases List.mem_append.mp (show p ∈ S.lps ++ [(nV z,[])] from hp) with hp | hp
    ·exact h.tt p hp
    ·cases List.mem_singleton.mp hp
     exact ⟨Int.le_trans (by decide) ok.2.1,Int.le_trans ok.2.2 (by decide)⟩
  ·cases e
 | fin =>
  change (match S.lps.getLast? with | none=>none | some p=>some (S.close S.lps.dropLast (p.1 * p.2.sum))) = some S' at e
  cases q:S.lps.getLast? with
  | none=>rw [q] at e; cases e
  | some p =>
   rw [q] at e
   cases e
   obtain ⟨a,b⟩:=jO (p.1 * p.2.sum) (lps:=S.lps.dropLast) h.top fun p hp=>h.inn p (List.dropLast_subset _ hp)
   exact ⟨h.w1,h.w2,a,l,b,up h.prs,m,up h.ins,up h.outs,jI _ fun p hp=>h.tt p (List.dropLast_subset _ hp)⟩
 | bad g=>exact rw_ ((LnD.bad g).row line) e
 | cp g a=>exact rw_ ((LnD.cp g a).row line) e
 | st g z=>exact rw_ ((LnD.st g z).row line) e
 | pt g h2 a=>exact rw_ ((LnD.pt g h2 a).row line) e
def Rais (c:Ad) (E:XK) (H:Hp):ErrD->Prop
 | .form n=>∀ d H',H d = none->H' d = some (.xd [("line",.int n)])->Same H H'->E (.ref c.NoProgram) (some d) H'
 | .much n=>∀ d H',H d = none->H' d = some (.xd [("line",.int n)])->Same H H'->E (.ref c.TooMuch) (some d) H'
 | .unk n z=>∀ d H',H d = none->H' d = some (.xd [("line",.int n),("name",.str z)])->Same H H'->E (.ref c.Unknown) (some d) H'
def spFW (c:Ad):Sp:=fun vs H Q E=>∃ (wz:Str) (ls:List LnD),vs = [.str (lZ wz ls)]/\Num wz/\4<=nV wz/\nV wz<=32/\(∀ L ∈ ls,LnOk L)/\ls.length<=100/\dN (DS0 (nV wz)) 1 ls /\
 (∀ e,cr (nV wz) ls = .inl e->Rais c E H e)/\(∀ S,cr (nV wz) ls = .inr S->∀ x Li Lr Lo Lp' Ll M ys H',DrAt c H' x S Li Lr Lo Lp' Ll M ys->Bd S 59->S.lps = []->(∀ a ∈ aU x Li Lr Lo Lp' Ll M ys,H a = none)->Same H H'->Q (.ref x) H')
theorem draft0 {c:Ad} {H:Hp} {x dx Li Lr Lo Lp' Ll M:Addr} {w:Int} (nd:[x,Li,Lr,Lo,Lp',Ll,M].Nodup) (hx:H x = some (.ins c.Draft dx (dfl w Li Lr Lo Lp' Ll M))) (hl:∀ a ∈ [Li,Lr,Lo,Lp',Ll],H a = some (.lst [])) (hM:H M = some (.dK [])):DrAt c H x (DS0 w) Li Lr Lo Lp' Ll M [] :=
 ⟨by simpa using nd,⟨dx,hx⟩,⟨[],hl _ (by simp),.nil⟩,⟨[],hl _ (by simp),.nil⟩,⟨[],hl _ (by simp),.nil⟩,⟨hl _ (by simp),rfl⟩,⟨[],hl _ (by simp),.nil⟩,hM⟩
theorem jG {f:Addr} {fd:FuncData} (F:Fun K "first_walk" "first_walk" eG f fd) (T:Txt K mg c) (H_number_told:Has P w K mg base 3 "number_told" ["word", "low", "high"] kN) (C_Draft:CHas P w K mg base 1 c.Draft "Draft" ["self", "width"] (spDrI c)) (X_NoProgram:XHas P w K mg base 1 "NoProgram" c.NoProgram "line") (X_TooMuch:XHas P w K mg base 1 "TooMuch" c.TooMuch "line") (MTk:MHas P w K mg base 10 c.Draft "takes" ["self", "line", "words"] (lU c)) (MMu:MHas P w K mg base 1 c.Draft "is_too_much" ["self"] (qm c)):FnOk P w K mg base (CX2 P w base) 11 f fd ["text"] (spFW c):=by
 refine Fun.okY F sc_first_walk (fun vs H Q E h=>?_) (fun cdv A outer s H vs Q E hr h=>?_)
 ·obtain ⟨wz,ls,rfl,_⟩:=h
  rfl
 obtain ⟨wz,ls,rfl,hw,w1,w2,lk,ll,fi,qe,qv⟩:=h
 refine ⟨_,(ae (aK (bV (bD (aF cM rfl T.n_isinstance boot_isinstance (aa (pv 0) (aa (pe_ty rfl T.n_str boot_str) af)))))
   (aj (dg X_NoProgram (hr.mono (by omega)) rfl (aa ah af)))
   az)
  (ae (ay (i:=1) sc_first_walk.nd rfl (Or.inl rfl) (cK PySem.F.plainAttrs_str PySem.F.slot_str_split PySem.F.type_str_split iX (pv 0) (aa av af)))
  (ae (ay (i:=2) sc_first_walk.nd rfl (Or.inl rfl) (cK PySem.F.plainAttrs_str PySem.F.slot_str_split PySem.F.type_str_split iX (aH aD (pv 1) ah (fun _ _=>rfl)) (aa av af)))
  (ae (ay (i:=3) sc_first_walk.nd rfl (Or.inl rfl) (bn (PW.pt (eF (au op_eq (aF aM rfl T.n_len boot_len (aa (pv 2) af)) ah (aw _)) (dE (au op_eq (aH aD (pv 2) ah (fun _ _=>rfl)) av (aw _))))) (aJ H_number_told (hr.mono (by omega)) rfl (aa (aH aD (pv 2) ah (fun _ _=>rfl)) (aa ah (aa ah af)))) aR))
  (ae (aK (au eR (pv 3) aR (aw _))
   (aj (dg X_NoProgram (hr.mono (by omega)) rfl (aa ah af)))
   az)
  (ae (ay (i:=4) sc_first_walk.nd rfl (Or.inl rfl) (jy C_Draft (hr.mono (by omega)) rfl (aa (pv 3) af)))
  (ae (cU PassesOwn.leaving rfl (qL rfl T.n_range (aa ah (aa (aF aM rfl T.n_len boot_len (aa (pv 1) af)) af))) (bu (i:=5) sc_first_walk.nd rfl (Or.inl rfl))
   (ae (aK (bV (bD (cG (k:=10) (pv 4) (hr.mono (by omega)) (aa (pv 5) (aa (cK PySem.F.plainAttrs_str PySem.F.slot_str_split PySem.F.type_str_split iX (aH aD (pv 1) (pv 5) (fun _ _=>rfl)) (aa av af)) af)))))
    (aj (dg X_NoProgram (hr.mono (by omega)) rfl (aa (pv 5) af)))
    az)
   (aj (aK (PW.pt (dS (au op_ge (pv 5) (gg rfl T.g_MOST_LINES) (aw _)) (di (bD (aT (k:=1) (pv 4) (hr.mono (by omega)))))))
    (aj (dg X_TooMuch (hr.mono (by omega)) rfl (aa (pv 5) af)))
    az))))
  (ae (aK (PW.pt (dS (au (jC (Nat.lt_of_succ_lt (bh hr))) (aC (pv 4) rfl) (aI af) (aw _)) (di (au (nt (Nat.lt_of_succ_lt (bh hr))) (aC (pv 4) rfl) (aI af) (aw _)))))
   (aj (dg X_NoProgram (hr.mono (by omega)) rfl (aa (aF aM rfl T.n_len boot_len (aa (pv 1) af)) af)))
   az)
  (aj (aB (pv 4))))))))))),?_⟩
 have L1000:(100000:Nat)<=sizeLine:=by decide
 have z5:(0:Nat)<=sizeLine:=by decide
 refine ⟨_,rfl,_,_,_,_,_,rfl,rfl,TyOf.str _,i7 _,_,rfl,cu ?_⟩
 have pl:=prog_len hw lk
 refine ⟨_,rfl,eW,_,_,rfl,rfl,(by decide),(by omega),fun l1 hl1=>?_⟩
 rw [show Txt.split (lZ wz ls) (Str.ofString "\n") = wdT wz :: ls.map lnT from nY hw lk]
 have s1:=aq hl1 (.lst ((wdT wz :: ls.map lnT).map V.str))
 have g1:upd H l1 (.lst ((wdT wz :: ls.map lnT).map V.str)) l1 = some (.lst ((wdT wz :: ls.map lnT).map V.str)):=ac
 generalize upd H l1 (.lst ((wdT wz :: ls.map lnT).map V.str)) = H1 at s1 g1 ⊢
 refine ⟨_,rfl,l1,_,_,_,rfl,rfl,SqL.of g1,gu (j:=0) rfl,eW,wdT wz,Str.ofString " ",rfl,rfl,(by decide),(by have:=m4 (mS hw) (show 2<=6 by decide); have e:(wdT wz).length<=66:=this; omega),fun l2 hl2=>?_⟩
 rw [show Txt.split (wdT wz) (Str.ofString " ") = [Str.ofString "width",wz] from split_wd hw]
 have s2:=aq hl2 (.lst (([Str.ofString "width",wz]:List Str).map V.str))
 have g2:upd H1 l2 (.lst (([Str.ofString "width",wz]:List Str).map V.str)) l2 = some (.lst [.str "width",.str wz]):=ac
 generalize upd H1 l2 (.lst (([Str.ofString "width",wz]:List Str).map V.str)) = H2 at s2 g2 ⊢
 refine ⟨_,rfl,l2,_,rfl,.inl (SqL.of g2),rfl,_,rfl,cP rfl ⟨_,rfl,l2,_,_,_,rfl,rfl,SqL.of g2,rfl,rfl,_,rfl,cP rfl ?_⟩⟩
 refine ⟨_,rfl,l2,_,_,_,rfl,rfl,SqL.of g2,rfl,wz,4,32,rfl,hw,?_⟩
 rw [if_pos ⟨w1,w2⟩]
 refine ⟨_,rfl,rfl,_,rfl,aN (by nofun) ?_⟩
 refine ⟨_,rfl,fun x dx hx hdx hne=>⟨x,dx,nV wz,rfl,ac,fun Li Lr Lo Lp' Ll M H3 hn nd hxx hll hM sx=>⟨rfl,?_⟩⟩⟩
 have D0:=draft0 nd hxx hll hM
 have s3:=aX hx hdx sx
 have s12:=s1.trans s2
 have s13:=s12.trans s3
 have g13:=s3 _ _ (s2 _ _ g1)
 have x0:=none_of s12 hx
 have new0:∀ a ∈ aU x Li Lr Lo Lp' Ll M [],H a = none:=fun a ha=>by
  rcases List.mem_cons.mp (show a ∈ x :: ([Li,Lr,Lo,Lp',Ll,M] ++ []) from ha) with rfl | ha
  ·exact x0
  ·rw [List.append_nil] at ha
   exact none_of (s12.trans (aX hx hdx fun _ _ _ q=>q)) (hn a ha)
 have l1n:l1 ∉ aU x Li Lr Lo Lp' Ll M []:=fun ha=>by
  rcases List.mem_cons.mp (show l1 ∈ x :: ([Li,Lr,Lo,Lp',Ll,M] ++ []) from ha) with e | ha
  ·rw [<- e,s2 _ _ g1] at hx; cases hx
  ·rw [List.append_nil] at ha
   have:=hn l1 ha
   rw [aX hx hdx (fun _ _ _ q=>q) _ _ (s2 _ _ g1)] at this; cases this
 have b0:Bd (DS0 (nV wz)) 0:=⟨w1,w2,Nat.zero_le _,Nat.zero_le _,(fun p hp=>nomatch hp),Nat.zero_le _,Nat.zero_le _,Nat.zero_le _,Nat.zero_le _,fun p hp=>nomatch hp⟩
 clear hx hdx hn sx hll hM hxx nd
 refine ⟨_,rfl,l1,_,rfl,.inl (SqL.of g13),_,_,rfl,⟨by decide,by decide,?_,?_⟩,iZ (fun i σ G=>∃ S ys,(∃ y1:Option V,σ = [some (.str (lZ wz ls)),some (.ref l1),some (.ref l2),some (.int (nV wz)),some (.ref x),y1])/\DrAt c G x S Li Lr Lo Lp' Ll M ys/\Bd S i/\i<=59/\dN S (1 + i) (ls.drop i)/\bI (DS0 (nV wz)) 1 ls = bI S (1 + i) (ls.drop i)/\Same H G/\(∀ a ∈ aU x Li Lr Lo Lp' Ll M ys,H a = none)/\l1 ∉ aU x Li Lr Lo Lp' Ll M ys/\G l1 = some (.lst ((wdT wz :: ls.map lnT).map V.str))) ⟨_,[],⟨_,rfl⟩,D0,b0,by decide,by simpa using fi,by simp,s13,new0,l1n,g13⟩ ?_ ?_⟩
 ·simp only [List.length_map,List.length_cons]; omega
 ·simp only [List.length_map,List.length_cons]; omega
 ·rintro i σ G hi ⟨S,ys,⟨y1,rfl⟩,DG,bd,i59,fS,wS,sG,nG,lG,gG⟩
  have hi':i < ls.length:=by simp only [List.length_map,List.length_cons] at hi; omega
  obtain ⟨L,hL⟩:∃ L,ls[i]? = some L:=⟨_,List.getElem?_eq_getElem hi'⟩
  have Lm:=List.mem_of_getElem? hL
  have dr:ls.drop i = L :: ls.drop (i + 1):=by
   rw [List.drop_eq_getElem_cons hi']
   congr 1
   rw [List.getElem?_eq_getElem hi'] at hL
   injection hL
  have okL:=lk L Lm
  have at1:atI ((wdT wz :: ls.map lnT).map V.str) (1 + (i:Int)) = some (.str (lnT L)):=by
   rw [show (1 + (i:Int)) = ((i + 1:Nat):Int) by omega]
   refine gu (j:=i + 1) ?_
   rw [List.map_cons,List.getElem?_cons_succ,List.getElem?_map,List.getElem?_map,hL]
   rfl
  have ll1:=m4 okL.wd (ws_ne L).2
  obtain ⟨dxG,hxG⟩:=DG.hx
  rw [dr] at fS wS
  refine ⟨_,rfl,x,_,dxG,_,_,_,rfl,hxG,rfl,MTk,_,rfl,_,rfl,_,rfl,l1,_,_,_,rfl,rfl,SqL.of gG,at1,eW,lnT L,Str.ofString " ",rfl,rfl,(by decide),(by have e:(lnT L).length<=66:=ll1; omega),fun l3 hl3=>?_⟩
  rw [show Txt.split (lnT L) (Str.ofString " ") = L.ws from split_ln okL]
  have s3':=aq hl3 (.lst (L.ws.map V.str))
  have g3:upd G l3 (.lst (L.ws.map V.str)) l3 = some (.lst (L.ws.map V.str)):=ac
  have l3n:=DG.fresh hl3
  have D3:=DG.same s3'
  generalize upd G l3 (.lst (L.ws.map V.str)) = G3 at s3' g3 D3 ⊢
  refine ⟨x,S,Li,Lr,Lo,Lp',Ll,M,ys,_,l3,L,rfl,D3,g3,l3n,okL,bd.sz (by omega),(fun e=>?_),(fun e H' s'=>?_),fun S' e ys' H' D' s' hm=>?_⟩
  ·obtain ⟨pre,p,e1,e2⟩:=fS.1 e
   refine ⟨pre,p,e1,e2,?_⟩
   have:=bd.lps
   rw [e1,List.length_append] at this
   exact Nat.lt_of_le_of_lt (Nat.le_add_right _ _) (Nat.lt_of_le_of_lt this (by decide))
  ·have ew:bI (DS0 (nV wz)) 1 ls = .inl (.form (1 + (i:Int))):=by
    rw [wS,bI,e]
   have ef:cr (nV wz) ls = .inl (.form (1 + (i:Int))):=by unfold cr; rw [ew]
   refine ⟨_,rfl,jd ⟨_,rfl,_,rfl,fun d hd=>?_⟩⟩
   exact qe _ ef d _ (none_of (sG.trans (s3'.trans s')) hd) ac ((sG.trans (s3'.trans s')).trans (aq hd _))
  have sG3:Same H G3:=sG.trans s3'
  have sH:Same H H':=fun b u eb=>s' b u (fun m=>by rw [nG b m] at eb; cases eb) (sG3 _ _ eb)
  refine ⟨_,rfl,cu ?_⟩
  have much:60<=1 + (i:Int)\/30 < S'.met.length\/3 < S'.lps.length->∀ d,H' d = none->E (.ref c.TooMuch) (some d) (upd H' d (.xd [("line",.int (1 + (i:Int)))])):=fun q d hd=>by
   have ew:bI (DS0 (nV wz)) 1 ls = .inl (.much (1 + (i:Int))):=by
    rw [wS,bI,e]
    exact if_pos q
   have ef:cr (nV wz) ls = .inl (.much (1 + (i:Int))):=by unfold cr; rw [ew]
   exact qe _ ef d _ (none_of sH hd) ac (sH.trans (aq hd _))
  by_cases c60:60<=1 + (i:Int)
  ·exact ⟨_,rfl,_,_,rfl,rfl,_,rfl,cP c60 ⟨_,rfl,_,rfl,fun d hd=>much (.inl c60) d hd⟩⟩
  obtain ⟨dx',hx'⟩:=D'.hx
  refine ⟨_,rfl,_,_,rfl,rfl,_,rfl,aN c60 ⟨_,rfl,x,_,dx',_,_,_,rfl,hx',rfl,MMu,x,S',Li,Lr,Lo,Lp',Ll,M,ys',rfl,D',?_⟩⟩
  by_cases cm:30 < S'.met.length\/3 < S'.lps.length
  ·have eb:(decide (30 < S'.met.length) || decide (3 < S'.lps.length)) = true:=by simpa using cm
   rw [eb]
   exact ⟨_,rfl,jd ⟨_,rfl,_,rfl,fun d hd=>much (.inr cm) d hd⟩⟩
  have eb:(decide (30 < S'.met.length) || decide (3 < S'.lps.length)) = false:=by simpa using cm
  rw [eb]
  have cm':S'.met.length<=30/\S'.lps.length<=3:=by omega
  have e1:(1 + (i:Int)) + 1 = 1 + ((i + 1:Nat):Int):=by omega
  have cn:¬ (60<=1 + (i:Int)\/30 < S'.met.length\/3 < S'.lps.length):=by omega
  refine ⟨_,rfl,cu ⟨S',ys',⟨_,rfl⟩,D',bd.step okL e cm'.1 cm'.2,by omega,?_,?_,sH,fun a ha=>?_,fun ha=>?_,?_⟩⟩
  ·rw [<- e1]; exact fS.2 S' e cn
  ·rw [wS,bI,e,<- e1]
   exact if_neg cn
  ·rcases hm a ha with z | z
   ·exact nG a z
   ·exact none_of sG3 z
  ·rcases hm l1 ha with z | z
   ·exact lG z
   ·rw [s3' _ _ gG] at z; cases z
  ·exact s' _ _ lG (s3' _ _ gG)
 ·rintro σ G ⟨S,ys,⟨y1,rfl⟩,DG,bd,i59,fS,wS,sG,nG,lG,gG⟩
  have le:((wdT wz :: ls.map lnT).map V.str).length = ls.length + 1:=by simp only [List.length_map,List.length_cons]
  have ew:bI (DS0 (nV wz)) 1 ls = .inr S:=by
   rw [wS,List.drop_eq_nil_of_le]
   ·rfl
   ·rw [le]; omega
  obtain ⟨dx1,hx1⟩:=DG.hx
  have rs:∀ G',Same G G'->¬ (S.lps = []/\S.outs ≠ [])->∀ d,G' d = none->E (.ref c.NoProgram) (some d) (upd G' d (.xd [("line",.int (((wdT wz :: ls.map lnT).map V.str).length:Int))])):=fun G' s' n d hd=>by
   have ef:cr (nV wz) ls = .inl (.form (ls.length + 1)):=by unfold cr; rw [ew]; exact if_neg n
   rw [le]
   exact qe _ ef d _ (none_of (sG.trans s') hd) (by rw [ac,Int.natCast_add]; rfl) ((sG.trans s').trans (aq hd _))
  refine ⟨_,rfl,x,c.Draft,dx1,_,_,rfl,hx1,T.cl_Draft,T.na_Draft_loops,rfl,z5,fun l4 hl4=>?_⟩
  have s4:=aq hl4 (.lst [])
  have D4:=DG.same s4
  refine ⟨Ll,l4,_,rfl,rfl,SqL.of D4.lps.1,SqL.of ac,_,rfl,?_⟩
  generalize upd G l4 (.lst []) = G4 at s4 D4 ⊢
  have g4:=s4 _ _ gG
  have e5:=D4.lps.2
  cases ys with
  | cons y r=>exact jd ⟨_,rfl,l1,_,rfl,.inl (SqL.of g4),_,rfl,fun d hd=>rs G4 s4 (fun z=>by rw [z.1] at e5; cases e5) d hd⟩
  | nil =>
   have lz:S.lps = []:=e5.symm
   refine cu ?_
   obtain ⟨dx4,hx4⟩:=D4.hx
   refine ⟨_,rfl,x,c.Draft,dx4,_,_,rfl,hx4,T.cl_Draft,T.na_Draft_outs,rfl,z5,fun l5 hl5=>?_⟩
   have s5:=aq hl5 (.lst [])
   have D5:=D4.same s5
   obtain ⟨p5,a5,b5⟩:=D5.outs
   refine ⟨Lo,l5,_,rfl,rfl,SqL.of a5,SqL.of ac,_,rfl,?_⟩
   generalize upd G4 l5 (.lst []) = G5 at s5 D5 a5 b5 ⊢
   have e1:(p5.map V.ref).isEmpty = true ↔ S.outs = []:=by
    rw [List.isEmpty_iff,List.map_eq_nil_iff]
    exact ⟨fun z=>List.eq_nil_of_length_eq_zero (by rw [<- b5.1,z]; rfl),fun z=>List.eq_nil_of_length_eq_zero (by rw [b5.1,z]; rfl)⟩
   have s45:=s4.trans s5
   by_cases c2:S.outs = []
   ·rw [e1.mpr c2]
    exact jd ⟨_,rfl,l1,_,rfl,.inl (SqL.of (s5 _ _ g4)),_,rfl,fun d hd=>rs G5 s45 (fun z=>z.2 c2) d hd⟩
   ·have e:(p5.map V.ref).isEmpty = false:=Bool.eq_false_iff.mpr fun z=>c2 (e1.mp z)
    rw [e]
    have ef:cr (nV wz) ls = .inr S:=by unfold cr; rw [ew]; exact if_pos ⟨lz,c2⟩
    refine cu ⟨_,rfl,qv S ef x Li Lr Lo Lp' Ll M [] G5 D5 ?_ lz nG (sG.trans s45)⟩
    exact ⟨bd.w1,bd.w2,Nat.le_trans bd.top i59,bd.lps,fun p hp=>Nat.le_trans (bd.inn p hp) i59,Nat.le_trans bd.prs i59,bd.met,Nat.le_trans bd.ins i59,Nat.le_trans bd.outs i59,bd.tt⟩
theorem pt_dead {X:Cx} {e:Expr}:PT X e (fun _ _ _=>False):=fun _ _ _ _ _ _ h=>h.elim
def KD (c:Ad) (w:Int) (H:Hp) (kd:Addr) (ks:List Str) (n:Nat):Prop:=∃ kvs:List (Key × V),H kd = some (.dK kvs)/\kvs.length<=n/\∀ z,(z ∈ ks->∃ k,ii kvs (Sum.inr z:Key) = some (.ref k)/\PlK c H w k)/\(z ∉ ks->ii kvs (Sum.inr z:Key) = none)
theorem putK_len (kvs:List (Key × V)) (k:Key) (v:V):(iV kvs k v).length<=kvs.length + 1:=by
 unfold iV
 split
 ·rw [List.length_map]; omega
 ·rw [List.length_append]; exact Nat.le_refl _
theorem PlK.upd {c:Ad} {w:Int} {H:Hp} {k kd:Addr} {kvs ls:List (Key × V)} (h:PlK c H w k) (e:H kd = some (.dK kvs)):PlK c (upd H kd (.dK ls)) w k:=by
 obtain ⟨dx,q⟩:=h
 exact ⟨dx,by rw [ai (fun z=>by rw [z,e] at q; cases q)]; exact q⟩
theorem PlK.same {c:Ad} {w:Int} {H H':Hp} {k:Addr} (s:Same H H') (h:PlK c H w k):PlK c H' w k:=by
 obtain ⟨dx,q⟩:=h
 exact ⟨dx,s _ _ q⟩
theorem KD.same {c:Ad} {w:Int} {H H':Hp} {kd:Addr} {ks:List Str} {n:Nat} (s:Same H H') (h:KD c w H kd ks n):KD c w H' kd ks n:=by
 obtain ⟨kvs,e,l,q⟩:=h
 exact ⟨kvs,s _ _ e,l,fun z=>⟨fun m=>(by obtain ⟨k,a,b⟩:=(q z).1 m; exact ⟨k,a,b.same s⟩),(q z).2⟩⟩
theorem KD.put {c:Ad} {w:Int} {H:Hp} {kd k:Addr} {ks:List Str} {n:Nat} (h:KD c w H kd ks n) (hk:PlK c H w k) (hn:n<=1000) (z:Str):∃ H',DPut H kd (.str z) (.ref k) H'/\KD c w H' kd (z :: ks) (n + 1)/\SameX kd H H':=by
 obtain ⟨kvs,e,l,q⟩:=h
 refine ⟨_,DPut.k (k:=Sum.inr z) e (Nat.lt_of_le_of_lt l (Nat.lt_of_le_of_lt hn (by decide))),⟨_,ac,Nat.le_trans (putK_len ..) (Nat.succ_le_succ l),fun y=>?_⟩,updX⟩
 rw [valV_put]
 by_cases ey:y = z
 ·subst ey
  rw [if_pos rfl]
  exact ⟨fun _=>⟨k,rfl,hk.upd e⟩,fun m=>absurd (List.mem_cons_self ..) m⟩
 ·rw [if_neg (fun m=>ey (by injection m))]
  refine ⟨fun m=>?_,fun m=>(q y).2 fun m'=>m (List.mem_cons_of_mem _ m')⟩
  rcases List.mem_cons.mp m with m | m
  ·exact absurd m ey
  ·obtain ⟨k',a,b⟩:=(q y).1 m
   exact ⟨k',a,b.upd e⟩
def READ_PLAIN_:List Str:=["low", "high", "over", "rest", "part"]
def READ_ALIKE_:List Str:=["add", "sub", "addstop", "substop", "less", "same", "mul", "pick"]
def spWR (c:Ad):Sp:=fun vs H Q _=>∃ (w w2:Int) (x dx:Addr) (line:Int) (deed:Str) (g rd nm kd:Addr) (way:V),vs = [.int w,.ref x,.ref kd]/\H x = some (.ins c.Row dx (rfl6 line deed g rd nm way))/\(deed = "copy"\/deed = "set"\/deed = "part"/\∃ (a:Str) (ks:List Str) (n:Nat),H rd = some (.lst [.str a])/\KD c w2 H kd ks n/\a ∈ ks)/\∀ H',Same H H'->Q .non H'
theorem i6 {f:Addr} {fd:FuncData} (F:Fun K "wrongly_read" "wrongly_read" c5 f fd) (T:Txt K mg c) (H_not_of_word:Has P w K mg base 2 "not_of_word" ["names", "kinds", "word"] (spNW c)) (H_same_kind:Has P w K mg base 2 "same_kind" ["one", "other"] (jR c)):FnOk P w K mg base CX0 3 f fd ["width", "row", "kinds"] (spWR c):=by
 refine F.ok sc_wrongly_read (fun vs H Q E h=>?_) (fun cdv A outer s H vs Q E hr h=>?_)
 ·obtain ⟨w',w2,x,dx,line,deed,g,rd,nm,kd,way,rfl,_⟩:=h
  rfl
 obtain ⟨w',w2,x,dx,line,deed,g,rd,nm,kd,way,rfl,hx,hd,q⟩:=h
 refine ⟨_,(ae (ay (i:=3) sc_wrongly_read.nd rfl (Or.inl rfl) aR)
  (ae (aK (au fX (aC (pv 1) rfl) (lw rfl T.g_READ_PLAIN) (by with_unfolding_all rfl))
   (aj (ay (i:=3) sc_wrongly_read.nd rfl (Or.inl rfl) (aJ H_not_of_word (hr.mono (by omega)) rfl (aa (aC (pv 1) rfl) (aa (pv 2) (aa av af))))))
   az)
  (ae (aK (au op_eq (aC (pv 1) rfl) av (aw _))
   (aj (ay (i:=3) sc_wrongly_read.nd rfl (Or.inl rfl) (aJ H_not_of_word (hr.mono (by omega)) rfl (aa (aC (pv 1) rfl) (aa (pv 2) (aa av af))))))
   az)
  (ae (aK (au op_eq (aC (pv 1) rfl) av (aw _))
   (aj (ay (i:=3) sc_wrongly_read.nd rfl (Or.inl rfl) (aJ H_not_of_word (hr.mono (by omega)) rfl (aa (cJ eu (aC (pv 1) rfl) dX (da ah)) (aa (pv 2) (aa av af))))))
   az)
  (ae (aK (PW.pt (eF (au fX (aC (pv 1) rfl) (bq (aa av (aa av af))) (by with_unfolding_all rfl)) (dE pt_dead)))
   (aj (ay (i:=3) sc_wrongly_read.nd rfl (Or.inl rfl) (aJ H_not_of_word (hr.mono (by omega)) rfl (aa (aC (pv 1) rfl) (aa (pv 2) (aa av af))))))
   az)
  (ae (aK (PW.pt (eF (au eR (pv 3) aR (aw _)) (eF (au fX (aC (pv 1) rfl) (lw rfl T.g_READ_ALIKE) (by with_unfolding_all rfl)) (dE (bV (bD pe_dead))))))
   (aj (ay (i:=3) sc_wrongly_read.nd rfl (Or.inl rfl) (aH aD (aC (pv 1) rfl) (jj eX ah) (fun _ _=>rfl))))
   az)
  (aj (aB (pv 3))))))))),?_⟩
 have dne:∀ y:Str,(y = "copy"\/y = "set"\/y = "part")->y ≠ "mul"/\y ≠ "pick"/\inV (.str y) [V.str "div",V.str "times"] = false/\inV (.str y) (READ_ALIKE_.map V.str) = false:=by
  rintro y (rfl | rfl | rfl) <;> exact ⟨by decide +kernel,by decide +kernel,by decide +kernel,by decide +kernel⟩
 have hd':deed = "copy"\/deed = "set"\/deed = "part":=by
  rcases hd with h | h | h
  ·exact .inl h
  ·exact .inr (.inl h)
  ·exact .inr (.inr h.1)
 obtain ⟨n1,n2,n3,n4⟩:=dne deed hd'
 have p1:inV (.str deed) (READ_PLAIN_.map V.str) = decide (deed = "part"):=by
  rcases hd' with rfl | rfl | rfl <;> decide +kernel
 refine ⟨_,rfl,x,c.Row,dx,_,_,rfl,hx,T.cl_Row,T.na_Row_deed,rfl,c.READ_PLAIN,_,rfl,.inr (T.q_READ_PLAIN _),rfl,cS READ_PLAIN_,_,rfl,?_⟩
 show if inV (.str deed) (READ_PLAIN_.map V.str) = true then _ else _
 rw [p1]
 by_cases hp':deed = "part"
 ·rcases hd with h | h | ⟨_,a,ks,n,hrd,⟨kvs,ek,lk,kq⟩,am⟩
  ·rw [h] at hp'; exact absurd hp' (by decide +kernel)
  ·rw [h] at hp'; exact absurd hp' (by decide +kernel)
  obtain ⟨k,kv,pk⟩:=(kq a).1 am
  refine cP hp' ⟨_,rfl,x,c.Row,dx,_,_,rfl,hx,T.cl_Row,T.na_Row_reads,rfl,_,rfl,rd,kd,k,w2,a,kvs,rfl,hrd,ek,kv,pk,?_⟩
  refine ⟨_,rfl,x,c.Row,dx,_,_,rfl,hx,T.cl_Row,T.na_Row_deed,rfl,rfl,_,rfl,aN (fun z=>n1 (by injection z)) ?_⟩
  refine ⟨_,rfl,x,c.Row,dx,_,_,rfl,hx,T.cl_Row,T.na_Row_deed,rfl,rfl,_,rfl,aN (fun z=>n2 (by injection z)) ?_⟩
  refine ⟨_,rfl,x,c.Row,dx,_,_,rfl,hx,T.cl_Row,T.na_Row_deed,rfl,(by show 2<=sizeLine; decide),fun p hp=>?_⟩
  have s1:=aq hp (.tup [V.str "div",V.str "times"])
  refine ⟨p,_,rfl,.inr (SqT.of ac),rfl,rfl,_,rfl,?_⟩
  show if inV (.str deed) [V.str "div",V.str "times"] = true then _ else _
  rw [n3]
  refine cu ?_
  generalize upd H p (.tup [V.str "div",V.str "times"]) = H1 at s1 ⊢
  refine ⟨_,rfl,rfl,_,rfl,cP rfl ⟨_,rfl,x,c.Row,dx,_,_,rfl,s1 _ _ hx,T.cl_Row,T.na_Row_deed,rfl,c.READ_ALIKE,_,rfl,.inr (T.q_READ_ALIKE _),rfl,cS READ_ALIKE_,_,rfl,?_⟩⟩
  show if inV (.str deed) (READ_ALIKE_.map V.str) = true then _ else _
  rw [n4]
  exact cu ⟨_,rfl,q H1 s1⟩
 ·refine aN hp' ?_
  refine ⟨_,rfl,x,c.Row,dx,_,_,rfl,hx,T.cl_Row,T.na_Row_deed,rfl,rfl,_,rfl,aN (fun z=>n1 (by injection z)) ?_⟩
  refine ⟨_,rfl,x,c.Row,dx,_,_,rfl,hx,T.cl_Row,T.na_Row_deed,rfl,rfl,_,rfl,aN (fun z=>n2 (by injection z)) ?_⟩
  refine ⟨_,rfl,x,c.Row,dx,_,_,rfl,hx,T.cl_Row,T.na_Row_deed,rfl,(by show 2<=sizeLine; decide),fun p hp=>?_⟩
  have s1:=aq hp (.tup [V.str "div",V.str "times"])
  refine ⟨p,_,rfl,.inr (SqT.of ac),rfl,rfl,_,rfl,?_⟩
  show if inV (.str deed) [V.str "div",V.str "times"] = true then _ else _
  rw [n3]
  refine cu ?_
  generalize upd H p (.tup [V.str "div",V.str "times"]) = H1 at s1 ⊢
  refine ⟨_,rfl,rfl,_,rfl,cP rfl ⟨_,rfl,x,c.Row,dx,_,_,rfl,s1 _ _ hx,T.cl_Row,T.na_Row_deed,rfl,c.READ_ALIKE,_,rfl,.inr (T.q_READ_ALIKE _),rfl,cS READ_ALIKE_,_,rfl,?_⟩⟩
  show if inV (.str deed) (READ_ALIKE_.map V.str) = true then _ else _
  rw [n4]
  exact cu ⟨_,rfl,q H1 s1⟩
def RwS (y:RwD × Bool):Prop:=y.1.goals.length<=2/\((y.2 = false/\(y.1.deed = "copy"\/y.1.deed = "part")/\∃ a,y.1.reads = [a])\/y.2 = true/\y.1.deed = "set"/\y.1.reads = [])
def jB (ks gs:List Str):List Str:=gs.foldl (fun ks z=>z :: ks) ks
def iJ (ks:List Str) (y:RwD × Bool):ErrD ⊕ List Str :=
 match y.1.reads.find? fun z=>!ks.contains z with
 | some z=>.inl (.unk y.1.line z)
 | none=>.inr (jB ks y.1.goals)
def spNR (c:Ad):Sp:=fun vs H Q E=>∃ (w:Int) (x kd k:Addr) (y:RwD × Bool) (ks:List Str) (n:Nat),vs = [.int w,.ref x,(if y.2 = true then .ref k else .non),.ref kd]/\RwAt c H x y.1/\RwS y/\(y.2 = true->PlK c H w k)/\KD c w H kd ks n/\n<=500 /\
 (∀ e,iJ ks y = .inl e->Rais c E H e)/\(∀ ks',iJ ks y = .inr ks'->∀ H',KD c w H' kd ks' (n + 2)->SameX kd H H'->Q .non H')
theorem KD.mono {c:Ad} {w:Int} {H:Hp} {kd:Addr} {ks:List Str} {n m:Nat} (h:KD c w H kd ks n) (l:n<=m):KD c w H kd ks m:=by
 obtain ⟨kvs,e,q,r⟩:=h
 exact ⟨kvs,e,Nat.le_trans q l,r⟩
theorem KD.kindAt {c:Ad} {w:Int} {H:Hp} {kd k:Addr} {ks:List Str} {n:Nat} (h:KD c w H kd ks n) {H':Hp} (s:SameX kd H H') (hk:PlK c H w k):PlK c H' w k:=by
 obtain ⟨kvs,e,_⟩:=h
 obtain ⟨dx,q⟩:=hk
 exact ⟨dx,s _ _ (fun z=>by rw [z,e] at q; cases q) q⟩
theorem mw {f:Addr} {fd:FuncData} (F:Fun K "need_row" "need_row" gQ f fd) (T:Txt K mg c) (H_wrongly_read:Has P w K mg base 3 "wrongly_read" ["width", "row", "kinds"] (spWR c)) (H_kind_put:Has P w K mg base 6 "kind_put" ["width", "row", "told", "kinds"] (spKP c)) (H_same_kind:Has P w K mg base 2 "same_kind" ["one", "other"] (jR c)) (X_Unknown:XMk P w K mg base 1 "Unknown" c.Unknown ["self", "line", "name"] ["line", "name"]):FnOk P w K mg base (CX2 P w base) 7 f fd ["width", "row", "told", "kinds"] (spNR c):=by
 refine Fun.okY F sc_need_row (fun vs H Q E h=>?_) (fun cdv A outer s H vs Q E hr h=>?_)
 ·obtain ⟨w',x,kd,k,y,ks,n,rfl,_⟩:=h
  rfl
 obtain ⟨w',x,kd,k,y,ks,n,rfl,⟨dx,g,rd,nm,way,hx,hg,hrd⟩,⟨lg,shp⟩,pk,KK,hn,qe,qv⟩:=h
 refine ⟨_,(ae (cU PassesOwn.leaving rfl (bF (aC (pv 1) rfl)) (bu (i:=4) sc_need_row.nd rfl (Or.inl rfl))
   (aj (aK (au (kQ (bh hr)) (pv 4) (pv 3) (by with_unfolding_all rfl))
    (aj (kO X_Unknown (hr.mono (by omega)) rfl (aa (aC (pv 1) rfl) (aa (pv 4) af))))
    az)))
  (ae (ay (i:=5) sc_need_row.nd rfl (Or.inl rfl) (aJ H_wrongly_read (hr.mono (by omega)) rfl (aa (pv 0) (aa (pv 1) (aa (pv 3) af)))))
  (ae (aK (au j9 (pv 5) aR (aw _))
   aZ
   az)
  (ae (ay (i:=6) sc_need_row.nd rfl (Or.inl rfl) (aJ H_kind_put (hr.mono (by omega)) rfl (aa (pv 0) (aa (pv 1) (aa (pv 2) (aa (pv 3) af))))))
  (ae (cU PassesOwn.leaving rfl (bF (aC (pv 1) rfl)) (bu (i:=4) sc_need_row.nd rfl (Or.inl rfl))
   (aj (aK (PW.pt (eF (au (p9 (bh hr)) (pv 4) (pv 3) (by with_unfolding_all rfl)) (dE (bV (bD (aJ H_same_kind (hr.mono (by omega)) rfl (aa (mD (bh hr) (pv 3) (pv 4) (fun _ _=>rfl)) (aa (pv 6) af))))))))
    aZ
    az)))
  (aj (cU PassesOwn.leaving rfl (bF (aC (pv 1) rfl)) (bu (i:=4) sc_need_row.nd rfl (Or.inl rfl))
   (aj (iF (bh hr) (pv 3) (pv 4) (pv 6) rfl))))))))),?_⟩
 obtain ⟨kvs,ek,lk,kq⟩:=id KK
 generalize ht:(if y.2 = true then V.ref k else .non) = told
 refine ⟨_,rfl,x,c.Row,dx,_,_,rfl,hx,T.cl_Row,T.na_Row_reads,rfl,rd,rfl,⟨_,SqL.of hrd⟩,cL (xs:=y.1.reads.map V.str) (fun i σ G=>(∃ y5:Option V,σ = [some (.int w'),some (.ref x),some told,some (.ref kd),y5,none,none])/\H = G/\∀ z ∈ y.1.reads.take i,z ∈ ks) ⟨⟨_,rfl⟩,rfl,fun z hz=>by simp at hz⟩ (fun _ _ _ _ q=>SqL.of (q.2.1 ▸ hrd)) ?_ ?_⟩
 ·rintro i v σ G hi ⟨⟨y5,rfl⟩,rfl,al⟩
  obtain ⟨z,hz,rfl⟩:∃ z,y.1.reads[i]? = some z/\v = V.str z:=by
   rw [List.getElem?_map] at hi
   obtain ⟨z,hz,e⟩:=Option.map_eq_some_iff.mp hi
   exact ⟨z,hz,e.symm⟩
  refine ⟨_,rfl,_,rfl,kd,_,rfl,DGet.k (k:=Sum.inr z) ek,_,rfl,?_⟩
  by_cases zm:z ∈ ks
  ·obtain ⟨k',e1,_⟩:=(kq z).1 zm
   rw [e1]
   refine cu ⟨⟨_,rfl⟩,rfl,fun u hu=>?_⟩
   rw [List.take_add_one,hz] at hu
   rcases List.mem_append.mp hu with hu | hu
   ·exact al u hu
   ·cases List.mem_singleton.mp hu; exact zm
  ·rw [(kq z).2 zm]
   refine jd ⟨_,rfl,x,c.Row,dx,_,_,rfl,hx,T.cl_Row,T.na_Row_line,rfl,_,rfl,rfl,(by show 2<=100; decide),fun d hd=>?_⟩
   have ef:iJ ks y = .inl (.unk y.1.line z):=by
    have:y.1.reads.find? (fun z=>!ks.contains z) = some z:=by
     rcases shp with ⟨_,_,a,ea⟩ | ⟨_,_,ea⟩
     ·rw [ea] at hz ⊢
      cases i with
      | zero=>cases hz; simp [zm]
      | succ i=>simp at hz
     ·rw [ea] at hz; simp at hz
    unfold iJ
    rw [this]
   exact qe _ ef d _ hd ac (aq hd _)
 rintro σ G ⟨⟨y5,rfl⟩,rfl,al⟩
 rw [List.length_map,List.take_length] at al
 have eN:iJ ks y = .inr (jB ks y.1.goals):=by
  have:y.1.reads.find? (fun z=>!ks.contains z) = none:=List.find?_eq_none.mpr fun z hz=>by simp [al z hz]
  unfold iJ
  rw [this]
 have cw:y.1.deed = "copy"\/y.1.deed = "set"\/y.1.deed = "part"/\∃ (a:Str) (ks:List Str) (n:Nat),H rd = some (.lst [.str a])/\KD c w' H kd ks n/\a ∈ ks:=by
  rcases shp with ⟨_,d | d,a,ea⟩ | ⟨_,d,_⟩
  ·exact .inl d
  ·rw [ea] at hrd al
   exact .inr (.inr ⟨d,a,ks,n,hrd,KK,al a (List.mem_singleton.mpr rfl)⟩)
  ·exact .inr (.inl d)
 refine ⟨_,rfl,_,rfl,_,rfl,w',w',x,dx,_,_,g,rd,nm,kd,way,rfl,hx,cw,fun H1 s1=>?_⟩
 refine ⟨_,rfl,rfl,_,rfl,g6 rfl ?_⟩
 have hx1:=s1 _ _ hx
 have K1:=KK.same s1
 have kp:(∃ k:Addr,told = .ref k/\PlK c H1 w' k)\/(told = .non/\(y.1.deed = "copy"\/y.1.deed = "part")/\∃ (z:Str) (kvs:List (Key × V)) (k:Addr),H1 rd = some (.lst [.str z])/\H1 kd = some (.dK kvs)/\ii kvs (Sum.inr z:Key) = some (.ref k)/\PlK c H1 w' k):=by
  rcases shp with ⟨e2,d,a,ea⟩ | ⟨e2,d,_⟩
  ·rw [e2] at ht
   obtain ⟨kvs1,ek1,_,kq1⟩:=id K1
   obtain ⟨k1,v1,p1⟩:=(kq1 a).1 (al a (by rw [ea]; exact List.mem_singleton.mpr rfl))
   rw [ea] at hrd
   exact .inr ⟨ht.symm,d,a,kvs1,k1,s1 _ _ hrd,ek1,v1,p1⟩
  ·rw [e2] at ht
   exact .inl ⟨k,ht.symm,(pk e2).same s1⟩
 refine ⟨_,rfl,_,rfl,_,rfl,_,rfl,w',w',x,dx,y.1.line,y.1.deed,g,rd,nm,kd,way,told,rfl,hx1,kp,fun k0 H2 s2 p2=>?_⟩
 have s12:=s1.trans s2
 have hx2:=s12 _ _ hx
 have hg2:=s12 _ _ hg
 have K2:=KK.same s12
 obtain ⟨kvs2,ek2,lk2,kq2⟩:=id K2
 refine ⟨_,rfl,x,c.Row,dx,_,_,rfl,hx2,T.cl_Row,T.na_Row_goals,rfl,g,rfl,⟨_,SqL.of hg2⟩,cL (xs:=y.1.goals.map V.str) (fun i σ G=>(∃ y5:Option V,σ = [some (.int w'),some (.ref x),some told,some (.ref kd),y5,some .non,some (.ref k0)])/\H2 = G) ⟨⟨_,rfl⟩,rfl⟩ (fun _ _ _ _ q=>SqL.of (q.2 ▸ hg2)) ?_ ?_⟩
 ·rintro i v σ G hi ⟨⟨y5,rfl⟩,rfl⟩
  obtain ⟨z,hz,rfl⟩:∃ z,y.1.goals[i]? = some z/\v = V.str z:=by
   rw [List.getElem?_map] at hi
   obtain ⟨z,hz,e⟩:=Option.map_eq_some_iff.mp hi
   exact ⟨z,hz,e.symm⟩
  refine ⟨_,rfl,_,rfl,kd,_,rfl,DGet.k (k:=Sum.inr z) ek2,_,rfl,?_⟩
  by_cases zm:z ∈ ks
  ·obtain ⟨k',e1,p1⟩:=(kq2 z).1 zm
   rw [e1]
   refine jd ?_
   refine ⟨_,rfl,_,rfl,kd,_,rfl,e1 ▸ DGet.k (k:=Sum.inr z) ek2,_,rfl,k',k0,w',rfl,p1,p2,?_⟩
   exact ⟨_,rfl,cu ⟨⟨_,rfl⟩,rfl⟩⟩
  ·rw [(kq2 z).2 zm]
   exact cu ⟨⟨_,rfl⟩,rfl⟩
 rintro σ G ⟨⟨y5,rfl⟩,rfl⟩
 refine ⟨_,rfl,x,c.Row,dx,_,_,rfl,hx2,T.cl_Row,T.na_Row_goals,rfl,g,rfl,⟨_,SqL.of hg2⟩,cL (xs:=y.1.goals.map V.str) (fun i σ G=>(∃ y5:Option V,σ = [some (.int w'),some (.ref x),some told,some (.ref kd),y5,some .non,some (.ref k0)])/\KD c w' G kd (jB ks (y.1.goals.take i)) (n + i)/\SameX kd H2 G) ⟨⟨_,rfl⟩,K2,fun _ _ _ e=>e⟩ (fun _ _ _ _ q=>SqL.of (q.2.2 _ _ (fun z=>by rw [z,ek2] at hg2; cases hg2) hg2)) ?_ ?_⟩
 ·rintro i v σ G hi ⟨⟨y5,rfl⟩,KG,sG⟩
  obtain ⟨z,hz,rfl⟩:∃ z,y.1.goals[i]? = some z/\v = V.str z:=by
   rw [List.getElem?_map] at hi
   obtain ⟨z,hz,e⟩:=Option.map_eq_some_iff.mp hi
   exact ⟨z,hz,e.symm⟩
  have li:i < y.1.goals.length:=(List.getElem?_eq_some_iff.mp hz).1
  obtain ⟨H3,dp,K3,s3⟩:=KG.put (K2.kindAt sG p2) (by omega) z
  refine ⟨_,rfl,_,rfl,_,rfl,kd,H3,rfl,dp,⟨_,rfl⟩,?_,sG.trans s3⟩
  rw [List.take_add_one,hz]
  unfold jB at K3 ⊢
  rw [List.foldl_append]
  exact K3
 ·rintro σ G ⟨⟨y5,rfl⟩,KG,sG⟩
  rw [List.length_map,List.take_length] at KG
  exact qv _ eN G (KG.mono (by omega)) fun b u nb e=>sG b u nb (s12 _ _ e)
def spNO (c:Ad):Sp:=fun vs H Q E=>∃ (w:Int) (lo p kd:Addr) (line:Int) (z:Str) (ks:List Str) (n:Nat),vs = [.ref lo,.ref kd]/\H lo = some (.lst [.ref p])/\H p = some (.tup [.int line,.str z])/\KD c w H kd ks n /\
 (z ∉ ks->Rais c E H (.unk line z))/\(z ∈ ks->∀ H',Same H H'->Q .non H')
theorem kX {f:Addr} {fd:FuncData} (F:Fun K "need_outs" "need_outs" eZ f fd) (T:Txt K mg c)  (X_Unknown:XMk P w K mg base 1 "Unknown" c.Unknown ["self", "line", "name"] ["line", "name"]):FnOk P w K mg base (CX2 P w base) 3 f fd ["outs", "kinds"] (spNO c):=by
 refine Fun.okY F sc_need_outs (fun vs H Q E h=>?_) (fun cdv A outer s H vs Q E hr h=>?_)
 ·obtain ⟨w',lo,p,kd,line,z,ks,n,rfl,_⟩:=h
  rfl
 obtain ⟨w',lo,p,kd,line,z,ks,n,rfl,hl,hp,KK,qe,qv⟩:=h
 refine ⟨_,(ae (ay (i:=2) sc_need_outs.nd rfl (Or.inl rfl) jP)
  (aj (cU PassesOwn.leaving rfl (bF (pv 0)) (bu (i:=3) sc_need_outs.nd rfl (Or.inl rfl))
   (ae (aK (au (kQ (bh hr)) (aH cF (pv 3) ah (fun _ _=>rfl)) (pv 1) (by with_unfolding_all rfl))
    (aj (kO X_Unknown (hr.mono (by omega)) rfl (aa (aH cF (pv 3) ah (fun _ _=>rfl)) (aa (aH cF (pv 3) ah (fun _ _=>rfl)) af))))
    az)
   (ae (aK (au (p9 (bh hr)) (aH cF (pv 3) ah (fun _ _=>rfl)) (pv 2) (by with_unfolding_all rfl))
    aZ
    az)
   (aj (iF (bh hr) (pv 2) (aH cF (pv 3) ah (fun _ _=>rfl)) dA rfl))))))),?_⟩
 intro M hM
 have s1:=aq hM (.dK [])
 have mM:upd H M (.dK []) M = some (.dK []):=ac
 have nM:∀ {b u},H b = some u->b ≠ M:=fun e z=>by rw [z,hM] at e; cases e
 refine ⟨_,rfl,lo,rfl,⟨_,SqL.of (s1 _ _ hl)⟩,cL (xs:=[V.ref p]) (fun i σ G=>(∃ y:Option V,σ = [some (.ref lo),some (.ref kd),some (.ref M),y])/\SameX M H G/\(i = 0->G M = some (.dK []))/\(i ≠ 0->z ∈ ks)) ⟨⟨_,rfl⟩,newX hM |>.trans (fun _ _ _ e=>e),fun _=>mM,fun e=>absurd rfl e⟩ (fun _ _ _ _ q=>SqL.of (q.2.1 _ _ (nM hl) hl)) ?_ ?_⟩
 ·rintro i v σ G hi ⟨⟨y,rfl⟩,sG,g0,_⟩
  cases i with
  | succ i=>simp at hi
  | zero =>
   cases hi
   obtain ⟨kvs,ek,lk,kq⟩:=id KK
   have hp1:=sG _ _ (nM hp) hp
   have ek1:=sG _ _ (nM ek) ek
   refine ⟨_,rfl,p,_,_,_,rfl,rfl,SqT.of hp1,rfl,_,rfl,kd,_,rfl,DGet.k (k:=Sum.inr z) ek1,_,rfl,?_⟩
   by_cases zm:z ∈ ks
   ·obtain ⟨k',e1,_⟩:=(kq z).1 zm
    rw [e1]
    refine cu ?_
    refine ⟨_,rfl,p,_,_,_,rfl,rfl,SqT.of hp1,rfl,_,rfl,M,_,rfl,DGet.k (k:=Sum.inr z) (g0 rfl),_,rfl,cu ?_⟩
    refine ⟨_,rfl,_,rfl,p,_,_,_,rfl,rfl,SqT.of hp1,rfl,M,_,rfl,DPut.k (k:=Sum.inr z) (g0 rfl) (by show 0 < _; decide),⟨_,rfl⟩,?_,fun e=>absurd e (by decide),fun _=>zm⟩
    exact fun b u nb e=>by rw [ai nb]; exact sG b u nb e
   ·rw [(kq z).2 zm]
    refine jd ⟨_,rfl,p,_,_,_,rfl,rfl,SqT.of hp1,rfl,_,rfl,p,_,_,_,rfl,rfl,SqT.of hp1,rfl,rfl,(by show 2<=100; decide),fun d hd=>?_⟩
    have sH:Same H G:=fun b u e=>sG b u (nM e) e
    exact qe zm d _ (none_of sH hd) ac (sH.trans (aq hd _))
 ·rintro σ G ⟨⟨y,rfl⟩,sG,_,g1⟩
  exact qv (g1 (by show 1 ≠ 0; decide)) G fun b u e=>sG b u (nM e) e
def j4:List Str->List (RwD × Bool)->ErrD ⊕ List Str
 | ks,[]=>.inr ks
 | ks,y :: r=>match iJ ks y with
  | .inl e=>.inl e
  | .inr ks'=>j4 ks' r
def ci (S:DS):ErrD ⊕ List Str :=
 match j4 (jB [] (S.ins.map (·.2))) S.prs with
 | .inl e=>.inl e
 | .inr ks=>match S.outs.find? fun o=>!ks.contains o.2 with
  | some o=>.inl (.unk o.1 o.2)
  | none=>.inr ks
def spSW (c:Ad):Sp:=fun vs H Q E=>∃ (x:Addr) (S:DS) (Li Lr Lo Lp' Ll M:Addr) (ys:List Lp) (o:Int × Str),vs = [.ref x]/\DrAt c H x S Li Lr Lo Lp' Ll M ys/\Bd S 59/\(S.ins.map (·.2)).Nodup/\(∀ y ∈ S.prs,RwS y)/\S.outs = [o] /\
 (∀ e,ci S = .inl e->Rais c E H e)/\(∀ ks,ci S = .inr ks->∀ kd H',H kd = none->(∃ kvs,H' kd = some (.dK kvs))->Same H H'->Q (.ref kd) H')
theorem qp (ks gs:List Str) (z:Str):jB ks (gs ++ [z]) = z :: jB ks gs:=by unfold jB; rw [List.foldl_append]; rfl
theorem addK_mem {z:Str}:∀ {gs ks:List Str},z ∈ jB ks gs ↔ z ∈ gs\/z ∈ ks
 | [],ks=>by simp [jB]
 | g :: r,ks=>by
  show z ∈ jB (g :: ks) r ↔ _
  rw [addK_mem]
  simp only [List.mem_cons]
  constructor
  ·rintro (h | h | h) <;> simp [h]
  ·rintro ((h | h) | h) <;> simp [h]
theorem jp {f:Addr} {fd:FuncData} (F:Fun K "second_walk" "second_walk" dG f fd) (T:Txt K mg c) (H_need_outs:HasY P w K mg base 3 "need_outs" ["outs", "kinds"] (spNO c)) (H_need_row:HasY P w K mg base 7 "need_row" ["width", "row", "told", "kinds"] (spNR c)):FnOk P w K mg base (CX2 P w base) 8 f fd ["draft"] (spSW c):=by
 refine Fun.okY F sc_second_walk (fun vs H Q E h=>?_) (fun cdv A outer s H vs Q E hr h=>?_)
 ·obtain ⟨x,S,Li,Lr,Lo,Lp',Ll,M,ys,o,rfl,_⟩:=h
  rfl
 obtain ⟨x,S,Li,Lr,Lo,Lp',Ll,M,ys,o,rfl,D,bd,nd,rs,eo,qe,qv⟩:=h
 refine ⟨_,(ae (ay (i:=1) sc_second_walk.nd rfl (Or.inl rfl) jP)
  (ae (cU PassesOwn.leaving rfl (bF (aC (pv 0) rfl)) (bu (i:=2) sc_second_walk.nd rfl (Or.inl rfl))
   (ae (aK (au (p9 (bh hr)) (aH cF (pv 2) ah (fun _ _=>rfl)) (pv 1) (by with_unfolding_all rfl))
    aZ
    az)
   (aj (iF (bh hr) (pv 1) (aH cF (pv 2) ah (fun _ _=>rfl)) (aH cF (pv 2) ah (fun _ _=>rfl)) rfl))))
  (ae (cU PassesOwn.leaving rfl (bF (aC (pv 0) rfl)) (bu (i:=3) sc_second_walk.nd rfl (Or.inl rfl))
   (aj (aV (jK H_need_row (hr.mono (by omega)) rfl (aa (aC (pv 0) rfl) (aa (aH cF (pv 3) ah (fun _ _=>rfl)) (aa (aH cF (pv 3) ah (fun _ _=>rfl)) (aa (pv 1) af))))))))
  (ae (aV (jK H_need_outs (hr.mono (by omega)) rfl (aa (aC (pv 0) rfl) (aa (pv 1) af))))
  (aj (aB (pv 1))))))),?_⟩
 intro kd hk
 have s1:=aq hk (.dK [])
 have k0:KD c S.w (upd H kd (.dK [])) kd [] 0:=⟨[],ac,Nat.le_refl _,fun z=>⟨fun m=>(nomatch m),fun _=>rfl⟩⟩
 have nk:∀ {b u},H b = some u->b ≠ kd:=fun e z=>by rw [z,hk] at e; cases e
 obtain ⟨dx,hx⟩:=D.hx
 obtain ⟨p1,a1,b1⟩:=D.ins
 refine ⟨_,rfl,x,c.Draft,dx,_,_,rfl,s1 _ _ hx,T.cl_Draft,T.na_Draft_inputs,rfl,Li,rfl,⟨_,SqL.of (s1 _ _ a1)⟩,cL (xs:=p1.map V.ref) (fun i σ G=>(∃ y:Option V,σ = [some (.ref x),some (.ref kd),y,none])/\SameX kd H G/\KD c S.w G kd (jB [] ((S.ins.map (·.2)).take i)) i) ⟨⟨_,rfl⟩,newX hk,k0⟩ (fun _ _ _ _ q=>SqL.of (q.2.1 _ _ (nk a1) a1)) ?_ ?_⟩
 ·rintro i v σ G hi ⟨⟨y,rfl⟩,sG,KG⟩
  obtain ⟨pa,hpa,rfl⟩:∃ pa,p1[i]? = some pa/\v = V.ref pa:=by
   rw [List.getElem?_map] at hi
   obtain ⟨z,hz,e⟩:=Option.map_eq_some_iff.mp hi
   exact ⟨z,hz,e.symm⟩
  have li:=(List.getElem?_eq_some_iff.mp hpa).1
  obtain ⟨u,hu⟩:∃ u,S.ins[i]? = some u:=⟨_,List.getElem?_eq_getElem (by rw [<- b1.1]; exact li)⟩
  obtain ⟨k,e1,pk⟩:=b1.2 i pa u hpa hu
  have e1':=bg _ _ e1
  have pk':PlK c H S.w k:=pk.same bg
  have e2:=sG _ _ (nk e1') e1'
  have pkG:PlK c G S.w k:=by obtain ⟨dk,q⟩:=pk'; exact ⟨dk,sG _ _ (nk q) q⟩
  have nz:u.2 ∉ jB [] ((S.ins.map (·.2)).take i):=fun m=>by
   rcases addK_mem.mp m with m | m
   ·obtain ⟨j,hj,ej⟩:=List.getElem_of_mem m
    rw [List.length_take] at hj
    rw [List.getElem_take] at ej
    have hi2:i < (S.ins.map (·.2)).length:=by rw [List.length_map,<- b1.1]; exact li
    have ei:(S.ins.map (·.2))[i] = u.2:=by
     have:(S.ins.map (·.2))[i]? = some u.2:=by rw [List.getElem?_map,hu]; rfl
     rw [List.getElem?_eq_getElem hi2] at this
     injection this
    exact (List.pairwise_iff_getElem.mp nd j i (by omega) hi2 (by omega)) (ej.trans ei.symm)
   ·cases m
  obtain ⟨kvs,ek,lk,kq⟩:=id KG
  have b59:=bd.ins
  have l59:i < 59:=by have:=b1.1; omega
  obtain ⟨H3,dp,K3,s3⟩:=KG.put pkG (by omega) u.2
  refine ⟨_,rfl,pa,_,_,_,rfl,rfl,SqT.of e2,rfl,_,rfl,kd,_,rfl,DGet.k (k:=Sum.inr u.2) ek,_,rfl,?_⟩
  rw [(kq u.2).2 nz]
  refine cu ⟨_,rfl,pa,_,_,_,rfl,rfl,SqT.of e2,rfl,_,rfl,_,rfl,pa,_,_,_,rfl,rfl,SqT.of e2,rfl,kd,H3,rfl,dp,⟨_,rfl⟩,sG.trans s3,?_⟩
  rw [List.take_add_one,List.getElem?_map,hu]
  show KD c S.w H3 kd (jB [] (_ ++ [u.2])) (i + 1)
  rw [qp]
  exact K3
 rintro σ G ⟨⟨y,rfl⟩,sG,KG⟩
 rw [List.length_map,b1.1,List.take_of_length_le (by rw [List.length_map]; exact Nat.le_refl _)] at KG
 have b59:=bd.ins
 have bp:=bd.prs
 obtain ⟨p3,a3,b3⟩:=D.prs
 refine ⟨_,rfl,x,c.Draft,dx,_,_,rfl,sG _ _ (nk hx) hx,T.cl_Draft,T.na_Draft_row_pairs,rfl,Lp',rfl,⟨_,SqL.of (sG _ _ (nk a3) a3)⟩,cL (xs:=p3.map V.ref) (fun i σ G=>∃ ks,(∃ y z:Option V,σ = [some (.ref x),some (.ref kd),y,z])/\SameX kd H G/\KD c S.w G kd ks (59 + 2 * i)/\j4 (jB [] (S.ins.map (·.2))) S.prs = j4 ks (S.prs.drop i)) ⟨_,⟨_,_,rfl⟩,sG,KG.mono (by omega),rfl⟩ (fun _ _ _ _ q=>by obtain ⟨ks,_,sg,_⟩:=q; exact SqL.of (sg _ _ (nk a3) a3)) ?_ ?_⟩
 ·rintro i v σ G hi ⟨ks,⟨y,z,rfl⟩,sG,KG,wk⟩
  obtain ⟨pa,hpa,rfl⟩:∃ pa,p3[i]? = some pa/\v = V.ref pa:=by
   rw [List.getElem?_map] at hi
   obtain ⟨z,hz,e⟩:=Option.map_eq_some_iff.mp hi
   exact ⟨z,hz,e.symm⟩
  have li:=(List.getElem?_eq_some_iff.mp hpa).1
  have li':i < S.prs.length:=by rw [<- b3.1]; exact li
  obtain ⟨u,hu⟩:∃ u,S.prs[i]? = some u:=⟨_,List.getElem?_eq_getElem li'⟩
  have dr:S.prs.drop i = u :: S.prs.drop (i + 1):=by
   rw [List.drop_eq_getElem_cons li']
   congr 1
   rw [List.getElem?_eq_getElem li'] at hu
   injection hu
  obtain ⟨rx,k,e1,rw1,pk⟩:=b3.2 i pa u hpa hu
  have sGk:Same (cC H (aU x Li Lr Lo Lp' Ll M ys)) G:=fun b o e=>sG _ _ (nk (bg _ _ e)) (bg _ _ e)
  have e2:=sGk _ _ e1
  rw [dr,j4] at wk
  refine ⟨_,rfl,x,c.Draft,dx,_,_,rfl,sG _ _ (nk hx) hx,T.cl_Draft,T.na_Draft_width,rfl,_,rfl,pa,_,_,_,rfl,rfl,SqT.of e2,rfl,_,rfl,pa,_,_,_,rfl,rfl,SqT.of e2,rfl,_,rfl,S.w,rx,kd,k,u,ks,59 + 2 * i,rfl,rw1.same sGk,rs u (List.mem_of_getElem? hu),fun e=>(pk e).same sGk,KG,by omega,fun e he=>?_,fun ks' he H' K' s'=>?_⟩
  ·rw [he] at wk
   have es:ci S = .inl e:=by unfold ci; rw [wk]
   have sH:Same H G:=fun b o q=>sG b o (nk q) q
   have:=qe e es
   cases e with
   | form n=>exact fun d H' hd e1 s1=>this d H' (none_of sH hd) e1 (sH.trans s1)
   | much n=>exact fun d H' hd e1 s1=>this d H' (none_of sH hd) e1 (sH.trans s1)
   | unk n z=>exact fun d H' hd e1 s1=>this d H' (none_of sH hd) e1 (sH.trans s1)
  ·rw [he] at wk
   exact ⟨ks',⟨_,_,rfl⟩,sG.trans s',K'.mono (by omega),wk⟩
 rintro σ G ⟨ks,⟨y,z,rfl⟩,sG,KG,wk⟩
 have sH:Same H G:=fun b o q=>sG b o (nk q) q
 have wk':j4 (jB [] (S.ins.map (·.2))) S.prs = .inr ks:=by
  rw [wk,List.drop_eq_nil_of_le (by rw [List.length_map,b3.1]; exact Nat.le_refl _)]
  rfl
 obtain ⟨po,ao,bo⟩:=D.outs
 rw [eo] at bo
 obtain ⟨p,rfl⟩:∃ p,po = [p]:=by
  have:=bo.1
  match po,this with
  | [p],_=>exact ⟨p,rfl⟩
 have op:=bg _ _ (bo.2 0 p o rfl rfl)
 refine ⟨_,rfl,x,c.Draft,dx,_,_,rfl,sH _ _ hx,T.cl_Draft,T.na_Draft_outs,rfl,_,rfl,S.w,Lo,p,kd,o.1,o.2,ks,_,rfl,sH _ _ ao,sH _ _ op,KG,fun zn=>?_,fun zm H' s'=>?_⟩
 ·have es:ci S = .inl (.unk o.1 o.2):=by
   unfold ci
   rw [wk',eo]
   simp [zn]
  exact fun d H' hd e1 s1=>qe _ es d H' (none_of sH hd) e1 (sH.trans s1)
 ·have es:ci S = .inr ks:=by
   unfold ci
   rw [wk',eo]
   simp [zm]
  obtain ⟨kvs,ek,_⟩:=KG
  exact ⟨_,rfl,qv ks es kd H' hk ⟨kvs,s' _ _ ek⟩ (sH.trans s')⟩
theorem kit_ofF {K:Frag} {C D:Addr} (h1:isClsIn K D = true) (h2:typeIn K (.ref D) = some (.type "type")) (h3:mroIn K C (.ref D) = some false) (h4:mroIn K C (.ref C) = some true):kitOne K (.ref C) (.ref D) = some false:=by
 unfold kitOne
 split
 ·rename_i z
  rw [beq_iff_eq] at z
  rw [<- z,h4] at h3
  cases h3
 ·unfold PySem.W.kitCls
  have e:((PySem.W.clsIn K D).isSome && typeIn K (.ref D) == some (.type "type")) = true:=by
   rw [h2]
   have h1':(PySem.W.clsIn K D).isSome = true:=h1
   rw [h1',Bool.true_and]
   exact beq_self_eq_true _
  show (if ((PySem.W.clsIn K D).isSome && typeIn K (.ref D) == some (.type "type")) = true then PySem.W.subIn K (.ref C) (.ref D) else none) = _
  rw [if_pos e]
  exact h3
def spN (sp:Nat->Sp):Nat->Sp
 | 0=>fun _ _ _ _=>False
 | d + 1=>sp (d + 1)
theorem FnOk.void {P:Program} {w:World} {K:Frag} {mg:Str->Option Value} {base:Heap} {CX:CXT} {k:Nat} {f:Addr} {fd:FuncData} {ps:List Str}:FnOk P w K mg base CX k f fd ps (fun _ _ _ _=>False):=⟨fun _ _ _ _ h=>h.elim,fun _ _ _ _ _ _ _ _ _ _ _ _ _ h=>h.elim⟩
theorem hasMono {P:Program} {w:World} {K:Frag} {mg:Str->Option Value} {base:Heap} {j k:Nat} {x:Str} {ps:List Str} {sp:Sp} (h:Has P w K mg base j x ps sp) (i:j<=k):Has P w K mg base k x ps sp:=let ⟨f,fd,a,b,d,e⟩:=h.ex; ⟨f,fd,a.mono i,b,d,e⟩
theorem lC {X:Cx} {K:Frag} (h:X.K = K):gq X (.builtin "isinstance") (fun xs H Q=>∃ x c t cv b,xs = [x,c]/\clsV c = some cv/\TyOf K H x t/\kitOne K t cv = some b/\Q (.bl b) H):=by
 subst h
 exact cM
theorem pW {X:Cx} {K:Frag} {e:Expr} {f:Str} {pos:Pos} {ta:TE} (hK:X.K = K) (he:PE X e ta) (hb:attributeBase e f X.env (eval e X.env) = eval e X.env):PE X (.Attribute e f pos) (tFld K ta f):=by
 subst hK
 exact aC he hb
def spCR (c:Ad) (d:Nat):Sp:=fun vs H Q _=>∃ (l:Addr) (ps:List Addr) (ns:List Int),vs = [.ref l]/\H l = some (.lst (ps.map V.ref))/\Ls (ItAt c (d - 1)) H ps ns/\ns.length<=200/\∀ H',Same H H'->Q (.int ns.sum) H'
theorem Txt.tyRow {K:Frag} {mg:Str->Option Value} {c:Ad} (T:Txt K mg c) {H:Hp} {x dx:Addr} {fs:List (Str × V)} (e:H x = some (.ins c.Row dx fs)):TyOf K H (.ref x) (.ref c.Row):=TyOf.ins e T.cl_Row T.kf_fcA T.kf_og T.kf_ot T.kf_moA
theorem Txt.tyRep {K:Frag} {mg:Str->Option Value} {c:Ad} (T:Txt K mg c) {H:Hp} {x dx:Addr} {fs:List (Str × V)} (e:H x = some (.ins c.Repeat dx fs)):TyOf K H (.ref x) (.ref c.Repeat):=TyOf.ins e T.cl_Repeat T.kf_fcB T.kf_og T.kf_ot T.kf_moB
theorem j8 {ns:List Int} {j:Nat} {n:Int} (h:ns[j]? = some n):ns.take (j + 1) = ns.take j ++ [n]:=by rw [List.take_add_one,h]; rfl
theorem j3 {f:Addr} {fd:FuncData} (F:Fun K "count_rows" "count_rows" dP f fd) (T:Txt K mg c)  {d:Nat} (H_count_rows:Has P w K mg base (d + 1) "count_rows" ["rows"] (spN (spCR c) d)):FnOk P w K mg base CX0 (d + 2) f fd ["rows"] (spCR c (d + 1)):=by
 refine F.ok jL (fun vs H Q E h=>?_) (fun cdv A outer s H vs Q E hr h=>?_)
 ·obtain ⟨l,ps,ns,rfl,_⟩:=h
  rfl
 obtain ⟨l,ps,ns,rfl,hl,ls,ln,q⟩:=h
 refine ⟨_,(aj (aB (aF (call_sum rfl) rfl T.n_sum boot_sum (aa (cR rfl (by first | rfl | with_unfolding_all rfl) (by decide +kernel) rfl (by decide +kernel) rfl (bF (pv 0)) (fun C s2 H2 fp=>(bn (bD (aF (lC (K:=K) rfl) rfl T.n_isinstance boot_isinstance (aa (pv 0) (aa (lw rfl T.g_Repeat) af)))) (aA dI (pW (K:=K) rfl (pv 0) rfl) (aJ H_count_rows (hr.mono (by omega)) rfl (aa (pW (K:=K) rfl (pv 0) rfl) af))) ah))) af)))),?_⟩
 refine ⟨_,rfl,l,rfl,⟨_,SqL.of hl⟩,fun D hD=>?_⟩
 refine dh (xs:=ps.map V.ref) (fun j HJ=>HJ D = some (.lst ((ns.take j).map V.int))/\Same H HJ) ⟨ac,aq hD _⟩ (fun _ _ _ q=>SqL.of (q.2 _ _ hl)) ?_ ?_
 ·rintro j v HJ hv ⟨hj,sJ⟩
  obtain ⟨p,hp,rfl⟩:∃ p,ps[j]? = some p/\v = V.ref p:=by
   rw [List.getElem?_map] at hv
   obtain ⟨z,hz,e⟩:=Option.map_eq_some_iff.mp hv
   exact ⟨z,hz,e.symm⟩
  have jl:=(List.getElem?_eq_some_iff.mp hp).1
  have le:=ls.1
  obtain ⟨n,hn⟩:∃ n,ns[j]? = some n:=⟨_,List.getElem?_eq_getElem (by omega)⟩
  have it:=(ls.2 j p n hp hn).same sJ
  have L300:(300:Nat)<=sizeLine:=by decide
  have fin:∀ G:Hp,Same HJ G->∃ zs,G D = some (.lst zs)/\zs.length < sizeLine/\∃ m',m' < (ps.map V.ref).length - j/\(m' = (ps.map V.ref).length - (j + 1)/\j + 1<=(ps.map V.ref).length/\(upd G D (.lst (zs ++ [V.int n])) D = some (.lst ((ns.take (j + 1)).map V.int))/\Same H (upd G D (.lst (zs ++ [V.int n]))))):=fun G s=>by
   refine ⟨_,s _ _ hj,by rw [List.length_map,List.length_take]; omega,_,(show (ps.map V.ref).length - (j + 1) < _ by rw [List.length_map]; omega),rfl,(by rw [List.length_map]; omega),?_,Same.updL (sJ.trans s) hD⟩
   rw [ac,j8 hn,List.map_append]
   rfl
  have row:(n = 1/\∃ dx fs,HJ p = some (.ins c.Row dx fs))\/∃ d',d = d' + 1/\∃ (dx:Addr) (line t:Int) (l:Addr) (ps:List Addr) (ns:List Int),HJ p = some (.ins c.Repeat dx (pfl line t l))/\HJ l = some (.lst (ps.map V.ref))/\ps.length = ns.length/\(∀ (i:Nat) p m,ps[i]? = some p->ns[i]? = some m->ItAt c d' HJ p m)/\n = t * ns.sum/\0<=t/\t<=100/\ns.length<=200:=by
   cases d with
   | zero=>exact .inl it
   | succ d' =>
    rcases it with h | h
    ·exact .inl h
    ·exact .inr ⟨d',rfl,h⟩
  rcases row with ⟨rfl,dx,fs,e⟩ | ⟨d',rfl,dx,line,t,l2,ps2,ns2,e1,e2,e3,e4,rfl,t1,t2,t3⟩
  ·refine ⟨_,rfl,_,_,_,_,_,rfl,rfl,T.tyRow e,kit_ofF T.kf_if T.kf_tf T.kf_mAB T.kf_mAA,_,rfl,cu ?_⟩
   exact fin HJ fun _ _ z=>z
  ·refine ⟨_,rfl,_,_,_,_,_,rfl,rfl,T.tyRep e1,kit_of T.kf_if T.kf_tf T.kf_mBB,_,rfl,jd ?_⟩
   refine ⟨_,rfl,p,c.Repeat,dx,_,_,rfl,e1,T.cl_Repeat,T.na_Repeat_times,rfl,_,rfl,p,c.Repeat,dx,_,_,rfl,e1,T.cl_Repeat,T.na_Repeat_rows,rfl,l2,ps2,ns2,rfl,e2,⟨e3,e4⟩,t3,fun G s=>?_⟩
   exact ⟨_,_,rfl,rfl,.inl ⟨by omega,by omega⟩,fin G s⟩
 ·rintro HJ ⟨hj,sJ⟩
  rw [List.length_map,ls.1,List.take_length] at hj
  exact ⟨D,ns,rfl,SqL.of hj,q HJ sJ⟩
def gfl (w:Int) (li Lr lo kd:Addr) (z:Str):List (Str × V):=[("width",.int w),("inputs",.ref li),("rows",.ref Lr),("outs",.ref lo),("kinds",.ref kd),("source",.str z)]
def spPrI (c:Ad):Sp:=fun vs H Q _=>∃ (g gx x:Addr) (S:DS) (Li Lr Lo Lp' Ll M:Addr) (ys:List Lp) (kd:Addr) (z:Str),vs = [.ref g,.ref x,.ref kd,.str z]/\H g = some (.ins c.Program gx [])/\DrAt c H x S Li Lr Lo Lp' Ll M ys/\S.ins.length<=200/\S.outs.length<=200 /\
 ∀ li lo H',H' g = some (.ins c.Program gx (gfl S.w li Lr lo kd z))->SameX g H H'->Q .non H'
theorem bj {x:Addr} {H G:Hp} {D:Addr} {o:HO} (s:SameX x H G) (hD:H D = none):SameX x H (upd G D o):=fun b u nb e=>by rw [ai (fun z=>by rw [z,hD] at e; cases e)]; exact s b u nb e
theorem fb {f:Addr} {fd:FuncData} (F:Fun K "__init__" "Program.__init__" bN f fd) (T:Txt K mg c) :FnOk P w K mg base CX0 1 f fd ["self", "draft", "kinds", "source"] (spPrI c):=by
 refine F.ok fu (fun vs H Q E h=>?_) (fun cdv A outer s H vs Q E hr h=>?_)
 ·obtain ⟨g,gx,x,S,Li,Lr,Lo,Lp',Ll,M,ys,kd,z,rfl,_⟩:=h
  rfl
 obtain ⟨g,gx,x,S,Li,Lr,Lo,Lp',Ll,M,ys,kd,z,rfl,hg,D,li_,lo_,q⟩:=h
 refine ⟨_,(ae (bf (pv 0) (aC (pv 1) rfl) rfl)
  (ae (bf (pv 0) (cR rfl (by first | rfl | with_unfolding_all rfl) (by decide +kernel) rfl (by decide +kernel) rfl (bF (aC (pv 1) rfl)) (fun C s2 H2 fp=>(bq (aa (aH (jc (K:=K) rfl) (pv 0) ah (fun _ _=>rfl)) (aa (aH (jc (K:=K) rfl) (pv 0) ah (fun _ _=>rfl)) af))))) rfl)
  (ae (bf (pv 0) (aC (pv 1) rfl) rfl)
  (ae (bf (pv 0) (cR rfl (by first | rfl | with_unfolding_all rfl) (by decide +kernel) rfl (by decide +kernel) rfl (bF (aC (pv 1) rfl)) (fun C s2 H2 fp=>(aH (jc (K:=K) rfl) (pv 0) ah (fun _ _=>rfl)))) rfl)
  (ae (bf (pv 0) (pv 2) rfl)
  (aj (bf (pv 0) (pv 3) rfl))))))),?_⟩
 obtain ⟨dx,hx⟩:=D.hx
 obtain ⟨p1,a1,b1⟩:=D.ins
 obtain ⟨p2,a2,b2⟩:=D.outs
 have L300:(300:Nat)<=sizeLine:=by decide
 have nx:∀ {b u},H b = some u->(∀ C d fs,u ≠ .ins C d fs)->b ≠ g:=fun e n z=>by rw [z,hg] at e; injection e with e; exact n _ _ _ e.symm
 have xg:x ≠ g:=fun z=>by
  rw [z,hg] at hx
  injection hx with e
  injection e with _ _ e
  exact absurd e (by unfold dfl; exact nofun)
 refine ⟨_,rfl,x,c.Draft,dx,_,_,rfl,hx,T.cl_Draft,T.na_Draft_width,rfl,_,rfl,g,c.Program,gx,_,rfl,hg,T.cl_Program,T.na_Program_width,(by show 0 < 1000; decide),?_⟩
 have s1:SameX g H (upd H g (.ins c.Program gx (cV "width" (.int S.w) []))):=updX
 have g1:upd H g (.ins c.Program gx (cV "width" (.int S.w) [])) g = some (.ins c.Program gx (cV "width" (.int S.w) [])):=ac
 have ag:∀ {b:Addr} {xs:List V},H b = some (.lst xs)->b ≠ g:=fun e=>nx e nofun
 have tg:∀ {b:Addr} {xs:List V},H b = some (.tup xs)->b ≠ g:=fun e=>nx e nofun
 have nn:∀ {G:Hp} {b o},SameX g H G->G g = some o->G b = none->H b = none/\b ≠ g:=fun {G b o} s e eb=>by
  have n:b ≠ g:=fun z=>by rw [z,e] at eb; cases eb
  refine ⟨?_,n⟩
  cases q:H b with
  | none=>rfl
  | some u=>rw [s b u n q] at eb; cases eb
 generalize upd H g (.ins c.Program gx (cV "width" (.int S.w) [])) = H1 at s1 g1 ⊢
 refine ⟨_,rfl,x,c.Draft,dx,_,_,rfl,s1 _ _ xg hx,T.cl_Draft,T.na_Draft_inputs,rfl,Li,rfl,⟨_,SqL.of (s1 _ _ (ag a1) a1)⟩,fun D1 hD1=>?_⟩
 obtain ⟨D10,D1g⟩:=nn s1 g1 hD1
 refine dh (xs:=p1.map V.ref) (fun j HJ=>(∃ zs,HJ D1 = some (.lst zs)/\zs.length = j)/\SameX g H HJ/\HJ g = some (.ins c.Program gx (cV "width" (.int S.w) []))) ⟨⟨[],ac,rfl⟩,bj s1 D10,by rw [ai (Ne.symm D1g)]; exact g1⟩ (fun _ _ _ q=>SqL.of (q.2.1 _ _ (ag a1) a1)) ?_ ?_
 ·rintro j v HJ hv ⟨⟨zs,hj,lz⟩,sJ,gJ⟩
  obtain ⟨p,hp,rfl⟩:∃ p,p1[j]? = some p/\v = V.ref p:=by
   rw [List.getElem?_map] at hv
   obtain ⟨z,hz,e⟩:=Option.map_eq_some_iff.mp hv
   exact ⟨z,hz,e.symm⟩
  have jl:=(List.getElem?_eq_some_iff.mp hp).1
  have le:=b1.1
  obtain ⟨y,hy⟩:∃ y,S.ins[j]? = some y:=⟨_,List.getElem?_eq_getElem (by omega)⟩
  obtain ⟨k,e1,_⟩:=b1.2 j p y hp hy
  have e1':=bg _ _ e1
  have e2:=sJ _ _ (tg e1') e1'
  refine ⟨_,rfl,p,_,_,_,rfl,rfl,SqT.of e2,rfl,_,rfl,p,_,_,_,rfl,rfl,SqT.of e2,rfl,(by show 2<=sizeLine; decide),fun t ht=>?_⟩
  obtain ⟨t0,tn⟩:=nn sJ gJ ht
  have nD:D1 ≠ t:=fun z=>by rw [<- z,hj] at ht; cases ht
  refine ⟨zs,by rw [ai nD]; exact hj,by omega,_,(show (p1.map V.ref).length - (j + 1) < _ by rw [List.length_map]; omega),rfl,(by rw [List.length_map]; omega),⟨_,ac,by rw [List.length_append,lz]; rfl⟩,bj (bj sJ t0) D10,?_⟩
  rw [ai (Ne.symm D1g),ai (Ne.symm tn)]
  exact gJ
 rintro HJ ⟨_,sJ,gJ⟩
 refine ⟨_,rfl,g,c.Program,gx,_,rfl,gJ,T.cl_Program,T.na_Program_inputs,(by show 1 < 1000; decide),?_⟩
 have s2:SameX g H (upd HJ g (.ins c.Program gx (cV "inputs" (.ref D1) (cV "width" (.int S.w) [])))):=sJ.trans updX
 have g2:upd HJ g (.ins c.Program gx (cV "inputs" (.ref D1) (cV "width" (.int S.w) []))) g = some (.ins c.Program gx (cV "inputs" (.ref D1) (cV "width" (.int S.w) []))):=ac
 generalize upd HJ g (.ins c.Program gx (cV "inputs" (.ref D1) (cV "width" (.int S.w) []))) = H2 at s2 g2 ⊢
 refine ⟨_,rfl,x,c.Draft,dx,_,_,rfl,s2 _ _ xg hx,T.cl_Draft,T.na_Draft_rows,rfl,_,rfl,g,c.Program,gx,_,rfl,g2,T.cl_Program,T.na_Program_rows,(by show 2 < 1000; decide),?_⟩
 have s3:SameX g H (upd H2 g (.ins c.Program gx (cV "rows" (.ref Lr) (cV "inputs" (.ref D1) (cV "width" (.int S.w) []))))):=s2.trans updX
 have g3:upd H2 g (.ins c.Program gx (cV "rows" (.ref Lr) (cV "inputs" (.ref D1) (cV "width" (.int S.w) [])))) g = some (.ins c.Program gx (cV "rows" (.ref Lr) (cV "inputs" (.ref D1) (cV "width" (.int S.w) [])))):=ac
 generalize upd H2 g (.ins c.Program gx (cV "rows" (.ref Lr) (cV "inputs" (.ref D1) (cV "width" (.int S.w) [])))) = H3 at s3 g3 ⊢
 refine ⟨_,rfl,x,c.Draft,dx,_,_,rfl,s3 _ _ xg hx,T.cl_Draft,T.na_Draft_outs,rfl,Lo,rfl,⟨_,SqL.of (s3 _ _ (ag a2) a2)⟩,fun D2 hD2=>?_⟩
 obtain ⟨D20,D2g⟩:=nn s3 g3 hD2
 refine dh (xs:=p2.map V.ref) (fun j HJ=>(∃ zs,HJ D2 = some (.lst zs)/\zs.length = j)/\SameX g H HJ/\HJ g = some (.ins c.Program gx (cV "rows" (.ref Lr) (cV "inputs" (.ref D1) (cV "width" (.int S.w) []))))) ⟨⟨[],ac,rfl⟩,bj s3 D20,by rw [ai (Ne.symm D2g)]; exact g3⟩ (fun _ _ _ q=>SqL.of (q.2.1 _ _ (ag a2) a2)) ?_ ?_
 ·rintro j v HJ hv ⟨⟨zs,hj,lz⟩,sJ,gJ⟩
  obtain ⟨p,hp,rfl⟩:∃ p,p2[j]? = some p/\v = V.ref p:=by
   rw [List.getElem?_map] at hv
   obtain ⟨z,hz,e⟩:=Option.map_eq_some_iff.mp hv
   exact ⟨z,hz,e.symm⟩
  have jl:=(List.getElem?_eq_some_iff.mp hp).1
  have le:=b2.1
  obtain ⟨y,hy⟩:∃ y,S.outs[j]? = some y:=⟨_,List.getElem?_eq_getElem (by omega)⟩
  have e1':=bg _ _ (b2.2 j p y hp hy)
  have e2:=sJ _ _ (tg e1') e1'
  refine ⟨_,rfl,p,_,_,_,rfl,rfl,SqT.of e2,rfl,zs,hj,by omega,_,(show (p2.map V.ref).length - (j + 1) < _ by rw [List.length_map]; omega),rfl,(by rw [List.length_map]; omega),⟨_,ac,by rw [List.length_append,lz]; rfl⟩,bj sJ D20,?_⟩
  rw [ai (Ne.symm D2g)]
  exact gJ
 rintro HJ2 ⟨_,sJ2,gJ2⟩
 refine ⟨_,rfl,g,c.Program,gx,_,rfl,gJ2,T.cl_Program,T.na_Program_outs,(by show 3 < 1000; decide),?_⟩
 refine ⟨_,rfl,_,rfl,g,c.Program,gx,_,rfl,ac,T.cl_Program,T.na_Program_kinds,(by show 4 < 1000; decide),?_⟩
 refine ⟨_,rfl,_,rfl,g,c.Program,gx,_,rfl,ac,T.cl_Program,T.na_Program_source,(by show 5 < 1000; decide),?_⟩
 refine q D1 D2 _ ac fun b u nb e=>?_
 rw [ai nb,ai nb,ai nb]
 exact sJ2 b u nb e
def spRun (c:Ad):Sp:=fun vs H Q _=>∃ (g gx:Addr) (w:Int) (li Lr lo kd:Addr) (z:Str) (ps:List Addr) (ns:List Int),vs = [.ref g]/\H g = some (.ins c.Program gx (gfl w li Lr lo kd z))/\H Lr = some (.lst (ps.map V.ref))/\Ls (ItAt c 5) H ps ns/\ns.length<=200/\∀ H',Same H H'->Q (.int ns.sum) H'
theorem eY {f:Addr} {fd:FuncData} (F:Fun K "rows_run" "Program.rows_run" bO f fd) (T:Txt K mg c) (H_count_rows:Has P w K mg base 7 "count_rows" ["rows"] (spCR c 6)):FnOk P w K mg base CX0 8 f fd ["self"] (spRun c):=by
 refine F.ok fD (fun vs H Q E h=>?_) (fun cdv A outer s H vs Q E hr h=>?_)
 ·obtain ⟨g,gx,w',li,Lr,lo,kd,z,ps,ns,rfl,_⟩:=h
  rfl
 obtain ⟨g,gx,w',li,Lr,lo,kd,z,ps,ns,rfl,hg,hl,ls,ln,q⟩:=h
 refine ⟨_,(aj (aB (aJ H_count_rows (hr.mono (by omega)) rfl (aa (aC (pv 0) rfl) af)))),?_⟩
 exact ⟨_,rfl,g,c.Program,gx,_,_,rfl,hg,T.cl_Program,T.na_Program_rows,rfl,Lr,ps,ns,rfl,hl,ls,ln,q⟩
theorem row_rws {L:LnD} {line:Int} {y:RwD × Bool} (h:L.row line = some y):RwS y:=by
 cases L with
 | cp g a=>cases h; exact ⟨by show 1<=2; decide,.inl ⟨rfl,.inl rfl,a,rfl⟩⟩
 | st g z=>cases h; exact ⟨by show 1<=2; decide,.inr ⟨rfl,rfl,rfl⟩⟩
 | pt g h2 a=>cases h; exact ⟨by show 2<=2; decide,.inl ⟨rfl,.inr rfl,a,rfl⟩⟩
 | inn z=>cases h
 | out z=>cases h
 | rep z=>cases h
 | fin=>cases h
 | bad g=>cases h
theorem step_rws {S S':DS} {line:Int} {L:LnD} (h:∀ y ∈ S.prs,RwS y) (e:db S line L = some S'):∀ y ∈ S'.prs,RwS y:=by
 have rw_:jh S (L.row line) = some S'->∀ y ∈ S'.prs,RwS y:=fun e=>by
  unfold jh at e
  cases q:L.row line with
  | none=>rw [q] at e; cases e
  | some y =>
   rw [q] at e
   dsimp only at e
   split at e
   ·cases e
    intro u hu
    rcases List.mem_append.mp (show u ∈ S.prs ++ [y] from hu) with hu | hu
    ·exact h u hu
    ·cases List.mem_singleton.mp hu; exact row_rws q
   ·cases e
 cases L with
 | inn z =>
  change (if (S.top.isEmpty && S.lps.isEmpty && S.outs.isEmpty) = true then some (S.inn (line,z)) else none) = some S' at e
  split at e
  ·cases e; exact h
  ·cases e
 | out z =>
  change (if S.lps.isEmpty = true then some (S.out (line,z)) else none) = some S' at e
  split at e
  ·cases e; exact h
  ·cases e
 | rep z =>
  change (if S.outs.isEmpty = true then some (S.rep (nV z)) else none) = some S' at e
  split at e
  ·cases e; exact h
  ·cases e
 | fin =>
  change (match S.lps.getLast? with | none=>none | some p=>some (S.close S.lps.dropLast (p.1 * p.2.sum))) = some S' at e
  cases q:S.lps.getLast? with
  | none=>rw [q] at e; cases e
  | some p=>rw [q] at e; cases e; exact h
 | bad g=>exact rw_ e
 | cp g a=>exact rw_ e
 | st g z=>exact rw_ e
 | pt g h2 a=>exact rw_ e
theorem nN:∀ {ls:List LnD} {S S':DS} {line:Int},(∀ y ∈ S.prs,RwS y)->bI S line ls = .inr S'->∀ y ∈ S'.prs,RwS y
 | [],_,_,_,h,e=>by cases e; exact h
 | L :: r,S,S',line,h,e=>by
  rw [bI] at e
  cases q:db S line L with
  | none=>rw [q] at e; cases e
  | some S1 =>
   rw [q] at e
   dsimp only at e
   split at e
   ·cases e
   ·exact nN (step_rws h q) e
theorem cX {w:Int} {ls:List LnD} {S:DS} (h:cr w ls = .inr S):bI (DS0 w) 1 ls = .inr S:=by
 unfold cr at h
 cases q:bI (DS0 w) 1 ls with
 | inl e=>rw [q] at h; cases h
 | inr S1 =>
  rw [q] at h
  dsimp only at h
  split at h
  ·cases h; rfl
  ·cases h
structure PrgOk (wz:Str) (ls:List LnD):Prop where
 num:Num wz
 w1:4<=nV wz
 w2:nV wz<=32
 lk:∀ L ∈ ls,LnOk L
 ll:ls.length<=100
 fi:dN (DS0 (nV wz)) 1 ls
 io:∀ S,cr (nV wz) ls = .inr S->(S.ins.map (·.2)).Nodup/\∃ o,S.outs = [o]
def bw (w:Int) (ls:List LnD):ErrD ⊕ Int :=
 match cr w ls with
 | .inl e=>.inl e
 | .inr S=>match ci S with
  | .inl e=>.inl e
  | .inr _=>if 600 < S.top.sum then .inl (.much (-1)) else .inr S.top.sum
def PgAt (c:Ad) (H:Hp) (g:Addr) (n:Int):Prop:=∃ (gx:Addr) (w:Int) (li Lr lo kd:Addr) (z:Str) (ps:List Addr) (ns:List Int),H g = some (.ins c.Program gx (gfl w li Lr lo kd z))/\H Lr = some (.lst (ps.map V.ref))/\Ls (ItAt c 5) H ps ns/\ns.length<=200/\ns.sum = n
theorem Rais.back {c:Ad} {E:XK} {H H1:Hp} (s:Same H H1):∀ {e:ErrD},Rais c E H e->Rais c E H1 e
 | .form _,h=>fun d H' hd e1 s1=>h d H' (none_of s hd) e1 (s.trans s1)
 | .much _,h=>fun d H' hd e1 s1=>h d H' (none_of s hd) e1 (s.trans s1)
 | .unk _ _,h=>fun d H' hd e1 s1=>h d H' (none_of s hd) e1 (s.trans s1)
def spRP (c:Ad):Sp:=fun vs H Q E=>∃ (wz:Str) (ls:List LnD),vs = [.str (lZ wz ls)]/\PrgOk wz ls/\(∀ e,bw (nV wz) ls = .inl e->Rais c E H e)/\(∀ n,bw (nV wz) ls = .inr n->∀ g H',PgAt c H' g n->Same H H'->Q (.ref g) H')
theorem iE {f:Addr} {fd:FuncData} (F:Fun K "read_program" "read_program" c8 f fd) (T:Txt K mg c) (H_first_walk:HasY P w K mg base 11 "first_walk" ["text"] (spFW c)) (H_second_walk:HasY P w K mg base 8 "second_walk" ["draft"] (spSW c)) (H_count_rows:Has P w K mg base 7 "count_rows" ["rows"] (spCR c 6)) (C_Program:CHas P w K mg base 1 c.Program "Program" ["self", "draft", "kinds", "source"] (spPrI c)) (X_TooMuch:XHas P w K mg base 1 "TooMuch" c.TooMuch "line"):FnOk P w K mg base (CX2 P w base) 12 f fd ["text"] (spRP c):=by
 refine Fun.okY F sc_read_program (fun vs H Q E h=>?_) (fun cdv A outer s H vs Q E hr h=>?_)
 ·obtain ⟨wz,ls,rfl,_⟩:=h
  rfl
 obtain ⟨wz,ls,rfl,ok,qe,qv⟩:=h
 refine ⟨_,(ae (ay (i:=1) sc_read_program.nd rfl (Or.inl rfl) (jK H_first_walk (hr.mono (by omega)) rfl (aa (pv 0) af)))
  (ae (ay (i:=2) sc_read_program.nd rfl (Or.inl rfl) (jK H_second_walk (hr.mono (by omega)) rfl (aa (pv 1) af)))
  (ae (aK (au fq (aJ H_count_rows (hr.mono (by omega)) rfl (aa (aC (pv 1) rfl) af)) (gg rfl T.g_MOST_ROWS) (aw _))
   (aj (dg X_TooMuch (hr.mono (by omega)) rfl (aa (jj eX ah) af)))
   az)
  (aj (aB (jy C_Program (hr.mono (by omega)) rfl (aa (pv 1) (aa (pv 2) (aa (pv 0) af))))))))),?_⟩
 refine ⟨_,rfl,wz,ls,rfl,ok.num,ok.w1,ok.w2,ok.lk,ok.ll,ok.fi,fun e he=>qe e (by unfold bw; rw [he]),fun S hS x Li Lr Lo Lp' Ll M ys H1 D bd lz new s1=>?_⟩
 obtain ⟨nd,o,eo⟩:=ok.io S hS
 have rs:=nN (fun y hy=>absurd (show y ∈ [] from hy) List.not_mem_nil) (cX hS)
 refine ⟨_,rfl,x,S,Li,Lr,Lo,Lp',Ll,M,ys,o,rfl,D,bd,nd,rs,eo,fun e he=>(qe e (by unfold bw; rw [hS]; dsimp only; rw [he])).back s1,fun ks hks kd H2 hkd ek s2=>?_⟩
 have s12:=s1.trans s2
 have D2:=D.same s2
 obtain ⟨dx,hx⟩:=D2.hx
 have yz:ys = []:=by
  have:=D2.lps.2
  rw [lz] at this
  exact List.map_eq_nil_iff.mp this
 subst yz
 obtain ⟨ps,ar,lr⟩:=D2.lv
 have lr':Ls (ItAt c 5) H2 ps S.top:=lr.mono fun _ _ q=>q.same bg
 have er:bw (nV wz) ls = if 600 < S.top.sum then .inl (.much (-1)) else .inr S.top.sum:=by unfold bw; rw [hS]; dsimp only; rw [hks]
 have lt:=Nat.le_trans bd.top (show 59<=200 by decide)
 refine ⟨_,rfl,x,c.Draft,dx,_,_,rfl,hx,T.cl_Draft,T.na_Draft_rows,rfl,Lr,ps,S.top,rfl,ar,lr',lt,fun H3 s3=>?_⟩
 have s13:=s12.trans s3
 by_cases c6:600 < S.top.sum
 ·rw [if_pos c6] at er
  exact ⟨_,_,rfl,rfl,_,rfl,cP c6 ⟨_,rfl,_,rfl,fun d hd=>qe _ er d _ (none_of s13 hd) ac (s13.trans (aq hd _))⟩⟩
 rw [if_neg c6] at er
 have D3:=D2.same s3
 refine ⟨_,_,rfl,rfl,_,rfl,aN c6 ?_⟩
 refine ⟨_,rfl,_,rfl,_,rfl,fun g gx hg hgx hne=>⟨g,gx,x,S,Li,Lr,Lo,Lp',Ll,M,[],kd,_,rfl,ac,D3.same (aX hg hgx fun _ _ _ q=>q),Nat.le_trans bd.ins (by decide),Nat.le_trans bd.outs (by decide),fun li lo H4 hg4 sx=>⟨rfl,?_⟩⟩⟩
 have s4:=aX hg hgx sx
 exact qv _ er g H4 ⟨gx,S.w,li,Lr,lo,kd,_,ps,S.top,hg4,s4 _ _ (s3 _ _ ar),lr'.mono fun _ _ q=>q.same (s3.trans s4),lt,rfl⟩ (s13.trans s4)
theorem pe_bmK {X:Cx} {K:Frag} {o e:Expr} {es:List Expr} {to:TE} {t:TA} {name:Str} {apos cpos:Pos} {T id:String} {r:V->List V->Hp->VK->Prop} (hK:X.K = K) (pa:PlainAttrs T) (slot:Slot T name id) (hty:typeOf (.builtin id) = pure (.type "method_descriptor")) (hm:MtR X id r) (ho:PE X o to) (ha:PA X (e :: es) t)
  (hbase:attributeBase o name X.env (eval o X.env) = eval o X.env:=by rfl)
  (hfew:((backTo cpos (starEach (e :: es) X.env)).all (fun x=>!x.1) && (backToKw cpos (keywordEach [] X.env)).all (fun x=>x.1.isSome)
   && decide ((e :: es).length + ([]:List Keyword).length + (if ([]:List Keyword).isEmpty then 0 else 1) < 30)) = true:=by rfl)
  (hline:(apos.endLine == cpos.line) = true:=by rfl) (hs:starEach (e :: es) X.env = (false,eval e X.env) :: starEach es X.env:=by rfl) (hplain:(backTo cpos (starEach es X.env)).any (·.1) = false:=by rfl) :
  PE X (.Call (.Attribute o name apos) (e :: es) [] cpos) (tBM K T r to t):=by
 subst hK
 exact cK pa slot hty hm ho ha hbase hfew hline hs hplain
theorem mt_joinK {X:Cx} {K:Frag} (hK:X.K = K):MtM X "str.join" (rJoin K):=by
 subst hK
 exact jW
def TVal (G:Hp) (v:V):ErrD ⊕ Int->Prop
 | .inr _=>v = .non
 | .inl (.form n)=>∃ t,v = .ref t/\G t = some (.tup [.str "form",.int n])
 | .inl (.much n)=>∃ t,v = .ref t/\G t = some (.tup [.str "much",.int n])
 | .inl (.unk n _)=>∃ t,v = .ref t/\G t = some (.tup [.str "unknown",.int n])
theorem Txt.exP {K:Frag} {mg:Str->Option Value} {c:Ad} (T:Txt K mg c):ExF K c.NoProgram/\ExF K c.TooMuch/\ExF K c.Unknown:=⟨⟨T.kf_ga_NoProgram,T.kf_gn_NoProgram,T.kf_gc_NoProgram,T.kf_mo_NoProgram,T.kf_mb_NoProgram⟩,⟨T.kf_ga_TooMuch,T.kf_gn_TooMuch,T.kf_gc_TooMuch,T.kf_mo_TooMuch,T.kf_mb_TooMuch⟩,⟨T.kf_ga_Unknown,T.kf_gn_Unknown,T.kf_gc_Unknown,T.kf_mo_Unknown,T.kf_mb_Unknown⟩⟩
def ax (wz:Str) (ls:List LnD):List Str:=wdT wz :: ls.map lnT
theorem qd {k:Nat}:∀ {ps:List Str},(∀ p ∈ ps,p.length<=k)->(ps.map (·.length)).sum<=ps.length * k
 | [],_=>Nat.zero_le _
 | p :: r,h=>by
  have h1:=h p (List.mem_cons_self ..)
  have h2:=qd (ps:=r) fun q hq=>h q (List.mem_cons_of_mem _ hq)
  simp only [List.map_cons,List.sum_cons,List.length_cons]
  rw [Nat.succ_mul]
  omega
def ft:Sp:=fun vs H Q _=>∃ (l:Addr) (wz:Str) (ls:List LnD),vs = [.ref l]/\H l = some (.lst ((ax wz ls).map V.str))/\PrgOk wz ls/\∀ v H',TVal H' v (bw (nV wz) ls)->Same H H'->Q v H'
theorem kR {f:Addr} {fd:FuncData} (F:Fun K "_law_told" "_law_told" fB f fd) (T:Txt K mg c) (H_read_program:HasY P w K mg base 12 "read_program" ["text"] (spRP c)):FnOk P w K mg base CX0 13 f fd ["_law_lines"] ft:=by
 refine F.ok sc__law_told (fun vs H Q E h=>?_) (fun cdv A outer s H vs Q E hr h=>?_)
 ·obtain ⟨l,wz,ls,rfl,_⟩:=h
  rfl
 obtain ⟨l,wz,ls,rfl,hl,ok,q⟩:=h
 refine ⟨_,(ae (ay (i:=1) sc__law_told.nd rfl (Or.inl rfl) aR)
  (ae (ps_tryYL (j:=2) (fun pins E=>(aj (aV (pe_fnYT H_read_program (hr.mono (by omega)) rfl (aa (pe_bmK (K:=K) rfl PySem.F.plainAttrs_str PySem.F.slot_str_join PySem.F.type_str_join (mt_joinK (K:=K) rfl) av (aa (pv 0) af)) af))))) sc__law_told.nd rfl rfl (.cons rfl T.g_NoProgram (fun a oe hc=>(aj (ay (i:=1) sc__law_told.nd rfl (Or.inl rfl) (bq (aa av (aa (pe_xf (a:=a) (oe:=oe) (List.mem_cons_self ..) (pv 2) rfl) af)))))) (.cons rfl T.g_TooMuch (fun a oe hc=>(aj (ay (i:=1) sc__law_told.nd rfl (Or.inl rfl) (bq (aa av (aa (pe_xf (a:=a) (oe:=oe) (List.mem_cons_self ..) (pv 2) rfl) af)))))) (.cons rfl T.g_Unknown (fun a oe hc=>(aj (ay (i:=1) sc__law_told.nd rfl (Or.inl rfl) (bq (aa av (aa (pe_xf (a:=a) (oe:=oe) (List.mem_cons_self ..) (pv 2) rfl) af)))))) .nil))))
  (aj (aB (pv 1))))),?_⟩
 obtain ⟨x1,x2,x3⟩:=T.exP
 have po:=ip ok.num ok.lk
 have bnd:((ax wz ls).map (·.length)).sum + (ax wz ls).length * (Str.ofString "\n").length<=16777216:=by
  have h1:=qd (k:=66) (ps:=ax wz ls) fun p hp=>(po p hp).2
  have h2:(ax wz ls).length = ls.length + 1:=by unfold ax; rw [List.length_cons,List.length_map]
  have h3:(Str.ofString "\n").length = 1:=by decide
  have h4:=ok.ll
  rw [h2] at h1 ⊢
  rw [h3]
  omega
 refine ⟨eW,_,rfl,Str.ofString "\n",l,ax wz ls,rfl,rfl,SqL.of hl,bnd,?_⟩
 refine ⟨wz,ls,rfl,ok,fun e he=>?_,fun n hn g H' pg s'=>⟨_,rfl,q .non H' (by rw [hn]; rfl) s'⟩⟩
 rw [he] at q
 have k2:2<=sizeLine:=by decide
 cases e with
 | form n =>
  intro d H' hd e1 s1
  refine Or.inl ⟨qF T.kf_if_NoProgram T.kf_tf_NoProgram T.kf_mf_NoProgram T.kf_wb_NoProgram,fun a oe hcl hdi hnc ha=>?_⟩
  refine ⟨_,rfl,c.NoProgram,d,_,_,rfl,hcl,hdi,hnc,x1,T.kf_hd_NoProgram,T.kf_nf_NoProgram,e1,rfl,k2,fun t ht=>?_⟩
  exact ⟨_,rfl,q (.ref t) _ ⟨t,rfl,ac⟩ (s1.trans (aq ht _))⟩
 | much n =>
  intro d H' hd e1 s1
  refine Or.inr ⟨iB T.kf_if_NoProgram T.kf_tf_NoProgram T.kf_m_TooMuch_NoProgram T.kf_wb_NoProgram,Or.inl ⟨qF T.kf_if_TooMuch T.kf_tf_TooMuch T.kf_mf_TooMuch T.kf_wb_TooMuch,fun a oe hcl hdi hnc ha=>?_⟩⟩
  refine ⟨_,rfl,c.TooMuch,d,_,_,rfl,hcl,hdi,hnc,x2,T.kf_hd_TooMuch,T.kf_nf_TooMuch,e1,rfl,k2,fun t ht=>?_⟩
  exact ⟨_,rfl,q (.ref t) _ ⟨t,rfl,ac⟩ (s1.trans (aq ht _))⟩
 | unk n z =>
  intro d H' hd e1 s1
  refine Or.inr ⟨iB T.kf_if_NoProgram T.kf_tf_NoProgram T.kf_m_Unknown_NoProgram T.kf_wb_NoProgram,Or.inr ⟨iB T.kf_if_TooMuch T.kf_tf_TooMuch T.kf_m_Unknown_TooMuch T.kf_wb_TooMuch,Or.inl ⟨qF T.kf_if_Unknown T.kf_tf_Unknown T.kf_mf_Unknown T.kf_wb_Unknown,fun a oe hcl hdi hnc ha=>?_⟩⟩⟩
  refine ⟨_,rfl,c.Unknown,d,_,_,rfl,hcl,hdi,hnc,x3,T.kf_hd_Unknown,T.kf_nf_Unknown,e1,rfl,k2,fun t ht=>?_⟩
  exact ⟨_,rfl,q (.ref t) _ ⟨t,rfl,ac⟩ (s1.trans (aq ht _))⟩
theorem iQ {X:Cx} {d:Nat} (hu:X.A.units + d + 1 < cLine):OpR X (compareOp .Eq) (fun x y H Q=>rEq x y H Q\/lP X.K d false x y H Q):=op_eq.or (pL hu)
theorem jM {X:Cx} {d:Nat} (hu:X.A.units + d + 1 < cLine):OpR X (compareOp .NotEq) (fun x y H Q=>rNe x y H Q\/lP X.K d true x y H Q):=op_ne.or (op_neTD hu)
def vd:ErrD ⊕ Int->Nat × Int
 | .inr n=>(0,n)
 | .inl (.form n)=>(1,n)
 | .inl (.much n)=>(2,n)
 | .inl (.unk n _)=>(3,n)
def inN:List LnD->List Str
 | []=>[]
 | .inn z :: r=>z :: inN r
 | _ :: r=>inN r
def h8:List LnD->Nat
 | []=>0
 | .out _ :: r=>h8 r + 1
 | _ :: r=>h8 r
theorem step_io {S S':DS} {n:Int} {L:LnD} (e:db S n L = some S'):S'.ins.map (·.2) = S.ins.map (·.2) ++ inN [L]/\S'.outs.length = S.outs.length + h8 [L]:=by
 have rw_:jh S (L.row n) = some S'->S'.ins.map (·.2) = S.ins.map (·.2) ++ []/\S'.outs.length = S.outs.length + 0:=fun e=>by
  unfold jh at e
  cases q:L.row n with
  | none=>rw [q] at e; cases e
  | some y =>
   rw [q] at e
   dsimp only at e
   split at e
   ·cases e; exact ⟨by rw [List.append_nil]; rfl,rfl⟩
   ·cases e
 cases L with
 | inn z =>
  change (if (S.top.isEmpty && S.lps.isEmpty && S.outs.isEmpty) = true then some (S.inn (n,z)) else none) = some S' at e
  split at e
  ·cases e; exact ⟨by show (S.ins ++ [(n,z)]).map (·.2) = _; rw [List.map_append]; rfl,rfl⟩
  ·cases e
 | out z =>
  change (if S.lps.isEmpty = true then some (S.out (n,z)) else none) = some S' at e
  split at e
  ·cases e; exact ⟨(List.append_nil _).symm,by show (S.outs ++ [(n,z)]).length = _; rw [List.length_append]; rfl⟩
  ·cases e
 | rep z =>
  change (if S.outs.isEmpty = true then some (S.rep (nV z)) else none) = some S' at e
  split at e
  ·cases e; exact ⟨(List.append_nil _).symm,rfl⟩
  ·cases e
 | fin =>
  change (match S.lps.getLast? with | none=>none | some p=>some (S.close S.lps.dropLast (p.1 * p.2.sum))) = some S' at e
  cases q:S.lps.getLast? with
  | none=>rw [q] at e; cases e
  | some p=>rw [q] at e; cases e; exact ⟨(List.append_nil _).symm,rfl⟩
 | bad g=>exact rw_ e
 | cp g a=>exact rw_ e
 | st g z=>exact rw_ e
 | pt g h2 a=>exact rw_ e
theorem iw (L:LnD) (r:List LnD):inN (L :: r) = inN [L] ++ inN r:=by cases L <;> rfl
theorem fJ (L:LnD) (r:List LnD):h8 (L :: r) = h8 [L] + h8 r:=by cases L <;> simp [h8] <;> omega
theorem qz:∀ {ls:List LnD} {S S':DS} {n:Int},bI S n ls = .inr S'->S'.ins.map (·.2) = S.ins.map (·.2) ++ inN ls/\S'.outs.length = S.outs.length + h8 ls
 | [],_,_,_,e=>by cases e; exact ⟨(List.append_nil _).symm,rfl⟩
 | L :: r,S,S',n,e=>by
  rw [bI] at e
  cases q:db S n L with
  | none=>rw [q] at e; cases e
  | some S1 =>
   rw [q] at e
   dsimp only at e
   split at e
   ·cases e
   ·obtain ⟨a,b⟩:=qz (ls:=r) e
    obtain ⟨a',b'⟩:=step_io q
    rw [iw,fJ,a,b,a',b',List.append_assoc]
    exact ⟨rfl,by omega⟩
def finB (S:DS):LnD->Bool
 | .fin=>(match S.lps.getLast? with | some p=>!p.2.isEmpty | none=>false)
 | _=>true
def hV:DS->Int->List LnD->Bool
 | _,_,[]=>true
 | S,n,L :: r=>finB S L && match db S n L with
  | none=>true
  | some S'=>(decide (60<=n) || decide (30 < S'.met.length) || decide (3 < S'.lps.length)) || hV S' (n + 1) r
theorem mG {α:Type} {l:List α} {p:α} (h:l.getLast? = some p):∃ pre,l = pre ++ [p]:=by
 obtain ⟨ne,e⟩:∃ ne,l.getLast ne = p:=by
  cases l with
  | nil=>cases h
  | cons a r=>exact ⟨nofun,by rw [List.getLast?_eq_some_getLast (by simp)] at h; injection h⟩
 exact ⟨l.dropLast,by rw [<- e,List.dropLast_concat_getLast]⟩
theorem ky:∀ {ls:List LnD} {S:DS} {n:Int},hV S n ls = true->dN S n ls
 | [],_,_,_=>trivial
 | L :: r,S,n,h=>by
  rw [hV,Bool.and_eq_true] at h
  obtain ⟨h1,h2⟩:=h
  refine ⟨fun e=>?_,fun S' e ne=>?_⟩
  ·subst e
   change (match S.lps.getLast? with | some p=>!p.2.isEmpty | none=>false) = true at h1
   cases q:S.lps.getLast? with
   | none=>rw [q] at h1; cases h1
   | some p =>
    rw [q] at h1
    obtain ⟨pre,ep⟩:=mG q
    refine ⟨pre,p,ep,fun z=>?_⟩
    change (!p.2.isEmpty) = true at h1
    rw [z] at h1
    cases h1
  ·rw [e] at h2
   dsimp only at h2
   rw [Bool.or_eq_true] at h2
   rcases h2 with h2 | h2
   ·exact absurd (by simpa [or_assoc] using h2) ne
   ·exact ky h2
theorem dC:∀ {ls:List LnD} {S:DS} {n:Int},(∀ L ∈ ls,L ≠ .fin)->dN S n ls
 | [],_,_,_=>trivial
 | _ :: _,_,_,h=>⟨fun e=>absurd e (h _ (List.mem_cons_self ..)),fun _ _ _=>dC fun L hL=>h L (List.mem_cons_of_mem _ hL)⟩
theorem im {wz:Str} {ls:List LnD} (nw:Num wz) (w1:4<=nV wz) (w2:nV wz<=32) (lk:∀ L ∈ ls,LnOk L) (ll:ls.length<=100) (fi:dN (DS0 (nV wz)) 1 ls) (nd:(inN ls).Nodup) (oc:h8 ls<=1):PrgOk wz ls :=
 ⟨nw,w1,w2,lk,ll,fi,fun S h=>by
  obtain ⟨a,b⟩:=qz (cX h)
  refine ⟨by rw [a]; exact nd,?_⟩
  have ne:S.outs ≠ []:=by
   have hh:=h
   unfold cr at hh
   rw [cX h] at hh
   dsimp only at hh
   split at hh
   ·rename_i c; exact c.2
   ·cases hh
  match e:S.outs,ne with
  | [o],_=>exact ⟨o,rfl⟩
  | _ :: _ :: _,_=>rw [e] at b; simp [DS0] at b; omega⟩
def P1 (m:Nat):List LnD:=.inn "b" :: (List.replicate (m - 3) (.cp "k" "b") ++ [.out "k"])
def P2 (m:Nat):List LnD:=(P1 m).set 4 (.cp "k" "v")
def P3 (m:Nat):List LnD:=(P2 m).set (m - 3) (.bad "k")
theorem v1:∀ m,m < 65->57<=m->(vd (bw 8 (P1 m)) = if 60 < m then (2,60) else (0,(m:Int) - 3))/\(vd (bw 8 (P2 m)) = if 60 < m then (2,60) else (3,5))/\(vd (bw 8 (P3 m)) = if 62 < m then (2,60) else (1,(m:Int) - 2)):=by decide +kernel
instance (z:Str):Decidable (Nm z):=inferInstanceAs (Decidable (_/\_/\_/\_))
def wd3 (k:Nat):Str:=if k = 1 then "form" else if k = 2 then "much" else "unknown"
def DV (H:Hp) (D:V) (r:Nat × Int):Prop:=(r.1 = 0/\D = .non)\/∃ t,D = .ref t/\H t = some (.tup [.str (wd3 r.1),.int r.2])/\r.1 ≠ 0
theorem TVal.dv {G:Hp} {v:V} {r:ErrD ⊕ Int} (h:TVal G v r):DV G v (vd r):=by
 match r,h with
 | .inr _,h=>exact .inl ⟨rfl,h⟩
 | .inl (.form n),⟨t,a,b⟩=>exact .inr ⟨t,a,b,nofun⟩
 | .inl (.much n),⟨t,a,b⟩=>exact .inr ⟨t,a,b,nofun⟩
 | .inl (.unk n _),⟨t,a,b⟩=>exact .inr ⟨t,a,b,nofun⟩
theorem DV.same {H H':Hp} {D:V} {r:Nat × Int} (s:Same H H'):DV H D r->DV H' D r
 | .inl h=>.inl h
 | .inr ⟨t,a,b,n⟩=>.inr ⟨t,a,s _ _ b,n⟩
theorem oS {K:Frag} {H:Hp} {t u:Addr} {z:Str} {n:Int} (a:H t = some (.tup [.str z,.int n])) (b:H u = some (.tup [.str z,.int n])) (neg:Bool) {Q:VK} (q:Q (.bl (!neg)) H):lP K 0 neg (.ref t) (.ref u) H Q:=by
 refine ⟨t,u,_,_,fun _=>true,rfl,rfl,SqT.of a,SqT.of b,fun j j1 j2=>?_,?_⟩
 ·have:j < 2:=j1
  have fl:∀ v:V,gM v = true->eqV v v = true->EqD K H 0 v v true:=fun v h1 h2=>by
   have:=EqD.flat (K:=K) (H:=H) (d:=0) (x:=v) (y:=v) h1 h1
   rwa [h2] at this
  rcases (by omega:j = 0\/j = 1) with rfl | rfl
  ·exact fl _ rfl (by simp [eqV])
  ·exact fl _ rfl (by simp [eqV])
 ·cases neg <;> exact q
theorem nF {K:Frag} {H:Hp} {v D:V} {r:Nat × Int} {Q:VK} (a:DV H v r) (b:DV H D r) (q:Q (.bl false) H):rNe v D H Q\/lP K 0 true v D H Q:=by
 rcases a with ⟨a0,rfl⟩ | ⟨t,rfl,a,a0⟩
 ·rcases b with ⟨_,rfl⟩ | ⟨_,_,_,b0⟩
  ·exact .inl ⟨rfl,q⟩
  ·exact absurd a0 b0
 ·rcases b with ⟨b0,_⟩ | ⟨u,rfl,b,_⟩
  ·exact absurd b0 a0
  ·exact .inr (oS a b true q)
theorem ke {K:Frag} {H:Hp} {v D:V} {r:Nat × Int} {Q:VK} (a:DV H v r) (b:DV H D r) (q:Q (.bl true) H):rEq v D H Q\/lP K 0 false v D H Q:=by
 rcases a with ⟨a0,rfl⟩ | ⟨t,rfl,a,a0⟩
 ·rcases b with ⟨_,rfl⟩ | ⟨_,_,_,b0⟩
  ·exact .inl ⟨rfl,q⟩
  ·exact absurd a0 b0
 ·rcases b with ⟨b0,_⟩ | ⟨u,rfl,b,_⟩
  ·exact absurd b0 a0
  ·exact .inr (oS a b false q)
theorem num8:Num "8"/\nV "8" = 8:=⟨⟨by unfold PySem.NumText.AllDigits; decide +kernel,by decide +kernel,by decide +kernel,fun z=>absurd z (by decide +kernel)⟩,by decide +kernel⟩
theorem nmb:Nm "b"/\Nm "k"/\Nm "v":=by decide +kernel
theorem qH {α:Type} {P:α->Prop} {ls:List α} {i:Nat} {x:α} (h:∀ L ∈ ls,P L) (hx:P x):∀ L ∈ ls.set i x,P L:=fun L hL=>by
 rcases List.mem_or_eq_of_mem_set hL with m | rfl
 ·exact h L m
 ·exact hx
theorem p1_in (m:Nat):∀ L ∈ P1 m,LnOk L/\L ≠ .fin:=fun L hL=>by
 rcases List.mem_cons.mp hL with rfl | hL
 ·exact ⟨nmb.1,nofun⟩
 rcases List.mem_append.mp hL with hL | hL
 ·rw [(List.mem_replicate.mp hL).2]; exact ⟨⟨nmb.2.1,nmb.1⟩,nofun⟩
 ·cases List.mem_singleton.mp hL; exact ⟨nmb.2.1,nofun⟩
theorem p2_in (m:Nat):∀ L ∈ P2 m,LnOk L/\L ≠ .fin:=qH (P:=fun L=>LnOk L/\L ≠ .fin) (p1_in m) ⟨⟨nmb.2.1,nmb.2.2⟩,nofun⟩
theorem p3_in (m:Nat):∀ L ∈ P3 m,LnOk L/\L ≠ .fin:=qH (P:=fun L=>LnOk L/\L ≠ .fin) (p2_in m) ⟨nmb.2.1,nofun⟩
theorem p_io:∀ m,m < 65->57<=m->((inN (P1 m)).Nodup/\h8 (P1 m)<=1/\(P1 m).length<=100)/\((inN (P2 m)).Nodup/\h8 (P2 m)<=1/\(P2 m).length<=100)/\((inN (P3 m)).Nodup/\h8 (P3 m)<=1/\(P3 m).length<=100):=by decide +kernel
theorem ok_of {ls:List LnD} (h:∀ L ∈ ls,LnOk L/\L ≠ .fin) (io:(inN ls).Nodup/\h8 ls<=1/\ls.length<=100):PrgOk "8" ls :=
 im num8.1 (by rw [num8.2]; decide) (by rw [num8.2]; decide) (fun L hL=>(h L hL).1) io.2.2 (dC fun L hL=>(h L hL).2) io.1 io.2.1
theorem tx1 {m:Nat}:([V.str "width 8",V.str "in b plain"] ++ (List.replicate (m - 3) [V.str "k = copy b"]).flatten) ++ [V.str "out k"] = (ax "8" (P1 m)).map V.str:=by
 have e1:wdT "8" = "width 8":=by decide +kernel
 have e2:lnT (.inn "b") = "in b plain":=by decide +kernel
 have e3:lnT (.cp "k" "b") = "k = copy b":=by decide +kernel
 have e4:lnT (.out "k") = "out k":=by decide +kernel
 unfold ax P1
 simp [e1,e2,e3,e4]
theorem qq {wz:Str} {ls:List LnD} {i:Nat} {L:LnD}:((ax wz ls).map V.str).set (i + 1) (.str (lnT L)) = (ax wz (ls.set i L)).map V.str:=by
 unfold ax
 rw [List.map_cons,List.map_cons,List.set_cons_succ,List.map_set,List.map_set]
theorem me {n k:Nat} (h:k < n):ixN n (k:Int) = some k:=by
 unfold ixN
 rw [if_pos (Int.natCast_nonneg k),if_pos (by omega)]
 rfl
theorem DV.updL {H:Hp} {D:V} {r:Nat × Int} {l:Addr} {xs:List V} {o:HO} (e:H l = some (.lst xs)):DV H D r->DV (upd H l o) D r
 | .inl h=>.inl h
 | .inr ⟨t,a,b,n⟩=>.inr ⟨t,a,by rw [ai (fun z=>by rw [z,e] at b; cases b)]; exact b,n⟩
theorem Box.updN {H:Hp} {p l:Addr} {o:HO} (n:l ≠ p) (b:Box H p):Box (upd H l o) p:=by
 obtain ⟨q1,q2,q3,hq⟩:=b
 exact ⟨q1,q2,q3,by rw [ai (Ne.symm n)]; exact hq⟩
theorem at2 {a b:V} (k:Bool):atI [a,b] (if k = true then 1 else 0) = some (if k = true then b else a):=by cases k <;> rfl
def dJ:Sp:=fun vs H Q _=>∃ p:Addr,vs = [.ref p]/\Box H p/\∀ H',Box H' p->SameX p H H'->Q (.bl true) H'
theorem fg {f:Addr} {fd:FuncData} (F:Fun K "_law_lines_right" "_law_lines_right" bP f fd) (T:Txt K mg c) (H__law_take:Has P w K mg base 1 "_law_take" ["_law_box_here", "_law_many"] jv) (H__law_told:Has P w K mg base 13 "_law_told" ["_law_lines"] ft):FnOk P w K mg base CX0 14 f fd ["_law_box_here"] dJ:=by
 refine F.ok sc__law_lines_right (fun vs H Q E h=>?_) (fun cdv A outer s H vs Q E hr h=>?_)
 ·obtain ⟨p,rfl,_⟩:=h
  rfl
 obtain ⟨p,rfl,bx,q⟩:=h
 refine ⟨_,(ae (ay (i:=1) sc__law_lines_right.nd rfl (Or.inl rfl) (aA aW ah (aJ H__law_take (hr.mono (by omega)) rfl (aa (pv 0) (aa ah af)))))
  (ae (ay (i:=2) sc__law_lines_right.nd rfl (Or.inl rfl) (aA bU (aA bU (aI (aa av (aa av af))) (aA mX (aI (aa av af)) (aA dj (pv 1) ah))) (aI (aa av af))))
  (ae (ay (i:=3) sc__law_lines_right.nd rfl (Or.inl rfl) aR)
  (fO (aK (au fq (pv 1) ah (aw _))
   (aj (ay (i:=3) sc__law_lines_right.nd rfl (Or.inl rfl) (bq (aa av (aa ah af)))))
   az)
  (ae (aK (au (jM (d:=0) (bh hr)) (aJ H__law_told (hr.mono (by omega)) rfl (aa (pv 2) af)) (pv 3) (aw _))
   (aj (aB dA))
   az)
  (ae (kb av (kG (pv 2) ah gb))
  (ae (aK (au (jM (d:=0) (bh hr)) (aJ H__law_told (hr.mono (by omega)) rfl (aa (pv 2) af)) (aH aD (aI (aa (bq (aa av (aa ah af))) (aa (pv 3) af))) (bv eJ rfl T.n_int boot_int (aa (aS fq (pv 1) ah (aw _)) af)) (fun _ _=>rfl)) (aw _))
   (aj (aB dA))
   az)
  (ae (kb av (kG (pv 2) (aA dj (pv 1) ah) gb))
  (aj (aB (aS (iQ (d:=0) (bh hr)) (aJ H__law_told (hr.mono (by omega)) rfl (aa (pv 2) af)) (aH aD (aI (aa (bq (aa av (aa (aA dj (pv 1) ah) af))) (aa (pv 3) af))) (bv eJ rfl T.n_int boot_int (aa (aS fq (aA dj (pv 1) ah) ah (aw _)) af)) (fun _ _=>rfl)) (aw _)))))))))))),?_⟩
 refine ⟨_,rfl,p,8,rfl,bx,by decide,by decide,fun d H1 d0 d8 b1 x1=>?_⟩
 obtain ⟨m,hm⟩:∃ m:Nat,57 + d = (m:Int):=⟨(57 + d).toNat,by omega⟩
 have m1:57<=m:=by omega
 have m2:m < 65:=by omega
 have L1000:(1000:Nat)<=sizeLine:=by decide
 refine ⟨_,_,rfl,rfl,?_⟩
 dsimp only
 rw [hm]
 refine ⟨(by show 2<=sizeLine; decide),fun l1 h1=>⟨(by show 1<=sizeLine; decide),fun l2 h2=>?_⟩⟩
 obtain ⟨G1,w1,s1,f1⟩:=eV h1 (.lst [V.str "width 8",V.str "in b plain"])
 rw [w1] at h2 ⊢
 obtain ⟨G2,w2,s2,f2⟩:=eV h2 (.lst [V.str "k = copy b"])
 rw [w2]
 have e3:((m:Int) - 3).toNat = m - 3:=by omega
 refine ⟨_,rfl,_,_,rfl,rfl,l2,_,_,rfl,rfl,f2,by omega,by omega,(by rw [e3]; show 1 * (m - 3)<=_; omega),fun l3 h3=>?_⟩
 rw [e3]
 obtain ⟨G3,w3,s3,f3⟩:=eV h3 (.lst (List.replicate (m - 3) [V.str "k = copy b"]).flatten)
 rw [w3]
 have lf:(List.replicate (m - 3) [V.str "k = copy b"]).flatten.length = m - 3:=by simp
 refine ⟨l1,l3,_,_,rfl,rfl,SqL.of ((s2.trans s3) _ _ f1),SqL.of f3,(by rw [lf]; show 2 + (m - 3)<=_; omega),fun l4 h4=>?_⟩
 obtain ⟨G4,w4,s4,f4⟩:=eV h4 (.lst ([V.str "width 8",V.str "in b plain"] ++ (List.replicate (m - 3) [V.str "k = copy b"]).flatten))
 rw [w4]
 refine ⟨(by show 1<=sizeLine; decide),fun l5 h5=>?_⟩
 obtain ⟨G5,w5,s5,f5⟩:=eV h5 (.lst [V.str "out k"])
 rw [w5]
 refine ⟨l4,l5,_,_,rfl,rfl,SqL.of (s5 _ _ f4),SqL.of f5,(by rw [List.length_append,lf]; show 2 + (m - 3) + 1<=_; omega),fun l6 h6=>?_⟩
 rw [tx1]
 obtain ⟨G6,w6,s6,f6⟩:=eV h6 (.lst ((ax "8" (P1 m)).map V.str))
 rw [w6]
 have s16:=s1.trans (s2.trans (s3.trans (s4.trans (s5.trans s6))))
 obtain ⟨c1,c2,c3⟩:=v1 m m2 m1
 obtain ⟨i1,i2,i3⟩:=p_io m m2 m1
 have nb:∀ {G:Hp} {a:Addr},Box G p->G a = none->a ≠ p:=fun b e z=>by obtain ⟨q1,q2,q3,hq⟩:=b; rw [z,hq] at e; cases e
 have lp:l6 ≠ p:=nb (b1.same (s1.trans (s2.trans (s3.trans (s4.trans s5))))) h6
 have b6:=b1.same s16
 refine ⟨fun σ' H'=>∃ D,σ' = [some (.ref p),some (.int (m:Int)),some (.ref l6),some D]/\Same G6 H'/\DV H' D (if 60 < m then (2,60) else (0,0)),?_,?_⟩
 ·by_cases c60:60 < m
  ·refine ⟨_,rfl,_,_,rfl,rfl,_,rfl,cP (show (60:Int) < (m:Int) by omega) ⟨(by show 2<=sizeLine; decide),fun t ht=>?_⟩⟩
   rw [if_pos c60]
   exact ⟨.ref t,rfl,aq ht _,.inr ⟨t,rfl,ac,by decide⟩⟩
  ·refine ⟨_,rfl,_,_,rfl,rfl,_,rfl,aN (show ¬ (60:Int) < (m:Int) by omega) ?_⟩
   rw [if_neg c60]
   exact ⟨.non,rfl,fun _ _ e=>e,.inl ⟨rfl,rfl⟩⟩
 rintro σ' H7 ⟨D,rfl,s7,dv⟩
 have f7:=s7 _ _ f6
 have b7:=b6.same s7
 refine ⟨_,rfl,l6, "8",P1 m,rfl,f7,ok_of (p1_in m) i1,fun v8 H8 tv8 s8=>?_⟩
 have e8:vd (bw (nV "8") (P1 m)) = if 60 < m then (2,60) else (0,(m:Int) - 3):=by rw [num8.2]; exact c1
 have dv8:=tv8.dv
 rw [e8] at dv8
 have dv0:DV H8 D (if 60 < m then (2,60) else (0,(m:Int) - 3)):=by
  have:=dv.same s8
  split at this
  ·rename_i c; rw [if_pos c]; exact this
  ·rename_i c; rw [if_neg c]
   rcases this with ⟨_,z⟩ | ⟨_,_,_,z⟩
   ·exact .inl ⟨rfl,z⟩
   ·exact absurd rfl z
 refine ⟨_,rfl,nF dv8 dv0 ⟨_,rfl,cu ?_⟩⟩
 have n6:((ax "8" (P1 m)).map V.str).length = m:=by unfold ax P1; simp; omega
 have f8:=s8 _ _ f7
 have b8:=b7.same s8
 have D8:=dv.same s8
 refine ⟨_,rfl,l6,_,5,5,rfl,rfl,f8,me (k:=5) (by rw [n6]; omega),?_⟩
 rw [show ((ax "8" (P1 m)).map V.str).set 5 (.str "k = copy v") = (ax "8" (P2 m)).map V.str from by
  rw [show (V.str (Str.ofString "k = copy v")) = V.str (lnT (.cp "k" "v")) from by decide +kernel]
  exact qq]
 have b9:Box (upd H8 l6 (.lst ((ax "8" (P2 m)).map V.str))) p:=b8.updN lp
 have D9:DV (upd H8 l6 (.lst ((ax "8" (P2 m)).map V.str))) D _:=D8.updL f8
 have f9:upd H8 l6 (.lst ((ax "8" (P2 m)).map V.str)) l6 = some (.lst ((ax "8" (P2 m)).map V.str)):=ac
 have y9:∀ b u,b ≠ l6->H1 b = some u->upd H8 l6 (.lst ((ax "8" (P2 m)).map V.str)) b = some u:=fun b u e0 e=>by
  rw [ai e0]
  exact s8 _ _ (s7 _ _ (s16 _ _ e))
 have x9:SameX p H (upd H8 l6 (.lst ((ax "8" (P2 m)).map V.str))):=by
  refine x1.trans (fun b u nb e=>?_)
  have e0:b ≠ l6:=fun z=>by
   have:=(s1.trans (s2.trans (s3.trans (s4.trans s5)))) _ _ e
   rw [z,h6] at this; cases this
  rw [ai e0]
  exact s8 _ _ (s7 _ _ (s16 _ _ e))
 generalize upd H8 l6 (.lst ((ax "8" (P2 m)).map V.str)) = H9 at b9 D9 f9 x9 y9 ⊢
 refine ⟨_,rfl,l6, "8",P2 m,rfl,f9,ok_of (p2_in m) i2,fun v10 H10 tv10 s10=>?_⟩
 have dv10:=tv10.dv
 have e10:vd (bw (nV "8") (P2 m)) = if 60 < m then (2,60) else (3,5):=by rw [num8.2]; exact c2
 rw [e10] at dv10
 refine ⟨(by show 2<=sizeLine; decide),fun t ht=>⟨_,rfl,(by show 2<=sizeLine; decide),fun la hla=>⟨_,rfl,_,_,rfl,rfl,.inr ⟨_,rfl,la,_,_,_,rfl,rfl,SqL.of ac,at2 _,?_⟩⟩⟩⟩
 obtain ⟨G11,w11,s11,f11⟩:=eV ht (.tup [V.str "unknown",V.int 5])
 rw [w11] at hla ⊢
 obtain ⟨G12,w12,s12,f12⟩:=eV hla (.lst [V.ref t,D])
 rw [w12]
 have s9:=s10.trans (s11.trans s12)
 have due10:DV G12 (if decide ((60:Int) < (m:Int)) = true then D else V.ref t) (if 60 < m then (2,60) else (3,5)):=by
  by_cases c60:60 < m
  ·rw [decide_eq_true (show (60:Int) < (m:Int) by omega),if_pos rfl,if_pos c60]
   have:=D9.same s9
   rw [if_pos c60] at this
   exact this
  ·rw [decide_eq_false (show ¬ (60:Int) < (m:Int) by omega),if_neg (by decide),if_neg c60]
   exact .inr ⟨t,rfl,s12 _ _ f11,by decide⟩
 refine nF (dv10.same (s11.trans s12)) due10 ⟨_,rfl,cu ?_⟩
 have f13:=s9 _ _ f9
 have n13:((ax "8" (P2 m)).map V.str).length = m:=by unfold ax P2 P1; simp; omega
 refine ⟨_,rfl,_,rfl,_,_,rfl,rfl,l6,_,_,m - 2,rfl,rfl,f13,?_,?_⟩
 ·rw [show ((m:Int) - 2) = ((m - 2:Nat):Int) by omega]
  exact me (by rw [n13]; omega)
 rw [show ((ax "8" (P2 m)).map V.str).set (m - 2) (.str "k = copy") = (ax "8" (P3 m)).map V.str from by
  rw [show (V.str (Str.ofString "k = copy")) = V.str (lnT (.bad "k")) from by decide +kernel,show m - 2 = (m - 3) + 1 by omega]
  exact qq]
 have b14:Box (upd G12 l6 (.lst ((ax "8" (P3 m)).map V.str))) p:=(b9.same s9).updN lp
 have D14:=(D9.same s9).updL (l:=l6) (o:=.lst ((ax "8" (P3 m)).map V.str)) f13
 have f14:upd G12 l6 (.lst ((ax "8" (P3 m)).map V.str)) l6 = some (.lst ((ax "8" (P3 m)).map V.str)):=ac
 have x14:SameX p H (upd G12 l6 (.lst ((ax "8" (P3 m)).map V.str))):=by
  refine x1.trans (fun b u nb e=>?_)
  have e0:b ≠ l6:=fun z=>by
   have:=(s1.trans (s2.trans (s3.trans (s4.trans s5)))) _ _ e
   rw [z,h6] at this; cases this
  rw [ai e0]
  exact s9 _ _ (y9 b u e0 e)
 generalize upd G12 l6 (.lst ((ax "8" (P3 m)).map V.str)) = H14 at b14 D14 f14 x14 ⊢
 refine ⟨_,rfl,l6, "8",P3 m,rfl,f14,ok_of (p3_in m) i3,fun v15 H15 tv15 s15=>?_⟩
 have dv15:=tv15.dv
 have e15:vd (bw (nV "8") (P3 m)) = if 62 < m then (2,60) else (1,(m:Int) - 2):=by rw [num8.2]; exact c3
 rw [e15] at dv15
 refine ⟨_,rfl,_,_,rfl,rfl,(by show 2<=sizeLine; decide),fun t2 ht2=>⟨_,rfl,(by show 2<=sizeLine; decide),fun lb hlb=>⟨_,rfl,_,_,rfl,rfl,_,_,rfl,rfl,.inr ⟨_,rfl,lb,_,_,_,rfl,rfl,SqL.of ac,at2 _,?_⟩⟩⟩⟩
 obtain ⟨G16,w16,s16',f16⟩:=eV ht2 (.tup [V.str "form",V.int ((m:Int) - 2)])
 rw [w16] at hlb ⊢
 obtain ⟨G17,w17,s17,f17⟩:=eV hlb (.lst [V.ref t2,D])
 rw [w17]
 have sz:=s15.trans (s16'.trans s17)
 have due15:DV G17 (if decide ((60:Int) < (m:Int) - 2) = true then D else V.ref t2) (if 62 < m then (2,60) else (1,(m:Int) - 2)):=by
  by_cases c60:62 < m
  ·rw [decide_eq_true (show (60:Int) < (m:Int) - 2 by omega),if_pos rfl,if_pos c60]
   have:=D14.same sz
   rw [if_pos (show 60 < m by omega)] at this
   exact this
  ·rw [decide_eq_false (show ¬ (60:Int) < (m:Int) - 2 by omega),if_neg (by decide),if_neg c60]
   exact .inr ⟨t2,rfl,s17 _ _ f16,by show (1:Nat) ≠ 0; decide⟩
 exact ke (dv15.same (s16'.trans s17)) due15 (q G17 (b14.same sz) (x14.trans (SameX.of sz)))
def tt (t:Int):Str:=Str.ofString (toString t)
theorem tt_ok:∀ t:Nat,t < 33->1<=t->Num (tt (t:Int))/\nV (tt (t:Int)) = t/\(tt (t:Int)).length<=2:=by
 unfold Num PySem.NumText.AllDigits
 decide +kernel
def PL (ts:List Int):List LnD:=ts.map (fun t=>.rep (tt t)) ++ ([.st "b" "3"] ++ (List.replicate ts.length .fin ++ [.out "b"]))
theorem vl1:∀ a < 4,1<=a->vd (bw 9 (PL [(a:Nat)])) = (0,(a:Int))/\hV (DS0 9) 1 (PL [(a:Nat)]) = true:=by decide +kernel
theorem vl2:∀ a < 4,∀ b < 4,1<=a/\1<=b->vd (bw 9 (PL [(a:Nat),(b:Nat)])) = (0,(a:Int) * b)/\hV (DS0 9) 1 (PL [(a:Nat),(b:Nat)]) = true:=by decide +kernel
def C3 (a b c:Nat):Prop:=vd (bw 9 (PL [(a:Nat),(b:Nat),(c:Nat)])) = (0,(a:Int) * b * c)/\hV (DS0 9) 1 (PL [(a:Nat),(b:Nat),(c:Nat)]) = true
instance (a b c:Nat):Decidable (C3 a b c):=inferInstanceAs (Decidable (_/\_))
theorem vl3:∀ a < 4,∀ b < 4,∀ c < 4,1<=a/\1<=b/\1<=c->C3 a b c:=by decide +kernel
theorem vl4 (a b d e:Str) (r:List LnD):vd (bw 9 (.rep a :: .rep b :: .rep d :: .rep e :: r)) = (2,4)/\hV (DS0 9) 1 (.rep a :: .rep b :: .rep d :: .rep e :: r) = true:=by
 constructor <;> rfl
theorem hZ {t:Int} (h:1<=t/\t<=3):∃ a:Nat,t = (a:Int)/\a < 4/\1<=a:=⟨t.toNat,by omega,by omega,by omega⟩
def prd (ts:List Int):Int:=ts.foldl (· * ·) 1
theorem vl {ts:List Int} (h:∀ t ∈ ts,1<=t/\t<=3) (l:1<=ts.length):vd (bw 9 (PL ts)) = (if 3 < ts.length then (2,4) else (0,prd ts))/\hV (DS0 9) 1 (PL ts) = true:=by
 match ts,h,l with
 | [a],h,_ =>
  obtain ⟨a,rfl,a1,a2⟩:=hZ (h a (by simp))
  obtain ⟨e,f⟩:=vl1 a a1 a2
  exact ⟨by rw [e]; show _ = (0,1 * (a:Int)); rw [Int.one_mul],f⟩
 | [a,b],h,_ =>
  obtain ⟨a,rfl,a1,a2⟩:=hZ (h a (by simp))
  obtain ⟨b,rfl,b1,b2⟩:=hZ (h b (by simp))
  obtain ⟨e,f⟩:=vl2 a a1 b b1 ⟨a2,b2⟩
  exact ⟨by rw [e]; show _ = (0,1 * (a:Int) * b); rw [Int.one_mul],f⟩
 | [a,b,d],h,_ =>
  obtain ⟨a,rfl,a1,a2⟩:=hZ (h a (by simp))
  obtain ⟨b,rfl,b1,b2⟩:=hZ (h b (by simp))
  obtain ⟨d,rfl,d1,d2⟩:=hZ (h d (by simp))
  obtain ⟨e,f⟩:=vl3 a a1 b b1 d d1 ⟨a2,b2,d2⟩
  exact ⟨by rw [e]; show _ = (0,1 * (a:Int) * b * d); rw [Int.one_mul],f⟩
 | a :: b :: d :: e :: r,h,_ =>
  obtain ⟨e1,f⟩:=vl4 (tt a) (tt b) (tt d) (tt e) (r.map (fun t=>.rep (tt t)) ++ ([.st "b" "3"] ++ (List.replicate (a :: b :: d :: e :: r).length .fin ++ [.out "b"])))
  refine ⟨?_,f⟩
  rw [if_pos (by simp)]
  exact e1
theorem dB:∀ a b:List LnD,inN (a ++ b) = inN a ++ inN b
 | [],_=>rfl
 | L :: r,b=>by rw [List.cons_append,iw,dB r b,iw L r,List.append_assoc]
theorem cH:∀ a b:List LnD,h8 (a ++ b) = h8 a + h8 b
 | [],b=>(Nat.zero_add _).symm
 | L :: r,b=>by rw [List.cons_append,fJ,cH r b,fJ L r,Nat.add_assoc]
def Mid (ls:List LnD):Prop:=inN ls = []/\h8 ls = 0
theorem ki:∀ {ls:List LnD},(∀ L ∈ ls,inN [L] = []/\h8 [L] = 0)->Mid ls
 | [],_=>⟨rfl,rfl⟩
 | L :: r,h=>by
  obtain ⟨a,b⟩:=h L (List.mem_cons_self ..)
  obtain ⟨a',b'⟩:=ki (ls:=r) fun L hL=>h L (List.mem_cons_of_mem _ hL)
  exact ⟨by rw [iw,a,a']; rfl,by rw [fJ,b,b']⟩
theorem pl_mid (ts:List Int):Mid (ts.map fun t=>LnD.rep (tt t)):=ki fun L hL=>by
 obtain ⟨t,_,rfl⟩:=List.mem_map.mp hL
 exact ⟨rfl,rfl⟩
theorem gY {L:LnD} (h:inN [L] = []/\h8 [L] = 0) (n:Nat):Mid (List.replicate n L):=ki fun M hM=>by rw [(List.mem_replicate.mp hM).2]; exact h
theorem oJ:Num "9"/\nV "9" = 9:=⟨⟨by unfold PySem.NumText.AllDigits; decide +kernel,by decide +kernel,by decide +kernel,fun z=>absurd z (by decide +kernel)⟩,by decide +kernel⟩
theorem dg3:Dg "3" 3:=Dg.of (n:=3) (by omega)
theorem pl_ok {ts:List Int} (h:∀ t ∈ ts,1<=t/\t<=3) (l:1<=ts.length) (l6:ts.length<=6):PrgOk "9" (PL ts):=by
 refine im oJ.1 (by rw [oJ.2]; decide) (by rw [oJ.2]; decide) (fun L hL=>?_) ?_ (by rw [oJ.2]; exact ky (vl h l).2) ?_ ?_
 ·rcases List.mem_append.mp hL with hL | hL
  ·obtain ⟨t,ht,rfl⟩:=List.mem_map.mp hL
   obtain ⟨a,rfl,a1,a2⟩:=hZ (h t ht)
   obtain ⟨n1,n2,_⟩:=tt_ok a (by omega) a2
   exact ⟨n1,by rw [n2]; omega,by rw [n2]; omega⟩
  ·rcases List.mem_append.mp hL with hL | hL
   ·cases List.mem_singleton.mp hL; exact ⟨nmb.1,3,dg3⟩
   ·rcases List.mem_append.mp hL with hL | hL
    ·rw [(List.mem_replicate.mp hL).2]; trivial
    ·cases List.mem_singleton.mp hL; exact nmb.1
 ·unfold PL; simp; omega
 ·unfold PL
  rw [dB,dB,dB,(pl_mid ts).1,(gY ⟨rfl,rfl⟩ _).1]
  decide
 ·unfold PL
  rw [cH,cH,cH,(pl_mid ts).2,(gY ⟨rfl,rfl⟩ _).2]
  decide
theorem mV {wz:Str} {ls:List LnD} (ok:PrgOk wz ls):((ax wz ls).map (·.length)).sum + (ax wz ls).length * (Str.ofString "\n").length<=16777216:=by
 have h1:=qd (k:=66) (ps:=ax wz ls) fun p hp=>(ip ok.num ok.lk p hp).2
 have h2:(ax wz ls).length = ls.length + 1:=by unfold ax; rw [List.length_cons,List.length_map]
 have h3:(Str.ofString "\n").length = 1:=by decide
 have h4:=ok.ll
 rw [h2] at h1 ⊢
 rw [h3]
 omega
theorem vd_inr {r:ErrD ⊕ Int} {n:Int} (h:vd r = (0,n)):r = .inr n:=by
 match r,h with
 | .inr m,h=>injection h with _ h; rw [h]
theorem prd_take {ts:List Int} {j:Nat} {t:Int} (h:ts[j]? = some t):prd (ts.take (j + 1)) = prd (ts.take j) * t:=by
 unfold prd
 rw [j8 h,List.foldl_append]
 rfl
theorem ic {K:Frag} {H:Hp} {l m:Addr} {xs ys:List V} {Q:VK} (a:H l = some (.lst xs)) (b:H m = some (.lst ys)) (sz:xs.length + ys.length<=1000) (k:∀ t G,Same H G->G t = some (.lst (xs ++ ys))->H t = none->Q (.ref t) G):rAddL K (.ref l) (.ref m) H Q :=
 ⟨l,m,xs,ys,rfl,rfl,SqL.of a,SqL.of b,Nat.le_trans sz (by decide),fun p hp=>k p _ (aq hp _) ac hp⟩
theorem repLq {H:Hp} {l:Addr} {n:Nat} {x:V} {Q:VK} (a:H l = some (.lst [x])) (sz:n<=1000) (k:∀ t G,Same H G->G t = some (.lst (List.replicate n [x]).flatten)->H t = none->Q (.ref t) G):rRep (.ref l) (.int (n:Int)) H Q :=
 ⟨l,n,[x],rfl,rfl,a,by omega,by omega,by rw [Int.toNat_natCast]; exact Nat.le_trans (show 1 * n<=1000 by omega) (by decide),fun p hp=>by rw [Int.toNat_natCast]; exact k p _ (aq hp _) ac hp⟩
theorem gS {n:Nat} {x:V}:(List.replicate n [x]).flatten.length = n:=by simp
theorem pQ (z:Str):lnT (.rep z) = (Str.ofString "repeat " ++ z:Str):=by
 unfold lnT
 rw [iq]
 refine mK ?_
 rw [show LnD.ws (.rep z) = [Str.ofString "repeat",z] from rfl,cg]
 have e:(Str.ofString "repeat ").cps.toList = (Str.ofString "repeat").cps.toList ++ SPs.cps.toList:=by decide +kernel
 show _ = ((Str.ofString "repeat ").cps ++ z.cps).toList
 rw [Array.toList_append,e,List.append_assoc]
 rfl
theorem txl {ts:List Int}:((([V.str "width 9"] ++ ts.map fun t=>V.str (Str.ofString "repeat " ++ tt t)) ++ [V.str "b = set plain 3"]) ++ (List.replicate ts.length [V.str "end"]).flatten) ++ [V.str "out b"] = (ax "9" (PL ts)).map V.str:=by
 have e1:wdT "9" = "width 9":=by decide +kernel
 have e2:lnT (.st "b" "3") = "b = set plain 3":=by decide +kernel
 have e3:lnT .fin = "end":=by decide +kernel
 have e4:lnT (.out "b") = "out b":=by decide +kernel
 unfold ax PL
 simp [e1,e2,e3,e4,pQ]
theorem fH {f:Addr} {fd:FuncData} (F:Fun K "_law_loops_right" "_law_loops_right" bR f fd) (T:Txt K mg c) (H__law_take:Has P w K mg base 1 "_law_take" ["_law_box_here", "_law_many"] jv) (H__law_told:Has P w K mg base 13 "_law_told" ["_law_lines"] ft) (H_read_program:HasY P w K mg base 12 "read_program" ["text"] (spRP c)) (MRun:MHas P w K mg base 8 c.Program "rows_run" ["self"] (spRun c)):FnOk P w K mg base CX0 14 f fd ["_law_box_here"] dJ:=by
 refine F.ok sc__law_loops_right (fun vs H Q E h=>?_) (fun cdv A outer s H vs Q E hr h=>?_)
 ·obtain ⟨p,rfl,_⟩:=h
  rfl
 obtain ⟨p,rfl,bx,q⟩:=h
 refine ⟨_,(ae (ay (i:=1) sc__law_loops_right.nd rfl (Or.inl rfl) (aA aW ah (aJ H__law_take (hr.mono (by omega)) rfl (aa (pv 0) (aa ah af)))))
  (ae (ps_compC (i:=2) sc__law_loops_right.nd rfl (Or.inl rfl) rfl [0] ["_law_box_here"] rfl (by first | rfl | with_unfolding_all rfl) (by rfl) (by exact (List.forall_mem_cons.mpr ⟨rfl,(fun _ h=>nomatch h)⟩)) (by decide +kernel) rfl (by decide +kernel) rfl (by decide +kernel) (by exact (List.forall_mem_cons.mpr ⟨⟨by first | exact Or.inl rfl | exact Or.inr rfl,rfl⟩,(fun _ h=>nomatch h)⟩)) rfl (by rfl) (fR rfl T.n_range (aa (pv 1) af)) (fun C s2 H2 fp=>(aA aW ah (aJ H__law_take (hr.mono (by omega)) rfl (aa (pv 1) (aa ah af))))))
  (ae (ay (i:=3) sc__law_loops_right.nd rfl (Or.inl rfl) (aA bU (aA bU (aA bU (aA bU (aI (aa av af)) (cR rfl (by first | rfl | with_unfolding_all rfl) (by decide +kernel) rfl (by decide +kernel) rfl (bF (pv 2)) (fun C s2 H2 fp=>(aA aG av (bv eK rfl T.n_str boot_str (aa (pv 0) af)))))) (aI (aa av af))) (aA mX (aI (aa av af)) (pv 1))) (aI (aa av af))))
  (ae (aK (au fq (pv 1) ah (aw _))
   (aj (aB (aS (iQ (d:=0) (bh hr)) (aJ H__law_told (hr.mono (by omega)) rfl (aa (pv 3) af)) (bq (aa av (aa ah af))) (aw _))))
   az)
  (ae (ay (i:=4) sc__law_loops_right.nd rfl (Or.inl rfl) ah)
  (ae (cU PassesOwn.never rfl (bF (pv 2)) (bu (i:=5) sc__law_loops_right.nd rfl (Or.inl rfl))
   (aj (ay (i:=4) sc__law_loops_right.nd rfl (Or.inl rfl) (aA dI (pv 4) (pv 5)))))
  (aj (aB (fV (aS eR (aJ H__law_told (hr.mono (by omega)) rfl (aa (pv 3) af)) aR (aw _)) (hG (aS op_eq (aT (k:=8) (qk H_read_program (hr.mono (by omega)) rfl (aa (cK PySem.F.plainAttrs_str PySem.F.slot_str_join PySem.F.type_str_join jW av (aa (pv 3) af)) af)) (hr.mono (by omega))) (pv 4) (aw _)))))))))))),?_⟩
 have L1000:(1000:Nat)<=sizeLine:=by decide
 refine ⟨_,rfl,p,6,rfl,bx,by decide,by decide,fun d H1 d0 d6 b1 x1=>?_⟩
 obtain ⟨n,rfl⟩:∃ n:Nat,d = (n:Int) - 1:=⟨(1 + d).toNat,by omega⟩
 have hn:1 + ((n:Int) - 1) = n:=by omega
 have nb:∀ {G:Hp} {a:Addr},Box G p->G a = none->a ≠ p:=fun b e z=>by obtain ⟨q1,q2,q3,hq⟩:=b; rw [z,hq] at e; cases e
 refine ⟨_,_,rfl,rfl,?_⟩
 dsimp only
 rw [hn]
 refine ⟨_,rfl,_,rfl,by omega,by omega,fun D hD=>?_⟩
 have Dp:=nb b1 hD
 have none0:∀ {G:Hp} {a:Addr},SameX p H G->a ≠ p->G a = none->H a = none:=fun {G a} x n e=>by
  cases z:H a with
  | none=>rfl
  | some u=>rw [x a u n z] at e; cases e
 have D0:=none0 x1 Dp hD
 refine nO (fun j HJ=>∃ ts:List Int,ts.length = j/\(∀ t ∈ ts,1<=t/\t<=3)/\HJ D = some (.lst (ts.map V.int))/\Box HJ p/\SameX p H HJ) ⟨[],rfl,(fun _ z=>nomatch z),ac,b1.updN Dp,x1.trans (SameX.of (aq hD _))⟩ ?_ ?_
 ·rintro j HJ hj ⟨ts,lt,tr,hd,bJ,xJ⟩
  refine ⟨_,rfl,p,3,rfl,bJ,by decide,by decide,fun t HK t0 t3 bK xK=>⟨_,_,rfl,rfl,_,xK _ _ Dp hd,(by rw [List.length_map]; omega),_,(show ((n:Int)).toNat - (j + 1) < _ by omega),rfl,(by omega),ts ++ [1 + t],by simp [lt],fun u hu=>?_,?_,bK.updN Dp,?_⟩⟩
  ·rcases List.mem_append.mp hu with hu | hu
   ·exact tr u hu
   ·rw [List.mem_singleton.mp hu]; omega
  ·rw [ac,List.map_append]; rfl
  ·exact bj (xJ.trans xK) D0
 rintro HJ ⟨ts,lt,tr,hd,bJ,xJ⟩
 rw [Int.toNat_natCast] at lt
 clear hD b1 x1
 refine ⟨(by show 1<=sizeLine; decide),fun l1 h1=>?_⟩
 obtain ⟨G1,w1,s1,f1⟩:=eV h1 (.lst [V.str "width 9"])
 rw [w1]
 refine ⟨_,rfl,D,rfl,⟨_,SqL.of (s1 _ _ hd)⟩,fun l2 h2=>?_⟩
 refine dh (xs:=ts.map V.int) (fun j G=>G l2 = some (.lst ((ts.take j).map fun t=>V.str (Str.ofString "repeat " ++ tt t)))/\Same G1 G) ⟨ac,aq h2 _⟩ (fun _ _ _ q=>SqL.of (q.2 _ _ (s1 _ _ hd))) ?_ ?_
 ·rintro j v G hv ⟨gj,sG⟩
  obtain ⟨t,ht,rfl⟩:∃ t,ts[j]? = some t/\v = V.int t:=by
   rw [List.getElem?_map] at hv
   obtain ⟨z,hz,e⟩:=Option.map_eq_some_iff.mp hv
   exact ⟨z,hz,e.symm⟩
  have jl:=(List.getElem?_eq_some_iff.mp ht).1
  have tb:=tr t (List.mem_of_getElem? ht)
  obtain ⟨a,rfl,a1,a2⟩:=hZ tb
  obtain ⟨_,_,a3⟩:=tt_ok a (by omega) a2
  have rl:(Str.ofString "repeat ").length = 7:=by decide
  refine ⟨_,rfl,_,rfl,by omega,by omega,_,_,rfl,rfl,(by rw [rl]; show 7 + (tt (a:Int)).length<=_; omega),_,gj,(by rw [List.length_map,List.length_take]; omega),_,(show (ts.map V.int).length - (j + 1) < _ by rw [List.length_map]; omega),rfl,(by rw [List.length_map]; omega),?_,Same.updL sG h2⟩
  rw [ac,j8 ht,List.map_append]
  rfl
 rintro G2 ⟨f2,s2⟩
 rw [List.length_map,List.take_length] at f2
 have k1:1<=sizeLine:=by decide
 have lr:(ts.map fun t=>V.str (Str.ofString "repeat " ++ tt t)).length = n:=by rw [List.length_map,lt]
 refine ic (s2 _ _ f1) f2 (by rw [lr]; show 1 + n<=1000; omega) fun l3 G3 s3 f3 _=>?_
 refine ⟨k1,fun l4 h4=>?_⟩
 obtain ⟨G4,w4,s4,f4⟩:=eV h4 (.lst [V.str "b = set plain 3"])
 rw [w4]
 refine ic (s4 _ _ f3) f4 (by simp only [List.length_append,lr,List.length_cons,List.length_nil]; omega) fun l5 G5 s5 f5 _=>?_
 refine ⟨k1,fun l6 h6=>?_⟩
 obtain ⟨G6,w6,s6,f6⟩:=eV h6 (.lst [V.str "end"])
 rw [w6]
 refine ⟨_,rfl,repLq f6 (by omega) fun l7 G7 s7 f7 _=>?_⟩
 refine ic ((s6.trans s7) _ _ f5) f7 (by simp only [List.length_append,lr,List.length_cons,List.length_nil,gS]; omega) fun l8 G8 s8 f8 _=>?_
 refine ⟨k1,fun l9 h9=>?_⟩
 obtain ⟨G9,w9,s9,f9⟩:=eV h9 (.lst [V.str "out b"])
 rw [w9]
 refine ic (s9 _ _ f8) f9 (by simp only [List.length_append,lr,List.length_cons,List.length_nil,gS]; omega) fun l10 G10 s10 f10 _=>?_
 have sA:=s1.trans (s2.trans (s3.trans (s4.trans (s5.trans (s6.trans (s7.trans (s8.trans (s9.trans s10))))))))
 have fx:G10 l10 = some (.lst ((ax "9" (PL ts)).map V.str)):=by rw [f10,<- lt,txl]
 have b10:=bJ.same sA
 have x10:=xJ.trans (SameX.of sA)
 have hd10:=sA _ _ hd
 clear s1 s2 s3 s4 s5 s6 s7 s8 s9 s10 f1 f2 f3 f4 f5 f6 f7 f8 f9 f10
 have ok:=pl_ok tr (by omega) (by omega)
 have e10:vd (bw (nV "9") (PL ts)) = if 3 < ts.length then (2,4) else (0,prd ts):=by rw [oJ.2]; exact (vl tr (by omega)).1
 by_cases c3:3 < n
 ·rw [if_pos (by omega)] at e10
  refine ⟨_,rfl,_,_,rfl,rfl,_,rfl,cP (show (3:Int) < (n:Int) by omega) ?_⟩
  refine ⟨_,rfl,l10, "9",PL ts,rfl,fx,ok,fun v H11 tv s11=>⟨(by show 2<=sizeLine; decide),fun t ht=>?_⟩⟩
  have dv:=tv.dv
  rw [e10] at dv
  have sn:=aq ht (.tup [V.str "much",V.int 4])
  exact ke (dv.same sn) (.inr ⟨t,rfl,ac,by decide⟩) (q _ (b10.same (s11.trans sn)) (x10.trans (SameX.of (s11.trans sn))))
 ·rw [if_neg (by omega)] at e10
  refine ⟨_,rfl,_,_,rfl,rfl,_,rfl,aN (show ¬ (3:Int) < (n:Int) by omega) ?_⟩
  have rd:=vd_inr e10
  refine ⟨_,rfl,D,rfl,⟨_,SqL.of hd10⟩,cL (xs:=ts.map V.int) (fun i σ G=>(∃ y:Option V,σ = [some (.ref p),some (.int (n:Int)),some (.ref D),some (.ref l10),some (.int (prd (ts.take i))),y])/\G10 = G) ⟨⟨_,rfl⟩,rfl⟩ (fun _ _ _ _ q=>SqL.of (q.2 ▸ hd10)) ?_ ?_⟩
  ·rintro i v σ G hi ⟨⟨y,rfl⟩,rfl⟩
   obtain ⟨t,ht,rfl⟩:∃ t,ts[i]? = some t/\v = V.int t:=by
    rw [List.getElem?_map] at hi
    obtain ⟨z,hz,e⟩:=Option.map_eq_some_iff.mp hi
    exact ⟨z,hz,e.symm⟩
   have tb:=tr t (List.mem_of_getElem? ht)
   refine ⟨_,rfl,_,rfl,_,_,rfl,rfl,.inr ⟨by omega,by omega⟩,⟨⟨some (.int t),?_⟩,rfl⟩⟩
   rw [prd_take ht]
   rfl
  rintro σ G ⟨⟨y,rfl⟩,rfl⟩
  rw [List.length_map,List.take_length]
  refine ⟨_,rfl,l10, "9",PL ts,rfl,fx,ok,fun v H11 tv s11=>⟨rfl,?_⟩⟩
  have dv:=tv.dv
  rw [e10] at dv
  rcases dv with ⟨_,rfl⟩ | ⟨_,_,_,z⟩
  rotate_left
  ·exact absurd rfl z
  refine ⟨_,rfl,cP rfl ⟨eW,_,rfl,Str.ofString "\n",l10,ax "9" (PL ts),rfl,rfl,SqL.of (s11 _ _ fx),mV ok, "9",PL ts,rfl,ok,(fun e he=>by rw [rd] at he; cases he),fun m' hm g H12 pg s12=>?_⟩⟩
  rw [rd] at hm
  obtain ⟨gx,wg,li,Lr,lo,kd,z,ps,ns,hg,hl,ls,lns,sm⟩:=pg
  refine ⟨g,_,gx,_,_,_,rfl,hg,rfl,MRun,g,gx,wg,li,Lr,lo,kd,z,ps,ns,rfl,hg,hl,ls,lns,fun H13 s13=>?_⟩
  have e2:ns.sum = prd ts:=by injection hm with hm; rw [sm,hm]
  have sz:=s11.trans (s12.trans s13)
  refine ⟨_,rfl,rfl,?_⟩
  rw [e2,decide_eq_true rfl]
  exact q H13 (b10.same sz) (x10.trans (SameX.of sz))
def sA (t0 t1:Int) (P:List (RwD × Bool)) (ns:List Int):DS:=⟨9,[(1, "b")],[],P,[],[(t0,[]),(t1,ns)],["b"]⟩
def sB (P:List (RwD × Bool)) (ns:List Int):DS:=⟨9,[(1, "b")],[],P,ns,[],["b"]⟩
def eS (n:Int) (x:Str):RwD × Bool:=(⟨n, "copy",["b"],[x]⟩,false)
theorem addM_b:mW [Str.ofString "b"] (Str.ofString "b") = [Str.ofString "b"]:=by decide +kernel
theorem stepA {t0 t1 n:Int} {P:List (RwD × Bool)} {ns:List Int} {x:Str}:db (sA t0 t1 P ns) n (.cp "b" x) = some (sA t0 t1 (P ++ [eS n x]) (ns ++ [1])):=by
 show some (DS.row (sA t0 t1 P ns) (eS n x)) = _
 show some (⟨9,[(1, "b")],[],P ++ [eS n x],[],[(t0,[]),(t1,ns ++ [1])],mW ["b"] "b"⟩:DS) = _
 rw [addM_b]
 rfl
theorem stepB {n:Int} {P:List (RwD × Bool)} {ns:List Int} {x:Str}:db (sB P ns) n (.cp "b" x) = some (sB (P ++ [eS n x]) (ns ++ [1])):=by
 show some (⟨9,[(1, "b")],[],P ++ [eS n x],ns ++ [1],[],mW ["b"] "b"⟩:DS) = _
 rw [addM_b]
 rfl
theorem dl {S S':DS} {n:Int} {L:LnD} {r:List LnD} (e:db S n L = some S') (h:¬ (60<=n\/30 < S'.met.length\/3 < S'.lps.length)):bI S n (L :: r) = bI S' (n + 1) r:=by
 rw [bI,e]
 exact if_neg h
theorem cW {S S':DS} {n:Int} {L:LnD} {r:List LnD} (e:db S n L = some S') (f:L = .fin->∃ pre p,S.lps = pre ++ [p]/\p.2 ≠ []) (h:dN S' (n + 1) r):dN S n (L :: r):=⟨f,fun S1 e1 _=>by rw [e] at e1; cases e1; exact h⟩
theorem wkA {t0 t1:Int}:∀ (k:Nat) (n:Int) (P:List (RwD × Bool)) (ns:List Int) (r:List LnD),n + k<=60->∃ R:List (RwD × Bool),(∀ y ∈ R,y.1.reads = ([Str.ofString "b"]:List Str))/\bI (sA t0 t1 P ns) n (List.replicate k (.cp "b" "b") ++ r) = bI (sA t0 t1 (P ++ R) (ns ++ List.replicate k 1)) (n + k) r /\
  (dN (sA t0 t1 (P ++ R) (ns ++ List.replicate k 1)) (n + k) r->dN (sA t0 t1 P ns) n (List.replicate k (.cp "b" "b") ++ r))
 | 0,n,P,ns,r,_=>⟨[],(fun _ h=>nomatch h),by rw [List.append_nil]; show bI _ n r = bI (sA t0 t1 P (ns ++ [])) (n + (0:Nat)) r; rw [List.append_nil]; simp,by rw [List.append_nil]; show dN (sA t0 t1 P (ns ++ [])) (n + (0:Nat)) r->dN _ n r; rw [List.append_nil]; simp⟩
 | k + 1,n,P,ns,r,h=>by
  obtain ⟨R,hR,w,f⟩:=wkA (t0:=t0) (t1:=t1) k (n + 1) (P ++ [eS n "b"]) (ns ++ [1]) r (by omega)
  have e1:(n + 1) + (k:Int) = n + ((k + 1:Nat):Int):=by omega
  have e2:(ns ++ [1]) ++ List.replicate k 1 = ns ++ List.replicate (k + 1) (1:Int):=by rw [List.append_assoc]; rfl
  have e3:(P ++ [eS n "b"]) ++ R = P ++ ([eS n "b"] ++ R):=List.append_assoc ..
  rw [e1,e2,e3] at w f
  refine ⟨[eS n "b"] ++ R,fun y hy=>?_,?_,fun q=>?_⟩
  ·rcases List.mem_append.mp hy with hy | hy
   ·rw [List.mem_singleton.mp hy]; rfl
   ·exact hR y hy
  ·rw [List.replicate_succ,List.cons_append,dl stepA (by show ¬ (60<=n\/30 < 1\/3 < 2); omega)]
   exact w
  ·rw [List.replicate_succ,List.cons_append]
   exact cW stepA nofun (f q)
theorem wkB:∀ (k:Nat) (n:Int) (P:List (RwD × Bool)) (ns:List Int) (r:List LnD),n + k<=60->∃ R:List (RwD × Bool),(∀ y ∈ R,y.1.reads = ([Str.ofString "b"]:List Str))/\bI (sB P ns) n (List.replicate k (.cp "b" "b") ++ r) = bI (sB (P ++ R) (ns ++ List.replicate k 1)) (n + k) r /\
  (dN (sB (P ++ R) (ns ++ List.replicate k 1)) (n + k) r->dN (sB P ns) n (List.replicate k (.cp "b" "b") ++ r))
 | 0,n,P,ns,r,_=>⟨[],(fun _ h=>nomatch h),by rw [List.append_nil]; show bI _ n r = bI (sB P (ns ++ [])) (n + (0:Nat)) r; rw [List.append_nil]; simp,by rw [List.append_nil]; show dN (sB P (ns ++ [])) (n + (0:Nat)) r->dN _ n r; rw [List.append_nil]; simp⟩
 | k + 1,n,P,ns,r,h=>by
  obtain ⟨R,hR,w,f⟩:=wkB k (n + 1) (P ++ [eS n "b"]) (ns ++ [1]) r (by omega)
  have e1:(n + 1) + (k:Int) = n + ((k + 1:Nat):Int):=by omega
  have e2:(ns ++ [1]) ++ List.replicate k 1 = ns ++ List.replicate (k + 1) (1:Int):=by rw [List.append_assoc]; rfl
  have e3:(P ++ [eS n "b"]) ++ R = P ++ ([eS n "b"] ++ R):=List.append_assoc ..
  rw [e1,e2,e3] at w f
  refine ⟨[eS n "b"] ++ R,fun y hy=>?_,?_,fun q=>?_⟩
  ·rcases List.mem_append.mp hy with hy | hy
   ·rw [List.mem_singleton.mp hy]; rfl
   ·exact hR y hy
  ·rw [List.replicate_succ,List.cons_append,dl stepB (by show ¬ (60<=n\/30 < 1\/3 < 0); omega)]
   exact w
  ·rw [List.replicate_succ,List.cons_append]
   exact cW stepB nofun (f q)
def PR (t0 t1:Int) (r b:Nat) (x:Str):List LnD:=.inn "b" :: .rep (tt t0) :: .rep (tt t1) :: .cp "b" x :: (List.replicate r (.cp "b" "b") ++ (.fin :: .fin :: (List.replicate b (.cp "b" "b") ++ [.out "b"])))
theorem kt:∀ {P:List (RwD × Bool)} {ks:List Str},Str.ofString "b" ∈ ks->(∀ y ∈ P,y.1.reads = ([Str.ofString "b"]:List Str))->∃ ks',j4 ks P = .inr ks'/\∀ z ∈ ks,z ∈ ks'
 | [],ks,_,_=>⟨ks,rfl,fun _ h=>h⟩
 | y :: r,ks,hb,h=>by
  have e:iJ ks y = .inr (jB ks y.1.goals):=by
   have:y.1.reads.find? (fun z=>!ks.contains z) = none:=by rw [h y (List.mem_cons_self ..)]; simp [hb]
   unfold iJ
   rw [this]
  obtain ⟨ks',a,b⟩:=kt (P:=r) (ks:=jB ks y.1.goals) (addK_mem.mpr (.inr hb)) fun u hu=>h u (List.mem_cons_of_mem _ hu)
  exact ⟨ks',by rw [j4,e]; exact a,fun z hz=>b z (addK_mem.mpr (.inr hz))⟩
theorem prodR {t0 t1:Int} {r b:Nat} {x:Str} (h0:Num (tt t0)/\nV (tt t0) = t0) (h1:Num (tt t1)/\nV (tt t1) = t1) (hr:8 + r + b<=60) :
  (∃ R,(∀ y ∈ R,y.1.reads = ([Str.ofString "b"]:List Str))/\cr 9 (PR t0 t1 r b x) = .inr ⟨9,[(1, "b")],[(8 + (r:Int) + b - 1, "b")],eS 4 x :: R,(t0 * (t1 * ((r:Int) + 1))) :: List.replicate b 1,[],["b"]⟩)/\dN (DS0 9) 1 (PR t0 t1 r b x):=by
 have e1:db (DS0 9) 1 (.inn "b") = some ⟨9,[(1, "b")],[],[],[],[],["b"]⟩:=rfl
 have e2:db ⟨9,[(1, "b")],[],[],[],[],["b"]⟩ 2 (.rep (tt t0)) = some ⟨9,[(1, "b")],[],[],[],[(t0,[])],["b"]⟩:=by
  show some (⟨9,[(1, "b")],[],[],[],[(nV (tt t0),[])],["b"]⟩:DS) = _
  rw [h0.2]
 have e3:db ⟨9,[(1, "b")],[],[],[],[(t0,[])],["b"]⟩ 3 (.rep (tt t1)) = some (sA t0 t1 [] []):=by
  show some (⟨9,[(1, "b")],[],[],[],[(t0,[]),(nV (tt t1),[])],["b"]⟩:DS) = _
  rw [h1.2]
  rfl
 obtain ⟨R1,hR1,w1,f1⟩:=wkA (t0:=t0) (t1:=t1) r 5 [eS 4 x] [1] (.fin :: .fin :: (List.replicate b (.cp "b" "b") ++ [.out "b"])) (by omega)
 have sm:([1] ++ List.replicate r (1:Int)).sum = (r:Int) + 1:=by
  rw [List.sum_append]
  have:∀ k:Nat,(List.replicate k (1:Int)).sum = k:=fun k=>by
   induction k with
   | zero=>rfl
   | succ k ih=>rw [List.replicate_succ,List.sum_cons,ih]; omega
  rw [this]; simp; omega
 have e5:db (sA t0 t1 ([eS 4 x] ++ R1) ([1] ++ List.replicate r 1)) (5 + r) .fin = some ⟨9,[(1, "b")],[],[eS 4 x] ++ R1,[],[(t0,[t1 * ((r:Int) + 1)])],["b"]⟩:=by
  show some (⟨9,[(1, "b")],[],[eS 4 x] ++ R1,[],[(t0,[t1 * ([1] ++ List.replicate r (1:Int)).sum])],["b"]⟩:DS) = _
  rw [sm]
 have e6:db ⟨9,[(1, "b")],[],[eS 4 x] ++ R1,[],[(t0,[t1 * ((r:Int) + 1)])],["b"]⟩ (5 + r + 1) .fin = some (sB ([eS 4 x] ++ R1) [t0 * (t1 * ((r:Int) + 1))]):=by
  show some (⟨9,[(1, "b")],[],[eS 4 x] ++ R1,[t0 * (t1 * ((r:Int) + 1) + 0)],[],["b"]⟩:DS) = _
  rw [Int.add_zero]
  rfl
 obtain ⟨R2,hR2,w2,f2⟩:=wkB b (5 + r + 1 + 1) ([eS 4 x] ++ R1) [t0 * (t1 * ((r:Int) + 1))] [.out "b"] (by omega)
 have n59:∀ (k:Int) (S:DS),k < 60->S.met = ([Str.ofString "b"]:List Str)->S.lps.length<=3->¬ (60<=k\/30 < S.met.length\/3 < S.lps.length):=fun k S h m l=>by rw [m]; show ¬ (60<=k\/30 < 1\/_); omega
 constructor
 ·refine ⟨R1 ++ R2,fun y hy=>(List.mem_append.mp hy).elim (hR1 y) (hR2 y),?_⟩
  have ww:bI (DS0 9) 1 (PR t0 t1 r b x) = .inr ⟨9,[(1, "b")],[(8 + (r:Int) + b - 1, "b")],eS 4 x :: (R1 ++ R2),(t0 * (t1 * ((r:Int) + 1))) :: List.replicate b 1,[],["b"]⟩:=by
   unfold PR
   rw [dl e1 (n59 _ _ (by omega) rfl (by decide)),show (1:Int) + 1 = 2 from rfl,dl e2 (n59 _ _ (by omega) rfl (by show 1<=3; decide)),show (2:Int) + 1 = 3 from rfl,dl e3 (n59 _ _ (by omega) rfl (by show 2<=3; decide)),show (3:Int) + 1 = 4 from rfl,
    dl (S':=sA t0 t1 [eS 4 x] [1]) stepA (n59 _ _ (by omega) rfl (by show 2<=3; decide)),show (4:Int) + 1 = 5 from rfl,w1,dl e5 (n59 _ _ (by omega) rfl (by show 1<=3; decide)),dl e6 (n59 _ _ (by omega) rfl (by show 0<=3; decide)),w2]
   have e7:db (sB ([eS 4 x] ++ R1 ++ R2) ([t0 * (t1 * ((r:Int) + 1))] ++ List.replicate b 1)) (5 + r + 1 + 1 + b) (.out "b") = some ⟨9,[(1, "b")],[(5 + (r:Int) + 1 + 1 + b, "b")],[eS 4 x] ++ R1 ++ R2,[t0 * (t1 * ((r:Int) + 1))] ++ List.replicate b 1,[],["b"]⟩:=rfl
   rw [dl e7 (n59 _ _ (by omega) rfl (by show 0<=3; decide)),bI,show 5 + (r:Int) + 1 + 1 + b = 8 + (r:Int) + b - 1 by omega,List.append_assoc]
   rfl
  unfold cr
  rw [ww]
  exact if_pos ⟨rfl,nofun⟩
 ·unfold PR
  refine cW e1 nofun (cW e2 nofun (cW e3 nofun (cW (S':=sA t0 t1 [eS 4 x] [1]) stepA nofun (f1 (cW e5 (fun _=>⟨[(t0,[])],(t1,[1] ++ List.replicate r 1),rfl,nofun⟩) (cW e6 (fun _=>⟨[],(t0,[t1 * ((r:Int) + 1)]),rfl,nofun⟩) (f2 (dC ?_))))))))
  intro L hL
  cases List.mem_singleton.mp hL
  exact nofun
theorem sum_rep (k:Nat):(List.replicate k (1:Int)).sum = k:=by
 induction k with
 | zero=>rfl
 | succ k ih=>rw [List.replicate_succ,List.sum_cons,ih]; omega
theorem vrb {t0 t1:Int} {r b:Nat} (h0:Num (tt t0)/\nV (tt t0) = t0) (h1:Num (tt t1)/\nV (tt t1) = t1) (hr:8 + r + b<=60):vd (bw 9 (PR t0 t1 r b "b")) = if 600 < t0 * (t1 * ((r:Int) + 1)) + b then (2,-1) else (0,t0 * (t1 * ((r:Int) + 1)) + b):=by
 obtain ⟨⟨R,hR,e⟩,_⟩:=prodR (x:="b") h0 h1 hr
 obtain ⟨ks,k1,k2⟩:=kt (P:=eS 4 "b" :: R) (ks:=[Str.ofString "b"]) (List.mem_singleton.mpr rfl) fun y hy=>by
  rcases List.mem_cons.mp hy with rfl | hy
  ·rfl
  ·exact hR y hy
 have sd:∀ os tp,ci ⟨9,[(1, "b")],[(os, "b")],eS 4 "b" :: R,tp,[],["b"]⟩ = .inr ks:=fun os tp=>by
  unfold ci
  have z:jB [] (([(1,Str.ofString "b")]:List (Int × Str)).map (·.2)) = [Str.ofString "b"]:=rfl
  dsimp only
  rw [z,k1]
  have:Str.ofString "b" ∈ ks:=k2 _ (List.mem_singleton.mpr rfl)
  simp [this]
 unfold bw
 rw [e]
 dsimp only
 rw [sd]
 dsimp only
 rw [List.sum_cons,sum_rep]
 split <;> rfl
theorem vrv {t0 t1:Int} {r b:Nat} (h0:Num (tt t0)/\nV (tt t0) = t0) (h1:Num (tt t1)/\nV (tt t1) = t1) (hr:8 + r + b<=60):vd (bw 9 (PR t0 t1 r b "v")) = (3,4):=by
 obtain ⟨⟨R,hR,e⟩,_⟩:=prodR (x:="v") h0 h1 hr
 have n1:iJ [Str.ofString "b"] (eS 4 "v") = .inl (.unk 4 "v"):=by
  have:(eS 4 "v").1.reads.find? (fun z=>!([Str.ofString "b"]:List Str).contains z) = some (Str.ofString "v"):=by decide +kernel
  unfold iJ
  rw [this]
  rfl
 have sd:∀ os tp,ci ⟨9,[(1, "b")],[(os, "b")],eS 4 "v" :: R,tp,[],["b"]⟩ = .inl (.unk 4 "v"):=fun os tp=>by
  unfold ci
  have z:jB [] (([(1,Str.ofString "b")]:List (Int × Str)).map (·.2)) = [Str.ofString "b"]:=rfl
  dsimp only
  rw [z,j4,n1]
 unfold bw
 rw [e]
 dsimp only
 rw [sd]
 rfl
theorem pr_ok {t0 t1:Int} {r b:Nat} {x:Str} (a0:1<=t0/\t0<=32) (a1:1<=t1/\t1<=32) (h0:Num (tt t0)/\nV (tt t0) = t0) (h1:Num (tt t1)/\nV (tt t1) = t1) (hr:8 + r + b<=60) (hx:Nm x):PrgOk "9" (PR t0 t1 r b x):=by
 refine im oJ.1 (by rw [oJ.2]; decide) (by rw [oJ.2]; decide) (fun L hL=>?_) ?_ (by rw [oJ.2]; exact (prodR h0 h1 hr).2) ?_ ?_
 ·unfold PR at hL
  rcases List.mem_cons.mp hL with rfl | hL
  ·exact nmb.1
  rcases List.mem_cons.mp hL with rfl | hL
  ·exact ⟨h0.1,by rw [h0.2]; exact a0.1,by rw [h0.2]; exact a0.2⟩
  rcases List.mem_cons.mp hL with rfl | hL
  ·exact ⟨h1.1,by rw [h1.2]; exact a1.1,by rw [h1.2]; exact a1.2⟩
  rcases List.mem_cons.mp hL with rfl | hL
  ·exact ⟨nmb.1,hx⟩
  rcases List.mem_append.mp hL with hL | hL
  ·rw [(List.mem_replicate.mp hL).2]; exact ⟨nmb.1,nmb.1⟩
  rcases List.mem_cons.mp hL with rfl | hL
  ·trivial
  rcases List.mem_cons.mp hL with rfl | hL
  ·trivial
  rcases List.mem_append.mp hL with hL | hL
  ·rw [(List.mem_replicate.mp hL).2]; exact ⟨nmb.1,nmb.1⟩
  ·cases List.mem_singleton.mp hL; exact nmb.1
 ·unfold PR; simp; omega
 ·have e:inN (PR t0 t1 r b x) = Str.ofString "b" :: inN (List.replicate r (.cp "b" "b") ++ (.fin :: .fin :: (List.replicate b (.cp "b" "b") ++ [.out "b"]))):=rfl
  rw [e,dB,(gY ⟨rfl,rfl⟩ r).1]
  show (Str.ofString "b" :: inN (List.replicate b (.cp "b" "b") ++ [.out "b"])).Nodup
  rw [dB,(gY ⟨rfl,rfl⟩ b).1]
  show [Str.ofString "b"].Nodup
  decide
 ·have e:h8 (PR t0 t1 r b x) = h8 (List.replicate r (.cp "b" "b") ++ (.fin :: .fin :: (List.replicate b (.cp "b" "b") ++ [.out "b"]))):=rfl
  rw [e,cH,(gY ⟨rfl,rfl⟩ r).2]
  show 0 + h8 (List.replicate b (.cp "b" "b") ++ [.out "b"])<=1
  rw [cH,(gY ⟨rfl,rfl⟩ b).2]
  decide
theorem txr {t0 t1:Int} {r b:Nat}:((([V.str "width 9",V.str "in b plain",V.str (Str.ofString "repeat " ++ tt t0),V.str (Str.ofString "repeat " ++ tt t1)] ++ (List.replicate (r + 1) [V.str "b = copy b"]).flatten) ++ [V.str "end",V.str "end"]) ++ (List.replicate b [V.str "b = copy b"]).flatten) ++ [V.str "out b"] = (ax "9" (PR t0 t1 r b "b")).map V.str:=by
 have e1:wdT "9" = "width 9":=by decide +kernel
 have e2:lnT (.inn "b") = "in b plain":=by decide +kernel
 have e3:lnT .fin = "end":=by decide +kernel
 have e4:lnT (.out "b") = "out b":=by decide +kernel
 have e5:lnT (.cp "b" "b") = "b = copy b":=by decide +kernel
 unfold ax PR
 simp [e1,e2,e3,e4,e5,pQ,List.replicate_succ]
theorem oj {t:Int} (h:1<=t/\t<=32):Num (tt t)/\nV (tt t) = t/\(tt t).length<=2:=by
 have:=tt_ok t.toNat (by omega) (by omega)
 rwa [show ((t.toNat:Nat):Int) = t by omega] at this
theorem dF {f:Addr} {fd:FuncData} (F:Fun K "_law_rows_done_right" "_law_rows_done_right" bb f fd) (T:Txt K mg c) (H__law_take:Has P w K mg base 1 "_law_take" ["_law_box_here", "_law_many"] jv) (H__law_told:Has P w K mg base 13 "_law_told" ["_law_lines"] ft) (H_read_program:HasY P w K mg base 12 "read_program" ["text"] (spRP c)) (MRun:MHas P w K mg base 8 c.Program "rows_run" ["self"] (spRun c)):FnOk P w K mg base CX0 14 f fd ["_law_box_here"] dJ:=by
 refine F.ok sc__law_rows_done_right (fun vs H Q E h=>?_) (fun cdv A outer s H vs Q E hr h=>?_)
 ·obtain ⟨p,rfl,_⟩:=h
  rfl
 obtain ⟨p,rfl,bx,q⟩:=h
 refine ⟨_,(ae (ay (i:=1) sc__law_rows_done_right.nd rfl (Or.inl rfl) (aI (aa (aA aW ah (aJ H__law_take (hr.mono (by omega)) rfl (aa (pv 0) (aa ah af)))) (aa (aA aW ah (aJ H__law_take (hr.mono (by omega)) rfl (aa (pv 0) (aa ah af)))) af))))
  (ae (ay (i:=2) sc__law_rows_done_right.nd rfl (Or.inl rfl) (aA aW ah (aJ H__law_take (hr.mono (by omega)) rfl (aa (pv 0) (aa ah af)))))
  (ae (ay (i:=3) sc__law_rows_done_right.nd rfl (Or.inl rfl) (aJ H__law_take (hr.mono (by omega)) rfl (aa (pv 0) (aa ah af))))
  (ae (ay (i:=4) sc__law_rows_done_right.nd rfl (Or.inl rfl) (aA dI (aA dI (aH aD (pv 1) ah (fun _ _=>rfl)) (aH aD (pv 1) ah (fun _ _=>rfl))) (pv 2)))
  (fO (aK (PW.pt (eF (au op_eq (aJ H__law_take (hr.mono (by omega)) rfl (aa (pv 0) (aa ah af))) ah (aw _)) (dE (au jk (pv 4) ah (aw _)))))
   (aj (ay (i:=3) sc__law_rows_done_right.nd rfl (Or.inl rfl) (aF (kx rfl) rfl T.n_min boot_min (aa ah (aa (aA aW (aA dj ah (pv 4)) (aJ H__law_take (hr.mono (by omega)) rfl (aa (pv 0) (aa ah af)))) af)))))
   az)
  (ae (ay (i:=5) sc__law_rows_done_right.nd rfl (Or.inl rfl) (aA bU (aI (aa av (aa av (aa (aA aG av (bv eK rfl T.n_str boot_str (aa (aH aD (pv 1) ah (fun _ _=>rfl)) af))) (aa (aA aG av (bv eK rfl T.n_str boot_str (aa (aH aD (pv 1) ah (fun _ _=>rfl)) af))) af))))) (aA mX (aI (aa av af)) (pv 2))))
  (ae (ay (i:=5) sc__law_rows_done_right.nd rfl (Or.inl rfl) (aA bU (aA bU (aA bU (pv 5) (aI (aa av (aa av af)))) (aA mX (aI (aa av af)) (pv 3))) (aI (aa av af))))
  (ae (ay (i:=6) sc__law_rows_done_right.nd rfl (Or.inl rfl) (aA aW (pv 4) (pv 3)))
  (ae (aK (au fq (pv 6) ah (aw _))
   (ae (aK (au (jM (d:=0) (bh hr)) (aJ H__law_told (hr.mono (by omega)) rfl (aa (pv 5) af)) (bq (aa av (aa (jj eX ah) af))) (aw _))
    (aj (aB dA))
    az)
   (ae (kb av (kG (pv 5) ah gb))
   (aj (aB (aS (iQ (d:=0) (bh hr)) (aJ H__law_told (hr.mono (by omega)) rfl (aa (pv 5) af)) (bq (aa av (aa ah af))) (aw _))))))
   az)
  (aj (aB (fV (aS eR (aJ H__law_told (hr.mono (by omega)) rfl (aa (pv 5) af)) aR (aw _)) (hG (aS op_eq (aT (k:=8) (qk H_read_program (hr.mono (by omega)) rfl (aa (cK PySem.F.plainAttrs_str PySem.F.slot_str_join PySem.F.type_str_join jW av (aa (pv 5) af)) af)) (hr.mono (by omega))) (pv 6) (aw _))))))))))))))),?_⟩
 have L1000:(1000:Nat)<=sizeLine:=by decide
 have k1:1<=sizeLine:=by decide
 have k2:2<=sizeLine:=by decide
 have nb:∀ {G:Hp} {a:Addr},Box G p->G a = none->a ≠ p:=fun b e z=>by obtain ⟨q1,q2,q3,hq⟩:=b; rw [z,hq] at e; cases e
 refine ⟨_,rfl,p,32,rfl,bx,by decide,by decide,fun a0 H1 a1 a2 b1 x1=>⟨_,_,rfl,rfl,_,rfl,p,32,rfl,b1,by decide,by decide,fun c0 H2 c1 c2 b2 x2=>⟨_,_,rfl,rfl,k2,fun lt hlt=>?_⟩⟩⟩
 obtain ⟨t0,rfl⟩:∃ t0:Int,a0 = t0 - 1:=⟨a0 + 1,by omega⟩
 obtain ⟨t1,rfl⟩:∃ t1:Int,c0 = t1 - 1:=⟨c0 + 1,by omega⟩
 dsimp only
 rw [show 1 + (t0 - 1) = t0 by omega,show 1 + (t1 - 1) = t1 by omega]
 have ltp:=nb b2 hlt
 have none0:∀ {G:Hp} {a:Addr},SameX p H G->a ≠ p->G a = none->H a = none:=fun {G a} x n e=>by
  cases z:H a with
  | none=>rfl
  | some u=>rw [x a u n z] at e; cases e
 have x3:SameX p H (upd H2 lt (.lst [V.int t0,V.int t1])):=bj (x1.trans x2) (none0 (x1.trans x2) ltp hlt)
 have b3:Box (upd H2 lt (.lst [V.int t0,V.int t1])) p:=b2.updN ltp
 have f3:upd H2 lt (.lst [V.int t0,V.int t1]) lt = some (.lst [V.int t0,V.int t1]):=ac
 generalize upd H2 lt (.lst [V.int t0,V.int t1]) = H3 at x3 b3 f3 ⊢
 clear x1 x2 b1 b2 hlt
 refine ⟨_,rfl,p,6,rfl,b3,by decide,by decide,fun e0 H4 e1 e2 b4 x4=>⟨_,_,rfl,rfl,?_⟩⟩
 obtain ⟨r,rfl⟩:∃ r:Nat,e0 = r:=⟨e0.toNat,by omega⟩
 dsimp only
 rw [show 1 + (r:Int) = ((r + 1:Nat):Int) by omega]
 refine ⟨_,rfl,p,30,rfl,b4,by decide,by decide,fun g0 H5 g1 g2 b5 x5=>?_⟩
 have f5:=x5 _ _ ltp (x4 _ _ ltp f3)
 have m0:t0 * t1<=32 * 32:=Int.mul_le_mul (by omega) (by omega) (by omega) (by omega)
 have m1:0<=t0 * t1:=Int.mul_nonneg (by omega) (by omega)
 refine ⟨_,rfl,lt,_,_,_,rfl,rfl,SqL.of f5,rfl,_,rfl,lt,_,_,_,rfl,rfl,SqL.of f5,rfl,_,_,rfl,rfl,.inr ⟨by omega,by omega⟩,_,rfl,_,_,rfl,rfl,.inr ⟨by omega,by omega⟩,?_⟩
 dsimp only
 generalize hI:t0 * t1 * ((r + 1:Nat):Int) = I
 have I0:0<=I:=by rw [<- hI]; exact Int.mul_nonneg m1 (by omega)
 refine ⟨fun σ' H'=>∃ b:Nat,b<=45/\σ' = [some (.ref p),some (.ref lt),some (.int ((r + 1:Nat):Int)),some (.int (b:Int)),some (.int I),none,none]/\Box H' p/\SameX p H5 H',?_,?_⟩
 ·refine ⟨_,rfl,p,2,rfl,b5,by decide,by decide,fun h0 H6 h1 h2 b6 x6=>⟨rfl,_,rfl,?_⟩⟩
  refine iteI (fun z=>?_) (fun z=>?_)
  ·by_cases c6:I<=600
   ·refine ⟨_,rfl,_,_,rfl,rfl,_,rfl,cP c6 ⟨_,rfl,_,_,rfl,rfl,_,rfl,p,2,rfl,b6,by decide,by decide,fun n0 H7 n1 n2 b7 x7=>⟨_,_,rfl,rfl,45,_,rfl,?_⟩⟩⟩
    refine ⟨(if 600 - I + n0 < 45 then 600 - I + n0 else 45).toNat,by split <;> omega,?_,b7,x6.trans x7⟩
    rw [Int.toNat_of_nonneg (by split <;> omega)]
    rfl
   ·refine ⟨_,rfl,_,_,rfl,rfl,_,rfl,aN c6 ?_⟩
    exact ⟨g0.toNat,by omega,by rw [Int.toNat_of_nonneg g1]; rfl,b6,x6⟩
  ·exact ⟨g0.toNat,by omega,by rw [Int.toNat_of_nonneg g1]; rfl,b6,x6⟩
 rintro σ' H8 ⟨b,b45,rfl,b8,x8⟩
 have f8:=x8 _ _ ltp f5
 have xH:SameX p H H8:=x3.trans (x4.trans (x5.trans x8))
 clear x3 x4 x5 x8 b3 b4 b5 f3 f5
 obtain ⟨nt0,nv0,nl0⟩:=oj (t:=t0) ⟨by omega,by omega⟩
 obtain ⟨nt1,nv1,nl1⟩:=oj (t:=t1) ⟨by omega,by omega⟩
 have rl:(Str.ofString "repeat ").length = 7:=by decide
 refine ⟨_,rfl,lt,_,_,_,rfl,rfl,SqL.of f8,rfl,_,rfl,by omega,by omega,_,_,rfl,rfl,(by rw [rl]; show 7 + (tt t0).length<=_; omega),_,rfl,lt,_,_,_,rfl,rfl,SqL.of f8,rfl,_,rfl,by omega,by omega,_,_,rfl,rfl,(by rw [rl]; show 7 + (tt t1).length<=_; omega),(by show 4<=sizeLine; decide),fun l1 h1=>?_⟩
 obtain ⟨G1,w1,s1,d1⟩:=eV h1 (.lst [V.str "width 9",V.str "in b plain",V.str (Str.ofString "repeat " ++ Str.ofString (toString t0)),V.str (Str.ofString "repeat " ++ Str.ofString (toString t1))])
 rw [w1]
 change G1 l1 = some (.lst [V.str "width 9",V.str "in b plain",V.str (Str.ofString "repeat " ++ tt t0),V.str (Str.ofString "repeat " ++ tt t1)]) at d1
 refine ⟨k1,fun l2 h2=>?_⟩
 obtain ⟨G2,w2,s2,d2⟩:=eV h2 (.lst [V.str "b = copy b"])
 rw [w2]
 refine ⟨_,rfl,repLq d2 (by omega) fun l3 G3 s3 d3 _=>?_⟩
 refine ic ((s2.trans s3) _ _ d1) d3 (by simp only [List.length_cons,List.length_nil,gS]; omega) fun l4 G4 s4 d4 h4=>?_
 have z4:=s1.trans (s2.trans (s3.trans s4))
 clear s1 s2 s3 s4 d1 d2 d3
 refine ⟨_,rfl,k2,fun l5 h5=>?_⟩
 obtain ⟨G5,w5,s5,d5⟩:=eV h5 (.lst [V.str "end",V.str "end"])
 rw [w5]
 refine ic (s5 _ _ d4) d5 (by simp only [List.length_append,List.length_cons,List.length_nil,gS]; omega) fun l6 G6 s6 d6 _=>?_
 refine ⟨k1,fun l7 h7=>?_⟩
 obtain ⟨G7,w7,s7,d7⟩:=eV h7 (.lst [V.str "b = copy b"])
 rw [w7]
 refine ⟨_,rfl,repLq d7 (by omega) fun l8 G8 s8 d8 _=>?_⟩
 refine ic ((s7.trans s8) _ _ d6) d8 (by simp only [List.length_append,List.length_cons,List.length_nil,gS]; omega) fun l9 G9 s9 d9 _=>?_
 refine ⟨k1,fun l10 h10=>?_⟩
 obtain ⟨G10,w10,s10,d10⟩:=eV h10 (.lst [V.str "out b"])
 rw [w10]
 refine ic (s10 _ _ d9) d10 (by simp only [List.length_append,List.length_cons,List.length_nil,gS]; omega) fun lx Gx s11 dx hlx=>?_
 have sA:=z4.trans (s5.trans (s6.trans (s7.trans (s8.trans (s9.trans (s10.trans s11))))))
 have lxp:lx ≠ p:=nb (b8.same (z4.trans (s5.trans (s6.trans (s7.trans (s8.trans (s9.trans s10))))))) hlx
 have lx8:H8 lx = none:=none_of (z4.trans (s5.trans (s6.trans (s7.trans (s8.trans (s9.trans s10)))))) hlx
 rw [txr] at dx
 have bX:=b8.same sA
 have xX:=xH.trans (SameX.of sA)
 clear z4 s5 s6 s7 s8 s9 s10 s11 d4 d5 d6 d7 d8 d9 d10
 have rb:8 + r + b<=60:=by omega
 have ok:=pr_ok (x:="b") (r:=r) (b:=b) (t0:=t0) (t1:=t1) ⟨by omega,by omega⟩ ⟨by omega,by omega⟩ ⟨nt0,nv0⟩ ⟨nt1,nv1⟩ rb nmb.1
 have ev:=vrb (r:=r) (b:=b) ⟨nt0,nv0⟩ ⟨nt1,nv1⟩ rb
 have eI:t0 * (t1 * ((r:Int) + 1)) = I:=by rw [<- hI,Int.natCast_add,Int.mul_assoc]; rfl
 rw [eI] at ev
 have ev':vd (bw (nV "9") (PR t0 t1 r b "b")) = if 600 < I + b then (2,-1) else (0,I + b):=by rw [oJ.2]; exact ev
 refine ⟨_,rfl,_,rfl,_,_,rfl,rfl,?_⟩
 by_cases c6:600 < I + (b:Int)
 ·rw [if_pos c6] at ev'
  refine ⟨_,rfl,_,_,rfl,rfl,_,rfl,cP c6 ?_⟩
  refine ⟨_,rfl,lx, "9",PR t0 t1 r b "b",rfl,dx,ok,fun v Hv tv sv=>⟨_,rfl,k2,fun t ht=>?_⟩⟩
  have dv:=tv.dv
  rw [ev'] at dv
  have sn:=aq ht (.tup [V.str "much",V.int (-1)])
  refine nF (dv.same sn) (.inr ⟨t,rfl,ac,by decide⟩) ⟨_,rfl,cu ?_⟩
  have dz:=(sv.trans sn) _ _ dx
  have ln:((ax "9" (PR t0 t1 r b "b")).map V.str).length = 8 + r + b:=by unfold ax PR; simp; omega
  refine ⟨_,rfl,lx,_,4,4,rfl,rfl,dz,me (k:=4) (by rw [ln]; omega),?_⟩
  rw [show ((ax "9" (PR t0 t1 r b "b")).map V.str).set 4 (.str "b = copy v") = (ax "9" (PR t0 t1 r b "v")).map V.str from by
   rw [show (V.str (Str.ofString "b = copy v")) = V.str (lnT (.cp "b" "v")) from by decide +kernel]
   exact qq (i:=3)]
  have okv:=pr_ok (x:="v") (r:=r) (b:=b) (t0:=t0) (t1:=t1) ⟨by omega,by omega⟩ ⟨by omega,by omega⟩ ⟨nt0,nv0⟩ ⟨nt1,nv1⟩ rb nmb.2.2
  have evv:vd (bw (nV "9") (PR t0 t1 r b "v")) = (3,4):=by rw [oJ.2]; exact vrv ⟨nt0,nv0⟩ ⟨nt1,nv1⟩ rb
  have bz:=(bX.same (sv.trans sn)).updN (o:=.lst ((ax "9" (PR t0 t1 r b "v")).map V.str)) lxp
  have xz:=bj (o:=.lst ((ax "9" (PR t0 t1 r b "v")).map V.str)) (xX.trans (SameX.of (sv.trans sn))) (none0 xH lxp lx8)
  refine ⟨_,rfl,lx, "9",PR t0 t1 r b "v",rfl,ac,okv,fun v2 Hv2 tv2 sv2=>⟨k2,fun t3 ht3=>?_⟩⟩
  have dv2:=tv2.dv
  rw [evv] at dv2
  have sn3:=aq ht3 (.tup [V.str "unknown",V.int 4])
  exact ke (dv2.same sn3) (.inr ⟨t3,rfl,ac,by decide⟩) (q _ (bz.same (sv2.trans sn3)) (xz.trans (SameX.of (sv2.trans sn3))))
 ·rw [if_neg c6] at ev'
  refine ⟨_,rfl,_,_,rfl,rfl,_,rfl,aN c6 ?_⟩
  have rd:=vd_inr ev'
  refine ⟨_,rfl,lx, "9",PR t0 t1 r b "b",rfl,dx,ok,fun v H11 tv s11=>⟨rfl,?_⟩⟩
  have dv:=tv.dv
  rw [ev'] at dv
  rcases dv with ⟨_,rfl⟩ | ⟨_,_,_,z⟩
  rotate_left
  ·exact absurd rfl z
  refine ⟨_,rfl,cP rfl ⟨eW,_,rfl,Str.ofString "\n",lx,ax "9" (PR t0 t1 r b "b"),rfl,rfl,SqL.of (s11 _ _ dx),mV ok, "9",PR t0 t1 r b "b",rfl,ok,(fun e he=>by rw [rd] at he; cases he),fun m' hm g H12 pg s12=>?_⟩⟩
  rw [rd] at hm
  obtain ⟨gx,wg,li,Lr,lo,kd,z,ps,ns,hg,hl,ls,lns,sm⟩:=pg
  refine ⟨g,_,gx,_,_,_,rfl,hg,rfl,MRun,g,gx,wg,li,Lr,lo,kd,z,ps,ns,rfl,hg,hl,ls,lns,fun H13 s13=>?_⟩
  have e2:ns.sum = I + (b:Int):=by injection hm with hm; rw [sm,hm]
  have sz:=s11.trans (s12.trans s13)
  refine ⟨_,rfl,rfl,?_⟩
  rw [e2,decide_eq_true rfl]
  exact q H13 (bX.same sz) (xX.trans (SameX.of sz))
def nmK (k:Nat):Str:=⟨#[103,[98,99,100,102,103,104,105,106].getD (k % 8) 0,[107,108,113,118,120].getD (k / 8) 0]⟩
def cQ (many:Nat):Nat->Nat->List LnD
 | 0,_=>[]
 | f + 1,k=>if k < many then
   (if 0 < k/\k % 3 = 2/\k + 1 < many then LnD.pt (nmK k) (nmK (k + 1)) (nmK 0) :: ((if (k + 1) % 4 = 0 then [LnD.st (nmK (k + 1)) "2"] else []) ++ cQ many f (k + 2))
    else LnD.st (nmK k) "1" :: ((if k % 4 = 0 then [LnD.st (nmK k) "2"] else []) ++ cQ many f (k + 1)))
   else []
def PN0 (many ins:Nat):List LnD:=(List.range ins).map (fun k=>LnD.inn (nmK k)) ++ cQ many 34 ins
def PN (many ins:Nat):List LnD:=PN0 many ins ++ [.out (nmK (many - 1))]
def PNx (many ins:Nat):List LnD:=(List.range ins).map (fun k=>LnD.inn (nmK k)) ++ .cp (nmK 0) "zz" :: (cQ many 34 ins ++ [.out (nmK (many - 1))])
def hasG (L:LnD):Bool:=L.ws.contains (nmK 30)
def atN (many ins:Nat):Nat:=1 + (PN0 many ins).findIdx hasG
theorem hX:∀ k < 34,Nm (nmK k):=by decide +kernel
theorem nmK_nd:((List.range 34).map nmK).Nodup:=by decide +kernel
theorem nmK_inj {i j:Nat} (hi:i < 34) (hj:j < 34) (e:nmK i = nmK j):i = j:=by
 have key:=List.pairwise_iff_getElem.mp nmK_nd
 rcases Nat.lt_trichotomy i j with h | h | h
 ·exact absurd (by rw [List.getElem_map,List.getElem_map,List.getElem_range,List.getElem_range]; exact e) (key i j (by simpa using hi) (by simpa using hj) h)
 ·exact h
 ·exact absurd (by rw [List.getElem_map,List.getElem_map,List.getElem_range,List.getElem_range]; exact e.symm) (key j i (by simpa using hj) (by simpa using hi) h)
theorem fY {P:LnD->Prop} {many:Nat} (h1:∀ k,k < many->P (.st (nmK k) "1")/\P (.st (nmK k) "2")) (h2:∀ k,k + 1 < many->P (.pt (nmK k) (nmK (k + 1)) (nmK 0))):∀ (f k:Nat),∀ L ∈ cQ many f k,P L
 | 0,_,L,hL=>nomatch hL
 | f + 1,k,L,hL=>by
  rw [cQ] at hL
  split at hL
  ·rename_i hk
   split at hL
   ·rename_i hc
    rcases List.mem_cons.mp hL with rfl | hL
    ·exact h2 k hc.2.2
    rcases List.mem_append.mp hL with hL | hL
    ·split at hL
     ·cases List.mem_singleton.mp hL; exact (h1 (k + 1) hc.2.2).2
     ·cases hL
    ·exact fY h1 h2 f _ L hL
   ·rcases List.mem_cons.mp hL with rfl | hL
    ·exact (h1 k hk).1
    rcases List.mem_append.mp hL with hL | hL
    ·split at hL
     ·cases List.mem_singleton.mp hL; exact (h1 k hk).2
     ·cases hL
    ·exact fY h1 h2 f _ L hL
  ·cases hL
theorem fN (many:Nat):∀ f k,(cQ many f k).length<=2 * f
 | 0,_=>Nat.zero_le _
 | f + 1,k=>by
  rw [cQ]
  have a:=fN many f (k + 1)
  have b:=fN many f (k + 2)
  split
  ·split
   ·rw [List.length_cons,List.length_append]; split <;> simp only [List.length_cons,List.length_nil] <;> omega
   ·rw [List.length_cons,List.length_append]; split <;> simp only [List.length_cons,List.length_nil] <;> omega
  ·exact Nat.zero_le _
theorem num5:Num "5"/\nV "5" = 5:=⟨⟨by unfold PySem.NumText.AllDigits; decide +kernel,by decide +kernel,by decide +kernel,fun z=>absurd z (by decide +kernel)⟩,by decide +kernel⟩
theorem rows_in {many:Nat} (hm:many<=34) (f k:Nat):∀ L ∈ cQ many f k,LnOk L/\L ≠ .fin/\inN [L] = []/\h8 [L] = 0 :=
 fY (fun k hk=>⟨⟨⟨hX k (by omega),1,Dg.of (n:=1) (by omega)⟩,nofun,rfl,rfl⟩,⟨hX k (by omega),2,Dg.of (n:=2) (by omega)⟩,nofun,rfl,rfl⟩)
  (fun k hk=>⟨⟨hX k (by omega),hX (k + 1) (by omega),hX 0 (by omega),fun e=>absurd (nmK_inj (by omega) (by omega) e) (by omega)⟩,nofun,rfl,rfl⟩) f k
theorem o9 (ks:List Nat):inN (ks.map fun k=>LnD.inn (nmK k)) = ks.map nmK/\h8 (ks.map fun k=>LnD.inn (nmK k)) = 0:=by
 induction ks with
 | nil=>exact ⟨rfl,rfl⟩
 | cons k r ih=>exact ⟨by show nmK k :: inN _ = _; rw [ih.1]; rfl,ih.2⟩
theorem pn_gen {many ins:Nat} {x:List LnD} (hm:many<=34) (h0:0 < many) (hi:ins < 20) (hx:∀ L ∈ x,LnOk L/\L ≠ .fin/\inN [L] = []/\h8 [L] = 0) (lx:x.length<=1) :
  PrgOk "5" ((List.range ins).map (fun k=>LnD.inn (nmK k)) ++ (x ++ (cQ many 34 ins ++ [.out (nmK (many - 1))]))):=by
 have hr:=rows_in hm 34 ins
 have mr:=ki (ls:=cQ many 34 ins) fun L hL=>(hr L hL).2.2
 have mx:=ki (ls:=x) fun L hL=>(hx L hL).2.2
 have al:∀ L ∈ (List.range ins).map (fun k=>LnD.inn (nmK k)) ++ (x ++ (cQ many 34 ins ++ [.out (nmK (many - 1))])),LnOk L/\L ≠ .fin:=fun L hL=>by
  rcases List.mem_append.mp hL with hL | hL
  ·obtain ⟨k,hk,rfl⟩:=List.mem_map.mp hL
   exact ⟨hX k (by have:=List.mem_range.mp hk; omega),nofun⟩
  rcases List.mem_append.mp hL with hL | hL
  ·exact ⟨(hx L hL).1,(hx L hL).2.1⟩
  rcases List.mem_append.mp hL with hL | hL
  ·exact ⟨(hr L hL).1,(hr L hL).2.1⟩
  ·cases List.mem_singleton.mp hL; exact ⟨hX _ (by omega),nofun⟩
 refine im num5.1 (by rw [num5.2]; decide) (by rw [num5.2]; decide) (fun L hL=>(al L hL).1) ?_ (dC fun L hL=>(al L hL).2) ?_ ?_
 ·have:=fN many 34 ins
  simp only [List.length_append,List.length_map,List.length_range,List.length_cons,List.length_nil]
  omega
 ·rw [dB,dB,dB,(o9 _).1,mx.1,mr.1]
  show ((List.range ins).map nmK ++ []).Nodup
  rw [List.append_nil]
  exact nmK_nd.sublist ((List.range_sublist.mpr (by omega)).map _)
 ·rw [cH,cH,cH,(o9 _).2,mx.2,mr.2]
  exact Nat.le_refl 1
def CN (many ins:Nat):Prop:=((vd (bw 5 (PN many ins))).1 = if 30 < many then 2 else 0)/\(30 < many->(vd (bw 5 (PN many ins))).2 = (atN many ins:Int)/\ins < atN many ins/\(PN0 many ins).any hasG = true)
def CX (many ins:Nat):Prop:=(vd (bw 5 (PNx many ins)) = if 30 < many then (2,(atN many ins:Int) + 1) else (3,(ins:Int) + 1))
instance (a b:Nat):Decidable (CN a b):=inferInstanceAs (Decidable (_/\_))
instance (a b:Nat):Decidable (CX a b):=inferInstanceAs (Decidable (_ = _))
theorem cn28:∀ ins < 20,CN 28 ins/\CX 28 ins:=by decide +kernel
theorem cn29:∀ ins < 20,CN 29 ins/\CX 29 ins:=by decide +kernel
theorem cn30:∀ ins < 20,CN 30 ins/\CX 30 ins:=by decide +kernel
theorem cn31:∀ ins < 20,CN 31 ins/\CX 31 ins:=by decide +kernel
theorem cn32:∀ ins < 20,CN 32 ins/\CX 32 ins:=by decide +kernel
theorem cn33:∀ ins < 20,CN 33 ins/\CX 33 ins:=by decide +kernel
theorem cn34:∀ ins < 20,CN 34 ins/\CX 34 ins:=by decide +kernel
theorem cn {many ins:Nat} (h1:28<=many) (h2:many<=34) (hi:ins < 20):CN many ins/\CX many ins:=by
 rcases (by omega:many = 28\/many = 29\/many = 30\/many = 31\/many = 32\/many = 33\/many = 34) with rfl | rfl | rfl | rfl | rfl | rfl | rfl
 ·exact cn28 ins hi
 ·exact cn29 ins hi
 ·exact cn30 ins hi
 ·exact cn31 ins hi
 ·exact cn32 ins hi
 ·exact cn33 ins hi
 ·exact cn34 ins hi
theorem ing:∀ k < 34,inS (lnT (.st (nmK k) "1")) (nmK 30) = hasG (.st (nmK k) "1")/\inS (lnT (.st (nmK k) "2")) (nmK 30) = hasG (.st (nmK k) "2")/\inS (lnT (.inn (nmK k))) (nmK 30) = hasG (.inn (nmK k)):=by decide +kernel
theorem ing2:∀ k < 33,inS (lnT (.pt (nmK k) (nmK (k + 1)) (nmK 0))) (nmK 30) = hasG (.pt (nmK k) (nmK (k + 1)) (nmK 0)):=by decide +kernel
theorem ing0:inS (wdT "5") (nmK 30) = false:=by decide +kernel
theorem ing_all {many ins:Nat} (hm:many<=34) (hi:ins < 20):∀ L ∈ PN0 many ins,inS (lnT L) (nmK 30) = hasG L:=fun L hL=>by
 rcases List.mem_append.mp hL with hL | hL
 ·obtain ⟨k,hk,rfl⟩:=List.mem_map.mp hL
  exact (ing k (by have:=List.mem_range.mp hk; omega)).2.2
 ·exact fY (P:=fun L=>inS (lnT L) (nmK 30) = hasG L) (fun k hk=>⟨(ing k (by omega)).1,(ing k (by omega)).2.1⟩) (fun k hk=>ing2 k (by omega)) 34 ins L hL
theorem cut_tk (xs:List V) (k:Nat) (hk:k<=xs.length):qx xs none (some (k:Int)) = xs.take k:=by
 unfold qx
 have e:HT.sIx xs.length xs.length (some (k:Int)) = k:=by
  unfold HT.sIx
  simp only [Int.toNat_natCast]
  rw [if_neg (Int.not_lt.mpr (Int.natCast_nonneg k))]
  exact Nat.min_eq_left hk
 have e0:HT.sIx xs.length 0 none = 0:=rfl
 rw [e,e0,List.drop_zero,Nat.sub_zero]
theorem at8:∀ j < 34,atI (Str.ofString "bcdfghij").cps.toList ((0 + ((j:Nat):Int)) % 8) = some ([98,99,100,102,103,104,105,106].getD (j % 8) 0):=by decide +kernel
theorem at5:∀ j < 34,atI (Str.ofString "klqvx").cps.toList ((0 + ((j:Nat):Int)) / 8) = some ([107,108,113,118,120].getD (j / 8) 0):=by decide +kernel
theorem nm_eq:∀ j < 34,((Str.ofString "g" ++ ⟨#[[98,99,100,102,103,104,105,106].getD (j % 8) 0]⟩:Str) ++ ⟨#[[107,108,113,118,120].getD (j / 8) 0]⟩:Str) = nmK j:=by decide +kernel
theorem dH (k:Nat):(nmK k).length = 3:=rfl
theorem t_in:∀ j < 34,((Str.ofString "in " ++ nmK j:Str) ++ Str.ofString " plain":Str) = lnT (.inn (nmK j)):=by decide +kernel
theorem t_st:∀ j < 34,(nmK j ++ Str.ofString " = set plain 1":Str) = lnT (.st (nmK j) "1")/\(nmK j ++ Str.ofString " = set plain 2":Str) = lnT (.st (nmK j) "2"):=by decide +kernel
theorem t_pt:∀ j < 33,(((((nmK j ++ Str.ofString " ":Str) ++ nmK (j + 1):Str) ++ Str.ofString " = part ":Str) ++ nmK 0:Str) ++ Str.ofString " 3":Str) = lnT (.pt (nmK j) (nmK (j + 1)) (nmK 0)):=by decide +kernel
theorem t_ou:∀ j < 34,(Str.ofString "out " ++ nmK j:Str) = lnT (.out (nmK j)):=by decide +kernel
theorem t_cp:(nmK 0 ++ Str.ofString " = copy zz":Str) = lnT (.cp (nmK 0) "zz"):=by decide +kernel
theorem t_wd:wdT "5" = Str.ofString "width 5":=by decide +kernel
def kOf (σ:L2.St):Int:=match σ[5]? with
 | some (some (V.int k))=>k
 | _=>0
theorem qi (m f:Nat):cQ m f m = []:=by
 cases f with
 | zero=>rfl
 | succ f=>rw [cQ,if_neg (Nat.lt_irrefl m)]
def nmL (m:Nat):List V:=(List.range m).map fun k=>V.str (nmK k)
theorem nm_take {m ins:Nat} (h:ins<=m):qx ((List.range m).map fun k=>V.str (nmK k)) none (some (ins:Int)) = (List.range ins).map fun k=>V.str (nmK k):=by
 rw [cut_tk _ _ (by rw [List.length_map,List.length_range]; exact h),<- List.map_take,List.take_range,Nat.min_eq_left h]
theorem eU {m k:Nat} (h:k < m):atI (nmL m) ((k:Nat):Int) = some (.str (nmK k)):=gu (by unfold nmL; rw [List.getElem?_map,List.getElem?_range h]; rfl)
theorem rng_snoc (j:Nat):(List.range (j + 1)).map (fun k=>V.str (nmK k)) = (List.range j).map (fun k=>V.str (nmK k)) ++ [V.str (nmK j)]:=by rw [List.range_succ,List.map_append]; rfl
theorem ck {wz:Str} {ls:List LnD} {L:LnD}:(ax wz ls).map V.str ++ [V.str (lnT L)] = (ax wz (ls ++ [L])).map V.str:=by unfold ax; simp
theorem pN {m ins:Nat} (h:ins<=m):[V.str "width 5"] ++ (List.range ins).map (fun k=>V.str (lnT (.inn (nmK k)))) = (ax "5" ((List.range ins).map fun k=>LnD.inn (nmK k))).map V.str:=by unfold ax; simp [t_wd]
theorem nJ {α:Type} {p q:α->Bool}:∀ {l:List α},(∀ x ∈ l,p x = q x)->l.findIdx p = l.findIdx q
 | [],_=>rfl
 | a :: r,h=>by
  rw [List.findIdx_cons,List.findIdx_cons,h a List.mem_cons_self,nJ fun x hx=>h x (List.mem_cons_of_mem a hx)]
theorem fi_map {α β:Type} {f:α->β} {p:β->Bool}:∀ {l:List α},(l.map f).findIdx p = l.findIdx (fun x=>p (f x))
 | []=>rfl
 | a :: r=>by rw [List.map_cons,List.findIdx_cons,List.findIdx_cons,fi_map]
def hitN (T:List Str) (g:Str) (j:Nat):Bool:=(T[j]?).any fun t=>inS t g
theorem fi_hit {T:List Str} {g:Str} (h:T.any (fun t=>inS t g) = true):((List.range T.length).filter (hitN T g))[0]? = some (T.findIdx fun t=>inS t g):=by
 have hl:=List.findIdx_lt_length_of_exists (p:=fun t=>inS t g) (xs:=T) (by simpa using h)
 rw [<- List.head?_eq_getElem?,List.head?_filter,List.find?_range_eq_some]
 refine ⟨?_,List.mem_range.mpr hl,fun j hj=>?_⟩
 ·unfold hitN
  rw [List.getElem?_eq_getElem hl]
  exact List.findIdx_getElem (w:=hl)
 ·unfold hitN
  rw [List.getElem?_eq_getElem (Nat.lt_trans hj hl)]
  have:=List.not_of_lt_findIdx hj
  simpa using this
theorem at_hit {m ins:Nat} (hm:m<=34) (hi:ins < 20) (h:(PN0 m ins).any hasG = true):((List.range (ax "5" (PN0 m ins)).length).filter (hitN (ax "5" (PN0 m ins)) (nmK 30)))[0]? = some (atN m ins):=by
 have ia:=ing_all hm hi
 have e:(ax "5" (PN0 m ins)).any (fun t=>inS t (nmK 30)) = true:=by
  obtain ⟨L,hL,hg⟩:=List.any_eq_true.mp h
  refine List.any_eq_true.mpr ⟨lnT L,List.mem_cons_of_mem _ (List.mem_map.mpr ⟨L,hL,rfl⟩),?_⟩
  rw [ia L hL,hg]
 rw [fi_hit e]
 unfold ax atN
 rw [List.findIdx_cons,ing0,fi_map,nJ ia,Nat.add_comm]
 rfl
theorem ins_tx {m ins:Nat}:((ax "5" (PN0 m ins)).map V.str).take (ins + 1) ++ V.str (lnT (.cp (nmK 0) "zz")) :: ((ax "5" (PN0 m ins)).map V.str).drop (ins + 1) = (ax "5" ((List.range ins).map (fun k=>LnD.inn (nmK k)) ++ .cp (nmK 0) "zz" :: cQ m 34 ins)).map V.str:=by
 unfold ax PN0
 generalize cQ m 34 ins = B
 have lA:((List.range ins).map fun k=>LnD.inn (nmK k)).length = ins:=by rw [List.length_map,List.length_range]
 generalize (List.range ins).map (fun k=>LnD.inn (nmK k)) = A at lA ⊢
 subst lA
 simp only [List.map_cons,List.map_append,List.take_succ_cons,List.drop_succ_cons,List.cons_append]
 rw [List.take_left' (by simp),List.drop_left' (by simp)]
theorem pn_ok {m ins:Nat} (hm:m<=34) (h0:0 < m) (hi:ins < 20):PrgOk "5" (PN m ins):=by
 have:=pn_gen (x:=[]) hm h0 hi nofun (Nat.zero_le 1)
 unfold PN PN0
 rw [List.append_assoc]
 exact this
theorem pnx_ok {m ins:Nat} (hm:m<=34) (h0:0 < m) (hi:ins < 20):PrgOk "5" (PNx m ins) :=
 pn_gen (x:=[.cp (nmK 0) "zz"]) hm h0 hi (fun L hL=>by
  cases List.mem_singleton.mp hL
  exact ⟨⟨hX 0 (by omega),by decide +kernel⟩,nofun,rfl,rfl⟩) (Nat.le_refl 1)
theorem pnx_eq {m ins:Nat}:((List.range ins).map (fun k=>LnD.inn (nmK k)) ++ .cp (nmK 0) "zz" :: cQ m 34 ins) ++ [.out (nmK (m - 1))] = PNx m ins:=by unfold PNx; rw [List.append_assoc]; rfl
theorem fh {f:Addr} {fd:FuncData} (F:Fun K "_law_names_right" "_law_names_right" bL f fd) (T:Txt K mg c) (H__law_take:Has P w K mg base 1 "_law_take" ["_law_box_here", "_law_many"] jv) (H__law_told:Has P w K mg base 13 "_law_told" ["_law_lines"] ft):FnOk P w K mg base CX0 14 f fd ["_law_box_here"] dJ:=by
 refine F.ok sc__law_names_right (fun vs H Q E h=>?_) (fun cdv A outer s H vs Q E hr h=>?_)
 ·obtain ⟨p,rfl,_⟩:=h
  rfl
 obtain ⟨p,rfl,bx,q⟩:=h
 refine ⟨_,(ae (ay (i:=1) sc__law_names_right.nd rfl (Or.inl rfl) (aA aW ah (aJ H__law_take (hr.mono (by omega)) rfl (aa (pv 0) (aa ah af)))))
  (ae (ay (i:=2) sc__law_names_right.nd rfl (Or.inl rfl) (aJ H__law_take (hr.mono (by omega)) rfl (aa (pv 0) (aa ah af))))
  (ae (ay (i:=3) sc__law_names_right.nd rfl (Or.inr rfl) (cR rfl (by first | rfl | with_unfolding_all rfl) (by decide +kernel) rfl (by decide +kernel) rfl (fR rfl T.n_range (aa (pv 1) af)) (fun C s2 H2 fp=>(aA aG (aA aG av (aH qE av (aA dL (pv 0) ah) (fun _ _=>rfl))) (aH qE av (aA op_fdiv (pv 0) ah) (fun _ _=>rfl))))))
  (ae (ay (i:=4) sc__law_names_right.nd rfl (Or.inl rfl) (aA bU (aI (aa av af)) (cR rfl (by first | rfl | with_unfolding_all rfl) (by decide +kernel) rfl (by decide +kernel) rfl (bF (cJ eu (pv 3) dX (da (pv 2)))) (fun C s2 H2 fp=>(aA aG (aA aG av (pv 0)) av)))))
  (ae (ay (i:=5) sc__law_names_right.nd rfl (Or.inl rfl) (pv 2))
  (ae (mR PassesOwn.never (au nR (pv 5) (pv 1) (aw _))
   (fO (aK (PW.pt (eF (au fq (pv 5) ah (aw _)) (eF (au op_eq (aA dL (pv 5) ah) ah (aw _)) (dE (au nR (aA aW (pv 5) ah) (pv 1) (aw _))))))
    (ae (aV (cK PySem.F.plainAttrs_list PySem.F.slot_list_append PySem.F.type_list_append aP (pv 4) (aa (aA aG (aA aG (aA aG (aA aG (aA aG (aH aD (pv 3) (pv 5) (fun _ _=>rfl)) av) (aH aD (pv 3) (aA aW (pv 5) ah) (fun _ _=>rfl))) av) (aH aD (pv 3) ah (fun _ _=>rfl))) av) af)))
    (aj (ay (i:=5) sc__law_names_right.nd rfl (Or.inl rfl) (aA aW (pv 5) ah))))
    (aj (aV (cK PySem.F.plainAttrs_list PySem.F.slot_list_append PySem.F.type_list_append aP (pv 4) (aa (aA aG (aH aD (pv 3) (pv 5) (fun _ _=>rfl)) av) af)))))
   (fO (aK (au op_eq (aA dL (pv 5) ah) ah (aw _))
    (aj (aV (cK PySem.F.plainAttrs_list PySem.F.slot_list_append PySem.F.type_list_append aP (pv 4) (aa (aA aG (aH aD (pv 3) (pv 5) (fun _ _=>rfl)) av) af))))
    az)
   (aj (ay (i:=5) sc__law_names_right.nd rfl (Or.inl rfl) (aA aW (pv 5) ah))))))
  (ae (ay (i:=6) sc__law_names_right.nd rfl (Or.inl rfl) (aF aM rfl T.n_len boot_len (aa (pv 4) af)))
  (fO (aK (au fq (pv 1) ah (aw _))
   (aj (ay (i:=6) sc__law_names_right.nd rfl (Or.inl rfl) (aH aD (oA (K:=K) rfl [3] ["_law_names"] rfl (by first | rfl | with_unfolding_all rfl) (by rfl) (by exact (List.forall_mem_cons.mpr ⟨rfl,(fun _ h=>nomatch h)⟩)) (by decide +kernel) rfl (by decide +kernel) rfl rfl (by decide +kernel) (by exact (List.forall_mem_cons.mpr ⟨⟨by first | exact Or.inl rfl | exact Or.inr rfl,rfl⟩,(fun _ h=>nomatch h)⟩)) rfl (by rfl) (pi_enum rfl T.n_enumerate (aa (pv 4) af)) (fun C s2 H2 fp=>(au lc (aH (ix_listK (K:=K) rfl) (pv 2) ah (fun _ _=>rfl)) (pv 1) (by with_unfolding_all rfl))) (fun C s2 H2 fp=>(pv 0))) ah (fun _ _=>rfl))))
   az)
  (ae (ay (i:=7) sc__law_names_right.nd rfl (Or.inl rfl) (aH aD (aI (aa aR (aa (bq (aa av (aa (pv 6) af))) af))) (bv eJ rfl T.n_int boot_int (aa (aS fq (pv 1) ah (aw _)) af)) (fun _ _=>rfl)))
  (ae (aK (au (jM (d:=0) (bh hr)) (aJ H__law_told (hr.mono (by omega)) rfl (aa (aA bU (pv 4) (aI (aa (aA aG av (aH aD (pv 3) (aA dj (pv 1) ah) (fun _ _=>rfl))) af))) af)) (pv 7) (aw _))
   (aj (aB dA))
   az)
  (ae (aV (cK PySem.F.plainAttrs_list PySem.F.slot_list_insert PySem.F.type_list_insert mt_insN (pv 4) (aa (aA aW (pv 2) ah) (aa (aA aG (aH aD (pv 3) ah (fun _ _=>rfl)) av) af))))
  (ae (ay (i:=7) sc__law_names_right.nd rfl (Or.inl rfl) (aH aD (aI (aa (bq (aa av (aa (aA aW (pv 2) ah) af))) (aa (bq (aa av (aa (aA aW (pv 6) (bv eJ rfl T.n_int boot_int (aa (aS fq (pv 6) (pv 2) (aw _)) af))) af))) af))) (bv eJ rfl T.n_int boot_int (aa (aS fq (pv 1) ah (aw _)) af)) (fun _ _=>rfl)))
  (aj (aB (aS (iQ (d:=0) (bh hr)) (aJ H__law_told (hr.mono (by omega)) rfl (aa (aA bU (pv 4) (aI (aa (aA aG av (aH aD (pv 3) (aA dj (pv 1) ah) (fun _ _=>rfl))) af))) af)) (pv 7) (aw _)))))))))))))))),?_⟩
 have L1000:(1000:Nat)<=sizeLine:=by decide
 have k1:1<=sizeLine:=by decide
 have k2:2<=sizeLine:=by decide
 have nb:∀ {G:Hp} {a:Addr},Box G p->G a = none->a ≠ p:=fun b e z=>by obtain ⟨q1,q2,q3,hq⟩:=b; rw [z,hq] at e; cases e
 refine ⟨_,rfl,p,7,rfl,bx,by decide,by decide,fun a0 H1 a1 a2 b1 x1=>⟨_,_,rfl,rfl,?_⟩⟩
 obtain ⟨m,rfl⟩:∃ m:Nat,a0 = (m:Int) - 28:=⟨(28 + a0).toNat,by omega⟩
 dsimp only
 rw [show 28 + ((m:Int) - 28) = m by omega]
 refine ⟨_,rfl,p,20,rfl,b1,by decide,by decide,fun c0 H2 c1 c2 b2 x2=>?_⟩
 obtain ⟨ins,rfl⟩:∃ n:Nat,c0 = (n:Int):=⟨c0.toNat,by omega⟩
 have m1:28<=m:=by omega
 have m2:m<=34:=by omega
 have i1:ins < 20:=by omega
 refine ⟨_,rfl,_,rfl,by omega,by omega,fun N hN=>?_⟩
 have none0:∀ {G:Hp} {a:Addr},SameX p H G->a ≠ p->G a = none->H a = none:=fun {G a} x n e=>by
  cases z:H a with
  | none=>rfl
  | some u=>rw [x a u n z] at e; cases e
 have Np:=nb b2 hN
 have x12:=x1.trans x2
 have N0:=none0 x12 Np hN
 refine nO (fun j HJ=>HJ N = some (.lst ((List.range j).map fun k=>V.str (nmK k)))/\Same H2 HJ) ⟨ac,aq hN _⟩ ?_ ?_
 ·rintro j HJ hj ⟨gj,sJ⟩
  have jm:j < m:=by omega
  have lg:(Str.ofString "g").length = 1:=by decide
  refine ⟨_,rfl,_,_,rfl,rfl,by show (0:Int) < 8; decide,_,_,_,rfl,rfl,(by decide),at8 j (by omega),_,_,rfl,rfl,(by rw [lg]; show 1 + 1<=sizeLine; decide),_,rfl,_,_,rfl,rfl,⟨by decide,by decide⟩,_,_,_,rfl,rfl,(by decide),at5 j (by omega),_,_,rfl,rfl,(by rw [PySem.Str.length_append,lg]; show 1 + 1 + 1<=sizeLine; decide),?_⟩
  rw [nm_eq j (by omega)]
  refine ⟨_,gj,(by rw [List.length_map,List.length_range]; omega),_,(show (m:Int).toNat - (j + 1) < _ by omega),rfl,(by omega),?_,Same.updL sJ hN⟩
  rw [ac,rng_snoc]
 rintro HJ ⟨gN,sJ⟩
 rw [Int.toNat_natCast] at gN
 have bJ:=b2.same sJ
 have xJ:=x12.trans (SameX.of sJ)
 clear x12 hN x1 x2 b1 b2 sJ
 refine ⟨k1,fun l1 h1=>?_⟩
 obtain ⟨G1,w1,s1,f1⟩:=eV h1 (.lst [V.str "width 5"])
 rw [w1]
 refine ⟨_,rfl,_,rfl,_,rfl,N,_,rfl,SqL.of (s1 _ _ gN),fun l2 h2=>⟨l2,rfl,?_⟩⟩
 rw [nm_take (by omega)]
 obtain ⟨G2,w2,s2,f2⟩:=eV h2 (.lst ((List.range ins).map fun k=>V.str (nmK k)))
 rw [w2]
 refine ⟨⟨_,SqL.of f2⟩,fun l3 h3=>?_⟩
 refine dh (xs:=(List.range ins).map fun k=>V.str (nmK k)) (fun j G=>G l3 = some (.lst ((List.range j).map fun k=>V.str (lnT (.inn (nmK k)))))/\Same G2 G) ⟨ac,aq h3 _⟩ (fun _ _ _ q=>SqL.of (q.2 _ _ f2)) ?_ ?_
 ·rintro j v G hv ⟨gj,sG⟩
  rw [List.getElem?_map] at hv
  obtain ⟨k,hk,rfl⟩:=Option.map_eq_some_iff.mp hv
  have jl:j < ins:=by have:=(List.getElem?_eq_some_iff.mp hk).1; rwa [List.length_range] at this
  rw [List.getElem?_range jl] at hk
  cases hk
  refine ⟨_,rfl,_,_,rfl,rfl,(by show 3 + 3<=sizeLine; decide),_,_,rfl,rfl,(by rw [PySem.Str.length_append]; show 3 + 3 + 6<=sizeLine; decide),?_⟩
  rw [t_in j (by omega)]
  refine ⟨_,gj,(by rw [List.length_map,List.length_range]; omega),_,(show ((List.range ins).map fun k=>V.str (nmK k)).length - (j + 1) < _ by rw [List.length_map,List.length_range]; omega),rfl,(by rw [List.length_map,List.length_range]; omega),?_,Same.updL sG h3⟩
  rw [ac,List.range_succ,List.map_append]
  rfl
 rintro G3 ⟨f3,s3⟩
 rw [List.length_map,List.length_range] at f3
 refine ic ((s2.trans s3) _ _ f1) f3 (by rw [List.length_map,List.length_range]; show 1 + ins<=1000; omega) fun lx G4 s4 f4 hlx=>?_
 have hlx0:HJ lx = none:=none_of (s1.trans (s2.trans s3)) hlx
 have sA:=s1.trans (s2.trans (s3.trans s4))
 have lxp:lx ≠ p:=nb bJ hlx0
 have lx0:=none0 xJ lxp hlx0
 rw [pN (m:=m) (by omega)] at f4
 have b4:=bJ.same sA
 have gN4:=sA _ _ gN
 have Nx:N ≠ lx:=fun z=>by rw [z,hlx0] at gN; cases gN
 have x4:=xJ.trans (SameX.of sA)
 clear s1 s2 s3 s4 sA f1 f2 f3 h1 h2 h3
 have nl:((List.range m).map fun k=>V.str (nmK k)) = nmL m:=rfl
 rw [nl] at gN4
 have l88:(PN0 m ins).length<=88:=by
  have:=fN m 34 ins
  unfold PN0
  rw [List.length_append,List.length_map,List.length_range]
  omega
 refine ⟨_,rfl,?_⟩
 refine mT (fun σ G=>∃ (k f:Nat) (ls:List LnD),σ = [some (.ref p),some (.int (m:Int)),some (.int (ins:Int)),some (.ref N),some (.ref lx),some (.int (k:Int)),none,none]/\k<=m/\m<=k + f/\ls ++ cQ m f k = PN0 m ins/\G lx = some (.lst ((ax "5" ls).map V.str))/\(∀ b u,b ≠ lx->G4 b = some u->G b = some u))
  (fun σ _=>((m:Int) - kOf σ).toNat) ⟨ins,34,_,rfl,by omega,by omega,rfl,f4,fun _ _ _ e=>e⟩ ?_ ?_
 ·rintro σ G ⟨k,f,ls,rfl,km,mf,eL,gL,sG⟩
  have gNG:=sG _ _ Nx gN4
  have ll:ls.length<=88:=by rw [<- eL,List.length_append] at l88; omega
  have lt:((ax "5" ls).map V.str).length<=89:=by unfold ax; simp; omega
  by_cases hk:k < m
  rotate_left
  ·refine ⟨_,rfl,_,rfl,_,_,rfl,rfl,_,rfl,aN (show ¬ (k:Int) < (m:Int) by omega) ?_⟩
   obtain rfl:m = k:=by omega
   rw [qi,List.append_nil] at eL
   subst eL
   have xG:SameX p H G:=fun b u nb' e=>sG b u (fun z=>by rw [z,lx0] at e; cases e) (x4 b u nb' e)
   have bG:Box G p:=by
    obtain ⟨q1,q2,q3,hq⟩:=b4
    exact ⟨q1,q2,q3,sG _ _ (Ne.symm lxp) hq⟩
   clear f4 gN4 sG x4 b4 xJ bJ gN
   obtain ⟨⟨cn1,cn2⟩,cx⟩:=cn m1 m2 i1
   refine ⟨_,rfl,lx,_,rfl,.inl (SqL.of gL),?_⟩
   refine ⟨fun σ' G'=>∃ a:Int,σ' = [some (.ref p),some (.int (m:Int)),some (.int (ins:Int)),some (.ref N),some (.ref lx),some (.int (m:Int)),some (.int a),none]/\(30 < m->a = (atN m ins:Int))/\Same G G',?_,?_⟩
   ·by_cases c30:30 < m
    ·refine ⟨_,rfl,_,_,rfl,rfl,_,rfl,cP (show (30:Int) < (m:Int) by omega) ?_⟩
     refine ⟨_,rfl,lx,_,rfl,SqL.of gL,fun D hD=>?_⟩
     refine oa (xs:=(ax "5" (PN0 m ins)).map V.str) (fun i G'=>G' D = some (.lst (((List.range i).filter (hitN (ax "5" (PN0 m ins)) (nmK 30))).map fun (j:Nat)=>V.int (j:Int)))/\Same G G') ⟨ac,aq hD _⟩ (fun _ _ _ q=>SqL.of (q.2 _ _ gL)) ?_ (fun _ _ _ _ _ mm h=>by obtain ⟨v,hv,z⟩:=h; exact ⟨v,hv,mm _ _ z⟩) (fun _ _ _ _ _ mm h=>by obtain ⟨v,hv,l,xs,k,y,e1,e2,sq,ea,v1,hv1,i',j',e3,e4,b,eb,z⟩:=h; exact ⟨v,hv,l,xs,k,y,e1,e2,sq,ea,v1,hv1,i',j',e3,e4,b,eb,mm _ _ z⟩) ?_
     ·rintro i x G' hx ⟨gj,sJ⟩ T hT
      rw [List.getElem?_map] at hx
      obtain ⟨t,ht,rfl⟩:=Option.map_eq_some_iff.mp hx
      have sT:=sJ.trans (aq hT (.tup [.int (i:Nat),.str t]))
      have il:i < 90:=by
       have:=(List.getElem?_eq_some_iff.mp ht).1
       have:(ax "5" (PN0 m ins)).length = (PN0 m ins).length + 1:=by unfold ax; rw [List.length_cons,List.length_map]
       omega
      refine ⟨_,rfl,N,_,_,_,rfl,rfl,SqL.of (sT _ _ gNG),eU (k:=30) c30,_,rfl,_,_,rfl,rfl,_,rfl,?_⟩
      have eh:hitN (ax "5" (PN0 m ins)) (nmK 30) i = inS t (nmK 30):=by unfold hitN; rw [ht]; rfl
      show if inS t (nmK 30) = true then _ else _
      by_cases hq:inS t (nmK 30) = true
      ·rw [if_pos hq]
       refine ⟨_,rfl,_,(aq hT _) _ _ gj,?_,?_,Same.updL sT hD⟩
       ·rw [List.length_map]
        have:=List.length_filter_le (hitN (ax "5" (PN0 m ins)) (nmK 30)) (List.range i)
        rw [List.length_range] at this
        omega
       ·rw [ac,List.range_succ,List.filter_append,List.map_append,List.filter_cons,eh,hq]
        rfl
      ·rw [if_neg hq]
       refine ⟨?_,sT⟩
       rw [(aq hT _) _ _ gj,List.range_succ,List.filter_append,List.map_append,List.filter_cons,eh,if_neg hq]
       simp
     ·rintro G' ⟨gj,sJ⟩
      rw [List.length_map] at gj
      refine ⟨D,_,_,_,rfl,rfl,SqL.of gj,gu (j:=0) (by rw [List.getElem?_map,at_hit m2 i1 (cn2 c30).2.2]; rfl),?_⟩
      exact ⟨(atN m ins:Int),rfl,fun _=>rfl,sJ⟩
    ·refine ⟨_,rfl,_,_,rfl,rfl,_,rfl,aN (show ¬ (30:Int) < (m:Int) by omega) ?_⟩
     exact ⟨_,rfl,fun z=>absurd z c30,fun _ _ e=>e⟩
   rintro σ' G' ⟨a,rfl,ha,sG'⟩
   have g5:=sG' _ _ gL
   have n5:=sG' _ _ gNG
   have b5:=bG.same sG'
   have x5:=xG.trans (SameX.of sG')
   clear sG' gL gNG bG xG
   refine ⟨_,rfl,k2,fun t ht=>⟨k2,fun la hla=>⟨_,rfl,_,_,rfl,rfl,.inr ⟨_,rfl,la,_,_,_,rfl,rfl,SqL.of ac,at2 _,?_⟩⟩⟩⟩
   obtain ⟨G6,w6,s6,f6⟩:=eV ht (.tup [V.str "much",V.int a])
   rw [w6] at hla ⊢
   obtain ⟨G7,w7,s7,f7⟩:=eV hla (.lst [V.non,V.ref t])
   rw [w7]
   have due:DV G7 (if decide ((30:Int) < (m:Int)) = true then V.ref t else V.non) (vd (bw 5 (PN m ins))):=by
    by_cases c30:30 < m
    ·rw [decide_eq_true (show (30:Int) < (m:Int) by omega),if_pos rfl]
     rw [if_pos c30] at cn1
     refine .inr ⟨t,rfl,?_,by rw [cn1]; decide⟩
     rw [cn1,(cn2 c30).1,<- ha c30]
     exact s7 _ _ f6
    ·rw [decide_eq_false (show ¬ (30:Int) < (m:Int) by omega),if_neg (by decide)]
     rw [if_neg c30] at cn1
     exact .inl ⟨cn1,rfl⟩
   generalize (if decide ((30:Int) < (m:Int)) = true then V.ref t else V.non) = du at due ⊢
   have s67:=s6.trans s7
   have g7:=s67 _ _ g5
   have n7:=s67 _ _ n5
   have b7:=b5.same s67
   have x7:=x5.trans (SameX.of s67)
   clear s6 s7 s67 f6 f7 g5 n5 b5 x5
   have atl:atI (nmL m) ((m:Int) - 1) = some (.str (nmK (m - 1))):=by rw [show (m:Int) - 1 = ((m - 1:Nat):Int) by omega]; exact eU (by omega)
   refine ⟨_,rfl,_,rfl,_,rfl,_,_,rfl,rfl,N,_,_,_,rfl,rfl,SqL.of n7,atl,_,_,rfl,rfl,(by rw [dH]; decide),k1,fun l1 h1=>?_⟩
   rw [t_ou (m - 1) (by omega)]
   obtain ⟨G8,w8,s8,f8⟩:=eV h1 (.lst [V.str (lnT (.out (nmK (m - 1))))])
   rw [w8]
   refine ic (s8 _ _ g7) f8 (by simp only [List.length_cons,List.length_nil]; omega) fun l2 G9 s9 f9 _=>?_
   rw [ck] at f9
   have dueE:=due.same (s8.trans s9)
   refine ⟨l2, "5",PN m ins,rfl,f9,pn_ok m2 (by omega) i1,fun v H10 tv s10=>⟨_,rfl,?_⟩⟩
   have dv:=tv.dv
   rw [num5.2] at dv
   refine nF dv (dueE.same s10) ⟨_,rfl,cu ?_⟩
   have sA:=s8.trans (s9.trans s10)
   have gA:=sA _ _ g7
   have nA:=sA _ _ n7
   have bA:=b7.same sA
   have xA:=x7.trans (SameX.of sA)
   clear sA s8 s9 s10 f8 f9 g7 n7 b7 x7 dv dueE due tv
   refine ⟨_,rfl,.inl ⟨rfl,_,SqL.of gA⟩,_,rfl,_,_,rfl,rfl,_,rfl,N,_,_,_,rfl,rfl,SqL.of nA,eU (k:=0) (by omega),_,_,rfl,rfl,(by rw [dH]; decide),lx,_,_,ins + 1,rfl,rfl,gA,(by omega),?_,(by omega),?_⟩
   ·unfold ax PN0
    simp only [List.length_cons,List.length_map,List.length_append,List.length_range]
    omega
   rw [t_cp,ins_tx]
   generalize eLs:(List.range ins).map (fun k=>LnD.inn (nmK k)) ++ .cp (nmK 0) "zz" :: cQ m 34 ins = ls
   have lls:((ax "5" ls).map V.str).length<=90:=by
    rw [<- eLs]
    unfold ax PN0 at *
    simp only [List.length_cons,List.length_map,List.length_append,List.length_range] at *
    omega
   have bB:=bA.updN (o:=.lst ((ax "5" ls).map V.str)) lxp
   have xB:=bj (o:=.lst ((ax "5" ls).map V.str)) xA lx0
   have nB:upd H10 lx (.lst ((ax "5" ls).map V.str)) N = some (.lst (nmL m)):=by rw [ai Nx]; exact nA
   have gB:upd H10 lx (.lst ((ax "5" ls).map V.str)) lx = some (.lst ((ax "5" ls).map V.str)):=ac
   generalize upd H10 lx (.lst ((ax "5" ls).map V.str)) = HB at bB xB nB gB ⊢
   clear gA nA bA xA
   refine ⟨_,rfl,_,_,rfl,rfl,k2,fun t1 ht1=>⟨_,rfl,_,rfl,_,rfl,_,_,rfl,rfl,.inr ⟨_,rfl,_,_,rfl,rfl,k2,fun t2 ht2=>⟨k2,fun lb hlb=>⟨_,rfl,_,_,rfl,rfl,.inr ⟨_,rfl,lb,_,_,_,rfl,rfl,SqL.of ac,at2 _,?_⟩⟩⟩⟩⟩⟩
   obtain ⟨K1,v1,s1,f1⟩:=eV ht1 (.tup [V.str "unknown",V.int ((ins:Int) + 1)])
   rw [v1] at ht2 hlb ⊢
   obtain ⟨K2,v2,s2,f2⟩:=eV ht2 (.tup [V.str "much",V.int (a + if decide ((ins:Int) < a) = true then 1 else 0)])
   rw [v2] at hlb ⊢
   obtain ⟨K3,v3,s3,f3⟩:=eV hlb (.lst [V.ref t1,V.ref t2])
   rw [v3]
   have due:DV K3 (if decide ((30:Int) < (m:Int)) = true then V.ref t2 else V.ref t1) (vd (bw 5 (PNx m ins))):=by
    rw [show vd (bw 5 (PNx m ins)) = _ from cx]
    by_cases c30:30 < m
    ·rw [decide_eq_true (show (30:Int) < (m:Int) by omega),if_pos rfl,if_pos c30]
     refine .inr ⟨t2,rfl,?_,by show (2:Nat) ≠ 0; decide⟩
     have e:=s3 _ _ f2
     have ia:=(cn2 c30).2.1
     rw [ha c30,decide_eq_true (show (ins:Int) < (atN m ins:Int) by omega),if_pos rfl] at e
     exact e
    ·rw [decide_eq_false (show ¬ (30:Int) < (m:Int) by omega),if_neg (by decide),if_neg c30]
     exact .inr ⟨t1,rfl,(s2.trans s3) _ _ f1,by show (3:Nat) ≠ 0; decide⟩
   generalize (if decide ((30:Int) < (m:Int)) = true then V.ref t2 else V.ref t1) = du2 at due ⊢
   have s67:=s1.trans (s2.trans s3)
   have gC:=s67 _ _ gB
   have nC:=s67 _ _ nB
   have bC:=bB.same s67
   have xC:=xB.trans (SameX.of s67)
   clear s1 s2 s3 s67 f1 f2 f3 gB nB bB xB
   refine ⟨_,rfl,_,rfl,_,rfl,_,_,rfl,rfl,N,_,_,_,rfl,rfl,SqL.of nC,atl,_,_,rfl,rfl,(by rw [dH]; decide),k1,fun l3 h3=>?_⟩
   rw [t_ou (m - 1) (by omega)]
   obtain ⟨G8,w8,s8,f8⟩:=eV h3 (.lst [V.str (lnT (.out (nmK (m - 1))))])
   rw [w8]
   refine ic (s8 _ _ gC) f8 (by simp only [List.length_cons,List.length_nil]; omega) fun l4 G9 s9 f9 _=>?_
   rw [ck,<- eLs,pnx_eq] at f9
   have dueE:=due.same (s8.trans s9)
   refine ⟨l4, "5",PNx m ins,rfl,f9,pnx_ok m2 (by omega) i1,fun v H11 tv s11=>⟨_,rfl,?_⟩⟩
   have dv:=tv.dv
   rw [num5.2] at dv
   have sA:=s8.trans (s9.trans s11)
   exact ke dv (dueE.same s11) (q _ (bC.same sA) (xC.trans (SameX.of sA)))
  obtain ⟨f,rfl⟩:∃ g,f = g + 1:=⟨f - 1,by omega⟩
  rw [cQ,if_pos hk] at eL
  refine ⟨_,rfl,_,rfl,_,_,rfl,rfl,_,rfl,cP (show (k:Int) < (m:Int) by omega) ?_⟩
  refine ⟨fun σ' G'=>∃ (k':Nat) (ls':List LnD),σ' = [some (.ref p),some (.int (m:Int)),some (.int (ins:Int)),some (.ref N),some (.ref lx),some (.int (k':Int)),none,none]/\k' < m/\k<=k'/\ls' ++ ((if k' % 4 = 0 then [LnD.st (nmK k') "2"] else []) ++ cQ m f (k' + 1)) = PN0 m ins/\G' lx = some (.lst ((ax "5" ls').map V.str))/\(∀ b u,b ≠ lx->G4 b = some u->G' b = some u),?_,?_⟩
  ·by_cases hc:0 < k/\k % 3 = 2/\k + 1 < m
   ·rw [if_pos hc] at eL
    obtain ⟨c1,c2,c3⟩:=hc
    refine ⟨_,rfl,_,_,rfl,rfl,_,rfl,cP (show (0:Int) < (k:Int) by omega) ⟨_,rfl,_,_,rfl,rfl,by show (0:Int) < 3; decide,rfl,_,rfl,cP (congrArg V.int (by omega)) ⟨_,rfl,_,_,rfl,rfl,_,rfl,_,_,rfl,rfl,_,rfl,cP (show (k:Int) + 1 < (m:Int) by omega) ?_⟩⟩⟩
    have at1:atI (nmL m) ((k:Int) + 1) = some (.str (nmK (k + 1))):=eU (k:=k + 1) c3
    refine ⟨_,rfl,.inl ⟨rfl,_,SqL.of gL⟩,_,rfl,_,rfl,N,_,_,_,rfl,rfl,SqL.of gNG,eU (by omega),_,_,rfl,rfl,(by simp only [PySem.Str.length_append,dH]; decide),_,rfl,_,rfl,_,_,rfl,rfl,N,_,_,_,rfl,rfl,SqL.of gNG,at1,_,_,rfl,rfl,(by simp only [PySem.Str.length_append,dH]; decide),_,_,rfl,rfl,(by simp only [PySem.Str.length_append,dH]; decide),_,rfl,N,_,_,_,rfl,rfl,SqL.of gNG,eU (k:=0) (by omega),_,_,rfl,rfl,(by simp only [PySem.Str.length_append,dH]; decide),_,_,rfl,rfl,(by simp only [PySem.Str.length_append,dH]; decide),lx,_,_,rfl,rfl,gL,(by omega),?_⟩
    rw [t_pt k (by omega),ck]
    refine ⟨_,rfl,_,_,rfl,rfl,k + 1,ls ++ [.pt (nmK k) (nmK (k + 1)) (nmK 0)],rfl,c3,by omega,by rw [List.append_assoc]; exact eL,ac,fun b u nb' e=>by rw [ai nb']; exact sG b u nb' e⟩
   ·rw [if_neg hc] at eL
    have els:(ax "5" (ls ++ [LnD.st (nmK k) "1"])) = ax "5" (ls ++ [LnD.st (nmK k) "1"]):=rfl
    by_cases c1:0 < k
    ·by_cases c2:k % 3 = 2
     ·refine ⟨_,rfl,_,_,rfl,rfl,_,rfl,cP (show (0:Int) < (k:Int) by omega) ⟨_,rfl,_,_,rfl,rfl,by show (0:Int) < 3; decide,rfl,_,rfl,cP (congrArg V.int (by omega)) ⟨_,rfl,_,_,rfl,rfl,_,rfl,_,_,rfl,rfl,_,rfl,aN (show ¬ (k:Int) + 1 < (m:Int) by omega) ?_⟩⟩⟩
      refine ⟨_,rfl,.inl ⟨rfl,_,SqL.of gL⟩,_,rfl,_,rfl,N,_,_,_,rfl,rfl,SqL.of gNG,eU (by omega),_,_,rfl,rfl,(by simp only [PySem.Str.length_append,dH]; decide),lx,_,_,rfl,rfl,gL,(by omega),?_⟩
      rw [(t_st k (by omega)).1,ck]
      exact ⟨k,ls ++ [.st (nmK k) "1"],rfl,hk,Nat.le_refl _,by rw [List.append_assoc]; exact eL,ac,fun b u nb' e=>by rw [ai nb']; exact sG b u nb' e⟩
     ·refine ⟨_,rfl,_,_,rfl,rfl,_,rfl,cP (show (0:Int) < (k:Int) by omega) ⟨_,rfl,_,_,rfl,rfl,by show (0:Int) < 3; decide,rfl,_,rfl,aN (fun z=>by injection z with z; omega) ?_⟩⟩
      refine ⟨_,rfl,.inl ⟨rfl,_,SqL.of gL⟩,_,rfl,_,rfl,N,_,_,_,rfl,rfl,SqL.of gNG,eU (by omega),_,_,rfl,rfl,(by simp only [PySem.Str.length_append,dH]; decide),lx,_,_,rfl,rfl,gL,(by omega),?_⟩
      rw [(t_st k (by omega)).1,ck]
      exact ⟨k,ls ++ [.st (nmK k) "1"],rfl,hk,Nat.le_refl _,by rw [List.append_assoc]; exact eL,ac,fun b u nb' e=>by rw [ai nb']; exact sG b u nb' e⟩
    ·refine ⟨_,rfl,_,_,rfl,rfl,_,rfl,aN (show ¬ (0:Int) < (k:Int) by omega) ?_⟩
     refine ⟨_,rfl,.inl ⟨rfl,_,SqL.of gL⟩,_,rfl,_,rfl,N,_,_,_,rfl,rfl,SqL.of gNG,eU (by omega),_,_,rfl,rfl,(by simp only [PySem.Str.length_append,dH]; decide),lx,_,_,rfl,rfl,gL,(by omega),?_⟩
     rw [(t_st k (by omega)).1,ck]
     exact ⟨k,ls ++ [.st (nmK k) "1"],rfl,hk,Nat.le_refl _,by rw [List.append_assoc]; exact eL,ac,fun b u nb' e=>by rw [ai nb']; exact sG b u nb' e⟩
  rintro σ' G' ⟨k',ls',rfl,km',kk,eL',gL',sG'⟩
  have gNG':=sG' _ _ Nx gN4
  have ll':ls'.length<=88:=by rw [<- eL',List.length_append] at l88; omega
  have lt':((ax "5" ls').map V.str).length<=89:=by unfold ax; simp; omega
  refine ⟨fun σ' G'=>∃ (ls':List LnD),σ' = [some (.ref p),some (.int (m:Int)),some (.int (ins:Int)),some (.ref N),some (.ref lx),some (.int (k':Int)),none,none]/\ls' ++ cQ m f (k' + 1) = PN0 m ins/\G' lx = some (.lst ((ax "5" ls').map V.str))/\(∀ b u,b ≠ lx->G4 b = some u->G' b = some u),?_,?_⟩
  ·by_cases c4:k' % 4 = 0
   ·rw [if_pos c4] at eL'
    refine ⟨_,rfl,_,_,rfl,rfl,by show (0:Int) < 4; decide,rfl,_,rfl,cP (congrArg V.int (by omega)) ?_⟩
    refine ⟨_,rfl,.inl ⟨rfl,_,SqL.of gL'⟩,_,rfl,_,rfl,N,_,_,_,rfl,rfl,SqL.of gNG',eU (by omega),_,_,rfl,rfl,(by simp only [PySem.Str.length_append,dH]; decide),lx,_,_,rfl,rfl,gL',(by omega),?_⟩
    rw [(t_st k' (by omega)).2,ck]
    exact ⟨ls' ++ [.st (nmK k') "2"],rfl,by rw [List.append_assoc]; exact eL',ac,fun b u nb' e=>by rw [ai nb']; exact sG' b u nb' e⟩
   ·rw [if_neg c4,List.nil_append] at eL'
    refine ⟨_,rfl,_,_,rfl,rfl,by show (0:Int) < 4; decide,rfl,_,rfl,aN (fun z=>by injection z with z; omega) ?_⟩
    exact ⟨ls',rfl,eL',gL',sG'⟩
  rintro σ'' G'' ⟨ls'',rfl,eL'',gL'',sG''⟩
  refine ⟨_,rfl,_,_,rfl,rfl,⟨k' + 1,f,ls'',rfl,by omega,by omega,eL'',gL'',sG''⟩,?_⟩
  show ((m:Int) - ((k':Int) + 1)).toNat < ((m:Int) - (k:Int)).toNat
  omega
 ·rintro σ G Q1 Q2 mm ⟨v,hv,v2,hv2,i,j,e1,e2,b,eb,z⟩
  exact ⟨v,hv,v2,hv2,i,j,e1,e2,b,eb,mm _ _ z⟩
theorem h24:(Str.ofString "repeat " ++ tt 24:Str) = "repeat 24":=by decide +kernel
theorem h25:(Str.ofString "repeat " ++ tt 25:Str) = "repeat 25":=by decide +kernel
def pB:List V:=[V.str "width 9",V.str "in b plain",V.str "repeat 24",V.str "repeat 25",V.str "b = copy b",V.str "end",V.str "end",V.str "out b"]
def most7:List V:=[V.str "width 9",V.str "in b plain",V.str "repeat 24",V.str "repeat 25",V.str "b = copy b",V.str "end",V.str "end"]
theorem mo0:pB = (ax "9" (PR 24 25 0 0 "b")).map V.str:=by rw [<- txr,h24,h25]; rfl
theorem mo1:most7 ++ [V.str "b = copy b",V.str "out b"] = (ax "9" (PR 24 25 0 1 "b")).map V.str:=by rw [<- txr,h24,h25]; rfl
theorem mo_cut:qx pB none (some 7) = most7:=cut_tk pB 7 (by decide)
theorem mo_ok (b:Nat) (hb:8 + 0 + b<=60):PrgOk "9" (PR 24 25 0 b "b"):=by
 obtain ⟨a,b',_⟩:=oj (t:=24) ⟨by omega,by omega⟩
 obtain ⟨c,d,_⟩:=oj (t:=25) ⟨by omega,by omega⟩
 exact pr_ok ⟨by omega,by omega⟩ ⟨by omega,by omega⟩ ⟨a,b'⟩ ⟨c,d⟩ hb nmb.1
theorem mo_v (b:Nat) (hb:8 + 0 + b<=60):vd (bw (nV "9") (PR 24 25 0 b "b")) = if 0 < b then (2,-1) else (0,600):=by
 obtain ⟨a,b',_⟩:=oj (t:=24) ⟨by omega,by omega⟩
 obtain ⟨c,d,_⟩:=oj (t:=25) ⟨by omega,by omega⟩
 rw [oJ.2,vrb ⟨a,b'⟩ ⟨c,d⟩ hb]
 by_cases h:0 < b
 ·rw [if_pos h,if_pos (by omega)]
 ·rw [if_neg h,if_neg (by omega)]
  exact congrArg (Prod.mk 0) (by omega)
theorem ok_law {f:Addr} {fd:FuncData} (F:Fun K "law" "law" jH f fd) (T:Txt K mg c) (H__law_box:Has P w K mg base 1 "_law_box" ["_law_cell_here"] spBox) (H__law_cell:Has P w K mg base 1 "_law_cell" ["_law_script", "_law_k"] (pR K)) (H__law_told:Has P w K mg base 13 "_law_told" ["_law_lines"] ft) (H__law_lines_right:Has P w K mg base 14 "_law_lines_right" ["_law_box_here"] dJ) (H__law_names_right:Has P w K mg base 14 "_law_names_right" ["_law_box_here"] dJ) (H__law_loops_right:Has P w K mg base 14 "_law_loops_right" ["_law_box_here"] dJ) (H__law_rows_done_right:Has P w K mg base 14 "_law_rows_done_right" ["_law_box_here"] dJ):FnOk P w K mg base CX0 15 f fd ["_law_script"] (spLaw K):=by
 refine F.ok sc_law (fun vs H Q E h=>?_) (fun cdv A outer s H vs Q E hr h=>?_)
 ·obtain ⟨a,ns,rfl,_⟩:=h
  rfl
 obtain ⟨a,ns,rfl,hS,hlen,q⟩:=h
 refine ⟨_,(ae (cU PassesOwn.never rfl (fR rfl T.n_range (aa (aF (kc rfl) rfl T.n_max boot_max (aa ah (aa (aF (kx rfl) rfl T.n_min boot_min (aa (aF aM rfl T.n_len boot_len (aa (pv 0) af)) (aa ah af))) af))) af)) (bu (i:=1) sc_law.nd rfl (Or.inl rfl))
   (ae (ay (i:=2) sc_law.nd rfl (Or.inl rfl) (aJ H__law_box (hr.mono (by omega)) rfl (aa (aJ H__law_cell (hr.mono (by omega)) rfl (aa (pv 0) (aa (pv 1) af))) af)))
   (ae (aK (PW.pt (dS (bV (bD (aJ H__law_lines_right (hr.mono (by omega)) rfl (aa (pv 2) af)))) (di (bV (bD (aJ H__law_names_right (hr.mono (by omega)) rfl (aa (pv 2) af)))))))
    (aj (aB dA))
    az)
   (aj (cU PassesOwn.never rfl (fR rfl T.n_range (aa ah af)) (bu (i:=3) sc_law.nd rfl (Or.inl rfl))
    (aj (aK (PW.pt (dS (bV (bD (aJ H__law_loops_right (hr.mono (by omega)) rfl (aa (pv 2) af)))) (di (bV (bD (aJ H__law_rows_done_right (hr.mono (by omega)) rfl (aa (pv 2) af)))))))
     (aj (aB dA))
     az)))))))
  (ae (ay (i:=4) sc_law.nd rfl (Or.inl rfl) (aI (cT av (cT av (cT av (cT av (cT av (cT av (cT av (cT av af))))))))))
  (aj (aB (fV (aS eR (aJ H__law_told (hr.mono (by omega)) rfl (aa (pv 4) af)) aR (aw _)) (hG (aS (iQ (d:=0) (bh hr)) (aJ H__law_told (hr.mono (by omega)) rfl (aa (aA bU (cJ eu (pv 4) dX (da ah)) (aI (aa av (aa av af)))) af)) (bq (aa av (aa (jj eX ah) af))) (aw _)))))))),?_⟩
 have k1:1<=sizeLine:=by decide
 have k2:2<=sizeLine:=by decide
 have k8:8<=sizeLine:=by decide
 have L100:(100:Nat)<=sizeLine:=by decide
 have hl:(ns.map V.int).length = ns.length:=List.length_map _
 refine ⟨_,rfl,a,_,rfl,.inl hS,_,_,rfl,_,_,rfl,_,rfl,(by rw [hl]; split <;> (try split) <;> omega),(by rw [hl]; split <;> (try split) <;> omega),iZ (fun i σ H2=>∃ y1 y2 y3 y4:Option V,σ = [some (.ref a),y1,y2,y3,y4]/\Same H H2) ⟨_,_,_,_,rfl,Same.refl _⟩ ?_ ?_⟩
 ·rintro i σ H2 hi2 ⟨y1,y2,y3,y4,rfl,s2⟩
  refine ⟨_,rfl,_,rfl,a,ns,_,rfl,s2.seq hS,by omega,fun c0=>⟨c0,rfl,fun p H3 hp b3 s3=>?_⟩⟩
  have x3:SameX p H2 H3:=SameX.of s3
  refine ⟨_,rfl,p,rfl,b3,fun H4 b4 x4=>⟨_,rfl,cu ⟨_,rfl,p,rfl,b4,fun H5 b5 x5=>⟨_,rfl,cu ?_⟩⟩⟩⟩
  have xA:=x3.trans (x4.trans x5)
  clear x3 x4 x5 s3 b3 b4
  refine ⟨_,rfl,by decide,by decide,iZ (fun j σ HJ=>∃ y:Option V,σ = [some (.ref a),some (.int (0 + (i:Int))),some (.ref p),y,y4]/\Box HJ p/\SameX p H2 HJ) ⟨_,rfl,b5,xA⟩ ?_ ?_⟩
  ·rintro j σ HJ hj ⟨y,rfl,bJ,xJ⟩
   refine ⟨_,rfl,p,rfl,bJ,fun H6 b6 x6=>⟨_,rfl,cu ⟨_,rfl,p,rfl,b6,fun H7 b7 x7=>⟨_,rfl,cu ?_⟩⟩⟩⟩
   exact ⟨_,rfl,b7,xJ.trans (x6.trans x7)⟩
  rintro σ HJ ⟨y,rfl,bJ,xJ⟩
  exact ⟨_,_,_,_,rfl,s2.trans (SameX.fresh hp xJ)⟩
 ·rintro σ H2 ⟨y1,y2,y3,y4,rfl,s2⟩
  refine ⟨k8,fun l0 h0=>?_⟩
  obtain ⟨G1,w1,s1,f1⟩:=eV h0 (.lst pB)
  change upd H2 l0 (.lst _) = G1 at w1
  rw [show [V.str (Str.ofString "width 9"),V.str (Str.ofString "in b plain"),V.str (Str.ofString "repeat 24"),V.str (Str.ofString "repeat 25"),V.str (Str.ofString "b = copy b"),V.str (Str.ofString "end"),V.str (Str.ofString "end"),V.str (Str.ofString "out b")] = pB from rfl,w1]
  have g1:=f1
  rw [mo0] at g1
  refine ⟨_,rfl,l0, "9",PR 24 25 0 0 "b",rfl,g1,mo_ok 0 (by decide),fun v Hv tv sv=>⟨rfl,?_⟩⟩
  have dv:=tv.dv
  rw [mo_v 0 (by decide)] at dv
  rcases dv with ⟨_,rfl⟩ | ⟨_,_,_,z⟩
  rotate_left
  ·exact absurd rfl z
  have fv:=sv _ _ f1
  clear s1 f1 g1
  refine ⟨_,rfl,cP rfl ?_⟩
  refine ⟨_,rfl,_,rfl,l0,_,rfl,SqL.of fv,fun l2 h2=>?_⟩
  obtain ⟨G2,w2,s2',f2⟩:=eV h2 (.lst most7)
  rw [mo_cut,w2]
  refine ⟨k2,fun l3 h3=>?_⟩
  obtain ⟨G3,w3,s3,f3⟩:=eV h3 (.lst [V.str "b = copy b",V.str "out b"])
  rw [w3]
  refine ic (s3 _ _ f2) f3 (by show 7 + 2<=1000; decide) fun l4 G4 s4 f4 _=>?_
  rw [mo1] at f4
  refine ⟨l4, "9",PR 24 25 0 1 "b",rfl,f4,mo_ok 1 (by decide),fun v5 H5 tv5 s5=>⟨_,rfl,k2,fun t ht=>?_⟩⟩
  have dv5:=tv5.dv
  rw [mo_v 1 (by decide)] at dv5
  exact ke (dv5.same (aq ht _)) (.inr ⟨t,rfl,ac,by decide⟩) (q _)
theorem eB {f:Addr} {fd:FuncData} (F:Fun K "__init__" "NoProgram.__init__" br f fd) (T:Txt K mg c)  (xc:XCls K c.NoProgram f "line"):FnOk P w K mg base CX0 1 f fd ["self", "line"] (spXI "line" c.NoProgram):=by
 refine F.ok eE (fun vs H Q E h=>?_) (fun cdv A outer s H vs Q E hr h=>?_)
 ·obtain ⟨e,t,v,rfl,_⟩:=h
  rfl
 obtain ⟨e,t,v,rfl,he,q⟩:=h
 refine ⟨_,(aj (pY (pv 0) (pv 1) rfl)),?_⟩
 exact ⟨_,rfl,_,rfl,e,c.NoProgram,t,_,rfl,he,xc,fun d hd hne=>q d hd hne⟩
theorem fe {f:Addr} {fd:FuncData} (F:Fun K "__init__" "TooMuch.__init__" bQ f fd) (T:Txt K mg c)  (xc:XCls K c.TooMuch f "line"):FnOk P w K mg base CX0 1 f fd ["self", "line"] (spXI "line" c.TooMuch):=by
 refine F.ok fF (fun vs H Q E h=>?_) (fun cdv A outer s H vs Q E hr h=>?_)
 ·obtain ⟨e,t,v,rfl,_⟩:=h
  rfl
 obtain ⟨e,t,v,rfl,he,q⟩:=h
 refine ⟨_,(aj (pY (pv 0) (pv 1) rfl)),?_⟩
 exact ⟨_,rfl,_,rfl,e,c.TooMuch,t,_,rfl,he,xc,fun d hd hne=>q d hd hne⟩
theorem us2 {us:List V} (h:us.length = 2):∃ v u,us = [v,u]:=by
 match us,h with
 | [v,u],_=>exact ⟨v,u,rfl⟩
theorem fE {f:Addr} {fd:FuncData} (F:Fun K "__init__" "Unknown.__init__" bM f fd) (T:Txt K mg c)  (xc:XCl K c.Unknown f) (na0:NoAttr K c.Unknown "line") (na1:NoAttr K c.Unknown "name"):FnOk P w K mg base CX0 1 f fd ["self", "line", "name"] (spXN ["line", "name"] c.Unknown):=by
 refine F.ok fm (fun vs H Q E h=>?_) (fun cdv A outer s H vs Q E hr h=>?_)
 ·obtain ⟨e,t,us,rfl,hl,_⟩:=h
  rw [List.length_cons,hl]
  rfl
 obtain ⟨e,t,us,rfl,hl,he,q⟩:=h
 obtain ⟨v,u,rfl⟩:=us2 hl
 refine ⟨_,(ae (ps_xs1 (pv 0) (pv 1) rfl)
  (aj (ps_xs2 (pv 0) (pv 2) rfl))),?_⟩
 refine ⟨_,rfl,_,rfl,e,c.Unknown,t,_,rfl,he,xc,na0,fun d hd hne=>?_⟩
 exact ⟨_,rfl,_,rfl,e,c.Unknown,t,_,d,_,rfl,ac,(by rw [ai hne]; exact ac),xc,na1,(by show 1<=100; decide),q d _ _ hd hne ac (fun z=>lk_swap (by decide +kernel) z) (by rw [ai (Ne.symm hne)]; exact ac) (fun b b1 b2=>by rw [ai b1,ai b2,ai b1])⟩
end
theorem all_mk {l:PySem.W.OpenLaw} {w:World} {K:Frag} {h:Heap} {mg:Str->Option Value} {fa f1 f2 f3 f4 f5 f6 f7 f8 f9 f10 f11 f12 f13 f14 f15 f16 f17 f18 f19 f20 f21 f22 f23 f24 f25 f26 f27 f28 f29 f30 f31 f32 f33 f34 f35 f36 f37 f38 f39 f40 f41 f42 f43 f44 f45 f46 f47 f48 f49 f50 f51 f52 f53 f54 f55 f56 f57 f58 c_Kind c_Plain c_Row c_Repeat c_Draft c_Program c_NoProgram c_TooMuch c_Unknown c_WiseError c_NoText c_RESERVED c_READ_PLAIN c_READ_ALIKE c_SHAPES:Addr} (X:K.In h) (G:h.Ns mainGlobals mg) (hfa:mg "law" = some (.ref fa))
  {od58 an58:Option Addr} {sl58:Array (Option Value)} {oc58 kV58 dc58 pm58 cd58 ct58:Value}
  (a1:findIn K (.ref c_NoProgram) "__init__" = some (some (.ref f1))) (i1:isFn K (.ref f1) = true)
  (l1:FB K "__init__" "NoProgram.__init__" br f1)
  (a2:findIn K (.ref c_TooMuch) "__init__" = some (some (.ref f2))) (i2:isFn K (.ref f2) = true)
  (l2:FB K "__init__" "TooMuch.__init__" bQ f2)
  (a3:findIn K (.ref c_Unknown) "__init__" = some (some (.ref f3))) (i3:isFn K (.ref f3) = true)
  (l3:FB K "__init__" "Unknown.__init__" bM f3)
  (a4:nsIn K mainGlobals "is_whole" = some (some (.ref f4)))
  (l4:FB K "is_whole" "is_whole" gw f4)
  (a5:nsIn K mainGlobals "is_between" = some (some (.ref f5)))
  (l5:FB K "is_between" "is_between" ee f5)
  (a6:nsIn K mainGlobals "need_width" = some (some (.ref f6)))
  (l6:FB K "need_width" "need_width" eg f6)
  (a7:nsIn K mainGlobals "is_word" = some (some (.ref f7)))
  (l7:FB K "is_word" "is_word" iR f7)
  (a8:findIn K (.ref c_Kind) "__init__" = some (some (.ref f8))) (i8:isFn K (.ref f8) = true)
  (l8:FB K "__init__" "Kind.__init__" cN f8)
  (a9:findIn K (.ref c_Plain) "count_of" = some (some (.ref f9))) (i9:isFn K (.ref f9) = true)
  (l9:FB K "count_of" "Kind.count_of" cO f9)
  (a10:findIn K (.ref c_Plain) "bits_of" = some (some (.ref f10))) (i10:isFn K (.ref f10) = true)
  (l10:FB K "bits_of" "Kind.bits_of" c9 f10)
  (a11:findIn K (.ref c_Plain) "shown" = some (some (.ref f11))) (i11:isFn K (.ref f11) = true)
  (l11:FB K "shown" "Kind.shown" dY f11)
  (a12:findIn K (.ref c_Plain) "read" = some (some (.ref f12))) (i12:isFn K (.ref f12) = true)
  (l12:FB K "read" "Kind.read" fA f12)
  (a13:findIn K (.ref c_Plain) "__init__" = some (some (.ref f13))) (i13:isFn K (.ref f13) = true)
  (l13:FB K "__init__" "Plain.__init__" cB f13)
  (a14:findIn K (.ref c_Plain) "word" = some (some (.ref f14))) (i14:isFn K (.ref f14) = true)
  (l14:FB K "word" "Plain.word" eM f14)
  (a15:findIn K (.ref c_Plain) "least" = some (some (.ref f15))) (i15:isFn K (.ref f15) = true)
  (l15:FB K "least" "Plain.least" dw f15)
  (a16:findIn K (.ref c_Plain) "greatest" = some (some (.ref f16))) (i16:isFn K (.ref f16) = true)
  (l16:FB K "greatest" "Plain.greatest" cA f16)
  (a17:nsIn K mainGlobals "same_kind" = some (some (.ref f17)))
  (l17:FB K "same_kind" "same_kind" fz f17)
  (a18:nsIn K mainGlobals "figures_behind" = some (some (.ref f18)))
  (l18:FB K "figures_behind" "figures_behind" cE f18)
  (a19:nsIn K mainGlobals "count_in" = some (some (.ref f19)))
  (l19:FB K "count_in" "count_in" gt f19)
  (a20:nsIn K mainGlobals "number_in" = some (some (.ref f20)))
  (l20:FB K "number_in" "number_in" fG f20)
  (a21:nsIn K mainGlobals "whole_in" = some (some (.ref f21)))
  (l21:FB K "whole_in" "whole_in" gO f21)
  (a22:findIn K (.ref c_Row) "__init__" = some (some (.ref f22))) (i22:isFn K (.ref f22) = true)
  (l22:FB K "__init__" "Row.__init__" cY f22)
  (a23:findIn K (.ref c_Repeat) "__init__" = some (some (.ref f23))) (i23:isFn K (.ref f23) = true)
  (l23:FB K "__init__" "Repeat.__init__" cq f23)
  (a24:findIn K (.ref c_Draft) "__init__" = some (some (.ref f24))) (i24:isFn K (.ref f24) = true)
  (l24:FB K "__init__" "Draft.__init__" cy f24)
  (a25:findIn K (.ref c_Draft) "takes" = some (some (.ref f25))) (i25:isFn K (.ref f25) = true)
  (l25:FB K "takes" "Draft.takes" dm f25)
  (a26:findIn K (.ref c_Draft) "takes_in" = some (some (.ref f26))) (i26:isFn K (.ref f26) = true)
  (l26:FB K "takes_in" "Draft.takes_in" cz f26)
  (a27:findIn K (.ref c_Draft) "takes_out" = some (some (.ref f27))) (i27:isFn K (.ref f27) = true)
  (l27:FB K "takes_out" "Draft.takes_out" ca f27)
  (a28:findIn K (.ref c_Draft) "takes_repeat" = some (some (.ref f28))) (i28:isFn K (.ref f28) = true)
  (l28:FB K "takes_repeat" "Draft.takes_repeat" bt f28)
  (a29:findIn K (.ref c_Draft) "takes_end" = some (some (.ref f29))) (i29:isFn K (.ref f29) = true)
  (l29:FB K "takes_end" "Draft.takes_end" ce f29)
  (a30:findIn K (.ref c_Draft) "takes_row" = some (some (.ref f30))) (i30:isFn K (.ref f30) = true)
  (l30:FB K "takes_row" "Draft.takes_row" bZ f30)
  (a31:findIn K (.ref c_Draft) "rows_here" = some (some (.ref f31))) (i31:isFn K (.ref f31) = true)
  (l31:FB K "rows_here" "Draft.rows_here" bY f31)
  (a32:findIn K (.ref c_Draft) "is_too_much" = some (some (.ref f32))) (i32:isFn K (.ref f32) = true)
  (l32:FB K "is_too_much" "Draft.is_too_much" bE f32)
  (a33:nsIn K mainGlobals "is_name" = some (some (.ref f33)))
  (l33:FB K "is_name" "is_name" iU f33)
  (a34:nsIn K mainGlobals "number_told" = some (some (.ref f34)))
  (l34:FB K "number_told" "number_told" dq f34)
  (a35:nsIn K mainGlobals "kind_told" = some (some (.ref f35)))
  (l35:FB K "kind_told" "kind_told" e9 f35)
  (a36:nsIn K mainGlobals "row_told" = some (some (.ref f36)))
  (l36:FB K "row_told" "row_told" hB f36)
  (a37:nsIn K mainGlobals "set_told" = some (some (.ref f37)))
  (l37:FB K "set_told" "set_told" gZ f37)
  (a38:nsIn K mainGlobals "put_into" = some (some (.ref f38)))
  (l38:FB K "put_into" "put_into" gy f38)
  (a39:nsIn K mainGlobals "first_walk" = some (some (.ref f39)))
  (l39:FB K "first_walk" "first_walk" eG f39)
  (a40:findIn K (.ref c_Program) "__init__" = some (some (.ref f40))) (i40:isFn K (.ref f40) = true)
  (l40:FB K "__init__" "Program.__init__" bN f40)
  (a41:findIn K (.ref c_Program) "rows_run" = some (some (.ref f41))) (i41:isFn K (.ref f41) = true)
  (l41:FB K "rows_run" "Program.rows_run" bO f41)
  (a42:nsIn K mainGlobals "count_rows" = some (some (.ref f42)))
  (l42:FB K "count_rows" "count_rows" dP f42)
  (a43:nsIn K mainGlobals "not_of_word" = some (some (.ref f43)))
  (l43:FB K "not_of_word" "not_of_word" dn f43)
  (a44:nsIn K mainGlobals "wrongly_read" = some (some (.ref f44)))
  (l44:FB K "wrongly_read" "wrongly_read" c5 f44)
  (a45:nsIn K mainGlobals "kind_put" = some (some (.ref f45)))
  (l45:FB K "kind_put" "kind_put" gF f45)
  (a46:nsIn K mainGlobals "need_row" = some (some (.ref f46)))
  (l46:FB K "need_row" "need_row" gQ f46)
  (a47:nsIn K mainGlobals "need_outs" = some (some (.ref f47)))
  (l47:FB K "need_outs" "need_outs" eZ f47)
  (a48:nsIn K mainGlobals "second_walk" = some (some (.ref f48)))
  (l48:FB K "second_walk" "second_walk" dG f48)
  (a49:nsIn K mainGlobals "read_program" = some (some (.ref f49)))
  (l49:FB K "read_program" "read_program" c8 f49)
  (a50:nsIn K mainGlobals "_law_cell" = some (some (.ref f50)))
  (l50:FB K "_law_cell" "_law_cell" fc f50)
  (a51:nsIn K mainGlobals "_law_box" = some (some (.ref f51)))
  (l51:FB K "_law_box" "_law_box" gW f51)
  (a52:nsIn K mainGlobals "_law_take" = some (some (.ref f52)))
  (l52:FB K "_law_take" "_law_take" fj f52)
  (a53:nsIn K mainGlobals "_law_told" = some (some (.ref f53)))
  (l53:FB K "_law_told" "_law_told" fB f53)
  (a54:nsIn K mainGlobals "_law_lines_right" = some (some (.ref f54)))
  (l54:FB K "_law_lines_right" "_law_lines_right" bP f54)
  (a55:nsIn K mainGlobals "_law_names_right" = some (some (.ref f55)))
  (l55:FB K "_law_names_right" "_law_names_right" bL f55)
  (a56:nsIn K mainGlobals "_law_loops_right" = some (some (.ref f56)))
  (l56:FB K "_law_loops_right" "_law_loops_right" bR f56)
  (a57:nsIn K mainGlobals "_law_rows_done_right" = some (some (.ref f57)))
  (l57:FB K "_law_rows_done_right" "_law_rows_done_right" bb f57)
  (a58:nsIn K mainGlobals "law" = some (some (.ref f58)))
  (l58:K.lookup f58 = some ⟨oc58,od58,.func (fnOf "law" "law" (dR jH) (cZ jH) (ak jH) .none kV58 dc58 pm58 an58 cd58 ct58),sl58⟩) (c58:codeIn K cd58 "law" = true) (k58:keepIn K (.ref f58) = true)
  (aC_Kind:nsIn K mainGlobals "Kind" = some (some (.ref c_Kind))) (pg_Kind:plainGet K c_Kind Str.empty = true) (hd_Kind:hasDictIn K c_Kind = true) (po_Kind:plainOver K c_Kind = true) (sa_Kind:findIn K (.ref c_Kind) "__setattr__" = some (some (.builtin "object.__setattr__")))
  (rd_Kind:PySem.W.readsIn K c_Kind (.type "type") = true) (ga_Kind:PySem.W.specialIn K (.ref c_Kind) "__getattribute__" = some (some (.builtin "type.__getattribute__"))) (fn_Kind___init__:PySem.W.findCls K (.ref c_Kind) (.type "type") "__init__" = some (.val (.ref f8)))
  (aC_Plain:nsIn K mainGlobals "Plain" = some (some (.ref c_Plain))) (pg_Plain:plainGet K c_Plain Str.empty = true) (hd_Plain:hasDictIn K c_Plain = true) (po_Plain:plainOver K c_Plain = true) (sa_Plain:findIn K (.ref c_Plain) "__setattr__" = some (some (.builtin "object.__setattr__")))
  (mk_Plain:makesIn K c_Plain = true) (kc_Plain:keepIn K (.ref c_Plain) = true)
  (na_Plain_width:findIn K (.ref c_Plain) "width" = some none)
  (na_Plain_point:findIn K (.ref c_Plain) "point" = some none)
  (aC_Row:nsIn K mainGlobals "Row" = some (some (.ref c_Row))) (pg_Row:plainGet K c_Row Str.empty = true) (hd_Row:hasDictIn K c_Row = true) (po_Row:plainOver K c_Row = true) (sa_Row:findIn K (.ref c_Row) "__setattr__" = some (some (.builtin "object.__setattr__")))
  (mk_Row:makesIn K c_Row = true) (kc_Row:keepIn K (.ref c_Row) = true)
  (na_Row_line:findIn K (.ref c_Row) "line" = some none)
  (na_Row_deed:findIn K (.ref c_Row) "deed" = some none)
  (na_Row_goals:findIn K (.ref c_Row) "goals" = some none)
  (na_Row_reads:findIn K (.ref c_Row) "reads" = some none)
  (na_Row_numbers:findIn K (.ref c_Row) "numbers" = some none)
  (na_Row_way:findIn K (.ref c_Row) "way" = some none)
  (aC_Repeat:nsIn K mainGlobals "Repeat" = some (some (.ref c_Repeat))) (pg_Repeat:plainGet K c_Repeat Str.empty = true) (hd_Repeat:hasDictIn K c_Repeat = true) (po_Repeat:plainOver K c_Repeat = true) (sa_Repeat:findIn K (.ref c_Repeat) "__setattr__" = some (some (.builtin "object.__setattr__")))
  (mk_Repeat:makesIn K c_Repeat = true) (kc_Repeat:keepIn K (.ref c_Repeat) = true)
  (na_Repeat_line:findIn K (.ref c_Repeat) "line" = some none)
  (na_Repeat_times:findIn K (.ref c_Repeat) "times" = some none)
  (na_Repeat_rows:findIn K (.ref c_Repeat) "rows" = some none)
  (aC_Draft:nsIn K mainGlobals "Draft" = some (some (.ref c_Draft))) (pg_Draft:plainGet K c_Draft Str.empty = true) (hd_Draft:hasDictIn K c_Draft = true) (po_Draft:plainOver K c_Draft = true) (sa_Draft:findIn K (.ref c_Draft) "__setattr__" = some (some (.builtin "object.__setattr__")))
  (mk_Draft:makesIn K c_Draft = true) (kc_Draft:keepIn K (.ref c_Draft) = true)
  (na_Draft_width:findIn K (.ref c_Draft) "width" = some none)
  (na_Draft_inputs:findIn K (.ref c_Draft) "inputs" = some none)
  (na_Draft_rows:findIn K (.ref c_Draft) "rows" = some none)
  (na_Draft_outs:findIn K (.ref c_Draft) "outs" = some none)
  (na_Draft_row_pairs:findIn K (.ref c_Draft) "row_pairs" = some none)
  (na_Draft_loops:findIn K (.ref c_Draft) "loops" = some none)
  (na_Draft_met:findIn K (.ref c_Draft) "met" = some none)
  (aC_Program:nsIn K mainGlobals "Program" = some (some (.ref c_Program))) (pg_Program:plainGet K c_Program Str.empty = true) (hd_Program:hasDictIn K c_Program = true) (po_Program:plainOver K c_Program = true) (sa_Program:findIn K (.ref c_Program) "__setattr__" = some (some (.builtin "object.__setattr__")))
  (mk_Program:makesIn K c_Program = true) (kc_Program:keepIn K (.ref c_Program) = true)
  (na_Program_width:findIn K (.ref c_Program) "width" = some none)
  (na_Program_inputs:findIn K (.ref c_Program) "inputs" = some none)
  (na_Program_rows:findIn K (.ref c_Program) "rows" = some none)
  (na_Program_outs:findIn K (.ref c_Program) "outs" = some none)
  (na_Program_kinds:findIn K (.ref c_Program) "kinds" = some none)
  (na_Program_source:findIn K (.ref c_Program) "source" = some none)
  (aC_NoProgram:nsIn K mainGlobals "NoProgram" = some (some (.ref c_NoProgram)))
  (aC_TooMuch:nsIn K mainGlobals "TooMuch" = some (some (.ref c_TooMuch)))
  (aC_Unknown:nsIn K mainGlobals "Unknown" = some (some (.ref c_Unknown)))
  (aC_WiseError:nsIn K mainGlobals "WiseError" = some (some (.ref c_WiseError)))
  (aC_NoText:nsIn K mainGlobals "NoText" = some (some (.ref c_NoText)))
  (xe_NoProgram:mz K c_NoProgram f1 = true) (xs_NoProgram:findIn K (.ref c_NoProgram) "__setattr__" = some (some (.builtin "object.__setattr__"))) (xm_NoProgram:mroIn K c_NoProgram (.type "object") = some true) (xn_NoProgram:findIn K (.ref c_NoProgram) "line" = some none) (xf_NoProgram:typeIn K (.ref f1) = some (.type "function")) (xk_NoProgram:keepIn K (.ref c_NoProgram) = true)
  (xe_TooMuch:mz K c_TooMuch f2 = true) (xs_TooMuch:findIn K (.ref c_TooMuch) "__setattr__" = some (some (.builtin "object.__setattr__"))) (xm_TooMuch:mroIn K c_TooMuch (.type "object") = some true) (xn_TooMuch:findIn K (.ref c_TooMuch) "line" = some none) (xf_TooMuch:typeIn K (.ref f2) = some (.type "function")) (xk_TooMuch:keepIn K (.ref c_TooMuch) = true)
  (xe_Unknown:mz K c_Unknown f3 = true) (xs_Unknown:findIn K (.ref c_Unknown) "__setattr__" = some (some (.builtin "object.__setattr__"))) (xm_Unknown:mroIn K c_Unknown (.type "object") = some true) (xf_Unknown:typeIn K (.ref f3) = some (.type "function")) (xk_Unknown:keepIn K (.ref c_Unknown) = true) (xn_Unknown_line:findIn K (.ref c_Unknown) "line" = some none) (xn_Unknown_name:findIn K (.ref c_Unknown) "name" = some none)
  {dW_RESERVED:Option Addr} {nW_RESERVED:Nat} {sW_RESERVED:Array (Option Value)} {u0_RESERVED u1_RESERVED u2_RESERVED u3_RESERVED u4_RESERVED u5_RESERVED u6_RESERVED u7_RESERVED u8_RESERVED u9_RESERVED u10_RESERVED u11_RESERVED u12_RESERVED u13_RESERVED u14_RESERVED u15_RESERVED u16_RESERVED u17_RESERVED u18_RESERVED u19_RESERVED u20_RESERVED u21_RESERVED u22_RESERVED u23_RESERVED u24_RESERVED u25_RESERVED u26_RESERVED u27_RESERVED u28_RESERVED u29_RESERVED u30_RESERVED:Tok} (aW_RESERVED:nsIn K mainGlobals "RESERVED" = some (some (.ref c_RESERVED))) (lW_RESERVED:K.lookup c_RESERVED = some ⟨.type "tuple",dW_RESERVED,.seq #[.str "width" u0_RESERVED,.str "in" u1_RESERVED,.str "out" u2_RESERVED,.str "plain" u3_RESERVED,.str "signed" u4_RESERVED,.str "point" u5_RESERVED,.str "set" u6_RESERVED,.str "copy" u7_RESERVED,.str "add" u8_RESERVED,.str "sub" u9_RESERVED,.str "addstop" u10_RESERVED,.str "substop" u11_RESERVED,.str "low" u12_RESERVED,.str "high" u13_RESERVED,.str "left" u14_RESERVED,.str "right" u15_RESERVED,.str "less" u16_RESERVED,.str "same" u17_RESERVED,.str "pick" u18_RESERVED,.str "div" u19_RESERVED,.str "rest" u20_RESERVED,.str "over" u21_RESERVED,.str "times" u22_RESERVED,.str "mul" u23_RESERVED,.str "part" u24_RESERVED,.str "repeat" u25_RESERVED,.str "end" u26_RESERVED,.str "down" u27_RESERVED,.str "up" u28_RESERVED,.str "cut" u29_RESERVED,.str "near" u30_RESERVED] nW_RESERVED,sW_RESERVED⟩)
  {dW_READ_PLAIN:Option Addr} {nW_READ_PLAIN:Nat} {sW_READ_PLAIN:Array (Option Value)} {u0_READ_PLAIN u1_READ_PLAIN u2_READ_PLAIN u3_READ_PLAIN u4_READ_PLAIN:Tok} (aW_READ_PLAIN:nsIn K mainGlobals "READ_PLAIN" = some (some (.ref c_READ_PLAIN))) (lW_READ_PLAIN:K.lookup c_READ_PLAIN = some ⟨.type "tuple",dW_READ_PLAIN,.seq #[.str "low" u0_READ_PLAIN,.str "high" u1_READ_PLAIN,.str "over" u2_READ_PLAIN,.str "rest" u3_READ_PLAIN,.str "part" u4_READ_PLAIN] nW_READ_PLAIN,sW_READ_PLAIN⟩)
  {dW_READ_ALIKE:Option Addr} {nW_READ_ALIKE:Nat} {sW_READ_ALIKE:Array (Option Value)} {u0_READ_ALIKE u1_READ_ALIKE u2_READ_ALIKE u3_READ_ALIKE u4_READ_ALIKE u5_READ_ALIKE u6_READ_ALIKE u7_READ_ALIKE:Tok} (aW_READ_ALIKE:nsIn K mainGlobals "READ_ALIKE" = some (some (.ref c_READ_ALIKE))) (lW_READ_ALIKE:K.lookup c_READ_ALIKE = some ⟨.type "tuple",dW_READ_ALIKE,.seq #[.str "add" u0_READ_ALIKE,.str "sub" u1_READ_ALIKE,.str "addstop" u2_READ_ALIKE,.str "substop" u3_READ_ALIKE,.str "less" u4_READ_ALIKE,.str "same" u5_READ_ALIKE,.str "mul" u6_READ_ALIKE,.str "pick" u7_READ_ALIKE] nW_READ_ALIKE,sW_READ_ALIKE⟩)
  {eD_SHAPES:Nat} {kD0_SHAPES kD1_SHAPES kD2_SHAPES kD3_SHAPES kD4_SHAPES kD5_SHAPES kD6_SHAPES kD7_SHAPES kD8_SHAPES kD9_SHAPES kD10_SHAPES kD11_SHAPES kD12_SHAPES kD13_SHAPES kD14_SHAPES kD15_SHAPES kD16_SHAPES kD17_SHAPES:Tok} {vD0_SHAPES vD1_SHAPES vD2_SHAPES vD3_SHAPES vD4_SHAPES vD5_SHAPES vD6_SHAPES vD7_SHAPES vD8_SHAPES vD9_SHAPES vD10_SHAPES vD11_SHAPES vD12_SHAPES vD13_SHAPES vD14_SHAPES vD15_SHAPES vD16_SHAPES vD17_SHAPES:Addr} (aW_SHAPES:nsIn K mainGlobals "SHAPES" = some (some (.ref c_SHAPES))) (lW_SHAPES:K.lookup c_SHAPES = some ⟨.type "dict",none,.dict #[⟨PyData.keyHash w.params "copy",.str "copy" kD0_SHAPES,.ref vD0_SHAPES⟩,⟨PyData.keyHash w.params "pick",.str "pick" kD1_SHAPES,.ref vD1_SHAPES⟩,⟨PyData.keyHash w.params "add",.str "add" kD2_SHAPES,.ref vD2_SHAPES⟩,⟨PyData.keyHash w.params "sub",.str "sub" kD3_SHAPES,.ref vD3_SHAPES⟩,⟨PyData.keyHash w.params "addstop",.str "addstop" kD4_SHAPES,.ref vD4_SHAPES⟩,⟨PyData.keyHash w.params "substop",.str "substop" kD5_SHAPES,.ref vD5_SHAPES⟩,⟨PyData.keyHash w.params "low",.str "low" kD6_SHAPES,.ref vD6_SHAPES⟩,⟨PyData.keyHash w.params "high",.str "high" kD7_SHAPES,.ref vD7_SHAPES⟩,⟨PyData.keyHash w.params "less",.str "less" kD8_SHAPES,.ref vD8_SHAPES⟩,⟨PyData.keyHash w.params "same",.str "same" kD9_SHAPES,.ref vD9_SHAPES⟩,⟨PyData.keyHash w.params "over",.str "over" kD10_SHAPES,.ref vD10_SHAPES⟩,⟨PyData.keyHash w.params "left",.str "left" kD11_SHAPES,.ref vD11_SHAPES⟩,⟨PyData.keyHash w.params "right",.str "right" kD12_SHAPES,.ref vD12_SHAPES⟩,⟨PyData.keyHash w.params "rest",.str "rest" kD13_SHAPES,.ref vD13_SHAPES⟩,⟨PyData.keyHash w.params "div",.str "div" kD14_SHAPES,.ref vD14_SHAPES⟩,⟨PyData.keyHash w.params "times",.str "times" kD15_SHAPES,.ref vD15_SHAPES⟩,⟨PyData.keyHash w.params "mul",.str "mul" kD16_SHAPES,.ref vD16_SHAPES⟩,⟨PyData.keyHash w.params "part",.str "part" kD17_SHAPES,.ref vD17_SHAPES⟩] eD_SHAPES,#[]⟩)
  {dD0_SHAPES:Option Addr} {nD0_SHAPES:Nat} {tD0_SHAPES:Array (Option Value)} {uD0_0_SHAPES:Tok} (lD0_SHAPES:K.lookup vD0_SHAPES = some ⟨.type "tuple",dD0_SHAPES,.seq #[.str "name" uD0_0_SHAPES] nD0_SHAPES,tD0_SHAPES⟩)
  {dD1_SHAPES:Option Addr} {nD1_SHAPES:Nat} {tD1_SHAPES:Array (Option Value)} {uD1_0_SHAPES uD1_1_SHAPES uD1_2_SHAPES:Tok} (lD1_SHAPES:K.lookup vD1_SHAPES = some ⟨.type "tuple",dD1_SHAPES,.seq #[.str "name" uD1_0_SHAPES,.str "name" uD1_1_SHAPES,.str "name" uD1_2_SHAPES] nD1_SHAPES,tD1_SHAPES⟩)
  {dD2_SHAPES:Option Addr} {nD2_SHAPES:Nat} {tD2_SHAPES:Array (Option Value)} {uD2_0_SHAPES uD2_1_SHAPES:Tok} (lD2_SHAPES:K.lookup vD2_SHAPES = some ⟨.type "tuple",dD2_SHAPES,.seq #[.str "name" uD2_0_SHAPES,.str "name" uD2_1_SHAPES] nD2_SHAPES,tD2_SHAPES⟩)
  {dD3_SHAPES:Option Addr} {nD3_SHAPES:Nat} {tD3_SHAPES:Array (Option Value)} {uD3_0_SHAPES uD3_1_SHAPES:Tok} (lD3_SHAPES:K.lookup vD3_SHAPES = some ⟨.type "tuple",dD3_SHAPES,.seq #[.str "name" uD3_0_SHAPES,.str "name" uD3_1_SHAPES] nD3_SHAPES,tD3_SHAPES⟩)
  {dD4_SHAPES:Option Addr} {nD4_SHAPES:Nat} {tD4_SHAPES:Array (Option Value)} {uD4_0_SHAPES uD4_1_SHAPES:Tok} (lD4_SHAPES:K.lookup vD4_SHAPES = some ⟨.type "tuple",dD4_SHAPES,.seq #[.str "name" uD4_0_SHAPES,.str "name" uD4_1_SHAPES] nD4_SHAPES,tD4_SHAPES⟩)
  {dD5_SHAPES:Option Addr} {nD5_SHAPES:Nat} {tD5_SHAPES:Array (Option Value)} {uD5_0_SHAPES uD5_1_SHAPES:Tok} (lD5_SHAPES:K.lookup vD5_SHAPES = some ⟨.type "tuple",dD5_SHAPES,.seq #[.str "name" uD5_0_SHAPES,.str "name" uD5_1_SHAPES] nD5_SHAPES,tD5_SHAPES⟩)
  {dD6_SHAPES:Option Addr} {nD6_SHAPES:Nat} {tD6_SHAPES:Array (Option Value)} {uD6_0_SHAPES uD6_1_SHAPES:Tok} (lD6_SHAPES:K.lookup vD6_SHAPES = some ⟨.type "tuple",dD6_SHAPES,.seq #[.str "name" uD6_0_SHAPES,.str "name" uD6_1_SHAPES] nD6_SHAPES,tD6_SHAPES⟩)
  {dD7_SHAPES:Option Addr} {nD7_SHAPES:Nat} {tD7_SHAPES:Array (Option Value)} {uD7_0_SHAPES uD7_1_SHAPES:Tok} (lD7_SHAPES:K.lookup vD7_SHAPES = some ⟨.type "tuple",dD7_SHAPES,.seq #[.str "name" uD7_0_SHAPES,.str "name" uD7_1_SHAPES] nD7_SHAPES,tD7_SHAPES⟩)
  {dD8_SHAPES:Option Addr} {nD8_SHAPES:Nat} {tD8_SHAPES:Array (Option Value)} {uD8_0_SHAPES uD8_1_SHAPES:Tok} (lD8_SHAPES:K.lookup vD8_SHAPES = some ⟨.type "tuple",dD8_SHAPES,.seq #[.str "name" uD8_0_SHAPES,.str "name" uD8_1_SHAPES] nD8_SHAPES,tD8_SHAPES⟩)
  {dD9_SHAPES:Option Addr} {nD9_SHAPES:Nat} {tD9_SHAPES:Array (Option Value)} {uD9_0_SHAPES uD9_1_SHAPES:Tok} (lD9_SHAPES:K.lookup vD9_SHAPES = some ⟨.type "tuple",dD9_SHAPES,.seq #[.str "name" uD9_0_SHAPES,.str "name" uD9_1_SHAPES] nD9_SHAPES,tD9_SHAPES⟩)
  {dD10_SHAPES:Option Addr} {nD10_SHAPES:Nat} {tD10_SHAPES:Array (Option Value)} {uD10_0_SHAPES uD10_1_SHAPES:Tok} (lD10_SHAPES:K.lookup vD10_SHAPES = some ⟨.type "tuple",dD10_SHAPES,.seq #[.str "name" uD10_0_SHAPES,.str "name" uD10_1_SHAPES] nD10_SHAPES,tD10_SHAPES⟩)
  {dD11_SHAPES:Option Addr} {nD11_SHAPES:Nat} {tD11_SHAPES:Array (Option Value)} {uD11_0_SHAPES uD11_1_SHAPES:Tok} (lD11_SHAPES:K.lookup vD11_SHAPES = some ⟨.type "tuple",dD11_SHAPES,.seq #[.str "name" uD11_0_SHAPES,.str "shift" uD11_1_SHAPES] nD11_SHAPES,tD11_SHAPES⟩)
  {dD12_SHAPES:Option Addr} {nD12_SHAPES:Nat} {tD12_SHAPES:Array (Option Value)} {uD12_0_SHAPES uD12_1_SHAPES:Tok} (lD12_SHAPES:K.lookup vD12_SHAPES = some ⟨.type "tuple",dD12_SHAPES,.seq #[.str "name" uD12_0_SHAPES,.str "shift" uD12_1_SHAPES] nD12_SHAPES,tD12_SHAPES⟩)
  {dD13_SHAPES:Option Addr} {nD13_SHAPES:Nat} {tD13_SHAPES:Array (Option Value)} {uD13_0_SHAPES uD13_1_SHAPES:Tok} (lD13_SHAPES:K.lookup vD13_SHAPES = some ⟨.type "tuple",dD13_SHAPES,.seq #[.str "name" uD13_0_SHAPES,.str "divisor" uD13_1_SHAPES] nD13_SHAPES,tD13_SHAPES⟩)
  {dD14_SHAPES:Option Addr} {nD14_SHAPES:Nat} {tD14_SHAPES:Array (Option Value)} {uD14_0_SHAPES uD14_1_SHAPES uD14_2_SHAPES:Tok} (lD14_SHAPES:K.lookup vD14_SHAPES = some ⟨.type "tuple",dD14_SHAPES,.seq #[.str "name" uD14_0_SHAPES,.str "divisor" uD14_1_SHAPES,.str "way" uD14_2_SHAPES] nD14_SHAPES,tD14_SHAPES⟩)
  {dD15_SHAPES:Option Addr} {nD15_SHAPES:Nat} {tD15_SHAPES:Array (Option Value)} {uD15_0_SHAPES uD15_1_SHAPES uD15_2_SHAPES:Tok} (lD15_SHAPES:K.lookup vD15_SHAPES = some ⟨.type "tuple",dD15_SHAPES,.seq #[.str "name" uD15_0_SHAPES,.str "fraction" uD15_1_SHAPES,.str "way" uD15_2_SHAPES] nD15_SHAPES,tD15_SHAPES⟩)
  {dD16_SHAPES:Option Addr} {nD16_SHAPES:Nat} {tD16_SHAPES:Array (Option Value)} {uD16_0_SHAPES uD16_1_SHAPES uD16_2_SHAPES:Tok} (lD16_SHAPES:K.lookup vD16_SHAPES = some ⟨.type "tuple",dD16_SHAPES,.seq #[.str "name" uD16_0_SHAPES,.str "name" uD16_1_SHAPES,.str "way" uD16_2_SHAPES] nD16_SHAPES,tD16_SHAPES⟩)
  {dD17_SHAPES:Option Addr} {nD17_SHAPES:Nat} {tD17_SHAPES:Array (Option Value)} {uD17_0_SHAPES uD17_1_SHAPES:Tok} (lD17_SHAPES:K.lookup vD17_SHAPES = some ⟨.type "tuple",dD17_SHAPES,.seq #[.str "name" uD17_0_SHAPES,.str "divisor" uD17_1_SHAPES] nD17_SHAPES,tD17_SHAPES⟩)
  {tS_LETTERS:Tok} (aS_LETTERS:nsIn K mainGlobals "LETTERS" = some (some (.str "abcdefghijklmnopqrstuvwxyz" tS_LETTERS)))
  {tN_LONGEST_SHOWN:Tok} (aN_LONGEST_SHOWN:nsIn K mainGlobals "LONGEST_SHOWN" = some (some (.int 43 tN_LONGEST_SHOWN)))
  {tN_MOST_LINES:Tok} (aN_MOST_LINES:nsIn K mainGlobals "MOST_LINES" = some (some (.int 60 tN_MOST_LINES)))
  {tN_MOST_NAMES:Tok} (aN_MOST_NAMES:nsIn K mainGlobals "MOST_NAMES" = some (some (.int 30 tN_MOST_NAMES)))
  {tN_MOST_LOOPS:Tok} (aN_MOST_LOOPS:nsIn K mainGlobals "MOST_LOOPS" = some (some (.int 3 tN_MOST_LOOPS)))
  {tN_MOST_ROWS:Tok} (aN_MOST_ROWS:nsIn K mainGlobals "MOST_ROWS" = some (some (.int 600 tN_MOST_ROWS)))
  (kf_og:PySem.W.specialIn K (.builtin "object.__class__") "__get__" = some (some (.builtin "getset_descriptor.__get__")))
  (kf_ot:PySem.W.takesIn K (.builtin "object.__class__") = some true)
  (kf_fcA:findIn K (.ref c_Row) "__class__" = some (some (.builtin "object.__class__")))
  (kf_fcB:findIn K (.ref c_Repeat) "__class__" = some (some (.builtin "object.__class__")))
  (kf_moA:mroIn K c_Row (.type "object") = some true)
  (kf_moB:mroIn K c_Repeat (.type "object") = some true)
  (kf_if:isClsIn K c_Repeat = true)
  (kf_tf:typeIn K (.ref c_Repeat) = some (.type "type"))
  (kf_mAB:mroIn K c_Row (.ref c_Repeat) = some false)
  (kf_mAA:mroIn K c_Row (.ref c_Row) = some true)
  (kf_mBB:mroIn K c_Repeat (.ref c_Repeat) = some true)
  (kf_kr_SHAPES:(c_SHAPES == PySem.sysModules) = false)
  (kf_if_NoProgram:isClsIn K c_NoProgram = true)
  (kf_tf_NoProgram:typeIn K (.ref c_NoProgram) = some (.type "type"))
  (kf_mf_NoProgram:mroIn K c_NoProgram (.ref c_NoProgram) = some true)
  (kf_wb_NoProgram:mroIn K c_NoProgram (.type "BaseException") = some true)
  (kf_ga_NoProgram:findIn K (.ref c_NoProgram) "__getattribute__" = some (some (.builtin "BaseException.__getattribute__")))
  (kf_gn_NoProgram:findIn K (.ref c_NoProgram) "__getattr__" = some none)
  (kf_gc_NoProgram:findIn K (.ref c_NoProgram) "__class__" = some (some (.builtin "object.__class__")))
  (kf_mo_NoProgram:mroIn K c_NoProgram (.type "object") = some true)
  (kf_mb_NoProgram:mroIn K c_NoProgram (.type "BaseException") = some true)
  (kf_hd_NoProgram:hasDictIn K c_NoProgram = true)
  (kf_nf_NoProgram:findIn K (.ref c_NoProgram) "line" = some none)
  (kf_if_TooMuch:isClsIn K c_TooMuch = true)
  (kf_tf_TooMuch:typeIn K (.ref c_TooMuch) = some (.type "type"))
  (kf_mf_TooMuch:mroIn K c_TooMuch (.ref c_TooMuch) = some true)
  (kf_wb_TooMuch:mroIn K c_TooMuch (.type "BaseException") = some true)
  (kf_ga_TooMuch:findIn K (.ref c_TooMuch) "__getattribute__" = some (some (.builtin "BaseException.__getattribute__")))
  (kf_gn_TooMuch:findIn K (.ref c_TooMuch) "__getattr__" = some none)
  (kf_gc_TooMuch:findIn K (.ref c_TooMuch) "__class__" = some (some (.builtin "object.__class__")))
  (kf_mo_TooMuch:mroIn K c_TooMuch (.type "object") = some true)
  (kf_mb_TooMuch:mroIn K c_TooMuch (.type "BaseException") = some true)
  (kf_hd_TooMuch:hasDictIn K c_TooMuch = true)
  (kf_nf_TooMuch:findIn K (.ref c_TooMuch) "line" = some none)
  (kf_if_Unknown:isClsIn K c_Unknown = true)
  (kf_tf_Unknown:typeIn K (.ref c_Unknown) = some (.type "type"))
  (kf_mf_Unknown:mroIn K c_Unknown (.ref c_Unknown) = some true)
  (kf_wb_Unknown:mroIn K c_Unknown (.type "BaseException") = some true)
  (kf_ga_Unknown:findIn K (.ref c_Unknown) "__getattribute__" = some (some (.builtin "BaseException.__getattribute__")))
  (kf_gn_Unknown:findIn K (.ref c_Unknown) "__getattr__" = some none)
  (kf_gc_Unknown:findIn K (.ref c_Unknown) "__class__" = some (some (.builtin "object.__class__")))
  (kf_mo_Unknown:mroIn K c_Unknown (.type "object") = some true)
  (kf_mb_Unknown:mroIn K c_Unknown (.type "BaseException") = some true)
  (kf_hd_Unknown:hasDictIn K c_Unknown = true)
  (kf_nf_Unknown:findIn K (.ref c_Unknown) "line" = some none)
  (kf_m_TooMuch_NoProgram:mroIn K c_TooMuch (.ref c_NoProgram) = some false)
  (kf_m_Unknown_NoProgram:mroIn K c_Unknown (.ref c_NoProgram) = some false)
  (kf_m_Unknown_TooMuch:mroIn K c_Unknown (.ref c_TooMuch) = some false)
  (z_isinstance:nsIn K mainGlobals "isinstance" = some none) (z_int:nsIn K mainGlobals "int" = some none) (z_bool:nsIn K mainGlobals "bool" = some none) (z_str:nsIn K mainGlobals "str" = some none) (z_list:nsIn K mainGlobals "list" = some none) (z_tuple:nsIn K mainGlobals "tuple" = some none) (z_dict:nsIn K mainGlobals "dict" = some none) (z_len:nsIn K mainGlobals "len" = some none) (z_max:nsIn K mainGlobals "max" = some none) (z_min:nsIn K mainGlobals "min" = some none) (z_range:nsIn K mainGlobals "range" = some none) (z_all:nsIn K mainGlobals "all" = some none) (z_sum:nsIn K mainGlobals "sum" = some none) (z_abs:nsIn K mainGlobals "abs" = some none) (z_zip:nsIn K mainGlobals "zip" = some none) (z_enumerate:nsIn K mainGlobals "enumerate" = some none) :
  ∃ fd:FuncData,(∀ (s:Shared) (v:Value),BindsTo s fd ⟨[v],[]⟩ [("_law_script",v)])/\∀ base:Heap,K.In base->base.Ns mainGlobals mg->FnOk l.prog w K mg base CX0 15 fa fd ["_law_script"] ((spLaw K)):=by
 have e:=hfa.symm.trans (mg_of X G a58)
 cases e
 let cc:Ad:=⟨c_Kind,c_Plain,c_Row,c_Repeat,c_Draft,c_Program,c_NoProgram,c_TooMuch,c_Unknown,c_WiseError,c_NoText,c_RESERVED,c_READ_PLAIN,c_READ_ALIKE,c_SHAPES⟩
 have T:Txt K mg cc:=⟨mg_none_of X G z_isinstance,mg_none_of X G z_int,mg_none_of X G z_bool,mg_none_of X G z_str,mg_none_of X G z_list,mg_none_of X G z_tuple,mg_none_of X G z_dict,mg_none_of X G z_len,mg_none_of X G z_max,mg_none_of X G z_min,mg_none_of X G z_range,mg_none_of X G z_all,mg_none_of X G z_sum,mg_none_of X G z_abs,mg_none_of X G z_zip,mg_none_of X G z_enumerate,mg_of X G aC_Kind,⟨pg_Kind,hd_Kind,po_Kind,sa_Kind⟩,mg_of X G aC_Plain,⟨pg_Plain,hd_Plain,po_Plain,sa_Plain⟩,na_Plain_width,na_Plain_point,mg_of X G aC_Row,⟨pg_Row,hd_Row,po_Row,sa_Row⟩,na_Row_line,na_Row_deed,na_Row_goals,na_Row_reads,na_Row_numbers,na_Row_way,mg_of X G aC_Repeat,⟨pg_Repeat,hd_Repeat,po_Repeat,sa_Repeat⟩,na_Repeat_line,na_Repeat_times,na_Repeat_rows,mg_of X G aC_Draft,⟨pg_Draft,hd_Draft,po_Draft,sa_Draft⟩,na_Draft_width,na_Draft_inputs,na_Draft_rows,na_Draft_outs,na_Draft_row_pairs,na_Draft_loops,na_Draft_met,mg_of X G aC_Program,⟨pg_Program,hd_Program,po_Program,sa_Program⟩,na_Program_width,na_Program_inputs,na_Program_rows,na_Program_outs,na_Program_kinds,na_Program_source,mg_of X G aC_NoProgram,mg_of X G aC_TooMuch,mg_of X G aC_Unknown,mg_of X G aC_WiseError,mg_of X G aC_NoText,mg_of X G aW_RESERVED,fun H=>.inr ⟨_,_,_,lW_RESERVED,rfl,rfl,(by show 31<=sizeLine; decide),.cons ⟨_,rfl⟩ (.cons ⟨_,rfl⟩ (.cons ⟨_,rfl⟩ (.cons ⟨_,rfl⟩ (.cons ⟨_,rfl⟩ (.cons ⟨_,rfl⟩ (.cons ⟨_,rfl⟩ (.cons ⟨_,rfl⟩ (.cons ⟨_,rfl⟩ (.cons ⟨_,rfl⟩ (.cons ⟨_,rfl⟩ (.cons ⟨_,rfl⟩ (.cons ⟨_,rfl⟩ (.cons ⟨_,rfl⟩ (.cons ⟨_,rfl⟩ (.cons ⟨_,rfl⟩ (.cons ⟨_,rfl⟩ (.cons ⟨_,rfl⟩ (.cons ⟨_,rfl⟩ (.cons ⟨_,rfl⟩ (.cons ⟨_,rfl⟩ (.cons ⟨_,rfl⟩ (.cons ⟨_,rfl⟩ (.cons ⟨_,rfl⟩ (.cons ⟨_,rfl⟩ (.cons ⟨_,rfl⟩ (.cons ⟨_,rfl⟩ (.cons ⟨_,rfl⟩ (.cons ⟨_,rfl⟩ (.cons ⟨_,rfl⟩ (.cons ⟨_,rfl⟩ (.nil)))))))))))))))))))))))))))))))⟩,mg_of X G aW_READ_PLAIN,fun H=>.inr ⟨_,_,_,lW_READ_PLAIN,rfl,rfl,(by show 5<=sizeLine; decide),.cons ⟨_,rfl⟩ (.cons ⟨_,rfl⟩ (.cons ⟨_,rfl⟩ (.cons ⟨_,rfl⟩ (.cons ⟨_,rfl⟩ (.nil)))))⟩,mg_of X G aW_READ_ALIKE,fun H=>.inr ⟨_,_,_,lW_READ_ALIKE,rfl,rfl,(by show 8<=sizeLine; decide),.cons ⟨_,rfl⟩ (.cons ⟨_,rfl⟩ (.cons ⟨_,rfl⟩ (.cons ⟨_,rfl⟩ (.cons ⟨_,rfl⟩ (.cons ⟨_,rfl⟩ (.cons ⟨_,rfl⟩ (.cons ⟨_,rfl⟩ (.nil))))))))⟩,mg_of X G aW_SHAPES,⟨_,mg_of X G aS_LETTERS⟩,⟨_,mg_of X G aN_LONGEST_SHOWN⟩,⟨_,mg_of X G aN_MOST_LINES⟩,⟨_,mg_of X G aN_MOST_NAMES⟩,⟨_,mg_of X G aN_MOST_LOOPS⟩,⟨_,mg_of X G aN_MOST_ROWS⟩,kf_og,kf_ot,kf_fcA,kf_fcB,kf_moA,kf_moB,kf_if,kf_tf,kf_mAB,kf_mAA,kf_mBB,kf_kr_SHAPES,kf_if_NoProgram,kf_tf_NoProgram,kf_mf_NoProgram,kf_wb_NoProgram,kf_ga_NoProgram,kf_gn_NoProgram,kf_gc_NoProgram,kf_mo_NoProgram,kf_mb_NoProgram,kf_hd_NoProgram,kf_nf_NoProgram,kf_if_TooMuch,kf_tf_TooMuch,kf_mf_TooMuch,kf_wb_TooMuch,kf_ga_TooMuch,kf_gn_TooMuch,kf_gc_TooMuch,kf_mo_TooMuch,kf_mb_TooMuch,kf_hd_TooMuch,kf_nf_TooMuch,kf_if_Unknown,kf_tf_Unknown,kf_mf_Unknown,kf_wb_Unknown,kf_ga_Unknown,kf_gn_Unknown,kf_gc_Unknown,kf_mo_Unknown,kf_mb_Unknown,kf_hd_Unknown,kf_nf_Unknown,kf_m_TooMuch_NoProgram,kf_m_Unknown_NoProgram,kf_m_Unknown_TooMuch⟩
 obtain ⟨_,F1,k1⟩:=l1.fn
 have b1:=F1.binds (ps:=["self", "line"]) fun _ _ _ _ _ _ us hl=>match us,hl with | [_,_],_=>rfl
 obtain ⟨_,F2,k2⟩:=l2.fn
 have b2:=F2.binds (ps:=["self", "line"]) fun _ _ _ _ _ _ us hl=>match us,hl with | [_,_],_=>rfl
 obtain ⟨_,F3,k3⟩:=l3.fn
 have b3:=F3.binds (ps:=["self", "line", "name"]) fun _ _ _ _ _ _ us hl=>match us,hl with | [_,_,_],_=>rfl
 obtain ⟨_,F4,k4⟩:=l4.fn
 have b4:=F4.binds (ps:=["thing"]) fun _ _ _ _ _ _ us hl=>match us,hl with | [_],_=>rfl
 obtain ⟨_,F5,k5⟩:=l5.fn
 have b5:=F5.binds (ps:=["thing", "low", "high"]) fun _ _ _ _ _ _ us hl=>match us,hl with | [_,_,_],_=>rfl
 obtain ⟨_,F6,k6⟩:=l6.fn
 have b6:=F6.binds (ps:=["width"]) fun _ _ _ _ _ _ us hl=>match us,hl with | [_],_=>rfl
 obtain ⟨_,F7,k7⟩:=l7.fn
 have b7:=F7.binds (ps:=["width", "thing"]) fun _ _ _ _ _ _ us hl=>match us,hl with | [_,_],_=>rfl
 obtain ⟨_,F8,k8⟩:=l8.fn
 have b8:=F8.binds (ps:=["self", "width", "point"]) fun _ _ _ _ _ _ us hl=>match us,hl with | [_,_,_],_=>rfl
 obtain ⟨_,F9,k9⟩:=l9.fn
 have b9:=F9.binds (ps:=["self", "bits"]) fun _ _ _ _ _ _ us hl=>match us,hl with | [_,_],_=>rfl
 obtain ⟨_,F10,k10⟩:=l10.fn
 have b10:=F10.binds (ps:=["self", "count"]) fun _ _ _ _ _ _ us hl=>match us,hl with | [_,_],_=>rfl
 obtain ⟨_,F11,k11⟩:=l11.fn
 have b11:=F11.binds (ps:=["self", "bits"]) fun _ _ _ _ _ _ us hl=>match us,hl with | [_,_],_=>rfl
 obtain ⟨_,F12,k12⟩:=l12.fn
 have b12:=F12.binds (ps:=["self", "text"]) fun _ _ _ _ _ _ us hl=>match us,hl with | [_,_],_=>rfl
 obtain ⟨_,F13,k13⟩:=l13.fn
 have b13:=F13.binds (ps:=["self", "width"]) fun _ _ _ _ _ _ us hl=>match us,hl with | [_,_],_=>rfl
 obtain ⟨_,F14,k14⟩:=l14.fn
 have b14:=F14.binds (ps:=["self"]) fun _ _ _ _ _ _ us hl=>match us,hl with | [_],_=>rfl
 obtain ⟨_,F15,k15⟩:=l15.fn
 have b15:=F15.binds (ps:=["self"]) fun _ _ _ _ _ _ us hl=>match us,hl with | [_],_=>rfl
 obtain ⟨_,F16,k16⟩:=l16.fn
 have b16:=F16.binds (ps:=["self"]) fun _ _ _ _ _ _ us hl=>match us,hl with | [_],_=>rfl
 obtain ⟨_,F17,k17⟩:=l17.fn
 have b17:=F17.binds (ps:=["one", "other"]) fun _ _ _ _ _ _ us hl=>match us,hl with | [_,_],_=>rfl
 obtain ⟨_,F18,k18⟩:=l18.fn
 have b18:=F18.binds (ps:=["rest", "point"]) fun _ _ _ _ _ _ us hl=>match us,hl with | [_,_],_=>rfl
 obtain ⟨_,F19,k19⟩:=l19.fn
 have b19:=F19.binds (ps:=["text", "point"]) fun _ _ _ _ _ _ us hl=>match us,hl with | [_,_],_=>rfl
 obtain ⟨_,F20,k20⟩:=l20.fn
 have b20:=F20.binds (ps:=["figures"]) fun _ _ _ _ _ _ us hl=>match us,hl with | [_],_=>rfl
 obtain ⟨_,F21,k21⟩:=l21.fn
 have b21:=F21.binds (ps:=["word", "most"]) fun _ _ _ _ _ _ us hl=>match us,hl with | [_,_],_=>rfl
 obtain ⟨_,F22,k22⟩:=l22.fn
 have b22:=F22.binds (ps:=["self", "line", "deed", "goals"]) fun _ _ _ _ _ _ us hl=>match us,hl with | [_,_,_,_],_=>rfl
 obtain ⟨_,F23,k23⟩:=l23.fn
 have b23:=F23.binds (ps:=["self", "line", "times"]) fun _ _ _ _ _ _ us hl=>match us,hl with | [_,_,_],_=>rfl
 obtain ⟨_,F24,k24⟩:=l24.fn
 have b24:=F24.binds (ps:=["self", "width"]) fun _ _ _ _ _ _ us hl=>match us,hl with | [_,_],_=>rfl
 obtain ⟨_,F25,k25⟩:=l25.fn
 have b25:=F25.binds (ps:=["self", "line", "words"]) fun _ _ _ _ _ _ us hl=>match us,hl with | [_,_,_],_=>rfl
 obtain ⟨_,F26,k26⟩:=l26.fn
 have b26:=F26.binds (ps:=["self", "line", "words"]) fun _ _ _ _ _ _ us hl=>match us,hl with | [_,_,_],_=>rfl
 obtain ⟨_,F27,k27⟩:=l27.fn
 have b27:=F27.binds (ps:=["self", "line", "words"]) fun _ _ _ _ _ _ us hl=>match us,hl with | [_,_,_],_=>rfl
 obtain ⟨_,F28,k28⟩:=l28.fn
 have b28:=F28.binds (ps:=["self", "line", "words"]) fun _ _ _ _ _ _ us hl=>match us,hl with | [_,_,_],_=>rfl
 obtain ⟨_,F29,k29⟩:=l29.fn
 have b29:=F29.binds (ps:=["self"]) fun _ _ _ _ _ _ us hl=>match us,hl with | [_],_=>rfl
 obtain ⟨_,F30,k30⟩:=l30.fn
 have b30:=F30.binds (ps:=["self", "line", "words"]) fun _ _ _ _ _ _ us hl=>match us,hl with | [_,_,_],_=>rfl
 obtain ⟨_,F31,k31⟩:=l31.fn
 have b31:=F31.binds (ps:=["self"]) fun _ _ _ _ _ _ us hl=>match us,hl with | [_],_=>rfl
 obtain ⟨_,F32,k32⟩:=l32.fn
 have b32:=F32.binds (ps:=["self"]) fun _ _ _ _ _ _ us hl=>match us,hl with | [_],_=>rfl
 obtain ⟨_,F33,k33⟩:=l33.fn
 have b33:=F33.binds (ps:=["word"]) fun _ _ _ _ _ _ us hl=>match us,hl with | [_],_=>rfl
 obtain ⟨_,F34,k34⟩:=l34.fn
 have b34:=F34.binds (ps:=["word", "low", "high"]) fun _ _ _ _ _ _ us hl=>match us,hl with | [_,_,_],_=>rfl
 obtain ⟨_,F35,k35⟩:=l35.fn
 have b35:=F35.binds (ps:=["width", "words"]) fun _ _ _ _ _ _ us hl=>match us,hl with | [_,_],_=>rfl
 obtain ⟨_,F36,k36⟩:=l36.fn
 have b36:=F36.binds (ps:=["width", "line", "words"]) fun _ _ _ _ _ _ us hl=>match us,hl with | [_,_,_],_=>rfl
 obtain ⟨_,F37,k37⟩:=l37.fn
 have b37:=F37.binds (ps:=["width", "row", "things"]) fun _ _ _ _ _ _ us hl=>match us,hl with | [_,_,_],_=>rfl
 obtain ⟨_,F38,k38⟩:=l38.fn
 have b38:=F38.binds (ps:=["width", "row", "part", "word"]) fun _ _ _ _ _ _ us hl=>match us,hl with | [_,_,_,_],_=>rfl
 obtain ⟨_,F39,k39⟩:=l39.fn
 have b39:=F39.binds (ps:=["text"]) fun _ _ _ _ _ _ us hl=>match us,hl with | [_],_=>rfl
 obtain ⟨_,F40,k40⟩:=l40.fn
 have b40:=F40.binds (ps:=["self", "draft", "kinds", "source"]) fun _ _ _ _ _ _ us hl=>match us,hl with | [_,_,_,_],_=>rfl
 obtain ⟨_,F41,k41⟩:=l41.fn
 have b41:=F41.binds (ps:=["self"]) fun _ _ _ _ _ _ us hl=>match us,hl with | [_],_=>rfl
 obtain ⟨_,F42,k42⟩:=l42.fn
 have b42:=F42.binds (ps:=["rows"]) fun _ _ _ _ _ _ us hl=>match us,hl with | [_],_=>rfl
 obtain ⟨_,F43,k43⟩:=l43.fn
 have b43:=F43.binds (ps:=["names", "kinds", "word"]) fun _ _ _ _ _ _ us hl=>match us,hl with | [_,_,_],_=>rfl
 obtain ⟨_,F44,k44⟩:=l44.fn
 have b44:=F44.binds (ps:=["width", "row", "kinds"]) fun _ _ _ _ _ _ us hl=>match us,hl with | [_,_,_],_=>rfl
 obtain ⟨_,F45,k45⟩:=l45.fn
 have b45:=F45.binds (ps:=["width", "row", "told", "kinds"]) fun _ _ _ _ _ _ us hl=>match us,hl with | [_,_,_,_],_=>rfl
 obtain ⟨_,F46,k46⟩:=l46.fn
 have b46:=F46.binds (ps:=["width", "row", "told", "kinds"]) fun _ _ _ _ _ _ us hl=>match us,hl with | [_,_,_,_],_=>rfl
 obtain ⟨_,F47,k47⟩:=l47.fn
 have b47:=F47.binds (ps:=["outs", "kinds"]) fun _ _ _ _ _ _ us hl=>match us,hl with | [_,_],_=>rfl
 obtain ⟨_,F48,k48⟩:=l48.fn
 have b48:=F48.binds (ps:=["draft"]) fun _ _ _ _ _ _ us hl=>match us,hl with | [_],_=>rfl
 obtain ⟨_,F49,k49⟩:=l49.fn
 have b49:=F49.binds (ps:=["text"]) fun _ _ _ _ _ _ us hl=>match us,hl with | [_],_=>rfl
 obtain ⟨_,F50,k50⟩:=l50.fn
 have b50:=F50.binds (ps:=["_law_script", "_law_k"]) fun _ _ _ _ _ _ us hl=>match us,hl with | [_,_],_=>rfl
 obtain ⟨_,F51,k51⟩:=l51.fn
 have b51:=F51.binds (ps:=["_law_cell_here"]) fun _ _ _ _ _ _ us hl=>match us,hl with | [_],_=>rfl
 obtain ⟨_,F52,k52⟩:=l52.fn
 have b52:=F52.binds (ps:=["_law_box_here", "_law_many"]) fun _ _ _ _ _ _ us hl=>match us,hl with | [_,_],_=>rfl
 obtain ⟨_,F53,k53⟩:=l53.fn
 have b53:=F53.binds (ps:=["_law_lines"]) fun _ _ _ _ _ _ us hl=>match us,hl with | [_],_=>rfl
 obtain ⟨_,F54,k54⟩:=l54.fn
 have b54:=F54.binds (ps:=["_law_box_here"]) fun _ _ _ _ _ _ us hl=>match us,hl with | [_],_=>rfl
 obtain ⟨_,F55,k55⟩:=l55.fn
 have b55:=F55.binds (ps:=["_law_box_here"]) fun _ _ _ _ _ _ us hl=>match us,hl with | [_],_=>rfl
 obtain ⟨_,F56,k56⟩:=l56.fn
 have b56:=F56.binds (ps:=["_law_box_here"]) fun _ _ _ _ _ _ us hl=>match us,hl with | [_],_=>rfl
 obtain ⟨_,F57,k57⟩:=l57.fn
 have b57:=F57.binds (ps:=["_law_box_here"]) fun _ _ _ _ _ _ us hl=>match us,hl with | [_],_=>rfl
 have F58:=fun_mk (st:=jH) l58 c58 k58
 refine ⟨fnOf "law" "law" (dR jH) (cZ jH) (ak jH) .none kV58 dc58 pm58 an58 cd58 ct58,fun s v=>.of_eq rfl,fun base _ _=>?_⟩
 have Q_NoProgram:XCls K c_NoProgram f1 "line":=⟨xe_NoProgram,xs_NoProgram,xm_NoProgram,xn_NoProgram,xf_NoProgram,xk_NoProgram⟩
 have X_NoProgram:XHas l.prog w K mg base 1 "NoProgram" c_NoProgram "line":=⟨_,_,_,_,eB F1 T Q_NoProgram,b1,Q_NoProgram,mg_of X G aC_NoProgram⟩
 have Q_TooMuch:XCls K c_TooMuch f2 "line":=⟨xe_TooMuch,xs_TooMuch,xm_TooMuch,xn_TooMuch,xf_TooMuch,xk_TooMuch⟩
 have X_TooMuch:XHas l.prog w K mg base 1 "TooMuch" c_TooMuch "line":=⟨_,_,_,_,fe F2 T Q_TooMuch,b2,Q_TooMuch,mg_of X G aC_TooMuch⟩
 have XM_Unknown:XMk l.prog w K mg base 1 "Unknown" c_Unknown ["self", "line", "name"] ["line", "name"]:=⟨_,_,fE F3 T ⟨xe_Unknown,xs_Unknown,xm_Unknown,xf_Unknown,xk_Unknown⟩ xn_Unknown_line xn_Unknown_name,b3,⟨xe_Unknown,xs_Unknown,xm_Unknown,xf_Unknown,xk_Unknown⟩,mg_of X G aC_Unknown,rfl⟩
 have B_Kind___init__:BHas l.prog w K mg base 1 "Kind" "__init__" ["self", "width", "point"] (mi K):=⟨c_Kind,_,_,⟨rd_Kind,ga_Kind,fn_Kind___init__,rfl,k8⟩,ij F8 T ,b8,mg_of X G aC_Kind⟩
 have H_is_whole:Has l.prog w K mg base 1 "is_whole" ["thing"] lW:=⟨_,_,ml F4 T ,b4,k4,mg_of X G a4⟩
 have H_is_between:Has l.prog w K mg base 2 "is_between" ["thing", "low", "high"] df:=⟨_,_,jZ F5 T H_is_whole,b5,k5,mg_of X G a5⟩
 have H_is_word:Has l.prog w K mg base 3 "is_word" ["width", "thing"] spIsW:=⟨_,_,ou F7 T H_is_between,b7,k7,mg_of X G a7⟩
 have M_Plain_greatest:MHas l.prog w K mg base 2 c_Plain "greatest" ["self"] (iz cc 0):=⟨T.cl_Plain,_,_,⟨a16,i16,k16⟩,gK F16 T ,b16⟩
 have M_Kind_count_of:MHas l.prog w K mg base 4 c_Plain "count_of" ["self", "bits"] (spCnt cc):=⟨T.cl_Plain,_,_,⟨a9,i9,k9⟩,ie F9 T H_is_word (fun i h=>by cases Nat.lt_one_iff.mp h; exact M_Plain_greatest),b9⟩
 have M_Plain_least:MHas l.prog w K mg base 2 c_Plain "least" ["self"] (jS cc 0):=⟨T.cl_Plain,_,_,⟨a15,i15,k15⟩,ji F15 T ,b15⟩
 have M_Kind_bits_of:MHas l.prog w K mg base 3 c_Plain "bits_of" ["self", "count"] (oQ cc):=⟨T.cl_Plain,_,_,⟨a10,i10,k10⟩,iW F10 T H_is_between (fun i h=>by cases Nat.lt_one_iff.mp h; exact M_Plain_least) (fun i h=>by cases Nat.lt_one_iff.mp h; exact M_Plain_greatest),b10⟩
 have H_figures_behind:Has l.prog w K mg base 1 "figures_behind" ["rest", "point"] pT:=⟨_,_,gH F18 T ,b18,k18,mg_of X G a18⟩
 have M_Kind_shown:MHas l.prog w K mg base 5 c_Plain "shown" ["self", "bits"] (spSh1 cc):=⟨T.cl_Plain,_,_,⟨a11,i11,k11⟩,jY F11 T H_figures_behind (fun i h=>by cases Nat.lt_one_iff.mp h; exact M_Kind_count_of),b11⟩
 have H_number_in:Has l.prog w K mg base 1 "number_in" ["figures"] mZ:=⟨_,_,lj F20 T ,b20,k20,mg_of X G a20⟩
 have H_count_in:Has l.prog w K mg base 2 "count_in" ["text", "point"] spCI1:=⟨_,_,mH F19 T H_number_in,b19,k19,mg_of X G a19⟩
 have M_Kind_read:MHas l.prog w K mg base 6 c_Plain "read" ["self", "text"] (spRd1 cc):=⟨T.cl_Plain,_,_,⟨a12,i12,k12⟩,kP F12 T H_count_in H_is_between (fun i h=>by cases Nat.lt_one_iff.mp h; exact M_Plain_least) (fun i h=>by cases Nat.lt_one_iff.mp h; exact M_Plain_greatest) (fun i h=>by cases Nat.lt_one_iff.mp h; exact M_Kind_bits_of) (fun i h=>by cases Nat.lt_one_iff.mp h; exact M_Kind_shown),b12⟩
 have H_need_width:Has l.prog w K mg base 3 "need_width" ["width"] mF:=⟨_,_,jT F6 T H_is_between,b6,k6,mg_of X G a6⟩
 have C_Plain:CHas l.prog w K mg base 4 c_Plain "Plain" ["self", "width"] (m6 cc 0):=⟨_,_,⟨mk_Plain,a13,i13,kc_Plain⟩,gR F13 T H_need_width B_Kind___init__,b13,mg_of X G aC_Plain⟩
 have M_Plain_word:MHas l.prog w K mg base 1 c_Plain "word" ["self"] spWP:=⟨T.cl_Plain,_,_,⟨a14,i14,k14⟩,jE F14 T ,b14⟩
 have C_Row:CHas l.prog w K mg base 1 c_Row "Row" ["self", "line", "deed", "goals"] (qJ cc):=⟨_,_,⟨mk_Row,a22,i22,kc_Row⟩,iK F22 T ,b22,mg_of X G aC_Row⟩
 have C_Repeat:CHas l.prog w K mg base 1 c_Repeat "Repeat" ["self", "line", "times"] (pc cc):=⟨_,_,⟨mk_Repeat,a23,i23,kc_Repeat⟩,gr F23 T ,b23,mg_of X G aC_Repeat⟩
 have C_Draft:CHas l.prog w K mg base 1 c_Draft "Draft" ["self", "width"] (spDrI cc):=⟨_,_,⟨mk_Draft,a24,i24,kc_Draft⟩,gz F24 T ,b24,mg_of X G aC_Draft⟩
 have H_kind_told:Has l.prog w K mg base 6 "kind_told" ["width", "words"] (spKT cc):=⟨_,_,lu F35 T C_Plain,b35,k35,mg_of X G a35⟩
 have H_is_name:Has l.prog w K mg base 1 "is_name" ["word"] spNm:=⟨_,_,oH F33 T ,b33,k33,mg_of X G a33⟩
 have M_Draft_takes_in:MHas l.prog w K mg base 7 c_Draft "takes_in" ["self", "line", "words"] (spIn cc):=⟨T.cl_Draft,_,_,⟨a26,i26,k26⟩,gv F26 T H_kind_told H_is_name,b26⟩
 have M_Draft_takes_out:MHas l.prog w K mg base 2 c_Draft "takes_out" ["self", "line", "words"] (spOut cc):=⟨T.cl_Draft,_,_,⟨a27,i27,k27⟩,fL F27 T H_is_name,b27⟩
 have H_whole_in:Has l.prog w K mg base 2 "whole_in" ["word", "most"] qG:=⟨_,_,lL F21 T H_number_in,b21,k21,mg_of X G a21⟩
 have H_number_told:Has l.prog w K mg base 3 "number_told" ["word", "low", "high"] kN:=⟨_,_,jg F34 T H_whole_in,b34,k34,mg_of X G a34⟩
 have M_Draft_rows_here:MHas l.prog w K mg base 1 c_Draft "rows_here" ["self"] (lh cc):=⟨T.cl_Draft,_,_,⟨a31,i31,k31⟩,fK F31 T ,b31⟩
 have M_Draft_takes_repeat:MHas l.prog w K mg base 4 c_Draft "takes_repeat" ["self", "line", "words"] (spRep cc):=⟨T.cl_Draft,_,_,⟨a28,i28,k28⟩,dZ F28 T H_number_told C_Repeat M_Draft_rows_here,b28⟩
 have M_Draft_takes_end:MHas l.prog w K mg base 2 c_Draft "takes_end" ["self"] (spEnd cc):=⟨T.cl_Draft,_,_,⟨a29,i29,k29⟩,fT F29 T  M_Draft_rows_here,b29⟩
 have H_set_told:Has l.prog w K mg base 7 "set_told" ["width", "row", "things"] (pJ cc):=⟨_,_,lN F37 T H_kind_told (fun i h=>by cases Nat.lt_one_iff.mp h; exact M_Kind_read),b37,k37,mg_of X G a37⟩
 have H_put_into:Has l.prog w K mg base 4 "put_into" ["width", "row", "part", "word"] (spPut cc):=⟨_,_,mh F38 T H_number_told H_is_name,b38,k38,mg_of X G a38⟩
 have H_row_told:Has l.prog w K mg base 8 "row_told" ["width", "line", "words"] (spRT cc):=⟨_,_,lR F36 T H_set_told H_put_into H_is_name C_Row (⟨_,gd_mk (ents:=[("copy",kD0_SHAPES,vD0_SHAPES),("pick",kD1_SHAPES,vD1_SHAPES),("add",kD2_SHAPES,vD2_SHAPES),("sub",kD3_SHAPES,vD3_SHAPES),("addstop",kD4_SHAPES,vD4_SHAPES),("substop",kD5_SHAPES,vD5_SHAPES),("low",kD6_SHAPES,vD6_SHAPES),("high",kD7_SHAPES,vD7_SHAPES),("less",kD8_SHAPES,vD8_SHAPES),("same",kD9_SHAPES,vD9_SHAPES),("over",kD10_SHAPES,vD10_SHAPES),("left",kD11_SHAPES,vD11_SHAPES),("right",kD12_SHAPES,vD12_SHAPES),("rest",kD13_SHAPES,vD13_SHAPES),("div",kD14_SHAPES,vD14_SHAPES),("times",kD15_SHAPES,vD15_SHAPES),("mul",kD16_SHAPES,vD16_SHAPES),("part",kD17_SHAPES,vD17_SHAPES)]) lW_SHAPES (by show (["copy", "pick", "add", "sub", "addstop", "substop", "low", "high", "less", "same", "over", "left", "right", "rest", "div", "times", "mul", "part"]:List Str).Nodup; decide +kernel) ⟨rfl,rfl,rfl⟩,⟨_,rfl,fun H=>.inr ⟨_,_,_,lD0_SHAPES,rfl,rfl,(by show 1<=sizeLine; decide),.cons ⟨_,rfl⟩ (.nil)⟩⟩,⟨_,rfl,fun H=>.inr ⟨_,_,_,lD17_SHAPES,rfl,rfl,(by show 2<=sizeLine; decide),.cons ⟨_,rfl⟩ (.cons ⟨_,rfl⟩ (.nil))⟩⟩⟩),b36,k36,mg_of X G a36⟩
 have M_Draft_takes_row:MHas l.prog w K mg base 9 c_Draft "takes_row" ["self", "line", "words"] (spRow cc):=⟨T.cl_Draft,_,_,⟨a30,i30,k30⟩,fQ F30 T H_row_told M_Draft_rows_here,b30⟩
 have M_Draft_takes:MHas l.prog w K mg base 10 c_Draft "takes" ["self", "line", "words"] (lU cc):=⟨T.cl_Draft,_,_,⟨a25,i25,k25⟩,jf F25 T  M_Draft_takes_in M_Draft_takes_out M_Draft_takes_repeat M_Draft_takes_end M_Draft_takes_row,b25⟩
 have M_Draft_is_too_much:MHas l.prog w K mg base 1 c_Draft "is_too_much" ["self"] (qm cc):=⟨T.cl_Draft,_,_,⟨a32,i32,k32⟩,eP F32 T ,b32⟩
 have C_Program:CHas l.prog w K mg base 1 c_Program "Program" ["self", "draft", "kinds", "source"] (spPrI cc):=⟨_,_,⟨mk_Program,a40,i40,kc_Program⟩,fb F40 T ,b40,mg_of X G aC_Program⟩
 have RC:∀ d,Has l.prog w K mg base (d + 1) "count_rows" ["rows"] (spN (spCR cc) d):=fun d=>by
  induction d with
  | zero=>exact ⟨_,_,FnOk.void,b42,k42,mg_of X G a42⟩
  | succ d ih=>exact ⟨_,_,j3 F42 T  ih,b42,k42,mg_of X G a42⟩
 have H_count_rows:Has l.prog w K mg base 7 "count_rows" ["rows"] (spCR cc 6):=hasMono (RC 6) (by decide)
 have M_Program_rows_run:MHas l.prog w K mg base 8 c_Program "rows_run" ["self"] (spRun cc):=⟨T.cl_Program,_,_,⟨a41,i41,k41⟩,eY F41 T H_count_rows,b41⟩
 have H__law_box:Has l.prog w K mg base 1 "_law_box" ["_law_cell_here"] spBox:=⟨_,_,lX F51 T ,b51,k51,mg_of X G a51⟩
 have H__law_cell:Has l.prog w K mg base 1 "_law_cell" ["_law_script", "_law_k"] (pR K):=⟨_,_,kD F50 T ,b50,k50,mg_of X G a50⟩
 have H_first_walk:HasY l.prog w K mg base 11 "first_walk" ["text"] (spFW cc):=⟨_,_,jG F39 T H_number_told C_Draft X_NoProgram X_TooMuch M_Draft_takes M_Draft_is_too_much,b39,k39,mg_of X G a39⟩
 have H_need_outs:HasY l.prog w K mg base 3 "need_outs" ["outs", "kinds"] (spNO cc):=⟨_,_,kX F47 T  XM_Unknown,b47,k47,mg_of X G a47⟩
 have H_not_of_word:Has l.prog w K mg base 2 "not_of_word" ["names", "kinds", "word"] (spNW cc):=⟨_,_,jq F43 T  (fun i h=>by cases Nat.lt_one_iff.mp h; exact M_Plain_word),b43,k43,mg_of X G a43⟩
 have H_same_kind:Has l.prog w K mg base 2 "same_kind" ["one", "other"] (jR cc):=⟨_,_,kM F17 T  (fun i h=>by cases Nat.lt_one_iff.mp h; exact M_Plain_word),b17,k17,mg_of X G a17⟩
 have H_wrongly_read:Has l.prog w K mg base 3 "wrongly_read" ["width", "row", "kinds"] (spWR cc):=⟨_,_,i6 F44 T H_not_of_word H_same_kind,b44,k44,mg_of X G a44⟩
 have H_kind_put:Has l.prog w K mg base 6 "kind_put" ["width", "row", "told", "kinds"] (spKP cc):=⟨_,_,lQ F45 T C_Plain,b45,k45,mg_of X G a45⟩
 have H_need_row:HasY l.prog w K mg base 7 "need_row" ["width", "row", "told", "kinds"] (spNR cc):=⟨_,_,mw F46 T H_wrongly_read H_kind_put H_same_kind XM_Unknown,b46,k46,mg_of X G a46⟩
 have H_second_walk:HasY l.prog w K mg base 8 "second_walk" ["draft"] (spSW cc):=⟨_,_,jp F48 T H_need_outs H_need_row,b48,k48,mg_of X G a48⟩
 have H_read_program:HasY l.prog w K mg base 12 "read_program" ["text"] (spRP cc):=⟨_,_,iE F49 T H_first_walk H_second_walk H_count_rows C_Program X_TooMuch,b49,k49,mg_of X G a49⟩
 have H__law_told:Has l.prog w K mg base 13 "_law_told" ["_law_lines"] ft:=⟨_,_,kR F53 T H_read_program,b53,k53,mg_of X G a53⟩
 have H__law_take:Has l.prog w K mg base 1 "_law_take" ["_law_box_here", "_law_many"] jv:=⟨_,_,kZ F52 T ,b52,k52,mg_of X G a52⟩
 have H__law_lines_right:Has l.prog w K mg base 14 "_law_lines_right" ["_law_box_here"] dJ:=⟨_,_,fg F54 T H__law_take H__law_told,b54,k54,mg_of X G a54⟩
 have H__law_names_right:Has l.prog w K mg base 14 "_law_names_right" ["_law_box_here"] dJ:=⟨_,_,fh F55 T H__law_take H__law_told,b55,k55,mg_of X G a55⟩
 have H__law_loops_right:Has l.prog w K mg base 14 "_law_loops_right" ["_law_box_here"] dJ:=⟨_,_,fH F56 T H__law_take H__law_told H_read_program M_Program_rows_run,b56,k56,mg_of X G a56⟩
 have H__law_rows_done_right:Has l.prog w K mg base 14 "_law_rows_done_right" ["_law_box_here"] dJ:=⟨_,_,dF F57 T H__law_take H__law_told H_read_program M_Program_rows_run,b57,k57,mg_of X G a57⟩
 exact ok_law F58 T H__law_box H__law_cell H__law_told H__law_lines_right H__law_names_right H__law_loops_right H__law_rows_done_right
theorem walk {l:PySem.W.OpenLaw} {q:Program} {loose:List Str} {XP:(Str->Option Value)->Heap->Prop} {YP:World->Heap->Prop} {d:DefRec} {K:Params->Frag} (hn:l.most = some 63) (hdf:d.params.defaults = [])
  (hY:∀ (w:World) (h:Heap),YP w h->(K w.params).In h)
  (F:∀ (w:World) (mg:Str->Option Value) (fa:Addr) (h:Heap),(K w.params).In h->h.Ns mainGlobals mg->mg d.name = some (.ref fa) ->
   ∃ fd:FuncData,(∀ (s:Shared) (u:Value),BindsTo s fd ⟨[u],[]⟩ [("_law_script",u)])/\∀ base:Heap,(K w.params).In base->base.Ns mainGlobals mg->FnOk l.prog w (K w.params) mg base CX0 15 fa fd ["_law_script"] (spLaw (K w.params))) :
  PySem.W.WalkO q loose XP YP l.row.toRowW d [] (fun f vs=>PySem.call f vs) :=
 L2.walk_of (n:=63) (k:=15) (x:="_law_script") (CX:=fun _=>CX0) (sp:=fun w=>spLaw (K w.params)) hn (by decide) hdf ⟨rfl,by decide,by decide,rfl⟩ hY F (fun _ _ a ns hl _ hS=>⟨a,ns,rfl,hS,hl,fun _=>rfl⟩) fun _ _ _ _ _ z=>z
end Ow
open PySem PySem.W PyProof.Rows
namespace PySem.W.Fast
def tw3996035749238205362:=0
def tw17878689137332488622:=0
def tw8720547235393874032:=0
def tw2029002509885189590:=0
def tw5857342801615027493:=0
def tw2161213039652320749:=0
def tw6338143204101934424:=0
def tw12906080454613595362:=0
def tw14631811317360005106:=0
def tw5082148591620909479:=0
def tw14138079085718298372:=0
def tw12317444703481699779:=0
def tw13901688678970927009:=0
def tw3726531105207475984:=0
def tw8094409157580677501:=0
def tw14247397826016228480:=0
def tw10168635821762188990:=0
def tw30626454122352500:=0
def tw478509770571245943:=0
def tw10992608216666264311:=0
def tw4466804376450769380:=0
def tw17434681551685353796:=0
def tw4858584714131186060:=0
def tw15307187465849960590:=0
def tw5017204892457452223:=0
def tw2380972536013794596:=0
def tw8108883237868023740:=0
def tw15751669207982762627:=0
def tw11577632873470213385:=0
def tw5271815348212723557:=0
def tw9221313161839928253:=0
def tw3261981501498332998:=0
def tw6010534813655252325:=0
def tw4630745921487021151:=0
def tw15831971108097630905:=0
def tw1686209812458925492:=0
def tw14102208552547671344:=0
def tw11293812146705278177:=0
def tw17977907220263150734:=0
def tw1493166383440373702:=0
def tw8457225076725282071:=0
def tw10969715259681917971:=0
def tw18300158294994984110:=0
def tw2645249702530728119:=0
def tw4007931176385297960:=0
def tw1119318180789642871:=0
def tw16662975022372846203:=0
def tw10286534552412754988:=0
def tw10443748461531360596:=0
def tw172721161894817294:=0
def tw15658797402030148966:=0
def tw5092644003281482718:=0
def tw15417840016881854391:=0
def tw3496879661621877368:=0
def tw7422440322773657603:=0
def tw8298583406557792909:=0
def tw8993678079161921227:=0
def tw4030155879583675963:=0
def tw2098427235079166628:=0
def tw12438024396137084547:=0
def tw13129991879952663013:=0
def tw2209026206050058992:=0
def tw17397299439086234091:=0
def tw3586715198928244029:=0
def tw4124177365570770952:=0
def tw14903135732483588185:=0
def tw6756546316829253155:=0
def tw4965211298140721038:=0
def tw12805043584935823182:=0
def tw5192779894609769818:=0
def tw4307160818862805758:=0
def tw8242882586050419368:=0
def tw18078731740352594425:=0
def tw1500998185542591212:=0
def tw16837047721948405533:=0
def tw13041019698777567397:=0
def tw9813098765553190129:=0
def tw13120314695486492979:=0
def tw17674647470723051858:=0
def tw12303511271073012613:=0
def tw2805275593546718321:=0
def tw10248475953514316608:=0
def tw18232126950816197533:=0
def tw10176589984906279611:=0
def tw4318346095962644230:=0
def tw15123025675004724969:=0
def tw664040479738419462:=0
def tw3224634927231108362:=0
def tw8289912820195944512:=0
def tw950749831910247846:=0
def tw3593715814080370059:=0
def tw4059346523807515596:=0
def tw8978659388596345915:=0
def tw10298959643317720213:=0
def tw6554032246837853890:=0
def tw12329793068508417126:=0
def tw5249844925892406230:=0
def tw10624302568471883925:=0
def tw15175163206674158927:=0
def tw10715316857773457561:=0
def tw18374008477318954094:=0
def tw10951374733078289181:=0
def tw8387740165139183773:=0
def tw13897333974756260879:=0
def tw4134617616715290274:=0
def tw11104903075879590033:=0
def tw16687049558860342162:=0
def tw17341202934350885059:=0
def tw588755169462919810:=0
def tw6081113788469964847:=0
def tw9625078478625722082:=0
def tw952001111455939440:=0
def tw6365274439222154889:=0
def tw5323906808038543265:=0
def tw4086385298395358833:=0
def tw1537544025163756337:=0
def tw3252370351425593972:=0
def tw18396040844639445818:=0
def tw8819478967939447796:=0
def tw10730065377125656748:=0
def tw6798424040216595146:=0
def tw14908215168905516800:=0
def tw17916420021037622538:=0
def tw13883588308356886773:=0
def tw5285127262886261281:=0
def tw11546550644141557748:=0
def tw16794189709886336756:=0
def tw12765805245091269444:=0
def tw6153182136368563230:=0
def tw8146659876482215984:=0
def tw11794248382185171353:=0
def tw6782939846525005578:=0
def tw12918753401195954205:=0
def tw16468682045301067041:=0
def tw8765488333783227568:=0
def tw4939646037574812615:=0
def tw13834821336956144224:=0
def tw8657086228680380345:=0
def tw9221734110064092213:=0
def tw4779599162254693424:=0
def tw17095027842847116249:=0
def tw17282092351128846128:=0
def tw7956134052175289288:=0
def tw17059297496816834189:=0
def tw17032586228650825376:=0
def tw14044842343812031572:=0
def tw8177667255101681081:=0
def tw3523960954679620969:=0
def tw9309518371037792194:=0
def tw2083302086749212241:=0
def tw1163851759533580828:=0
def tw5638249551684803699:=0
def tw1569196701508900287:=0
def tw6191876503596359481:=0
def tw8023247574519811562:=0
def tw15251076401398271079:=0
def tw6368031945617000420:=0
def tw11868759872001681920:=0
def tw1305013613803343119:=0
def tw6151196552454942100:=0
def tw7435691887098989983:=0
def tw13831901690825362295:=0
def tw11163675212437233098:=0
def tw14331491688094205979:=0
def tw16303729160062695079:=0
def tw9020174549511808751:=0
def tw11799643758825432947:=0
def tw15928619312942598151:=0
def tw292546338278368562:=0
def tw5528794199336341830:=0
def tw18148408329109133036:=0
def tw3121961712827476489:=0
def tw3371738877430018448:=0
def tw2820194453510642264:=0
def tw3222296334043832357:=0
def tw14610808317835731147:=0
def tw8459525958067303064:=0
def tw7157061734213506349:=0
def tw1426862389377210513:=0
def tw16708969313471789136:=0
def tw1140140179609697358:=0
def tw7203159496322017864:=0
def tw11082773043727424863:=0
def tw5653676258214306343:=0
def tw10609837121681058006:=0
def tw2975094762522966894:=0
def tw8521900924347625556:=0
def tw3021962599136215567:=0
def tw3768896105198468433:=0
def tw986728630425939763:=0
def tw10854428503625594003:=0
def tw14005151612884359346:=0
def tw13592536910965410700:=0
def tw18066754103445318151:=0
def tw16266903203455008388:=0
def tw3163322758313358048:=0
def tw18118701707056683087:=0
def tw3940716834369327236:=0
def tw5275398542801401336:=0
def tw12131146492598054212:=0
def tw14036114199868657600:=0
def tw12051082203270259727:=0
def tw9399568288024381316:=0
def tw6241415838845246041:=0
def tw8785518176402430569:=0
def tw11151969519458910424:=0
def tw12383597348046330917:=0
def tw14429522513045258408:=0
def tw10360201698390130992:=0
def tw9551406306345280588:=0
def tw4505532009231639798:=0
def tw15261292972264767647:=0
def tw13720054358042147633:=0
def tw6735700993030496717:=0
def tw8229513813422683124:=0
def tw10593707257581654268:=0
def tw1344649986574554133:=0
def tw13623812372576642574:=0
def tw3365111404815084091:=0
def tw14475196984058512161:=0
def tw3285558293418916556:=0
def tw1097226388134190743:=0
def tw892868016570282599:=0
def tw17503452141489371704:=0
def tw10300933037841775536:=0
def tw6041716284847646361:=0
def tw15960344357682743147:=0
def tw13770435614837933394:=0
def tw12119488388729701445:=0
def tw14229908307703918388:=0
def tw12094787977248563385:=0
def tw945300449921130039:=0
def tw13313251385393940185:=0
def tw1940133192482330777:=0
def tw15833555275616211979:=0
def tw10459415096843102053:=0
def tw7104303064754514816:=0
def tw2419737211551652009:=0
def tw12258965314675839432:=0
def tw14655305501785031686:=0
def tw4477987619468211316:=0
def tw4486646357870161257:=0
def tw6633112214102512109:=0
def tw15259332980230198735:=0
def tw2733224657439920154:=0
def tw2898422162311116555:=0
def tw14572137875223526430:=0
def tw11843641649357587513:=0
def tw13333670470476999586:=0
def tw17929102742984653300:=0
def tw9614772369089595052:=0
def tw5568417250090138559:=0
def tw14757851428700353146:=0
def tw15179923158011689828:=0
def tw12415202845231498859:=0
def tw1130125375716783224:=0
def tw8666744148387308587:=0
def tw10451959390405128869:=0
def tw8000118397942896769:=0
def tw4512274991701411285:=0
def tw12618130695687073581:=0
def tw7151817807515747459:=0
def tw16387029338105083455:=0
def tw8579101329359493761:=0
def tw13147171184379304454:=0
def tw5417833318738972561:=0
def tw17590548690433844318:=0
def tw4640496920291285047:=0
def tw7708989953871471699:=0
def tw10187558662723572549:=0
def tw9436249209030883552:=0
def tw3779720449586409178:=0
def tw10559500944823367914:=0
def tw15704939804666383079:=0
def tw12258042632974603189:=0
def tw18084000544715440405:=0
def tw16458983239258869048:=0
def tw14590088326133105587:=0
def tw14863903604058777672:=0
def tw4212218359806738697:=0
def tw5505866406854190294:=0
def tw3270622546030234810:=0
def tw9399375470113474306:=0
def tw14846891914891376368:=0
def tw11908554647553907263:=0
def tw17235368658770618631:=0
def tw1903241130415827704:=0
def tw4436257997758604598:=0
def tw15913353048846213317:=0
def tw16280669315041118884:=0
def tw6734322445247706081:=0
def tw7140008725086799025:=0
def tw2666563005933408048:=0
def tw8677813417728078273:=0
def tw14220939554474046455:=0
def tw4038091160333819618:=0
def tw8187033801859331328:=0
def tw13488306804450301420:=0
def tw5584423735760749001:=0
def tw11632292019052805220:=0
def tw15162317444924516579:=0
def tw7714584641693274367:=0
def tw11940897792814307223:=0
def tw8188706360134809910:=0
def tw12308370014962449617:=0
def tw5362632450129668885:=0
def tw7065166451158838213:=0
def tw6025422370410640592:=0
def tw2629978698588303072:=0
def tw2676042204665016708:=0
def tw17974148023283903456:=0
def tw8231433856963193427:=0
def tw9373083621303184028:=0
def tw3949413115168401734:=0
def tw7590706112577357224:=0
def tw18383942173023898512:=0
def tw17609653266725593046:=0
def tw440717733580649689:=0
def tw14908454893108169099:=0
def tw13321444453923533622:=0
def tw6715847973491312387:=0
def tw16163211255747424303:=0
def tw16589510856341989436:=0
def tw13353747789886403316:=0
def tw17387831782835820569:=0
def tw17594069115285826681:=0
def tw16646975561939701412:=0
def tw12695059237518387254:=0
def tw13239118439096003012:=0
def tw6591886374696375609:=0
def tw11676779482007107535:=0
def tw11694273536062920670:=0
def tw2529150533673196954:=0
def tw9351653991715528148:=0
def tw8909170236430244297:=0
def tw11213686616231762940:=0
def tw3399671417488883891:=0
def tw2558058758971918016:=0
def tw12941365594475621206:=0
def tw8732001325390158105:=0
def tw10795266869454254328:=0
def tw8570446916203846875:=0
def tw8986947736707352738:=0
def tw14431616818718014861:=0
def tw16961626014487415521:=0
def tw6371823005362015547:=0
def tw17321512825781386140:=0
def tw8035783140635651639:=0
def tw2592316524746418738:=0
def tw10692118446153700963:=0
def tw7579176349811708315:=0
def tw2726611690813627484:=0
def tw11312660628872386590:=0
def tw10698499900257465580:=0
def tw4431261782988715533:=0
def tw3694360225138625152:=0
def tw5260357419945287582:=0
def tw15342336783616637651:=0
def tw18384449088307316844:=0
def tw10560587800507489977:=0
def tw15535123772776937546:=0
def tw8550860805784952639:=0
def tw17515858267873870851:=0
def tw17290433713490225571:=0
def tw489007406701366545:=0
def tw8581917559937683617:=0
def tw12999894188675718138:=0
def tw4326487042813352260:=0
def tw8691457003796210384:=0
def tw14832446707417675142:=0
def tw16628003992644478255:=0
def tw16234114571611890270:=0
def tw1481168106380562883:=0
def tw14617493522598037823:=0
def tw2547025080128155798:=0
def tw18082947174117465339:=0
def tw7407445218622387777:=0
def tw12457890951204487779:=0
def tw1851509945714757201:=0
def tw12334946656895079764:=0
def tw14114005509022711673:=0
def tw15197811499200429674:=0
def tw996570043181881285:=0
def tw3522561533029132303:=0
def tw9866864444797110164:=0
def tw13420876601113423867:=0
def tw6366594339933722030:=0
def tw1095944399335747705:=0
def tw11623143474222030971:=0
def tw16367624224292923966:=0
def tw5069611964960860391:=0
def tw17496254332940427786:=0
def tw13776729544730895374:=0
def tw602046907070443922:=0
def tw5318159459158337447:=0
def tw18255839148062963843:=0
def tw18090572274497333313:=0
def tw6405270184216533587:=0
def tw704797472375227739:=0
def tw16813614404266174758:=0
def tw12921193639937799102:=0
def tw952924683993638263:=0
def tw3403758365279176632:=0
def tw6890846227707352987:=0
def tw1875040752828839015:=0
def tw2561661184991565901:=0
def tw5277439745781438543:=0
def tw14764117521989400183:=0
def tw12852257764217323949:=0
def tw7714485193570163035:=0
def tw5642814315920456644:=0
def tw2123699318519333929:=0
def tw13391399764015215664:=0
def tw17513833617053109631:=0
def tw11364026066644580340:=0
def tw729064815838722051:=0
def tw14767587470075764847:=0
def tw8465414108492845538:=0
def tw2190309535103065030:=0
def tw998686217493498508:=0
def tw8471001266227782388:=0
def tw3740873251145420719:=0
def tw9136652574348980861:=0
def tw14419688237840245514:=0
def tw11901463874343386969:=0
def tw5841970350542929220:=0
def tw11740977704985548921:=0
def tw4849548582968738498:=0
def tw6976432253693185537:=0
def tw16008018578466263894:=0
def tw14405729947207654050:=0
def tw2172426968801717659:=0
def tw14410200232176127670:=0
def tw17463969472279316241:=0
def tw6367010554674855555:=0
def tw17475893209209897096:=0
def tw18287424147334125370:=0
def tw10419216770574501116:=0
def tw9269621286279682604:=0
def tw14644580788078730512:=0
def tw18103137502067528204:=0
def tw15574063929685719441:=0
def tw3995052877059282519:=0
def tw13791534059053433219:=0
def tw11868763847200326049:=0
def tw6252502554290691599:=0
def tw6822655131311661030:=0
def tw15075416925745788071:=0
def tw304961965557849277:=0
def tw8763824881920786725:=0
def tw11028285964530970111:=0
def tw13143057279830811021:=0
def tw12996327451506019523:=0
def tw11330581093139032341:=0
def tw10656763984743305766:=0
def tw16109664370981568854:=0
def tw16242321432255749231:=0
def tw13207644714616006319:=0
def tw6180365541003302078:=0
def tw17291504893396885031:=0
def tw17574397955971618066:=0
def tw6359926015721293746:=0
def tw9964612824465038125:=0
def tw13406393143601619180:=0
def tw17554438522857626207:=0
def tw2409759135039115755:=0
def tw6384464149605093098:=0
def tw16065079452940722979:=0
def tw3428980035842808916:=0
def tw8557069337510310954:=0
def tw1531722903132033608:=0
def tw17820756935355143209:=0
def tw15181498397740981631:=0
def tw1547069092800933482:=0
def tw2763041771152690206:=0
def tw13107573282604061735:=0
def tw7150788367976921657:=0
def tw13689247253967444826:=0
def tw5001555688518976253:=0
def tw3077383108849686076:=0
def tw903674810601317638:=0
def tw11169008529268195082:=0
def tw14607073669416707263:=0
def tw13649159582491999530:=0
def tw12356020556629082876:=0
def tw13293945103830570913:=0
def tw10231516520892824679:=0
def tw9825667864778372157:=0
def tw7847023037540532173:=0
def tw1193095245940629391:=0
def tw4074680299294941218:=0
def tw1358650488584255450:=0
def tw3855500482426100982:=0
def tw4512419465576117714:=0
def tw17496764228380938640:=0
def tw283752298398242749:=0
def tw17447013677372654075:=0
def tw2624355237062111032:=0
def tw10154517545785214975:=0
def tw4585787609638055229:=0
def tw15768650447599198691:=0
def tw352939361029169260:=0
def tw6987501283191162813:=0
def tw12549065164838140824:=0
def tw1830539163845239199:=0
def tw65345277867659025:=0
def tw9911249414243666818:=0
def tw41962742819952503:=0
def tw15224144173241896207:=0
def tw16317328566264708289:=0
def tw10696831023737117051:=0
def tw11668799898766700094:=0
def tw9270338652940342267:=0
def tw13075072970931205924:=0
def tw10993267491372711696:=0
def tw2438182088075896118:=0
def tw8353721208689675556:=0
def tw14577422940378045083:=0
def tw5451957194260477822:=0
def tw6743136087824357845:=0
def tw9647701786213327601:=0
def tw16105132224814395346:=0
def tw4064537961933566848:=0
def tw4228402638125527095:=0
def tw1933977270037629038:=0
def tw9614387152059566760:=0
def tw13791731130766318916:=0
def tw2543739254246644840:=0
def tw17627896622581165305:=0
def tw4689058634535604113:=0
def tw10664693610041322708:=0
def tw3164609046013495327:=0
def tw4866437463520325430:=0
def tw9239209853908544093:=0
def tw15329216527851783509:=0
def tw4928171931490671113:=0
def tw16256563244603618135:=0
def tw10314223672839538454:=0
def tw12033141411136398310:=0
def tw15600946768173979665:=0
def tw12575969189968995149:=0
def tw3725226662771198249:=0
def tw8887313174834964284:=0
def tw1748686996763094262:=0
def tw16035310505692761125:=0
def tw9952024627703192295:=0
def tw8025559652394580306:=0
def tw13590671174858580251:=0
def tw12782306459371525864:=0
def tw3911908792374494863:=0
def tw472666573114943439:=0
def tw2345160698357342544:=0
def tw14785481461872950040:=0
def tw3522629894990145096:=0
def tw9445694187475629313:=0
def tw6470622049457083729:=0
def tw3408499001825455386:=0
def tw3551792228746156067:=0
def tw9754190131844596842:=0
def tw12951707778719165843:=0
def tw14664890639439842142:=0
def tw1992339007683363604:=0
def tw15678799707230227144:=0
def tw17922440911522516089:=0
def tw3146834837277475777:=0
def tw16504214353780521537:=0
def tw3267792865751333226:=0
def tw4076718496038573695:=0
def tw11411251160361292281:=0
def tw4423072664225723169:=0
def tw8065480518794312258:=0
def tw10184206049551235616:=0
def tw11066616918150942661:=0
def tw17430780565317193688:=0
def tw10158780517266311065:=0
def tw4638561882932981677:=0
def tw11996117780164723248:=0
def tw12924689991471651418:=0
def tw1630041258028899078:=0
def tw1260439848073167738:=0
def tw6167364306766740136:=0
def tw6839789292471391066:=0
def tw2242120396841797722:=0
def tw16339710296525567786:=0
def tw6694679549879499698:=0
def tw15886301876944728702:=0
def tw11625376100666405048:=0
def tw11898491632216061687:=0
def tw18340790260604065085:=0
def tw6845431195617986980:=0
def tw9457093791388068039:=0
def tw17725814765815761711:=0
def tw10085635382208243528:=0
def tw6820237360288133132:=0
def tw16419068914237936881:=0
def tw13183694077384052322:=0
def tw4180927397376300005:=0
def tw4345245664642248385:=0
def tw7785526955527677581:=0
def tw16319254502320335227:=0
def tw8962722863084612393:=0
def tw10442747741039293170:=0
def tw4117731073409130025:=0
def tw18073309416133651083:=0
def tw11266371491734119410:=0
def tw16020930022047789264:=0
def tw10194260136470473784:=0
def tw1709453704100943131:=0
def tw5555512496534286853:=0
def tw13785291723475471889:=0
def tw8584272842045700526:=0
def tw7940452102510213224:=0
def tw2184686748888390034:=0
def tw6989288556565392254:=0
def tw1673093166252259582:=0
def tw17160531095160601886:=0
def tw15823225858276740438:=0
def tw13779535232804372493:=0
def tw3800959594617886194:=0
def tw5977224674871443828:=0
def tw3984146615602431575:=0
def tw10070798301677741555:=0
def tw4718451473786468490:=0
def tw9107160599731012504:=0
def tw10414153079421877030:=0
def tw17498368766432460614:=0
def tw8265536812662701811:=0
def tw16964810257743505968:=0
def tw5168193893829062985:=0
def tw8549601404746433593:=0
def tw2511144144185913401:=0
def tw17637852362544394860:=0
def tw14384507417960971594:=0
def tw16429125660911873011:=0
def tw1938977240913204211:=0
def tw7405004852149090956:=0
def tw8912143032344477849:=0
def tw7170001247620286660:=0
def tw17469094212175938580:=0
def tw17264323283543073977:=0
def tw8501339125879331001:=0
def tw1872955724489418804:=0
def tw2147160704575995988:=0
def tw15522428365051877593:=0
def tw9267004390395534641:=0
def tw13697173926679136537:=0
def tw1273390442656300709:=0
def tw14888311142256150412:=0
def tw16641790071371981060:=0
def tw16173761743274451385:=0
def tw5344737384775347460:=0
def tw3545772446023329382:=0
def tw10855326638962253258:=0
def tw6506660287065843760:=0
def tw2726949730160575299:=0
def tw2516284776313982871:=0
def tw384612674474248939:=0
def tw6942187862697406023:=0
def tw8520984134817264441:=0
def tw1829613442138106196:=0
def tw3994159523927332964:=0
def tw18030957203274489689:=0
def tw6209075166202006119:=0
def tw4610997489602117608:=0
def tw15119457012628262886:=0
def tw17172394074184958905:=0
def tw12905461629302134369:=0
def tw2224568779388609463:=0
def tw12090417832128642644:=0
def tw369084909702523559:=0
def tw13332428071949368538:=0
def tw4929774506963612395:=0
def tw16504792797453509946:=0
def tw4205400199352491700:=0
def tw7841131578643960519:=0
def tw15402256547916989946:=0
def tw11009085683312627258:=0
def tw9147275198893891252:=0
def tw17000378706738065018:=0
def tw7490121366653096628:=0
def tw8311788240967009978:=0
def tw2545068690378067429:=0
def tw6735562933461997956:=0
def tw12978053350981962452:=0
def tw830176421301205225:=0
def tw10627580390237098832:=0
def tw11666195233967955792:=0
def tw14172104534127931587:=0
def tw13498615289459446794:=0
def tw14033234865408933958:=0
def tw6666612953881968362:=0
def tw3314330525699596411:=0
def tw648037098314009357:=0
def tw5828392948300264635:=0
def tw7861166680663247629:=0
def tw377208806218044551:=0
def tw18205903791063257313:=0
def tw877560783539305824:=0
def tw17046333299854790835:=0
def tw16823419858030974831:=0
def tw3516450264491793094:=0
def tw13736151671148526674:=0
def tw14389742918249580311:=0
def tw15497772522696042578:=0
def tw4685906398606168739:=0
def tw7584011108861666779:=0
def tw15454330447323807861:=0
def tw376638902087476763:=0
def tw7923620464775637731:=0
def tw5551725754094530022:=0
def tw5082449517317133915:=0
def tw2325124283734581429:=0
def tw16912935349242706133:=0
def tw9133052711013211349:=0
def tw12977394994535265243:=0
def tw5176895192284533539:=0
def tw14430342587753351310:=0
def tw12699472801967736078:=0
def tw9935845310266214314:=0
def tw16342992290199370994:=0
def tw4223754606901627810:=0
def tw1705273659312477500:=0
def tw14034376714755183932:=0
def tw11649870174800607548:=0
def tw6286063624977098236:=0
def tw8571555010829360504:=0
def tw6599112234403447049:=0
def tw11276797401968619164:=0
def tw11889559430711304814:=0
def tw9956909981785051082:=0
def tw11338858752400888035:=0
def tw3694111494041777052:=0
def tw15200753672487916160:=0
def tw12465219811522945685:=0
def tw9053321766314195620:=0
def tw15908590460947330026:=0
def tw10535528380342270601:=0
def tw3854053376302578313:=0
def tw9018525732185741515:=0
def tw6499768094684359237:=0
def tw1684161023327471655:=0
def tw2786548663172133213:=0
def tw15969653508460448253:=0
def tw6562825200201049661:=0
def tw17377798157034169707:=0
def tw352533407803767792:=0
def tw13224472319506465405:=0
def tw3518257091136045426:=0
def tw10773799826758880996:=0
def tw14064741572784965380:=0
def tw11111762910880659204:=0
def tw4797035292095543659:=0
def tw11513084568463782917:=0
def tw4063063255694921693:=0
def tw8859601864917992843:=0
def tw6072606601423335848:=0
def tw5852816634799628824:=0
def tw4670885231131589221:=0
def tw6527189662586456741:=0
def tw4570744548837575774:=0
def tw17571468005055539217:=0
def tw3401847548868193534:=0
def tw6776235109001911832:=0
def tw3838447866516356327:=0
def tw15485928616830305598:=0
def tw9461045708357785918:=0
def tw12223028474453928192:=0
def tw1688784931922462114:=0
def tw1009814614666582472:=0
def tw15952406728257432158:=0
def tw10486717968499012950:=0
def tw16191517646956525348:=0
def tw6970692540848859902:=0
def tw2992563675644149270:=0
def tw16293973009928157481:=0
def tw2046125940710036054:=0
def tw14454317895661138846:=0
def tw12486759442536145352:=0
def tw11104931659365288434:=0
def tw17487660425672205046:=0
def tw4113500157802070014:=0
def tw11268243875730720801:=0
def tw621616732208700575:=0
def tw15643953536880806127:=0
def tw3733381724713445906:=0
def tw18243482093689988512:=0
def tw17663335664056817004:=0
def tw14526909080000986431:=0
def tw8324747059635211615:=0
def tw292129810423036363:=0
def tw9467179368592820984:=0
def tw14733822853487713238:=0
def tw17882497704662328611:=0
def tw10268588747493519584:=0
def tw13187591660735371331:=0
def tw7936530695844704767:=0
def tw17566410496176412159:=0
def tw6908002390765498423:=0
def tw3667226622568765983:=0
def tw1628331864712612768:=0
def tw10387482558571940183:=0
def tw2654510168975875595:=0
def tw526228689907316151:=0
def tw17596113319948166911:=0
def tw10538225096994641695:=0
def tw11284969141923458603:=0
def tw729521013454830399:=0
def tw14877029272062674181:=0
end PySem.W.Fast
set_option maxRecDepth 100000 in
set_option maxHeartbeats 0 in
theorem PySem.Challenge.cw_overwise_k68_too_much_holds : PySem.Challenge.rw_overwise_k68_too_much.Holds := by
 w_on; o_law; k_head; (case hw=>w_witness2)
 k_fill
 refine Ow.walk (l:=PySem.Challenge.rw_overwise_k68_too_much) rfl rfl (fun w h Y=>PySem.W.kIn_of Y) ?F
 case F =>
  intro w mg fa h KX G hmg
  refine' Ow.all_mk KX G hmg ?a1 ?i1 ?l1 ?a2 ?i2 ?l2 ?a3 ?i3 ?l3 ?a4 ?l4 ?a5 ?l5 ?a6 ?l6 ?a7 ?l7 ?a8 ?i8 ?l8 ?a9 ?i9 ?l9 ?a10 ?i10 ?l10 ?a11 ?i11 ?l11 ?a12 ?i12 ?l12 ?a13 ?i13 ?l13 ?a14 ?i14 ?l14 ?a15 ?i15 ?l15 ?a16 ?i16 ?l16 ?a17 ?l17 ?a18 ?l18 ?a19 ?l19 ?a20 ?l20 ?a21 ?l21 ?a22 ?i22 ?l22 ?a23 ?i23 ?l23 ?a24 ?i24 ?l24 ?a25 ?i25 ?l25 ?a26 ?i26 ?l26 ?a27 ?i27 ?l27 ?a28 ?i28 ?l28 ?a29 ?i29 ?l29 ?a30 ?i30 ?l30 ?a31 ?i31 ?l31 ?a32 ?i32 ?l32 ?a33 ?l33 ?a34 ?l34 ?a35 ?l35 ?a36 ?l36 ?a37 ?l37 ?a38 ?l38 ?a39 ?l39 ?a40 ?i40 ?l40 ?a41 ?i41 ?l41 ?a42 ?l42 ?a43 ?l43 ?a44 ?l44 ?a45 ?l45 ?a46 ?l46 ?a47 ?l47 ?a48 ?l48 ?a49 ?l49 ?a50 ?l50 ?a51 ?l51 ?a52 ?l52 ?a53 ?l53 ?a54 ?l54 ?a55 ?l55 ?a56 ?l56 ?a57 ?l57 ?a58 ?l58 ?c58 ?k58 ?aC_Kind ?pg_Kind ?hd_Kind ?po_Kind ?sa_Kind ?rd_Kind ?ga_Kind ?fn_Kind___init__ ?aC_Plain ?pg_Plain ?hd_Plain ?po_Plain ?sa_Plain ?mk_Plain ?kc_Plain ?na_Plain_width ?na_Plain_point ?aC_Row ?pg_Row ?hd_Row ?po_Row ?sa_Row ?mk_Row ?kc_Row ?na_Row_line ?na_Row_deed ?na_Row_goals ?na_Row_reads ?na_Row_numbers ?na_Row_way ?aC_Repeat ?pg_Repeat ?hd_Repeat ?po_Repeat ?sa_Repeat ?mk_Repeat ?kc_Repeat ?na_Repeat_line ?na_Repeat_times ?na_Repeat_rows ?aC_Draft ?pg_Draft ?hd_Draft ?po_Draft ?sa_Draft ?mk_Draft ?kc_Draft ?na_Draft_width ?na_Draft_inputs ?na_Draft_rows ?na_Draft_outs ?na_Draft_row_pairs ?na_Draft_loops ?na_Draft_met ?aC_Program ?pg_Program ?hd_Program ?po_Program ?sa_Program ?mk_Program ?kc_Program ?na_Program_width ?na_Program_inputs ?na_Program_rows ?na_Program_outs ?na_Program_kinds ?na_Program_source ?aC_NoProgram ?aC_TooMuch ?aC_Unknown ?aC_WiseError ?aC_NoText ?xe_NoProgram ?xs_NoProgram ?xm_NoProgram ?xn_NoProgram ?xf_NoProgram ?xk_NoProgram ?xe_TooMuch ?xs_TooMuch ?xm_TooMuch ?xn_TooMuch ?xf_TooMuch ?xk_TooMuch ?xe_Unknown ?xs_Unknown ?xm_Unknown ?xf_Unknown ?xk_Unknown ?xn_Unknown_line ?xn_Unknown_name ?aW_RESERVED ?lW_RESERVED ?aW_READ_PLAIN ?lW_READ_PLAIN ?aW_READ_ALIKE ?lW_READ_ALIKE ?aW_SHAPES ?lW_SHAPES ?lD0_SHAPES ?lD1_SHAPES ?lD2_SHAPES ?lD3_SHAPES ?lD4_SHAPES ?lD5_SHAPES ?lD6_SHAPES ?lD7_SHAPES ?lD8_SHAPES ?lD9_SHAPES ?lD10_SHAPES ?lD11_SHAPES ?lD12_SHAPES ?lD13_SHAPES ?lD14_SHAPES ?lD15_SHAPES ?lD16_SHAPES ?lD17_SHAPES ?aS_LETTERS ?aN_LONGEST_SHOWN ?aN_MOST_LINES ?aN_MOST_NAMES ?aN_MOST_LOOPS ?aN_MOST_ROWS ?kf_og ?kf_ot ?kf_fcA ?kf_fcB ?kf_moA ?kf_moB ?kf_if ?kf_tf ?kf_mAB ?kf_mAA ?kf_mBB ?kf_kr_SHAPES ?kf_if_NoProgram ?kf_tf_NoProgram ?kf_mf_NoProgram ?kf_wb_NoProgram ?kf_ga_NoProgram ?kf_gn_NoProgram ?kf_gc_NoProgram ?kf_mo_NoProgram ?kf_mb_NoProgram ?kf_hd_NoProgram ?kf_nf_NoProgram ?kf_if_TooMuch ?kf_tf_TooMuch ?kf_mf_TooMuch ?kf_wb_TooMuch ?kf_ga_TooMuch ?kf_gn_TooMuch ?kf_gc_TooMuch ?kf_mo_TooMuch ?kf_mb_TooMuch ?kf_hd_TooMuch ?kf_nf_TooMuch ?kf_if_Unknown ?kf_tf_Unknown ?kf_mf_Unknown ?kf_wb_Unknown ?kf_ga_Unknown ?kf_gn_Unknown ?kf_gc_Unknown ?kf_mo_Unknown ?kf_mb_Unknown ?kf_hd_Unknown ?kf_nf_Unknown ?kf_m_TooMuch_NoProgram ?kf_m_Unknown_NoProgram ?kf_m_Unknown_TooMuch ?z_isinstance ?z_int ?z_bool ?z_str ?z_list ?z_tuple ?z_dict ?z_len ?z_max ?z_min ?z_range ?z_all ?z_sum ?z_abs ?z_zip ?z_enumerate
  (case aC_NoProgram=>k_is)
  (case aC_TooMuch=>k_is)
  (case aC_Unknown=>k_is)
  (case aC_WiseError=>k_is)
  (case aC_NoText=>k_is)
  (case aW_RESERVED=>k_is); (case lW_RESERVED=>k_is)
  (case aW_READ_PLAIN=>k_is); (case lW_READ_PLAIN=>k_is)
  (case aW_READ_ALIKE=>k_is); (case lW_READ_ALIKE=>k_is)
  (case aW_SHAPES=>k_is); (case lW_SHAPES=>k_is); (case lD0_SHAPES=>k_is); (case lD1_SHAPES=>k_is); (case lD2_SHAPES=>k_is); (case lD3_SHAPES=>k_is); (case lD4_SHAPES=>k_is); (case lD5_SHAPES=>k_is); (case lD6_SHAPES=>k_is); (case lD7_SHAPES=>k_is); (case lD8_SHAPES=>k_is); (case lD9_SHAPES=>k_is); (case lD10_SHAPES=>k_is); (case lD11_SHAPES=>k_is); (case lD12_SHAPES=>k_is); (case lD13_SHAPES=>k_is); (case lD14_SHAPES=>k_is); (case lD15_SHAPES=>k_is); (case lD16_SHAPES=>k_is); (case lD17_SHAPES=>k_is)
  (case aC_Kind=>k_is); (case pg_Kind=>k_is); (case hd_Kind=>k_is); (case po_Kind=>k_is); (case sa_Kind=>k_is)
  (case rd_Kind=>k_is); (case ga_Kind=>k_is); (case fn_Kind___init__=>k_is)
  (case aC_Plain=>k_is); (case pg_Plain=>k_is); (case hd_Plain=>k_is); (case po_Plain=>k_is); (case sa_Plain=>k_is)
  (case mk_Plain=>k_is); (case kc_Plain=>k_is)
  (case na_Plain_width=>k_is)
  (case na_Plain_point=>k_is)
  (case aC_Row=>k_is); (case pg_Row=>k_is); (case hd_Row=>k_is); (case po_Row=>k_is); (case sa_Row=>k_is)
  (case mk_Row=>k_is); (case kc_Row=>k_is)
  (case na_Row_line=>k_is)
  (case na_Row_deed=>k_is)
  (case na_Row_goals=>k_is)
  (case na_Row_reads=>k_is)
  (case na_Row_numbers=>k_is)
  (case na_Row_way=>k_is)
  (case aC_Repeat=>k_is); (case pg_Repeat=>k_is); (case hd_Repeat=>k_is); (case po_Repeat=>k_is); (case sa_Repeat=>k_is)
  (case mk_Repeat=>k_is); (case kc_Repeat=>k_is)
  (case na_Repeat_line=>k_is)
  (case na_Repeat_times=>k_is)
  (case na_Repeat_rows=>k_is)
  (case aC_Draft=>k_is); (case pg_Draft=>k_is); (case hd_Draft=>k_is); (case po_Draft=>k_is); (case sa_Draft=>k_is)
  (case mk_Draft=>k_is); (case kc_Draft=>k_is)
  (case na_Draft_width=>k_is)
  (case na_Draft_inputs=>k_is)
  (case na_Draft_rows=>k_is)
  (case na_Draft_outs=>k_is)
  (case na_Draft_row_pairs=>k_is)
  (case na_Draft_loops=>k_is)
  (case na_Draft_met=>k_is)
  (case aC_Program=>k_is); (case pg_Program=>k_is); (case hd_Program=>k_is); (case po_Program=>k_is); (case sa_Program=>k_is)
  (case mk_Program=>k_is); (case kc_Program=>k_is)
  (case na_Program_width=>k_is)
  (case na_Program_inputs=>k_is)
  (case na_Program_rows=>k_is)
  (case na_Program_outs=>k_is)
  (case na_Program_kinds=>k_is)
  (case na_Program_source=>k_is)
  (case a1=>k_is); (case i1=>k_is); (case l1=>apply Ow.FB.of <;> k_is)
  (case a2=>k_is); (case i2=>k_is); (case l2=>apply Ow.FB.of <;> k_is)
  (case a3=>k_is); (case i3=>k_is); (case l3=>apply Ow.FB.of <;> k_is)
  (case a4=>k_is); (case l4=>apply Ow.FB.of <;> k_is)
  (case a5=>k_is); (case l5=>apply Ow.FB.of <;> k_is)
  (case a6=>k_is); (case l6=>apply Ow.FB.of <;> k_is)
  (case a7=>k_is); (case l7=>apply Ow.FB.of <;> k_is)
  (case a8=>k_is); (case i8=>k_is); (case l8=>apply Ow.FB.of <;> k_is)
  (case a9=>k_is); (case i9=>k_is); (case l9=>apply Ow.FB.of <;> k_is)
  (case a10=>k_is); (case i10=>k_is); (case l10=>apply Ow.FB.of <;> k_is)
  (case a11=>k_is); (case i11=>k_is); (case l11=>apply Ow.FB.of <;> k_is)
  (case a12=>k_is); (case i12=>k_is); (case l12=>apply Ow.FB.of <;> k_is)
  (case a13=>k_is); (case i13=>k_is); (case l13=>apply Ow.FB.of <;> k_is)
  (case a14=>k_is); (case i14=>k_is); (case l14=>apply Ow.FB.of <;> k_is)
  (case a15=>k_is); (case i15=>k_is); (case l15=>apply Ow.FB.of <;> k_is)
  (case a16=>k_is); (case i16=>k_is); (case l16=>apply Ow.FB.of <;> k_is)
  (case a17=>k_is); (case l17=>apply Ow.FB.of <;> k_is)
  (case a18=>k_is); (case l18=>apply Ow.FB.of <;> k_is)
  (case a19=>k_is); (case l19=>apply Ow.FB.of <;> k_is)
  (case a20=>k_is); (case l20=>apply Ow.FB.of <;> k_is)
  (case a21=>k_is); (case l21=>apply Ow.FB.of <;> k_is)
  (case a22=>k_is); (case i22=>k_is); (case l22=>apply Ow.FB.of <;> k_is)
  (case a23=>k_is); (case i23=>k_is); (case l23=>apply Ow.FB.of <;> k_is)
  (case a24=>k_is); (case i24=>k_is); (case l24=>apply Ow.FB.of <;> k_is)
  (case a25=>k_is); (case i25=>k_is); (case l25=>apply Ow.FB.of <;> k_is)
  (case a26=>k_is); (case i26=>k_is); (case l26=>apply Ow.FB.of <;> k_is)
  (case a27=>k_is); (case i27=>k_is); (case l27=>apply Ow.FB.of <;> k_is)
  (case a28=>k_is); (case i28=>k_is); (case l28=>apply Ow.FB.of <;> k_is)
  (case a29=>k_is); (case i29=>k_is); (case l29=>apply Ow.FB.of <;> k_is)
  (case a30=>k_is); (case i30=>k_is); (case l30=>apply Ow.FB.of <;> k_is)
  (case a31=>k_is); (case i31=>k_is); (case l31=>apply Ow.FB.of <;> k_is)
  (case a32=>k_is); (case i32=>k_is); (case l32=>apply Ow.FB.of <;> k_is)
  (case a33=>k_is); (case l33=>apply Ow.FB.of <;> k_is)
  (case a34=>k_is); (case l34=>apply Ow.FB.of <;> k_is)
  (case a35=>k_is); (case l35=>apply Ow.FB.of <;> k_is)
  (case a36=>k_is); (case l36=>apply Ow.FB.of <;> k_is)
  (case a37=>k_is); (case l37=>apply Ow.FB.of <;> k_is)
  (case a38=>k_is); (case l38=>apply Ow.FB.of <;> k_is)
  (case a39=>k_is); (case l39=>apply Ow.FB.of <;> k_is)
  (case a40=>k_is); (case i40=>k_is); (case l40=>apply Ow.FB.of <;> k_is)
  (case a41=>k_is); (case i41=>k_is); (case l41=>apply Ow.FB.of <;> k_is)
  (case a42=>k_is); (case l42=>apply Ow.FB.of <;> k_is)
  (case a43=>k_is); (case l43=>apply Ow.FB.of <;> k_is)
  (case a44=>k_is); (case l44=>apply Ow.FB.of <;> k_is)
  (case a45=>k_is); (case l45=>apply Ow.FB.of <;> k_is)
  (case a46=>k_is); (case l46=>apply Ow.FB.of <;> k_is)
  (case a47=>k_is); (case l47=>apply Ow.FB.of <;> k_is)
  (case a48=>k_is); (case l48=>apply Ow.FB.of <;> k_is)
  (case a49=>k_is); (case l49=>apply Ow.FB.of <;> k_is)
  (case a50=>k_is); (case l50=>apply Ow.FB.of <;> k_is)
  (case a51=>k_is); (case l51=>apply Ow.FB.of <;> k_is)
  (case a52=>k_is); (case l52=>apply Ow.FB.of <;> k_is)
  (case a53=>k_is); (case l53=>apply Ow.FB.of <;> k_is)
  (case a54=>k_is); (case l54=>apply Ow.FB.of <;> k_is)
  (case a55=>k_is); (case l55=>apply Ow.FB.of <;> k_is)
  (case a56=>k_is); (case l56=>apply Ow.FB.of <;> k_is)
  (case a57=>k_is); (case l57=>apply Ow.FB.of <;> k_is)
  (case a58=>k_is); (case l58=>k_is); (case c58=>k_is); (case k58=>k_is)
  (case xe_NoProgram=>kernel_rfl); (case xs_NoProgram=>k_is); (case xm_NoProgram=>k_is); (case xn_NoProgram=>k_is); (case xf_NoProgram=>k_is); (case xk_NoProgram=>k_is)
  (case xe_TooMuch=>kernel_rfl); (case xs_TooMuch=>k_is); (case xm_TooMuch=>k_is); (case xn_TooMuch=>k_is); (case xf_TooMuch=>k_is); (case xk_TooMuch=>k_is)
  (case xe_Unknown=>kernel_rfl); (case xs_Unknown=>k_is); (case xm_Unknown=>k_is); (case xf_Unknown=>k_is); (case xk_Unknown=>k_is); (case xn_Unknown_line=>k_is); (case xn_Unknown_name=>k_is)
  (case aS_LETTERS=>k_is)
  (case aN_LONGEST_SHOWN=>k_is)
  (case aN_MOST_LINES=>k_is)
  (case aN_MOST_NAMES=>k_is)
  (case aN_MOST_LOOPS=>k_is)
  (case aN_MOST_ROWS=>k_is)
  (case kf_og=>k_is)
  (case kf_ot=>k_is)
  (case kf_fcA=>k_is)
  (case kf_fcB=>k_is)
  (case kf_moA=>k_is)
  (case kf_moB=>k_is)
  (case kf_if=>k_is)
  (case kf_tf=>k_is)
  (case kf_mAB=>k_is)
  (case kf_mAA=>k_is)
  (case kf_mBB=>k_is)
  (case kf_kr_SHAPES=>kernel_rfl)
  (case kf_if_NoProgram=>k_is)
  (case kf_tf_NoProgram=>k_is)
  (case kf_mf_NoProgram=>k_is)
  (case kf_wb_NoProgram=>k_is)
  (case kf_ga_NoProgram=>k_is)
  (case kf_gn_NoProgram=>k_is)
  (case kf_gc_NoProgram=>k_is)
  (case kf_mo_NoProgram=>k_is)
  (case kf_mb_NoProgram=>k_is)
  (case kf_hd_NoProgram=>k_is)
  (case kf_nf_NoProgram=>k_is)
  (case kf_if_TooMuch=>k_is)
  (case kf_tf_TooMuch=>k_is)
  (case kf_mf_TooMuch=>k_is)
  (case kf_wb_TooMuch=>k_is)
  (case kf_ga_TooMuch=>k_is)
  (case kf_gn_TooMuch=>k_is)
  (case kf_gc_TooMuch=>k_is)
  (case kf_mo_TooMuch=>k_is)
  (case kf_mb_TooMuch=>k_is)
  (case kf_hd_TooMuch=>k_is)
  (case kf_nf_TooMuch=>k_is)
  (case kf_if_Unknown=>k_is)
  (case kf_tf_Unknown=>k_is)
  (case kf_mf_Unknown=>k_is)
  (case kf_wb_Unknown=>k_is)
  (case kf_ga_Unknown=>k_is)
  (case kf_gn_Unknown=>k_is)
  (case kf_gc_Unknown=>k_is)
  (case kf_mo_Unknown=>k_is)
  (case kf_mb_Unknown=>k_is)
  (case kf_hd_Unknown=>k_is)
  (case kf_nf_Unknown=>k_is)
  (case kf_m_TooMuch_NoProgram=>k_is)
  (case kf_m_Unknown_NoProgram=>k_is)
  (case kf_m_Unknown_TooMuch=>k_is)
  (case z_isinstance=>k_is)
  (case z_int=>k_is)
  (case z_bool=>k_is)
  (case z_str=>k_is)
  (case z_list=>k_is)
  (case z_tuple=>k_is)
  (case z_dict=>k_is)
  (case z_len=>k_is)
  (case z_max=>k_is)
  (case z_min=>k_is)
  (case z_range=>k_is)
  (case z_all=>k_is)
  (case z_sum=>k_is)
  (case z_abs=>k_is)
  (case z_zip=>k_is)
  (case z_enumerate=>k_is)
