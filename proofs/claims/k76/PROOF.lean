import PyProof.Rows.All
import OpenK.KLaw
import OpenK.KWalk
import KE.KSearch
import KE.KFinFacts
import KE.RegKTryOn
import KE.KUnpack
import KE.KRevSl
import KE.KDictOf
import KE.KDictList
import KE.KDictSum
import Wide.FinOn
import PyProof.EqAt
import PyProof.EqKinds
import PyProof.TupleCall
import KE.BitLaws
import KE.IntBitsLaws
import KE.KIntText
import PySem.Challenge.RW_overwise_k76_whole_division_by_rows
set_option Elab.async false
set_option linter.all false
set_option maxRecDepth 100000
open PySem.W (findIn keepIn Frag fnOf codeIn mg_of nsIn isFn kitOne mroIn hasDictIn plainGet plainOver makesIn typeIn mg_none_of isClsIn instObj exmOne)
namespace L2
open PySem PySem.Spec PyProof.Rows
abbrev Key:=Sum Int Str
def qi:Key->Value->Bool
 | .inl k,v=>Value.isInt k v
 | .inr x,v=>Value.isStrOf x v
def keyH (w:World):Key->Int
 | .inl k=>hashInt k
 | .inr x=>hashStr w x
theorem bc:∀ {k:Key} {v:Value},qi k v = true->(∃ i t,k = Sum.inl i/\v = Value.int i t)\/(∃ x t,k = Sum.inr x/\v = Value.str x t)
 | .inl i,v,h=>by
  obtain ⟨t,e⟩:=Value.isInt_shape (k:=i) (v:=v) h
  exact .inl ⟨i,t,rfl,e⟩
 | .inr x,v,h=>by
  obtain ⟨t,e⟩:=Value.isStrOf_shape (x:=x) (v:=v) h
  exact .inr ⟨x,t,rfl,e⟩
theorem rT (i:Int) (t:Tok):qi (.inl i) (.int i t) = true:=by simp [qi,Value.isInt]
theorem qF (x:Str) (t:Tok):qi (.inr x) (.str x t) = true:=by simp [qi,Value.isStrOf]
theorem key_ll (a b:Int):decide ((Sum.inl a:Key) = Sum.inl b) = (a == b):=by
 by_cases e:a = b
 ·subst e; simp
 ·have h:¬ (Sum.inl a:Key) = Sum.inl b:=fun q=>e (Sum.inl.inj q)
  rw [decide_eq_false h]
  exact (beq_eq_false_iff_ne.mpr e).symm
theorem key_rr (a b:Str):decide ((Sum.inr a:Key) = Sum.inr b) = decide (a = b):=by
 by_cases e:a = b
 ·subst e; simp
 ·have h:¬ (Sum.inr a:Key) = Sum.inr b:=fun q=>e (Sum.inr.inj q)
  rw [decide_eq_false h,decide_eq_false e]
theorem key_lr (a:Int) (b:Str):decide ((Sum.inl a:Key) = Sum.inr b) = false:=decide_eq_false (fun q=>nomatch q)
theorem key_rl (a:Str) (b:Int):decide ((Sum.inr a:Key) = Sum.inl b) = false:=decide_eq_false (fun q=>nomatch q)
def aL (prog:Program) (w:World):PySem.KeyKind prog w Key where
 is:=qi
 hash:=keyH w
 inj:=fun v a b ha hb=>by
  rcases bc ha with ⟨i,t,rfl,rfl⟩ | ⟨x,t,rfl,rfl⟩
  ·rcases bc hb with ⟨j,u,rfl,e⟩ | ⟨y,u,rfl,e⟩
   ·injection e with e1 _; rw [e1]
   ·exact nomatch e
  ·rcases bc hb with ⟨j,u,rfl,e⟩ | ⟨y,u,rfl,e⟩
   ·exact nomatch e
   ·injection e with e1 _; rw [e1]
 byValue:=fun k v h=>by
  rcases bc h with ⟨i,t,rfl,rfl⟩ | ⟨x,t,rfl,rfl⟩ <;> rfl
 pyHash:=fun hv h=>by
  rcases bc hv with ⟨i,t,rfl,rfl⟩ | ⟨x,t,rfl,rfl⟩
  ·exact wpAny_pyHash_int h
  ·exact wpAny_pyHash_str h
 eqBool:=fun hu hv h=>by
  rcases bc hu with ⟨i,t,rfl,rfl⟩ | ⟨x,t,rfl,rfl⟩
  ·rcases bc hv with ⟨j,u,rfl,rfl⟩ | ⟨y,u,rfl,rfl⟩
   ·rw [key_ll] at h; exact wpAny_eqBool_int h
   ·rw [key_lr] at h; exact SeqAt.EqAt.int_str i t y u _ _ _ _ h
  ·rcases bc hv with ⟨j,u,rfl,rfl⟩ | ⟨y,u,rfl,rfl⟩
   ·rw [key_rl] at h; exact SeqAt.EqAt.str_int x t j u _ _ _ _ h
   ·rw [key_rr] at h; exact wpAny_eqBool_str h
 «strs»:=fun k x t v h=>by
  rcases bc h with ⟨i,u,rfl,e⟩ | ⟨y,u,rfl,e⟩
  ·exact nomatch e
  ·injection e with e1 _
   subst e1
   cases v <;> rfl
theorem m9 (prog:Program) (w:World) (i:Int) (t:Tok):(aL prog w).is (.inl i) (.int i t) = true:=rT i t
theorem nI (prog:Program) (w:World) (x:Str) (t:Tok):(aL prog w).is (.inr x) (.str x t) = true:=qF x t
end L2
namespace L2
open PySem PySem.Spec PyProof.Rows
inductive V where
 | non | bl (b:Bool) | int (i:Int) | str (x:Str) | byt (b:Array UInt8) | flt (b:UInt64) | ref (a:Addr) | ty (n:String)
 deriving DecidableEq
def RelV:V->Value->Prop
 | .non,u=>u = Value.none
 | .bl b,u=>u = Value.bool b
 | .int i,u=>∃ t,u = Value.int i t
 | .str x,u=>∃ t,u = Value.str x t
 | .byt b,u=>∃ t,u = Value.bytes b t
 | .flt b,u=>∃ t,u = Value.float b t
 | .ref a,u=>u = Value.ref a
 | .ty n,u=>u = Value.type n
abbrev Vals:List V->List Value->Prop:=Paired RelV
theorem Vals.length {xs:List V} {us:List Value} (r:Vals xs us):xs.length = us.length:=Paired.length r
theorem Vals.get:∀ {xs:List V} {us:List Value} {i:Nat} {x:V},Vals xs us->xs[i]? = some x->∃ u,us[i]? = some u/\RelV x u
 | _,_,_,_,.nil,e=>by simp at e
 | _,_,0,_,.cons r _,e=>by simp at e; subst e; exact ⟨_,rfl,r⟩
 | _,_,i + 1,x,.cons _ t,e=>by
  obtain ⟨u,h1,h2⟩:=Vals.get (i:=i) (x:=x) t (by simpa using e)
  exact ⟨u,by simpa using h1,h2⟩
theorem Vals.set {x:V} {u:Value} (r:RelV x u):∀ {xs:List V} {us:List Value} (i:Nat),Vals xs us->Vals (xs.set i x) (us.set i u)
 | _,_,_,.nil=>.nil
 | _,_,0,.cons _ t=>.cons r t
 | _,_,i + 1,.cons q t=>.cons q (Vals.set r i t)
theorem Vals.append:∀ {xs ys:List V} {us ws:List Value},Vals xs us->Vals ys ws->Vals (xs ++ ys) (us ++ ws)
 | _,_,_,_,.nil,s=>s
 | _,_,_,_,.cons r t,s=>.cons r (Vals.append t s)
theorem Vals.take:∀ {xs:List V} {us:List Value} (n:Nat),Vals xs us->Vals (xs.take n) (us.take n)
 | _,_,0,_=>.nil
 | _,_,_ + 1,.nil=>.nil
 | _,_,n + 1,.cons r t=>.cons r (Vals.take n t)
theorem Vals.drop:∀ {xs:List V} {us:List Value} (n:Nat),Vals xs us->Vals (xs.drop n) (us.drop n)
 | _,_,0,r=>r
 | _,_,_ + 1,.nil=>.nil
 | _,_,n + 1,.cons _ t=>Vals.drop n t
def RelO:Option V->Option Value->Prop
 | some v,some u=>RelV v u
 | none,none=>True
 | _,_=>False
def KV {κ:Type}:List (κ × V)->List (κ × Value)->Prop:=Paired fun (p:κ × V) (q:κ × Value)=>p.1 = q.1/\RelV p.2 q.2
def kV:Key->V
 | .inl i=>.int i
 | .inr x=>.str x
inductive HO where
 /-- a list -/
 | lst (xs:List V)
 /-- a tuple (never changes) -/
 | tup (xs:List V)
 /-- a dict whose keys are ints and texts; one whose keys are tuples of ints and texts (the empty one is both) -/
 | dK (kvs:List (Key × V)) | dT (kvs:List (List Key × V))
 /-- a set of ints: its members,its size -/
 | set (S:Int->Bool) (n:Nat)
 /-- an instance of the class at C,its dict at dx,its attributes -/
 | ins (C dx:Addr) (fs:List (Str × V))
 /-- the dict of the instance at x -/
 | own (x:Addr)
 /-- the dict of an exception -/
 | xd (fs:List (Str × V))
 /-- a bound method,f of x -/
 | met (f x:Addr)
 /-- a range object lo,lo + 1,.. below hi -/
 | rng (lo hi:Int)
 /-- a thing that is known to the object (the script; a dict while a loop walks it): read,never written while it is so -/
 | frz (o:Obj) (u:HO)
 /-- a code object's table -/
 | tbl (ps:Array Value)
 /-- any other thing,by what is true of its one object (a def of one's own: SetO a S n:=HO.ext fun h=>..) -/
 | ext (φ:Heap->Prop)
abbrev Hp:=Addr->Option HO
def upd (H:Hp) (a:Addr) (o:HO):Hp:=fun b=>if b = a then some o else H b
theorem ae {H:Hp} {a:Addr} {o:HO}:upd H a o a = some o:=by unfold upd; rw [if_pos rfl]
theorem ao {H:Hp} {a b:Addr} {o:HO} (h:b ≠ a):upd H a o b = H b:=by unfold upd; rw [if_neg h]
theorem jE {H:Hp} {a b:Addr} {o u:HO} (h:H a = some o) (h':H b = some u) (d:o ≠ u):a ≠ b:=by
 intro e; subst e; rw [h] at h'; exact d (Option.some.inj h')
theorem av {H:Hp} {a b:Addr} {o:HO} (h:H a = some o) (h':H b = none):a ≠ b:=by
 intro e; subst e; rw [h] at h'; cases h'
section
variable (P:Program) (w:World)
def ObjOk (H:Hp) (h:Heap) (a:Addr):HO->Prop
 | .lst xs=>xs.length<=sizeLine/\∃ (its:List Value) (n:Nat),Vals xs its/\h.get? a = some { cls:=.type "list",data:=.seq its.toArray n }
 | .tup xs=>xs.length<=sizeLine/\∃ its:List Value,Vals xs its/\IsTup h a its.toArray
 | .dK kvs=>kvs.length<=sizeLine/\(a == sysModules) = false/\∃ vs,KV kvs vs/\h.DictOf (aL P w) a vs
 | .dT kvs=>kvs.length<=sizeLine/\(a == sysModules) = false/\∃ xs:List (List Key × Addr × Value),
   Paired (fun (p:List Key × V) (q:List Key × Addr × Value)=>p.1 = q.1/\H q.2.1 = some (.tup (p.1.map kV))/\RelV p.2 q.2.2) kvs xs /\
   ∃ o es ep,h.get? a = some o/\o.ExactDict/\o.data = .dict es ep/\es.toList = xs.map (entryOfKey (tupleKind (aL P w)))/\(xs.map (·.1)).Nodup
 | .set S n=>h.SetOf (intKind P w) a S n
 | .ins C dx fs=>H dx = some (.own a)/\fs.length<=1000/\dx ≠ a/\h.get? a = some (instObj C dx) /\
   ∃ mA,h.Ns1 dx mA/\(∀ f,RelO (fs.lookup f) (mA f))/\PySem.Within mA (fs.map (·.1))
 | .own _=>∃ o,h.get? a = some o
 | .xd fs=>∃ mA,h.Ns1 a mA/\∀ f,RelO (fs.lookup f) (mA f)
 | .rng lo hi=>∃ t u v,h.get? a = some { cls:=.type "range",data:=.fields #[.int lo t,.int hi u,.int 1 v] }
 | .frz o u=>h.get? a = some o/\ObjOk H h a u
 | .tbl ps=>h.get? a = some { cls:=.none,data:=.fields ps }
 | .met f x=>h.get? a = some (PySem.W.methodObj (.ref f) (.ref x))
 | .ext φ=>φ h/\(∃ o,h.get? a = some o)/\∀ h1 h2:Heap,φ h1->(∀ o,h1.get? a = some o->h2.get? a = some o)->φ h2
def HOk (H:Hp) (h:Heap):Prop:=∀ a o,H a = some o->ObjOk P w H h a o
end
section
variable {P:Program} {w:World} {H H':Hp} {h h':Heap} {a:Addr} {o:HO}
theorem ObjOk.lt (x:ObjOk P w H h a o):a < h.objs.size:=by
 cases o with
 | lst xs=>obtain ⟨_,_,_,_,e⟩:=x; exact Heap.lt_size e
 | tup xs=>obtain ⟨_,_,_,p⟩:=x; exact p.lt
 | dK kvs=>obtain ⟨_,_,_,_,o,_,_,e,_⟩:=x; exact Heap.lt_size e
 | dT kvs=>obtain ⟨_,_,_,_,o,_,_,e,_⟩:=x; exact Heap.lt_size e
 | set S n=>obtain ⟨o,_,_,_,e,_⟩:=x; exact Heap.lt_size e
 | ins C dx fs=>obtain ⟨_,_,_,e,_⟩:=x; exact Heap.lt_size e
 | own y=>obtain ⟨_,e⟩:=x; exact Heap.lt_size e
 | xd fs=>obtain ⟨_,⟨_,_,_,e,_⟩,_⟩:=x; exact Heap.lt_size e
 | rng lo hi=>obtain ⟨_,_,_,e⟩:=x; exact Heap.lt_size e
 | frz ob u=>obtain ⟨e,_⟩:=x; exact Heap.lt_size e
 | tbl ps=>exact Heap.lt_size (show h.get? a = some _ from x)
 | met f y=>exact Heap.lt_size (show h.get? a = some _ from x)
 | ext φ=>obtain ⟨_,⟨_,e⟩,_⟩:=x; exact Heap.lt_size e
theorem Paired.mapP {α β:Type} {F G:α->β->Prop}:∀ {l₁:List α} {l₂:List β},Paired F l₁ l₂->(∀ a b,F a b->G a b)->Paired G l₁ l₂
 | _,_,.nil,_=>.nil
 | _,_,.cons r t,f=>.cons (f _ _ r) (Paired.mapP t f)
theorem ObjOk.stay (x:ObjOk P w H h a o) (k:∀ b u,(b = a\/H b = some (.own a))->h.get? b = some u->h'.get? b = some u)
  (ho:∀ b,H b = some (.own a)->H' b = some (.own a)) (ht:∀ b xs,H b = some (.tup xs)->H' b = some (.tup xs)):ObjOk P w H' h' a o:=by
 induction o with
 | lst xs=>obtain ⟨z,its,n,r,e⟩:=x; exact ⟨z,its,n,r,k _ _ (.inl rfl) e⟩
 | tup xs=>obtain ⟨z,its,r,ob,e,c⟩:=x; exact ⟨z,its,r,ob,k _ _ (.inl rfl) e,c⟩
 | dK kvs=>obtain ⟨z,y,vs,r,ob,es,ep,e,c⟩:=x; exact ⟨z,y,vs,r,ob,es,ep,k _ _ (.inl rfl) e,c⟩
 | dT kvs =>
  obtain ⟨z,y,xs,r,ob,es,ep,e,c⟩:=x
  exact ⟨z,y,xs,Paired.mapP r fun p q z=>⟨z.1,ht _ _ z.2.1,z.2.2⟩,ob,es,ep,k _ _ (.inl rfl) e,c⟩
 | set S n=>obtain ⟨ob,es,ep,t,e,c⟩:=x; exact ⟨ob,es,ep,t,k _ _ (.inl rfl) e,c⟩
 | ins C dx fs =>
  obtain ⟨d,z,ne,e,mA,⟨od,es,ep,e2,c⟩,r⟩:=x
  exact ⟨ho _ d,z,ne,k _ _ (.inl rfl) e,mA,⟨od,es,ep,k _ _ (.inr d) e2,c⟩,r⟩
 | own y=>obtain ⟨ob,e⟩:=x; exact ⟨ob,k _ _ (.inl rfl) e⟩
 | xd fs=>obtain ⟨mA,⟨od,es,ep,e,c⟩,r⟩:=x; exact ⟨mA,⟨od,es,ep,k _ _ (.inl rfl) e,c⟩,r⟩
 | rng lo hi=>obtain ⟨t,u,v,e⟩:=x; exact ⟨t,u,v,k _ _ (.inl rfl) e⟩
 | frz ob u ih=>obtain ⟨e,q⟩:=x; exact ⟨k _ _ (.inl rfl) e,ih q⟩
 | tbl ps =>
  have e:h.get? a = some { cls:=.none,data:=.fields ps }:=x
  show h'.get? a = some { cls:=.none,data:=.fields ps }
  exact k a _ (.inl rfl) e
 | met f y =>
  have e:h.get? a = some (PySem.W.methodObj (.ref f) (.ref y)):=x
  show h'.get? a = some (PySem.W.methodObj (.ref f) (.ref y))
  exact k a _ (.inl rfl) e
 | ext φ=>obtain ⟨p,⟨o,e⟩,st⟩:=x; exact ⟨st _ _ p fun o q=>k _ _ (.inl rfl) q,⟨o,k _ _ (.inl rfl) e⟩,st⟩
theorem HOk.lt (x:HOk P w H h) (e:H a = some o):a < h.objs.size:=(x a o e).lt
theorem HOk.fresh (x:HOk P w H h) (e:h.objs.size<=a):H a = none:=by
 cases q:H a with
 | none=>rfl
 | some u=>exact absurd (Nat.lt_of_lt_of_le (x.lt q) e) (Nat.lt_irrefl _)
theorem HOk.kept (x:HOk P w H h) (k:∀ b u,h.get? b = some u->h'.get? b = some u):HOk P w H h':=fun a o e =>
 (x a o e).stay (fun b u _ q=>k b u q) (fun _ q=>q) fun _ _ q=>q
theorem HOk.laid (x:HOk P w H h) (k:∀ b u,h.get? b = some u->h'.get? b = some u) (hp:h.objs.size<=a) (new:ObjOk P w (upd H a o) h' a o):HOk P w (upd H a o) h':=fun b u e=>by
 have hn:=x.fresh hp
 by_cases hb:b = a
 ·subst hb; rw [ae] at e; cases e; exact new
 ·rw [ao hb] at e
  exact (x b u e).stay (fun c v _ q=>k c v q) (fun c q=>by rw [ao (av q hn)]; exact q) fun c xs q=>by rw [ao (av q hn)]; exact q
end
def Rd (H:Hp) (a:Addr) (u:HO):Prop:=H a = some u\/∃ o,H a = some (.frz o u)
theorem Rd.ok {P:Program} {w:World} {H:Hp} {h:Heap} {a:Addr} {u:HO} (r:Rd H a u) (x:HOk P w H h):ObjOk P w H h a u:=by
 rcases r with r | ⟨o,r⟩
 ·exact x a u r
 ·obtain ⟨_,q⟩:=x a _ r
  exact q
def Mut:Option HO->Prop
 | some (.lst _)=>True
 | some (.dK _)=>True
 | some (.dT _)=>True
 | some (.set _ _)=>True
 | some (.ins _ _ _)=>True
 | some (.ext _)=>True
 | _=>False
section
variable {P:Program} {w:World} {H:Hp} {h h':Heap} {x e:Addr} {o':HO}
theorem HOk.write (ok:HOk P w H h) (mu:Mut (H x)) (he:e = x\/H e = some (.own x)) (k:∀ b u,b ≠ e->h.get? b = some u->h'.get? b = some u) (heo:∃ u,h'.get? e = some u)
  (new:ObjOk P w (upd H x o') h' x o'):HOk P w (upd H x o') h':=fun b u q=>by
 have nown:∀ c y,H c = some (.own y)->c ≠ x:=fun c y r z=>by subst z; rw [r] at mu; exact mu
 have ntup:∀ c xs,H c = some (.tup xs)->c ≠ x:=fun c xs r z=>by subst z; rw [r] at mu; exact mu
 by_cases hb:b = x
 ·subst hb; rw [ae] at q; cases q; exact new
 ·rw [ao hb] at q
  by_cases hbe:b = e
  ·have q':H b = some (.own x):=by
    rcases he with z | z
    ·exact absurd (hbe.trans z) hb
    ·rw [hbe]; exact z
   rw [q] at q'; cases q'
   obtain ⟨v,hv⟩:=heo
   exact ⟨v,by rw [hbe]; exact hv⟩
  ·refine (ok b u q).stay (fun c v hc r=>k c v ?_ r) (fun c r=>by rw [ao (nown c b r)]; exact r) fun c xs r=>by rw [ao (ntup c xs r)]; exact r
   rcases hc with rfl | hc
   ·exact hbe
   ·rintro rfl
    rcases he with z | z
    ·exact nown c b hc z
    ·rw [hc] at z; cases z; exact hb rfl
end
structure Un (fs ex:List Addr) (H H':Hp) (h h':Heap):Prop where
 keep:∀ b o,h.get? b = some o->H b = none->b ∉ fs->b ∉ ex->h'.get? b = some o
 slot:∀ b o,h.get? b = some o->H b = none->b ∈ fs->b ∉ ex->∃ sl,h'.get? b = some { o with slots:=sl }
 free:∀ b o,h.get? b = some o->H b = none->b ∉ ex->H' b = none
 there:∀ b o,h.get? b = some o->b ∉ ex->∃ o',h'.get? b = some o'
 tups:∀ b xs,H b = some (.tup xs)->H' b = some (.tup xs)
 frzs:∀ b o u,H b = some (.frz o u)->H' b = some (.frz o u)
 tbls:∀ b ps,H b = some (.tbl ps)->∃ more,H' b = some (.tbl (ps ++ more))
section
variable {fs fs' ex ex':List Addr} {H H1 H2:Hp} {h h1 h2 h':Heap} {a x e:Addr} {o:HO}
theorem Un.any (u:Un fs ex H H1 h h1) {b:Addr} {ob:Obj} (q:h.get? b = some ob) (n:H b = none) (hx:b ∉ ex):∃ sl,h1.get? b = some { ob with slots:=sl }:=by
 by_cases hb:b ∈ fs
 ·exact u.slot b ob q n hb hx
 ·exact ⟨ob.slots,u.keep b ob q n hb hx⟩
theorem Un.kept (k:∀ b u,h.get? b = some u->h'.get? b = some u):Un fs ex H H h h' :=
 ⟨fun b ob q _ _ _=>k b ob q,fun b ob q _ _ _=>⟨ob.slots,k b ob q⟩,fun _ _ _ n _=>n,fun b ob q _=>⟨ob,k b ob q⟩,fun _ _ q=>q,fun _ _ _ q=>q,fun _ ps q=>⟨#[],by rw [q]; simp⟩⟩
theorem Un.refl:Un fs ex H H h h:=Un.kept fun _ _ q=>q
theorem Un.laid (k:∀ b u,h.get? b = some u->h'.get? b = some u) (hp:h.objs.size<=a) (hn:H a = none):Un fs ex H (upd H a o) h h' where
 keep:=fun b u q _ _ _=>k b u q
 slot:=fun b u q _ _ _=>⟨u.slots,k b u q⟩
 free:=fun b u q n _=>by rw [ao (Nat.ne_of_lt (Nat.lt_of_lt_of_le (Heap.lt_size q) hp))]; exact n
 there:=fun b u q _=>⟨u,k b u q⟩
 tups:=fun b xs q=>by rw [ao (av q hn)]; exact q
 frzs:=fun b u xs q=>by rw [ao (av q hn)]; exact q
 tbls:=fun b ps q=>⟨#[],by rw [ao (av q hn),q]; simp⟩
theorem Un.write (mu:Mut (H x)) (he:e = x\/H e = some (.own x)) (k:∀ b u,b ≠ e->h.get? b = some u->h'.get? b = some u) (heo:∃ u,h'.get? e = some u):Un fs ex H (upd H x o) h h':=by
 have hx:∀ b,H b = none->b ≠ x:=fun b n z=>by subst z; rw [n] at mu; exact mu
 have hb:∀ b,H b = none->b ≠ e:=fun b n z=>by
  subst z
  rcases he with r | r
  ·exact hx b n r
  ·rw [n] at r; cases r
 have hm:∀ b u,H b = some u->¬ Mut (some u)->b ≠ x:=fun b u q nm z=>by subst z; rw [q] at mu; exact nm mu
 refine ⟨fun b u q n _ _=>k b u (hb b n) q,fun b u q n _ _=>⟨u.slots,k b u (hb b n) q⟩,fun b u q n _=>by rw [ao (hx b n)]; exact n,fun b u q _=>?_,
  fun b xs q=>by rw [ao (hm b _ q fun z=>z)]; exact q,fun b u xs q=>by rw [ao (hm b _ q fun z=>z)]; exact q,fun b ps q=>⟨#[],by rw [ao (hm b _ q fun z=>z),q]; simp⟩⟩
 by_cases hbe:b = e
 ·subst hbe; exact heo
 ·exact ⟨u,k b u hbe q⟩
end
def trk (h:Heap) (H:Hp):List Addr:=(List.range h.objs.size).filter fun a=>(H a).isSome
def hidT (h:Heap) (H:Hp):Heap:=PySem.W.hideAll h (trk h H)
theorem rY (h:Heap) (H:Hp):(hidT h H).objs.size = h.objs.size:=PySem.W.hideAll_size _ _
theorem hidT_get {h:Heap} {H:Hp} {b:Addr} {o:Obj} (e:h.get? b = some o) (n:H b = none):(hidT h H).get? b = some o :=
 PySem.W.hideAll_get _ e fun hm=>by
  have q:(H b).isSome = true:=(List.mem_filter.mp hm).2
  rw [n] at q; simp at q
theorem of_hidT {h:Heap} {H:Hp} {b:Addr} {o:Obj} (e:(hidT h H).get? b = some o):h.get? b = some o/\H b = none:=by
 have e':h.get? b = some o:=PySem.W.of_hideAll (trk h H) e
 refine ⟨e',?_⟩
 cases q:H b with
 | none=>rfl
 | some x =>
  have hm:b ∈ trk h H:=List.mem_filter.mpr ⟨List.mem_range.mpr (Heap.lt_size e'),by simp [q]⟩
  have z:(hidT h H).get? b = none:=PySem.W.hideAll_none (trk h H) hm
  rw [z] at e; cases e
end L2
namespace L2
open PySem PySem.Spec PyProof.Rows
structure Mod (K:Frag) (mg:Str->Option Value) (base:Heap):Prop where
 kin:K.In base
 glob:base.Ns mainGlobals mg
 blt:∃ mb,base.Ns builtinsNs mb/\∀ x:Str,x ≠ "__name__"->mb x = bootBuiltins x
 nolimit:base.NoLimit
structure Cx where
 prog:Program
 w:World
 K:Frag
 mg:Str->Option Value
 base:Heap
 A:Around
 N:List Str
 s₀:Shared
 H₀:Hp
 env:Env
 outer:List Env
 stack:List Env
 ex:List Addr
 fn:Str->Bool
 calm:Bool
 pn:List (Addr × Obj)
 xe:Value->Shared->Prop
def frs (l:List Env):List Addr:=l.filterMap (·.frame)
abbrev Cx.fs (X:Cx):List Addr:=frs X.outer
def Vis (sc:Scope) (x:Str):Prop:=sc.names.lookup x = some .local\/sc.names.lookup x = some .cell\/sc.names.lookup x = some .free
def Loc (sc:Scope) (x:Str):Prop:=sc.names.lookup x = some .local\/sc.names.lookup x = some .cell
def Look (env:Env) (h:Heap) (m:Str->Option Value) (x:Str) (u:Value):Prop :=
 (env.kindOf x = some .local/\m x = some u)\/((env.kindOf x = some .cell\/env.kindOf x = some .free)/\∃ c,env.cells.lookup x = some c/\h.IsCell c (some u))
structure Cx.Ok (X:Cx):Prop where
 mod:Mod X.K X.mg X.base
 kind:X.env.scope.kind = .function
 glob:X.env.globals = mainGlobals
 blt:X.env.builtins = builtinsNs
 above:X.s₀.heap.objs.size<=X.env.locals
 inj:∀ x y c,X.env.cells.lookup x = some c->X.env.cells.lookup y = some c->x = y
 has:∀ x,(X.env.kindOf x = some .cell\/X.env.kindOf x = some .free)->∃ c,X.env.cells.lookup x = some c
 cab:∀ x c,X.fn x = true->X.env.cells.lookup x = some c->X.s₀.heap.objs.size<=c
 hd:X.calm = true->X.A.handled = none
 frames:X.A.frames = some X.stack
 stk:X.stack = X.outer\/(X.stack = X.env :: X.outer/\X.env.frame = some X.env.locals)
 exf:∀ b ∈ X.ex,b ≠ X.env.locals/\∀ x c,X.env.cells.lookup x = some c->c ≠ b
 bs:∀ b o,X.base.get? b = some o->X.s₀.heap.get? b = some o/\X.H₀ b = none
 bsz:X.base.objs.size<=X.s₀.heap.objs.size
 noex:∀ b o,X.base.get? b = some o->b ∉ X.ex
 exfs:∀ b ∈ X.ex,b ∉ X.fs
 funs:X.s₀.heap.FunFrames X.base X.outer
 frf:∀ b ∈ X.fs,X.H₀ b = none
structure Inv (X:Cx) (pins:List (Addr × Obj)) (σ:List (Option V)) (H:Hp) (s:Shared):Prop where
 ok:X.Ok
 os:s.os = X.s₀.os
 bare:AllBare s.gens
 base:Un X.fs X.ex X.H₀ H X.s₀.heap s.heap
 loc:∃ m,s.heap.Ns X.env.locals m/\∀ (i:Nat) (x:Str) (v:V),X.N[i]? = some x->σ[i]? = some (some v)->Vis X.env.scope x->∃ u,RelV v u/\Look X.env s.heap m x u
 cell:∀ x c,X.env.cells.lookup x = some c->∃ v,s.heap.IsCell c v
 free:H X.env.locals = none
 freeC:∀ x c,X.env.cells.lookup x = some c->H c = none
 pin:∀ p ∈ X.pn ++ pins,s.heap.get? p.1 = some p.2/\H p.1 = none/\p.1 ≠ X.env.locals/\p.1 ∉ X.fs/\∀ v,p.2.data ≠ .cell v
 hok:HOk X.prog X.w H s.heap
 len:σ.length = X.N.length
section
variable {X:Cx} {pins:List (Addr × Obj)} {σ:List (Option V)} {H H':Hp} {s:Shared} {h':Heap}
theorem Cx.Ok.nofr (ok:X.Ok) {b:Addr} {o:Obj} (e:X.base.get? b = some o):b ∉ X.fs:=fun hb=>by
 have:=(ok.funs.mem hb).1
 rw [e] at this; cases this
theorem Inv.bs (I:Inv X pins σ H s):∀ b o,X.base.get? b = some o->s.heap.get? b = some o/\H b = none:=fun b o e =>
 ⟨I.base.keep b o (I.ok.bs b o e).1 (I.ok.bs b o e).2 (I.ok.nofr e) (I.ok.noex b o e),I.base.free b o (I.ok.bs b o e).1 (I.ok.bs b o e).2 (I.ok.noex b o e)⟩
theorem Inv.bk (I:Inv X pins σ H s):∀ b o,X.base.get? b = some o->s.heap.get? b = some o:=fun b o e=>(I.bs b o e).1
theorem Inv.mod (I:Inv X pins σ H s):Mod X.K X.mg X.base:=I.ok.mod
theorem Inv.kIn (I:Inv X pins σ H s):X.K.In s.heap:=I.ok.mod.kin.keeps I.bk
theorem Inv.lt (I:Inv X pins σ H s):X.env.locals < s.heap.objs.size:=let ⟨_,hn,_⟩:=I.loc; hn.lt
theorem Inv.sz (I:Inv X pins σ H s):X.s₀.heap.objs.size<=s.heap.objs.size:=Nat.le_trans I.ok.above (Nat.le_of_lt I.lt)
theorem Inv.nofs (I:Inv X pins σ H s) {a:Addr} (h:s.heap.objs.size<=a):a ∉ X.fs:=fun hb=>by
 obtain ⟨_,o,ho,_⟩:=I.ok.funs.mem hb
 exact absurd (Nat.lt_of_lt_of_le (Heap.lt_size ho) (Nat.le_trans I.sz h)) (Nat.lt_irrefl _)
theorem Inv.cne (I:Inv X pins σ H s):∀ x c,X.env.cells.lookup x = some c->c ≠ X.env.locals:=fun x c e z=>by
 obtain ⟨v,o,ho,hd⟩:=I.cell x c e
 obtain ⟨m,⟨o',es,ep,ho',hd',_⟩,_⟩:=I.loc
 rw [z,ho'] at ho; cases ho; rw [hd'] at hd; cases hd
theorem Inv.funs (I:Inv X pins σ H s):s.heap.FunFrames X.base X.outer:=by
 have all:∀ (l:List Env),(∀ b ∈ frs l,b ∈ X.fs)->X.s₀.heap.FunFrames X.base l->s.heap.FunFrames X.base l:=by
  intro l
  induction l with
  | nil=>intro _ _; trivial
  | cons env r ih =>
   intro hs hl
   obtain ⟨hk,⟨L,o,hf,hn,ho,hd⟩,hr⟩:=hl
   have hL:L ∈ X.fs:=hs L (by unfold frs; rw [List.filterMap_cons,hf]; exact List.mem_cons_self)
   obtain ⟨sl,e⟩:=I.base.slot L o ho (I.ok.frf L hL) hL fun z=>I.ok.exfs L z hL
   exact ⟨hk,⟨L,_,hf,hn,e,hd⟩,ih (fun b hb=>hs b (by unfold frs; rw [List.filterMap_cons,hf]; exact List.mem_cons_of_mem _ hb)) hr⟩
 exact all X.outer (fun _ hb=>hb) I.ok.funs
theorem Inv.stack (I:Inv X pins σ H s):s.heap.FunFrames X.base X.stack:=by
 rcases I.ok.stk with e | ⟨e,hf⟩
 ·rw [e]; exact I.funs
 ·rw [e]
  obtain ⟨m,hn,_⟩:=I.loc
  refine .cons (by rw [I.ok.kind]; decide) hf hn ?_ I.funs
  exact Heap.get?_none_of_le (Nat.le_trans I.ok.bsz I.ok.above)
theorem Inv.stkSub (I:Inv X pins σ H s):∀ b ∈ frs X.stack,b ∈ X.env.locals :: X.fs:=fun b hb=>by
 rcases I.ok.stk with e | ⟨e,hf⟩
 ·rw [e] at hb; exact List.mem_cons_of_mem _ hb
 ·rw [e] at hb
  unfold frs at hb
  rw [List.filterMap_cons,hf] at hb
  exact hb
theorem Inv.stkFree (I:Inv X pins σ H s):∀ b ∈ frs X.stack,H b = none:=fun b hb=>by
 rcases List.mem_cons.mp (I.stkSub b hb) with e | hb
 ·rw [e]; exact I.free
 ·obtain ⟨_,o,ho,_⟩:=I.ok.funs.mem hb
  exact I.base.free b o ho (I.ok.frf b hb) fun z=>I.ok.exfs b z hb
theorem Inv.step {g':Array GenState} {t':Nat} {d':Drawn} {ch:List Addr} (I:Inv X pins σ H s)
  (hch:∀ b ∈ ch,(b ∈ X.ex\/X.s₀.heap.objs.size<=b)/\b ≠ X.env.locals/\(∀ x c,X.env.cells.lookup x = some c->c ≠ b)/\∀ p ∈ X.pn ++ pins,p.1 ≠ b)
  (keep:∀ b o,b ≠ X.env.locals->b ∉ X.fs->b ∉ ch->s.heap.get? b = some o->H b = none->h'.get? b = some o)
  (slot:∀ b o,b ≠ X.env.locals->b ∈ X.fs->b ∉ ch->s.heap.get? b = some o->H b = none->∃ sl,h'.get? b = some { o with slots:=sl }) (free:∀ b o,b ∉ ch->s.heap.get? b = some o->H b = none->H' b = none)
  (there:∀ b o,b ∉ ch->s.heap.get? b = some o->∃ o',h'.get? b = some o')
  (tups:∀ b xs,H b = some (.tup xs)->H' b = some (.tup xs)) (frzs:∀ b o u,H b = some (.frz o u)->H' b = some (.frz o u)) (tbls:∀ b ps,H b = some (.tbl ps)->∃ more,H' b = some (.tbl (ps ++ more)))
  (ns:∀ m,s.heap.Ns X.env.locals m->h'.Ns X.env.locals m) (hok:HOk X.prog X.w H' h') (hg:AllBare g') :
  Inv X pins σ H' { s with heap:=h',gens:=g',drawn:=d',toks:=t' }:=by
 have neL:∀ b o,X.s₀.heap.get? b = some o->b ≠ X.env.locals:=fun b o e=>Nat.ne_of_lt (Nat.lt_of_lt_of_le (Heap.lt_size e) I.ok.above)
 have neC:∀ b o,X.s₀.heap.get? b = some o->b ∉ X.ex->b ∉ ch:=fun b o e hx hb=>by
  rcases (hch b hb).1 with z | z
  ·exact hx z
  ·exact absurd (Nat.lt_of_lt_of_le (Heap.lt_size e) z) (Nat.lt_irrefl _)
 have cellK:∀ x c,X.env.cells.lookup x = some c->∀ v,s.heap.IsCell c v->h'.IsCell c v:=fun x c e v ⟨o,ho,hd⟩=>by
  have nch:c ∉ ch:=fun z=>(hch c z).2.2.1 x c e rfl
  by_cases hc:c ∈ X.fs
  ·obtain ⟨sl,q⟩:=slot c o (I.cne x c e) hc nch ho (I.freeC x c e)
   exact ⟨_,q,hd⟩
  ·exact ⟨o,keep c o (I.cne x c e) hc nch ho (I.freeC x c e),hd⟩
 refine ⟨I.ok,I.os,hg,⟨fun b o e n hb hx=>?_,fun b o e n hb hx=>?_,fun b o e n hx=>?_,fun b o e hx=>?_,fun b xs e=>tups b xs (I.base.tups b xs e),fun b o xs e=>frzs b o xs (I.base.frzs b o xs e),fun b ps e=>?_⟩,?_,fun x c e=>?_,?_,fun x c e=>?_,fun p hp=>?_,hok,I.len⟩
 ·exact keep b o (neL b o e) hb (neC b o e hx) (I.base.keep b o e n hb hx) (I.base.free b o e n hx)
 ·obtain ⟨sl,e1⟩:=I.base.slot b o e n hb hx
  obtain ⟨sl',e2⟩:=slot b _ (neL b o e) hb (neC b o e hx) e1 (I.base.free b o e n hx)
  exact ⟨sl',e2⟩
 ·obtain ⟨o',e1⟩:=I.base.there b o e hx
  exact free b o' (neC b o e hx) e1 (I.base.free b o e n hx)
 ·obtain ⟨o',e1⟩:=I.base.there b o e hx
  exact there b o' (neC b o e hx) e1
 ·obtain ⟨m1,e1⟩:=I.base.tbls b ps e
  obtain ⟨m2,e2⟩:=tbls b _ e1
  exact ⟨m1 ++ m2,by rw [e2,Array.append_assoc]⟩
 ·obtain ⟨m,hn,hl⟩:=I.loc
  refine ⟨m,ns m hn,fun i x v e1 e2 e3=>?_⟩
  obtain ⟨u,r,l⟩:=hl i x v e1 e2 e3
  refine ⟨u,r,?_⟩
  rcases l with l | ⟨k,c,e,z⟩
  ·exact .inl l
  ·exact .inr ⟨k,c,e,cellK x c e _ z⟩
 ·obtain ⟨v,z⟩:=I.cell x c e
  exact ⟨v,cellK x c e v z⟩
 ·obtain ⟨m,⟨o,_,_,ho,_⟩,_⟩:=I.loc
  exact free _ o (fun z=>(hch _ z).2.1 rfl) ho I.free
 ·obtain ⟨v,o,ho,hd⟩:=I.cell x c e
  exact free c o (fun z=>(hch c z).2.2.1 x c e rfl) ho (I.freeC x c e)
 ·obtain ⟨e,n,ne,nf,d⟩:=I.pin p hp
  have nch:p.1 ∉ ch:=fun z=>(hch p.1 z).2.2.2 p hp rfl
  exact ⟨keep p.1 p.2 ne nf nch e n,free p.1 p.2 nch e n,ne,nf,d⟩
theorem Inv.un {t':Nat} (I:Inv X pins σ H s) (u:Un X.fs [] H H' s.heap h') (hok:HOk X.prog X.w H' h'):Inv X pins σ H' { s with heap:=h',toks:=t' }:=by
 obtain ⟨m,⟨o,es,ep,ho,r⟩,_⟩:=id I.loc
 obtain ⟨sl,hL⟩:=u.any ho I.free (by simp)
 exact I.step (g':=s.gens) (d':=s.drawn) (ch:=[]) (fun _ z=>nomatch z) (fun b o _ hb _ e n=>u.keep b o e n hb (by simp)) (fun b o _ hb _ e n=>u.slot b o e n hb (by simp)) (fun b o _ e n=>u.free b o e n (by simp)) (fun b o _ e=>u.there b o e (by simp)) u.tups u.frzs u.tbls (fun m' hm=>by
  obtain ⟨o',es',ep',ho',r'⟩:=hm
  rw [ho] at ho'; cases ho'
  exact ⟨_,es',ep',hL,r'⟩) hok I.bare
theorem Inv.call {g':Array GenState} {t':Nat} {d':Drawn} {ch:List Addr} (I:Inv X pins σ H s) (u:Un (frs X.stack) ch H H' s.heap h') (hok:HOk X.prog X.w H' h') (hg:AllBare g')
  (hch:∀ b ∈ ch,(b ∈ X.ex\/X.s₀.heap.objs.size<=b)/\b ≠ X.env.locals/\(∀ x c,X.env.cells.lookup x = some c->c ≠ b)/\∀ p ∈ X.pn ++ pins,p.1 ≠ b) :
  Inv X pins σ H' { s with heap:=h',gens:=g',drawn:=d',toks:=t' }:=by
 obtain ⟨m,⟨o,es,ep,ho,r⟩,_⟩:=id I.loc
 obtain ⟨sl,hL⟩:=u.any ho I.free fun z=>(hch _ z).2.1 rfl
 exact I.step (ch:=ch) hch (fun b o hL hb hc e n=>u.keep b o e n (fun z=>(List.mem_cons.mp (I.stkSub b z)).elim hL hb) hc) (fun b o _ _ hc e n=>u.any e n hc) (fun b o hc e n=>u.free b o e n hc) (fun b o hc e=>u.there b o e hc) u.tups u.frzs u.tbls (fun m' hm=>by
  obtain ⟨o',es',ep',ho',r'⟩:=hm
  rw [ho] at ho'; cases ho'
  exact ⟨_,es',ep',hL,r'⟩) hok hg
theorem Inv.turned {t':Nat} {it:Addr} (I:Inv X pins σ H s) (k:∀ b o,b ≠ it->s.heap.get? b = some o->h'.get? b = some o) (hn:H it = none) (hL:it ≠ X.env.locals)
  (h1:it ∈ X.ex\/X.s₀.heap.objs.size<=it) (h2:∀ x c,X.env.cells.lookup x = some c->c ≠ it) (h3:∀ p ∈ X.pn ++ pins,p.1 ≠ it):Inv X pins σ H { s with heap:=h',toks:=t' }:=by
 have nit:∀ b u,H b = some u->b ≠ it:=fun b u e z=>by rw [z,hn] at e; cases e
 refine I.step (g':=s.gens) (d':=s.drawn) (ch:=[it]) (fun b hb=>?_) (fun b o _ _ hc e _=>k b o (fun z=>hc (by simp [z])) e) (fun b o _ _ hc e _=>⟨o.slots,k b o (fun z=>hc (by simp [z])) e⟩) (fun _ _ _ _ n=>n)
  (fun b o hc e=>⟨o,k b o (fun z=>hc (by simp [z])) e⟩) (fun _ _ e=>e) (fun _ _ _ e=>e) (fun b ps e=>⟨#[],by rw [e]; simp⟩) (fun m hm=>?_) (fun b u e=>?_) I.bare
 ·have e:b = it:=by simpa using hb
  subst e
  exact ⟨h1,hL,h2,h3⟩
 ·obtain ⟨o,es,ep,ho,r⟩:=hm
  exact ⟨o,es,ep,k _ o (Ne.symm hL) ho,r⟩
 ·refine (I.hok b u e).stay (fun c v hc q=>k c v ?_ q) (fun _ q=>q) fun _ _ q=>q
  rcases hc with z | z
  ·rw [z]; exact nit b u e
  ·exact nit c _ z
theorem Inv.tok (I:Inv X pins σ H s) (t:Nat):Inv X pins σ H { s with toks:=t }:=I.un (h':=s.heap) (t':=t) Un.refl I.hok
theorem Inv.kept {t':Nat} (I:Inv X pins σ H s) (k:∀ b u,s.heap.get? b = some u->h'.get? b = some u):Inv X pins σ H { s with heap:=h',toks:=t' }:=I.un (Un.kept k) (I.hok.kept k)
theorem Inv.laid {a:Addr} {o:HO} {t':Nat} (I:Inv X pins σ H s) (k:∀ b u,s.heap.get? b = some u->h'.get? b = some u) (hp:s.heap.objs.size<=a) (new:ObjOk X.prog X.w (upd H a o) h' a o) :
  Inv X pins σ (upd H a o) { s with heap:=h',toks:=t' }:=I.un (Un.laid k hp (I.hok.fresh hp)) (I.hok.laid k hp new)
theorem Inv.write {x e:Addr} {o:HO} {t':Nat} (I:Inv X pins σ H s) (mu:Mut (H x)) (he:e = x\/H e = some (.own x)) (k:∀ b u,b ≠ e->s.heap.get? b = some u->h'.get? b = some u) (heo:∃ u,h'.get? e = some u)
  (new:ObjOk X.prog X.w (upd H x o) h' x o):Inv X pins σ (upd H x o) { s with heap:=h',toks:=t' }:=I.un (Un.write mu he k heo) (I.hok.write mu he k heo new)
theorem Inv.pins_of {pins':List (Addr × Obj)} (I:Inv X pins σ H s) (h:∀ p ∈ pins',s.heap.get? p.1 = some p.2/\H p.1 = none/\p.1 ≠ X.env.locals/\p.1 ∉ X.fs/\∀ v,p.2.data ≠ .cell v):Inv X pins' σ H s :=
 ⟨I.ok,I.os,I.bare,I.base,I.loc,I.cell,I.free,I.freeC,fun p hp=>(List.mem_append.mp hp).elim (fun z=>I.pin p (List.mem_append_left _ z)) (h p),I.hok,I.len⟩
theorem pL {N:List Str} (hN:N.Nodup) {i j:Nat} {x:Str} (a:N[i]? = some x) (b:N[j]? = some x):i = j:=by
 obtain ⟨h1,e1⟩:=List.getElem?_eq_some_iff.mp a
 obtain ⟨h2,e2⟩:=List.getElem?_eq_some_iff.mp b
 exact (List.getElem_inj hN).mp (e1.trans e2.symm)
theorem mE {M:Model} {A:Around} {E:Value->Shared->Prop} {i:Nat} {x:Str} {v:V} {u:Value} {Q:Unit->Shared->Prop} (I:Inv X pins σ H s) (hN:X.N.Nodup) (hi:X.N[i]? = some x) (hx:Loc X.env.scope x) (r:RelV v u)
  (h:∀ s',Inv X pins (σ.set i (some v)) H s'->(∃ a,Heap.SameBut a s.heap s'.heap/\(a = X.env.locals\/X.env.cells.lookup x = some a))->Q () s') (hf:X.fn x = true\/X.env.scope.names.lookup x = some .local:=by first | exact .inl rfl | exact .inr rfl | assumption):wpAny M A (storeName X.env x u) Q E s:=by
 obtain ⟨m,hn,hl⟩:=id I.loc
 have hcls:(X.env.scope.kind == .class || (X.env.scope.kind == .module && X.env.locals != X.env.globals)) = false:=by rw [I.ok.kind]; rfl
 have hiσ:i < σ.length:=by rw [I.len]; exact (List.getElem?_eq_some_iff.mp hi).1
 have cne:=I.cne
 have tracked:∀ {a:Addr} {h':Heap},(∃ o,s.heap.get? a = some o/\H a = none)->Heap.SameBut a s.heap h'->HOk X.prog X.w H h':=fun {a h'} ha hs b ob e=>by
  obtain ⟨_,_,hfree⟩:=ha
  refine (I.hok b ob e).stay (fun c w' hc q=>(hs.2 c ?_).trans q) (fun _ q=>q) fun _ _ q=>q
  rintro rfl
  rcases hc with rfl | hc
  ·rw [hfree] at e; cases e
  ·rw [hfree] at hc; cases hc
 rcases hx with hk | hk
 ·refine wpAny_storeName_local hk hn (fun h' hn' hs=>?_) hcls
  obtain ⟨oL,_,_,hoL,_⟩:=id hn
  refine h _ ⟨I.ok,I.os,I.bare,⟨fun b o e n hb hx=>?_,fun b o e n hb hx=>?_,I.base.free,fun b o e hx=>?_,I.base.tups,I.base.frzs,I.base.tbls⟩,⟨_,hn',fun j y v' e1 e2 e3=>?_⟩,fun y c e=>?_,I.free,I.freeC,fun p hp=>?_,tracked ⟨oL,hoL,I.free⟩ hs,by simpa using I.len⟩ ⟨_,hs,.inl rfl⟩
  ·exact (hs.2 b (Nat.ne_of_lt (Nat.lt_of_lt_of_le (Heap.lt_size e) I.ok.above))).trans (I.base.keep b o e n hb hx)
  ·obtain ⟨sl,e1⟩:=I.base.slot b o e n hb hx
   exact ⟨sl,(hs.2 b (Nat.ne_of_lt (Nat.lt_of_lt_of_le (Heap.lt_size e) I.ok.above))).trans e1⟩
  ·obtain ⟨o',e1⟩:=I.base.there b o e hx
   exact ⟨o',(hs.2 b (Nat.ne_of_lt (Nat.lt_of_lt_of_le (Heap.lt_size e) I.ok.above))).trans e1⟩
  ·by_cases hj:j = i
   ·subst hj
    rw [hi] at e1; cases e1
    rw [List.getElem?_set_self hiσ] at e2
    cases e2
    exact ⟨u,r,.inl ⟨hk,by simp⟩⟩
   ·rw [List.getElem?_set_ne (Ne.symm hj)] at e2
    obtain ⟨u',r',q⟩:=hl j y v' e1 e2 e3
    refine ⟨u',r',?_⟩
    rcases q with ⟨k,e⟩ | ⟨k,c,e,z⟩
    ·refine .inl ⟨k,?_⟩
     have:y ≠ x:=fun e=>hj (pL hN e1 (e ▸ hi))
     simp [this,e]
    ·exact .inr ⟨k,c,e,z.sameBut hs (cne y c e)⟩
  ·obtain ⟨w',z⟩:=I.cell y c e
   exact ⟨w',z.sameBut hs (cne y c e)⟩
  ·obtain ⟨e,n,ne,nf,d⟩:=I.pin p hp
   exact ⟨(hs.2 p.1 ne).trans e,n,ne,nf,d⟩
 ·have hfn:X.fn x = true:=by
   rcases hf with z | z
   ·exact z
   ·rw [z] at hk; cases hk
  obtain ⟨c,hc⟩:=I.ok.has x (.inl hk)
  obtain ⟨w',z⟩:=I.cell x c hc
  refine wpAny_storeName_cell I.ok.kind hk hc z (fun h' hc' hs=>?_)
  obtain ⟨oc,hoc,hocd⟩:=id z
  refine h { s with heap:=h' } ⟨I.ok,I.os,I.bare,⟨fun b o e n hb hx=>?_,fun b o e n hb hx=>?_,I.base.free,fun b o e hx=>?_,I.base.tups,I.base.frzs,I.base.tbls⟩,⟨m,hn.sameBut hs (Ne.symm (cne x c hc)),fun j y v' e1 e2 e3=>?_⟩,fun y c' e=>?_,I.free,I.freeC,fun p hp=>?_,tracked ⟨oc,hoc,I.freeC x c hc⟩ hs,by simpa using I.len⟩ ⟨c,hs,.inr hc⟩
  ·exact (hs.2 b (Nat.ne_of_lt (Nat.lt_of_lt_of_le (Heap.lt_size e) (I.ok.cab x c hfn hc)))).trans (I.base.keep b o e n hb hx)
  ·obtain ⟨sl,e1⟩:=I.base.slot b o e n hb hx
   exact ⟨sl,(hs.2 b (Nat.ne_of_lt (Nat.lt_of_lt_of_le (Heap.lt_size e) (I.ok.cab x c hfn hc)))).trans e1⟩
  ·obtain ⟨o',e1⟩:=I.base.there b o e hx
   exact ⟨o',(hs.2 b (Nat.ne_of_lt (Nat.lt_of_lt_of_le (Heap.lt_size e) (I.ok.cab x c hfn hc)))).trans e1⟩
  ·by_cases hj:j = i
   ·subst hj
    rw [hi] at e1; cases e1
    rw [List.getElem?_set_self hiσ] at e2
    cases e2
    exact ⟨u,r,.inr ⟨.inl hk,c,hc,hc'⟩⟩
   ·rw [List.getElem?_set_ne (Ne.symm hj)] at e2
    obtain ⟨u',r',q⟩:=hl j y v' e1 e2 e3
    refine ⟨u',r',?_⟩
    rcases q with q | ⟨k,c',e,z'⟩
    ·exact .inl q
    ·refine .inr ⟨k,c',e,z'.sameBut hs ?_⟩
     rintro rfl
     exact hj (pL hN e1 (I.ok.inj _ _ _ e hc ▸ hi))
  ·by_cases hcc:c' = c
   ·subst hcc; exact ⟨_,hc'⟩
   ·obtain ⟨w2,z2⟩:=I.cell y c' e
    exact ⟨w2,z2.sameBut hs hcc⟩
  ·obtain ⟨e,n,ne,nf,d⟩:=I.pin p hp
   refine ⟨(hs.2 p.1 ?_).trans e,n,ne,nf,d⟩
   intro q
   rw [q,hoc] at e
   have q':oc = p.2:=Option.some.inj e
   exact d w' (by rw [<- q']; exact hocd)
theorem iD {M:Model} {A:Around} {E:Value->Shared->Prop} {i:Nat} {x:Str} {v:V} {u:Value} {Q:Unit->Shared->Prop} (I:Inv X pins σ H s) (hN:X.N.Nodup) (hi:X.N[i]? = some x) (hx:Loc X.env.scope x) (r:RelV v u)
  (h:∀ s',Inv X pins (σ.set i (some v)) H s'->Q () s') (hf:X.fn x = true\/X.env.scope.names.lookup x = some .local:=by first | exact .inl rfl | exact .inr rfl | assumption):wpAny M A (storeName X.env x u) Q E s :=
 mE I hN hi hx r (fun s' I' _=>h s' I') hf
theorem Inv.call' {s':Shared} {ch:List Addr} (I:Inv X pins σ H s) (ho:s'.os = s.os) (u:Un (frs X.stack) ch H H' s.heap s'.heap) (hok:HOk X.prog X.w H' s'.heap) (hg:AllBare s'.gens)
  (hch:∀ b ∈ ch,(b ∈ X.ex\/X.s₀.heap.objs.size<=b)/\b ≠ X.env.locals/\(∀ x c,X.env.cells.lookup x = some c->c ≠ b)/\∀ p ∈ X.pn ++ pins,p.1 ≠ b):Inv X pins σ H' s':=by
 obtain ⟨h',g',d',t',o'⟩:=s'
 have e:o' = s.os:=ho
 subst e
 exact I.call (g':=g') (t':=t') (d':=d') u hok hg hch
end
abbrev XK:=Value->Option Addr->Hp->Prop
abbrev St:=List (Option V)
abbrev VK:=V->Hp->Prop
abbrev TE:=St->Hp->VK->Prop
abbrev TT:=St->Hp->(Bool->Hp->Prop)->Prop
abbrev TA:=St->Hp->(List V->Hp->Prop)->Prop
structure Ends where
 nx:St->Hp->Prop
 rt:VK
 bk:St->Hp->Prop:=fun _ _=>False
 ct:St->Hp->Prop:=fun _ _=>False
abbrev TS:=Ends->St->Hp->Prop
def EP (X:Cx) (pins:List (Addr × Obj)) (σ:St) (Q:VK) (u:Value) (s':Shared):Prop:=∃ v H',Inv X pins σ H' s'/\RelV v u/\Q v H'
def TP (X:Cx) (pins:List (Addr × Obj)) (σ:St) (Q:Bool->Hp->Prop) (b:Bool) (s':Shared):Prop:=∃ H',Inv X pins σ H' s'/\Q b H'
def AP (X:Cx) (pins:List (Addr × Obj)) (σ:St) (Q:List V->Hp->Prop) (us:List Value) (s':Shared):Prop:=∃ vs H',Inv X pins σ H' s'/\Vals vs us/\Q vs H'
def SP (X:Cx) (pins:List (Addr × Obj)) (D:Ends) (f:Flow) (s':Shared):Prop :=
 match f with
 | .next=>∃ σ' H',Inv X pins σ' H' s'/\D.nx σ' H'
 | .brk=>∃ σ' H',Inv X pins σ' H' s'/\D.bk σ' H'
 | .cont=>∃ σ' H',Inv X pins σ' H' s'/\D.ct σ' H'
 | .ret u=>∃ v σ' H',Inv X pins σ' H' s'/\RelV v u/\D.rt v H'
def PE (X:Cx) (e:Expr) (t:TE):Prop :=
 ∀ (pins:List (Addr × Obj)) (s:Shared) (σ:St) (H:Hp) (Q:VK),Inv X pins σ H s->t σ H Q->wpAny (model X.prog X.w) X.A (eval e X.env) (EP X pins σ Q) X.xe s
def PT (X:Cx) (e:Expr) (t:TT):Prop :=
 ∀ (pins:List (Addr × Obj)) (s:Shared) (σ:St) (H:Hp) (Q:Bool->Hp->Prop),Inv X pins σ H s->t σ H Q->wpAny (model X.prog X.w) X.A (isTrue e X.env (eval e X.env)) (TP X pins σ Q) X.xe s
def PW (X:Cx) (e:Expr) (t:TT):Prop :=
 ∀ (whole:Sem Value) (pins:List (Addr × Obj)) (s:Shared) (σ:St) (H:Hp) (Q:Bool->Hp->Prop),Inv X pins σ H s->t σ H Q->wpAny (model X.prog X.w) X.A (isTrue e X.env whole) (TP X pins σ Q) X.xe s
theorem PW.pt {X:Cx} {e:Expr} {t:TT} (h:PW X e t):PT X e t:=h _
def PA (X:Cx) (es:List Expr) (t:TA):Prop :=
 ∀ (pos:Pos) (pins:List (Addr × Obj)) (s:Shared) (σ:St) (H:Hp) (Q:List V->Hp->Prop),Inv X pins σ H s->t σ H Q->wpAny (model X.prog X.w) X.A (spliced (backTo pos (starEach es X.env))) (AP X pins σ Q) X.xe s
def PS (X:Cx) (st:Stmt) (t:TS):Prop :=
 ∀ (pins:List (Addr × Obj)) (s:Shared) (σ:St) (H:Hp) (D:Ends),Inv X pins σ H s->t D σ H->wpAny (model X.prog X.w) X.A (exec st X.env) (SP X pins D) X.xe s
def PSs (X:Cx) (st:List Stmt) (t:TS):Prop :=
 ∀ (pins:List (Addr × Obj)) (s:Shared) (σ:St) (H:Hp) (D:Ends),Inv X pins σ H s->t D σ H->wpAny (model X.prog X.w) X.A (execs st X.env) (SP X pins D) X.xe s
theorem thn {α:Type} {t:Sem α} {Q Q':α->Shared->Prop} {M:Model} {A:Around} {E:Value->Shared->Prop} {s:Shared} (h:wpAny M A t Q E s) (hQ:∀ a s,Q a s->Q' a s):wpAny M A t Q' E s:=wpAny_mono h hQ fun _ _ x=>x
end L2
namespace L2
open PySem PySem.Spec PyProof.Rows
section
variable {X:Cx}
def tVar (i:Nat):TE:=fun σ H Q=>∃ v,σ[i]? = some (some v)/\Q v H
def tC (v:V):TE:=fun _ H Q=>Q v H
theorem pe_var {i:Nat} {x:Str} {pos:Pos} (hN:X.N[i]? = some x) (hv:Vis X.env.scope x) (hd:(x == ("__debug__":Str)) = false:=by decide) (hcd:(x == ("__classdict__":Str)) = false:=by decide):PE X (.Name x pos) (tVar i):=by
 intro pins s σ H Q I h
 obtain ⟨v,e,h⟩:=h
 obtain ⟨m,hn,hl⟩:=I.loc
 obtain ⟨u,r,l⟩:=hl i x v hN e hv
 have fin:EP X pins σ Q u s:=⟨v,H,I,r,h⟩
 rcases l with ⟨hk,hm⟩ | ⟨hk,c,hc,hcell⟩
 ·exact wpAny_Name (wpAny_loadName_local I.ok.kind hk hn hm fin) hd
 ·rcases hk with hk | hk
  ·exact wpAny_Name (wpAny_loadName_cell I.ok.kind hk hc hcell fin) hd
  ·exact wpAny_Name (wpAny_loadName_free I.ok.kind hk hc hcell fin hcd) hd
theorem ak {i j pos}:PE X (.Constant (.int i) j pos) (tC (.int i)):=fun _ _ _ H _ I h=>wpAny_Constant_int ⟨.int i,H,I.tok _,⟨_,rfl⟩,h⟩
theorem fS {b j pos}:PE X (.Constant (.bool b) j pos) (tC (.bl b)):=fun _ _ _ H _ I h=>Constant_bool ⟨.bl b,H,I,rfl,h⟩
theorem bU {j pos}:PE X (.Constant .none j pos) (tC .non):=fun _ _ _ H _ I h=>Constant_none ⟨.non,H,I,rfl,h⟩
theorem am {x j pos}:PE X (.Constant (.str x) j pos) (tC (.str x)):=fun _ _ _ H _ I h=>Calls.Constant_str ⟨.str x,H,I.tok _,⟨_,rfl⟩,h⟩
def Gl (X:Cx) (x:Str):Prop:=X.env.kindOf x = some .globalImplicit
theorem jm {E:Value->Shared->Prop} {pins:List (Addr × Obj)} {s:Shared} {σ:St} {H:Hp} {x:Str} {u:Value} {pos:Pos} {Q:Value->Shared->Prop} (I:Inv X pins σ H s) (hg:Gl X x) (hm:X.mg x = some u) (h:Q u s)
  (hd:(x == ("__debug__":Str)) = false:=by decide):wpAny (model X.prog X.w) X.A (eval (.Name x pos) X.env) Q E s :=
 Calls.Name_function_global I.ok.kind hg (Calls.loadGlobal_global (by rw [I.ok.glob]; exact I.mod.glob.keeps I.bk) hm h) hd
theorem ka {E:Value->Shared->Prop} {pins:List (Addr × Obj)} {s:Shared} {σ:St} {H:Hp} {x:Str} {u:Value} {pos:Pos} {Q:Value->Shared->Prop} (I:Inv X pins σ H s) (hg:Gl X x) (hm:X.mg x = none) (hv:bootBuiltins x = some u) (h:Q u s)
  (hn:x ≠ "__name__":=by decide) (hd:(x == ("__debug__":Str)) = false:=by decide):wpAny (model X.prog X.w) X.A (eval (.Name x pos) X.env) Q E s:=by
 obtain ⟨mb,h1,h2⟩:=I.mod.blt
 exact Calls.Name_function_global I.ok.kind hg (Calls.loadGlobal_builtin (by rw [I.ok.glob]; exact I.mod.glob.keeps I.bk) hm (by rw [I.ok.blt]; exact h1.keeps I.bk) ((h2 x hn).trans hv) h) hd
theorem nM {x:Str} {v:V} {u:Value} {pos:Pos} (hg:Gl X x) (hm:X.mg x = some u) (r:RelV v u) (hd:(x == ("__debug__":Str)) = false:=by decide):PE X (.Name x pos) (tC v) :=
 fun _ _ _ H _ I h=>jm I hg hm ⟨v,H,I,r,h⟩ hd
theorem pe_bltn {x:Str} {v:V} {u:Value} {pos:Pos} (hg:Gl X x) (hm:X.mg x = none) (hv:bootBuiltins x = some u) (r:RelV v u) (hn:x ≠ "__name__":=by decide) (hd:(x == ("__debug__":Str)) = false:=by decide):PE X (.Name x pos) (tC v) :=
 fun _ _ _ H _ I h=>ka I hg hm hv ⟨v,H,I,r,h⟩ hn hd
variable {a b:Expr} {ta tb:TE} {pos:Pos}
def tB (t:TE):TT:=fun σ H Q=>t σ H fun x H1=>∃ c,x = .bl c/\Q c H1
theorem bt {e:Expr} {t:TE} (h:PE X e t) (he:∀ whole,isTrue e X.env whole = (do let v <- whole; standAt e.pos; holding [v] (truthy v)):=by intro _; rfl):PT X e (tB t):=by
 intro pins s σ H Q I hw
 refine isTrue_plain (thn (h pins s σ H _ I hw) fun v s1 ⟨x,H1,I1,r1,q1⟩=>?_) (he _)
 obtain ⟨d,rfl,q⟩:=q1
 cases r1
 exact wpAny_truthy_bool ⟨H1,I1,q⟩
variable {tA tB':TT} {rest:List Expr}
def tAnd (t u:TT):TT:=fun σ H Q=>t σ H fun c H1=>if c = true then u σ H1 Q else Q false H1
def tOr (t u:TT):TT:=fun σ H Q=>t σ H fun c H1=>if c = true then Q true H1 else u σ H1 Q
def tNot (t:TT):TT:=fun σ H Q=>t σ H fun c H1=>Q (!c) H1
theorem oj (ha:PT X a tA):PW X (.BoolOp .And [a] pos) tA:=by
 intro wh pins s σ H Q I h
 refine isTrue_and (thn (ha pins s σ H Q I h) fun c s1 e=>?_)
 cases c with
 | true=>exact isTrue_and_nil e
 | false=>exact e
theorem dE (ha:PT X a tA):PW X (.BoolOp .Or [a] pos) tA:=by
 intro wh pins s σ H Q I h
 refine isTrue_or (thn (ha pins s σ H Q I h) fun c s1 e=>?_)
 cases c with
 | false=>exact isTrue_or_nil e
 | true=>exact e
theorem r6 (ha:PT X a tA) (hb:PW X (.BoolOp .And (b :: rest) pos) tB'):PW X (.BoolOp .And (a :: b :: rest) pos) (tAnd tA tB'):=by
 intro wh pins s σ H Q I h
 refine isTrue_and (thn (ha pins s σ H _ I h) fun c s1 ⟨H1,I1,q1⟩=>?_)
 cases c with
 | true=>exact hb wh pins s1 σ H1 Q I1 q1
 | false=>exact ⟨H1,I1,q1⟩
theorem eE (ha:PT X a tA) (hb:PW X (.BoolOp .Or (b :: rest) pos) tB'):PW X (.BoolOp .Or (a :: b :: rest) pos) (tOr tA tB'):=by
 intro wh pins s σ H Q I h
 refine isTrue_or (thn (ha pins s σ H _ I h) fun c s1 ⟨H1,I1,q1⟩=>?_)
 cases c with
 | true=>exact ⟨H1,I1,q1⟩
 | false=>exact hb wh pins s1 σ H1 Q I1 q1
theorem bz (ha:PT X a tA):PT X (.UnaryOp .Not a pos) (tNot tA):=by
 intro pins s σ H Q I h
 exact isTrue_not (ha pins s σ H (fun c H1=>Q (!c) H1) I h)
def tAndV (ta tb:TE):TE:=fun σ H Q=>ta σ H fun x H1=>∃ c,x = .bl c/\if c = true then tb σ H1 Q else Q (.bl false) H1
def tOrV (ta tb:TE):TE:=fun σ H Q=>ta σ H fun x H1=>∃ c,x = .bl c/\if c = true then Q (.bl true) H1 else tb σ H1 Q
def tNotV (ta:TE):TE:=fun σ H Q=>ta σ H fun x H1=>∃ c,x = .bl c/\Q (.bl (!c)) H1
theorem cW {op} {t:TE} (h:PE X a t):PE X (.BoolOp op [a] pos) t:=fun pins s σ H Q I hw=>BoolOp_one (h pins s σ H Q I hw)
theorem cY (ha:PE X a ta) (hb:PE X (.BoolOp .And (b :: rest) pos) tb):PE X (.BoolOp .And (a :: b :: rest) pos) (tAndV ta tb):=by
 intro pins s σ H Q I h
 refine BoolOp_and (thn (ha pins s σ H _ I h) fun v s1 ⟨x,H1,I1,r1,q1⟩=>?_)
 obtain ⟨c,rfl,q1⟩:=q1
 cases r1
 refine wpAny_truthy_bool ?_
 cases c with
 | true=>exact hb pins s1 σ H1 Q I1 q1
 | false=>exact ⟨.bl false,H1,I1,rfl,q1⟩
theorem pe_or (ha:PE X a ta) (hb:PE X (.BoolOp .Or (b :: rest) pos) tb):PE X (.BoolOp .Or (a :: b :: rest) pos) (tOrV ta tb):=by
 intro pins s σ H Q I h
 refine BoolOp_or (thn (ha pins s σ H _ I h) fun v s1 ⟨x,H1,I1,r1,q1⟩=>?_)
 obtain ⟨c,rfl,q1⟩:=q1
 cases r1
 refine wpAny_truthy_bool ?_
 cases c with
 | false=>exact hb pins s1 σ H1 Q I1 q1
 | true=>exact ⟨.bl true,H1,I1,rfl,q1⟩
theorem rR (ha:PE X a ta):PE X (.UnaryOp .Not a pos) (tNotV ta):=by
 intro pins s σ H Q I h
 refine UnaryOp_ (thn (ha pins s σ H _ I h) fun v s1 ⟨x,H1,I1,r1,q1⟩=>?_)
 obtain ⟨c,rfl,q1⟩:=q1
 cases r1
 exact not_of (wpAny_truthy_bool ⟨.bl (!c),H1,I1,rfl,q1⟩)
def tIf (t:TT) (ta tb:TE):TE:=fun σ H Q=>t σ H fun c H1=>if c = true then ta σ H1 Q else tb σ H1 Q
theorem cj {c:Expr} (hc:PT X c tA) (ha:PE X a ta) (hb:PE X b tb):PE X (.IfExp c a b pos) (tIf tA ta tb):=by
 intro pins s σ H Q I h
 refine wpAny_IfExp (thn (hc pins s σ H _ I h) fun d s1 ⟨H1,I1,q1⟩=>?_)
 cases d with
 | true=>exact ha pins s1 σ H1 Q I1 q1
 | false=>exact hb pins s1 σ H1 Q I1 q1
end
end L2
namespace L2
open PySem PySem.Spec PyProof.Rows
def SqL (K:Frag) (H:Hp) (a:Addr) (xs:List V):Prop :=
 Rd H a (.lst xs) \/
  ∃ (o:Obj) (its:Array Value) (n:Nat),K.lookup a = some o/\o.cls = .type "list"/\o.dict = none/\o.data = .seq its n/\its.size<=sizeLine/\Vals xs its.toList
def SqT (K:Frag) (H:Hp) (a:Addr) (xs:List V):Prop :=
 Rd H a (.tup xs) \/
  ∃ (o:Obj) (its:Array Value) (n:Nat),K.lookup a = some o/\o.cls = .type "tuple"/\o.data = .seq its n/\its.size<=sizeLine/\Vals xs its.toList
def absV:Value->Option V
 | .none=>some .non
 | .bool b=>some (.bl b)
 | .int i _=>some (.int i)
 | .str x _=>some (.str x)
 | .bytes b _=>some (.byt b)
 | .float b _=>some (.flt b)
 | .ref a=>some (.ref a)
 | .type n=>some (.ty n)
 | _=>none
theorem RelV.abs {x:V} {u:Value} (r:RelV x u):absV u = some x:=by
 cases x with
 | non=>cases r; rfl
 | bl _=>cases r; rfl
 | int _=>obtain ⟨t,rfl⟩:=r; rfl
 | str _=>obtain ⟨t,rfl⟩:=r; rfl
 | byt _=>obtain ⟨t,rfl⟩:=r; rfl
 | flt _=>obtain ⟨t,rfl⟩:=r; rfl
 | ref _=>cases r; rfl
 | ty _=>cases r; rfl
theorem RelV.inj {x y:V} {u:Value} (r:RelV x u) (q:RelV y u):x = y:=Option.some.inj (r.abs.symm.trans q.abs)
theorem Vals.inj:∀ {xs ys:List V} {us:List Value},Vals xs us->Vals ys us->xs = ys
 | _,_,_,.nil,.nil=>rfl
 | _,_,_,.cons r t,.cons r' t'=>by rw [r.inj r',Vals.inj t t']
section
variable {X:Cx} {pins:List (Addr × Obj)} {σ:St} {H:Hp} {s:Shared} {a:Addr} {xs ys:List V}
theorem SqL.of {K:Frag} (h:H a = some (.lst xs)):SqL K H a xs:=.inl (.inl h)
theorem SqT.of {K:Frag} (h:H a = some (.tup xs)):SqT K H a xs:=.inl (.inl h)
theorem Inv.list (I:Inv X pins σ H s) (h:SqL X.K H a xs):∃ its:List Value,Vals xs its/\PlainL s.heap a its.toArray/\xs.length<=sizeLine:=by
 rcases h with h | ⟨o,its,n,hk,hc,hd,hs,hz,r⟩
 ·obtain ⟨z,its,n,r,e⟩:=h.ok I.hok
  exact ⟨its,r,⟨_,n,e,rfl,rfl,rfl⟩,z⟩
 ·refine ⟨its.toList,r,⟨o,n,I.kIn a o hk,hc,hd,by simpa using hs⟩,?_⟩
  have e:=r.length
  simp only [Array.length_toList] at e
  omega
theorem Inv.tuple (I:Inv X pins σ H s) (h:SqT X.K H a xs):∃ its:List Value,Vals xs its/\IsTup s.heap a its.toArray/\xs.length<=sizeLine:=by
 rcases h with h | ⟨o,its,n,hk,hc,hs,hz,r⟩
 ·obtain ⟨z,its,r,p⟩:=h.ok I.hok
  exact ⟨its,r,p,z⟩
 ·refine ⟨its.toList,r,⟨o,I.kIn a o hk,hc,n,by simpa using hs⟩,?_⟩
  have e:=r.length
  simp only [Array.length_toList] at e
  omega
theorem Inv.list_inj (I:Inv X pins σ H s) (h:SqL X.K H a xs) (h':SqL X.K H a ys):xs = ys:=by
 obtain ⟨its,r,⟨o,n,e,_,_,d⟩,_⟩:=I.list h
 obtain ⟨its',r',⟨o',n',e',_,_,d'⟩,_⟩:=I.list h'
 rw [e] at e'; cases e'
 rw [d] at d'
 injection d' with d1 _
 have:its = its':=by simpa using congrArg Array.toList d1
 subst this
 exact r.inj r'
theorem Inv.tuple_inj (I:Inv X pins σ H s) (h:SqT X.K H a xs) (h':SqT X.K H a ys):xs = ys:=by
 obtain ⟨its,r,⟨o,e,_,n,d⟩,_⟩:=I.tuple h
 obtain ⟨its',r',⟨o',e',_,n',d'⟩,_⟩:=I.tuple h'
 rw [e] at e'; cases e'
 rw [d] at d'
 injection d' with d1 _
 have:its = its':=by simpa using congrArg Array.toList d1
 subst this
 exact r.inj r'
end
abbrev Cx.wish (X:Cx) (E:Value->Shared->Prop):Cx:={ X with xe:=E }
abbrev Cx.nox (X:Cx):Cx:=X.wish fun _ _=>False
theorem Cx.Ok.wish {X:Cx} (ok:X.Ok) (E:Value->Shared->Prop):(X.wish E).Ok :=
 ⟨ok.mod,ok.kind,ok.glob,ok.blt,ok.above,ok.inj,ok.has,ok.cab,ok.hd,ok.frames,ok.stk,ok.exf,ok.bs,ok.bsz,ok.noex,ok.exfs,ok.funs,ok.frf⟩
theorem Cx.Ok.unwish {X:Cx} {E:Value->Shared->Prop} (ok:(X.wish E).Ok):X.Ok :=
 ⟨ok.mod,ok.kind,ok.glob,ok.blt,ok.above,ok.inj,ok.has,ok.cab,ok.hd,ok.frames,ok.stk,ok.exf,ok.bs,ok.bsz,ok.noex,ok.exfs,ok.funs,ok.frf⟩
section
variable {X:Cx} {pins:List (Addr × Obj)} {σ:St} {H:Hp} {s:Shared} {E:Value->Shared->Prop}
theorem Inv.wish (I:Inv X pins σ H s) (E:Value->Shared->Prop):Inv (X.wish E) pins σ H s:=⟨I.ok.wish E,I.os,I.bare,I.base,I.loc,I.cell,I.free,I.freeC,I.pin,I.hok,I.len⟩
theorem Inv.unwish (I:Inv (X.wish E) pins σ H s):Inv X pins σ H s:=⟨I.ok.unwish,I.os,I.bare,I.base,I.loc,I.cell,I.free,I.freeC,I.pin,I.hok,I.len⟩
theorem SP.unwish {D:Ends} {f:Flow} {s':Shared} (h:SP (X.wish E) pins D f s'):SP X pins D f s':=by
 cases f with
 | next=>obtain ⟨σ',H',I,q⟩:=h; exact ⟨σ',H',I.unwish,q⟩
 | brk=>obtain ⟨σ',H',I,q⟩:=h; exact ⟨σ',H',I.unwish,q⟩
 | cont=>obtain ⟨σ',H',I,q⟩:=h; exact ⟨σ',H',I.unwish,q⟩
 | ret u=>obtain ⟨v,σ',H',I,r,q⟩:=h; exact ⟨v,σ',H',I.unwish,r,q⟩
theorem PSs.nox {st:List Stmt} {t:TS} (h:PSs X.nox st t):PSs X st t:=fun pins s σ H D I hw =>
 wpAny_mono (h pins s σ H D (I.wish _) hw) (fun _ _ q=>q.unwish) fun _ _ z=>False.elim z
end
section
variable {X:Cx} {st:Stmt} {rest:List Stmt} {t u:TS} {e:Expr} {te:TE} {pos:Pos}
def tNext:TS:=fun D σ H=>D.nx σ H
def tSeq (t u:TS):TS:=fun D σ H=>t { D with nx:=u D } σ H
theorem aA:PSs X [] tNext:=fun _ _ σ H _ I h=>wpAny_execs_nil ⟨σ,H,I,h⟩
theorem ah (h1:PS X st t) (h2:PSs X rest u):PSs X (st :: rest) (tSeq t u):=by
 intro pins s σ H D I h
 refine wpAny_execs_cons (thn (h1 pins s σ H { D with nx:=u D } I h) fun f s1 q=>?_)
 cases f with
 | next =>
  obtain ⟨σ',H',I',q⟩:=q
  exact h2 pins s1 σ' H' D I' q
 | ret v=>exact q
 | brk=>exact q
 | cont=>exact q
theorem ai (h1:PS X st t):PSs X [st] t:=by
 intro pins s σ H D I h
 refine wpAny_execs_cons (thn (h1 pins s σ H D I h) fun f s1 q=>?_)
 cases f with
 | next=>exact wpAny_execs_nil q
 | ret v=>exact q
 | brk=>exact q
 | cont=>exact q
theorem Inv.quiet {pins:List (Addr × Obj)} {σ:St} {H:Hp} {s:Shared} (I:Inv X pins σ H s):interactive X.env = false:=by simp [interactive,I.ok.kind]
def tDrop (te:TE):TS:=fun D σ H=>te σ H fun _ H1=>D.nx σ H1
theorem aX (he:PE X e te) (hs:swapsWith e none pos.line X.env = pure false:=by rfl):PS X (.Expr e pos) (tDrop te):=by
 intro pins s σ H D I h
 exact wpAny_Expr_any (thn (he pins s σ H _ I h) fun v s1 ⟨x,H1,I1,r1,q1⟩=>⟨σ,H1,I1,q1⟩) I.quiet hs
def tRet (te:TE):TS:=fun D σ H=>te σ H D.rt
theorem ar (he:PE X e te):PS X (.Return (some e) pos) (tRet te):=by
 intro pins s σ H D I h
 exact wpAny_Return_some (thn (he pins s σ H _ I h) fun v s1 ⟨x,H1,I1,r1,q1⟩=>⟨x,σ,H1,I1,r1,q1⟩)
def tIfS (c:TT) (t u:TS):TS:=fun D σ H=>c σ H fun b H1=>if b = true then t D σ H1 else u D σ H1
theorem aR {c:Expr} {a b:List Stmt} {tc:TT} (hc:PT X c tc) (ha:PSs X a t) (hb:PSs X b u):PS X (.If c a b pos) (tIfS tc t u):=by
 intro pins s σ H D I h
 refine wpAny_If (thn (hc pins s σ H _ I h) fun d s1 ⟨H1,I1,q1⟩=>?_)
 cases d with
 | true=>exact ha pins s1 σ H1 D I1 q1
 | false=>exact hb pins s1 σ H1 D I1 q1
def tNever:TS:=fun _ _ _=>False
theorem bR:PS X st tNever:=fun _ _ _ _ _ _ h=>h.elim
end
abbrev TG:=V->St->Hp->(St->Hp->Prop)->Prop
abbrev TGs:=List V->St->Hp->(St->Hp->Prop)->Prop
def PG (X:Cx) (target:Expr) (t:TG):Prop :=
 ∀ (pins:List (Addr × Obj)) (s:Shared) (σ:St) (H:Hp) (v:V) (u:Value) (Q:St->Hp->Prop),Inv X pins σ H s->RelV v u->t v σ H Q ->
  wpAny (model X.prog X.w) X.A (assign target X.env u) (fun _ s'=>∃ σ' H',Inv X pins σ' H' s'/\Q σ' H') X.xe s
def PGs (X:Cx) (ts:List Expr) (t:TGs):Prop :=
 ∀ (pins:List (Addr × Obj)) (s:Shared) (σ:St) (H:Hp) (vs:List V) (us:List Value) (Q:St->Hp->Prop),Inv X pins σ H s->Vals vs us->t vs σ H Q ->
  wpAny (model X.prog X.w) X.A (assignInOrder ((assignEach ts X.env).map (·.2)) us) (fun _ s'=>∃ σ' H',Inv X pins σ' H' s'/\Q σ' H') X.xe s
abbrev TSet:=V->V->V->Hp->(Hp->Prop)->Prop
def PSet (X:Cx) (t:TSet):Prop :=
 ∀ (pins:List (Addr × Obj)) (s:Shared) (σ:St) (H:Hp) (o i v:V) (ov iv u:Value) (Q:Hp->Prop),Inv X pins σ H s->RelV o ov->RelV i iv->RelV v u->t o i v H Q ->
  wpAny (model X.prog X.w) X.A (setItem ov iv u) (fun _ s'=>∃ H',Inv X pins σ H' s'/\Q H') X.xe s
section
variable {X:Cx} {pos:Pos}
def rA (i:Nat):TG:=fun v σ H Q=>Q (σ.set i (some v)) H
theorem aQ {i:Nat} {x:Str} (hN:X.N.Nodup) (hi:X.N[i]? = some x) (hx:Loc X.env.scope x) (hf:X.fn x = true\/X.env.scope.names.lookup x = some .local:=by first | exact .inl rfl | exact .inr rfl | assumption):PG X (.Name x pos) (rA i):=by
 intro pins s σ H v u Q I r h
 exact wpAny_assign_Name (iD I hN hi hx r (fun s' I'=>⟨_,H,I',h⟩) hf)
def gNil:TGs:=fun vs σ H Q=>vs = []/\Q σ H
def gCons (t:TG) (u:TGs):TGs:=fun vs σ H Q=>∃ v r,vs = v :: r/\t v σ H fun σ' H'=>u r σ' H' Q
theorem i8:PGs X [] gNil:=by
 intro pins s σ H vs us Q I r h
 obtain ⟨e,h⟩:=h
 subst e
 cases r
 exact assignInOrder_nil ⟨σ,H,I,h⟩
theorem bH {e:Expr} {es:List Expr} {t:TG} {u:TGs} (h1:PG X e t) (h2:PGs X es u)
  (hs:(assignEach (e :: es) X.env).map (·.2) = assign e X.env :: (assignEach es X.env).map (·.2):=by rfl):PGs X (e :: es) (gCons t u):=by
 intro pins s σ H vs us Q I r h
 obtain ⟨v,vr,e1,h⟩:=h
 subst e1
 cases r with
 | cons r rr =>
  rw [hs]
  refine assignInOrder_cons (thn (h1 pins s σ H _ _ _ I r h) fun _ s1 ⟨σ1,H1,I1,q1⟩=>?_)
  exact h2 pins s1 σ1 H1 _ _ Q I1 rr q1
def gTup (K:Frag) (n:Nat) (t:TGs):TG:=fun v σ H Q=>∃ a xs,v = .ref a/\SqT K H a xs/\xs.length = n/\t xs σ H Q
theorem pQ {es:List Expr} {k:Nat} {t:TGs} {n:Nat} (hc:X.calm = true) (h:PGs X es t)
  (hn:(assignEach es X.env).length = n:=by rfl) (hst:(assignEach es X.env).findIdx? (·.1) = none:=by rfl):PG X (.Tuple es k pos) (gTup X.K n t):=by
 intro pins s σ H v u Q I r hw
 obtain ⟨a,xs,e1,hq,hl,hw⟩:=hw
 subst e1
 cases r
 obtain ⟨its,rv,ht,hz⟩:=I.tuple hq
 refine assign_Tuple_tuple (I.ok.hd hc) ht (by simp [hn,<- hl,rv.length]) hst fun h' hx=>?_
 have I1:Inv X pins σ H { s with heap:=h' }:=I.kept (t':=s.toks) fun b o e=>hx b o (Nat.ne_of_lt (Heap.lt_size e)) e
 exact h pins _ σ H xs _ Q I1 (by simpa using rv) hw
def gSub (to ti:TE) (t:TSet):TG:=fun v σ H Q=>to σ H fun o H1=>ti σ H1 fun i H2=>t o i v H2 fun H3=>Q σ H3
theorem pg_sub {o i:Expr} {to ti:TE} {t:TSet} (ho:PE X o to) (hi:PE X i ti) (hs:PSet X t)
  (ha:∀ v,assign (.Subscript o i pos) X.env v = (do
   let ov <- holding [v] (eval o X.env)
   let iv <- holding [v,ov] (eval i X.env)
   standAt pos
   holding [v,ov,iv] (setItem ov iv v)
   release [v,ov,iv] []):=by intro _; rfl):PG X (.Subscript o i pos) (gSub to ti t):=by
 intro pins s σ H v u Q I r h
 rw [ha]
 refine wpAny_bind (wpAny_holding (thn (ho pins s σ H _ I h) fun ov s1 ⟨x,H1,I1,r1,q1⟩=>?_))
 refine wpAny_bind (wpAny_holding (thn (hi pins s1 σ H1 _ I1 q1) fun iv s2 ⟨y,H2,I2,r2,q2⟩=>?_))
 refine wpAny_bind (wpAny_standAt (wpAny_bind (wpAny_holding (thn (hs pins s2 σ H2 x y v ov iv u _ I2 r1 r2 r q2) fun _ s3 ⟨H3,I3,q3⟩=>?_))))
 exact wpAny_release ⟨σ,H3,I3,q3⟩
def tAsg (te:TE) (g:TG):TS:=fun D σ H=>te σ H fun x H1=>g x σ H1 D.nx
theorem md {tg e:Expr} {te:TE} {g:TG} (he:PE X e te) (hg:PG X tg g) (hs:swapsWithSole [tg] e pos.line X.env = pure false:=by rfl) (hw:swappedStores [tg] e X.env = pure none:=by rfl)
  (h1:(assignEach [tg] X.env).map (·.2) = [assign tg X.env]:=by rfl):PS X (.Assign [tg] e pos) (tAsg te g):=by
 intro pins s σ H D I h
 refine wpAny_Assign_stores (thn (he pins s σ H _ I h) fun v s1 ⟨x,H1,I1,r1,q1⟩=>?_) hs hw
 rw [h1]
 exact thn (hg pins s1 σ H1 x v _ I1 r1 q1) fun _ s2 q=>q
theorem aH {i:Nat} {x:Str} {e:Expr} {te:TE} {pos':Pos} (hN:X.N.Nodup) (hi:X.N[i]? = some x) (hx:Loc X.env.scope x) (he:PE X e te) (hs:swapsWith e (some (.Name x pos')) pos.line X.env = pure false:=by rfl) (hf:X.fn x = true\/X.env.scope.names.lookup x = some .local:=by first | exact .inl rfl | exact .inr rfl | assumption) :
  PS X (.Assign [.Name x pos'] e pos) (tAsg te (rA i)):=by
 intro pins s σ H D I h
 refine wpAny_Assign_Name (thn (he pins s σ H _ I h) fun v s1 ⟨y,H1,I1,r1,q1⟩=>?_) hs
 exact iD I1 hN hi hx r1 (fun s2 I2=>⟨_,H1,I2,q1⟩) hf
end
section
variable {X:Cx} {pos:Pos}
end
structure It where
 go:Nat->Hp->Prop
 yld:Nat->Hp->V->Hp->Prop
 stop:Nat->Hp->Prop
def FpOk (X:Cx) (pins:List (Addr × Obj)) (H:Hp) (b:Addr):Prop :=
 H b = none/\b ≠ X.env.locals/\b ∉ X.fs/\(b ∈ X.ex\/X.s₀.heap.objs.size<=b)/\(∀ x c,X.env.cells.lookup x = some c->c ≠ b)/\∀ p ∈ X.pn ++ pins,p.1 ≠ b
theorem Inv.fpOk {X:Cx} {pins:List (Addr × Obj)} {σ:St} {H H':Hp} {s:Shared} {b:Addr} (I:Inv X pins σ H s) (hb:s.heap.objs.size<=b) (hn:H' b = none):FpOk X pins H' b:=by
 refine ⟨hn,Nat.ne_of_gt (Nat.lt_of_lt_of_le I.lt hb),I.nofs hb,.inr (Nat.le_trans I.sz hb),fun x c e z=>?_,fun p hp z=>?_⟩
 ·obtain ⟨v,q⟩:=I.cell x c e
  exact absurd (Nat.lt_of_lt_of_le q.lt (by rw [z]; exact hb)) (Nat.lt_irrefl _)
 ·exact absurd (Nat.lt_of_lt_of_le (Heap.lt_size (I.pin p hp).1) (by rw [z]; exact hb)) (Nat.lt_irrefl _)
structure Turn (P:Program) (w:World) (K:Frag) (tg:Expr) (J:It) (fp:List Addr) (it:Addr) (tn:Nat->Heap->Prop):Prop where
 mem:it ∈ fp
 obj:∀ i h,tn i h->∀ b ∈ fp,∃ o,h.get? b = some o/\∀ v,o.data ≠ .cell v
 keep:∀ i h h',tn i h->(∀ b ∈ fp,∀ o,h.get? b = some o->h'.get? b = some o)->tn i h'
 item:∀ (X:Cx),X.prog = P->X.w = w->X.K = K->X.calm = true->∀ (i:Nat) (pins:List (Addr × Obj)) (s:Shared) (σ:St) (H:Hp) (E:Value->Shared->Prop),Inv X pins σ H s->(∀ b ∈ fp,FpOk X pins H b)->tn i s.heap->J.go i H ->
  wpAny (model P w) X.A (pyNext (.ref it)) (fun r s1=>∃ u,r = some u /\
   wpAny (model P w) X.A (letOwnedTupleGo tg (.ref it) u) (fun _ s2=>∃ x H',Inv X pins σ H' s2/\RelV x u/\J.yld i H x H'/\tn (i + 1) s2.heap/\∀ b ∈ fp,H' b = none) E s1) E s
 done:∀ (X:Cx),X.prog = P->X.w = w->X.K = K->X.calm = true->∀ (i:Nat) (pins:List (Addr × Obj)) (s:Shared) (σ:St) (H:Hp) (E:Value->Shared->Prop),Inv X pins σ H s->(∀ b ∈ fp,FpOk X pins H b)->tn i s.heap->J.stop i H ->
  wpAny (model P w) X.A (pyNext (.ref it)) (fun r s1=>r = none/\Inv X pins σ H s1) E s
 self:∀ (A:Around) (i:Nat) (s:Shared) (Q:Value->Shared->Prop) (E:Value->Shared->Prop),tn i s.heap->Q (.ref it) s->wpAny (model P w) A (pyIter (.ref it)) Q E s
abbrev TI:=St->Hp->(It->Hp->Prop)->Prop
def PIE (X:Cx) (pins:List (Addr × Obj)) (σ:St) (tg:Expr) (R:It->Hp->Prop) (itv:Value) (s2:Shared):Prop :=
 ∃ (it:Addr) (fp:List Addr) (tn:Nat->Heap->Prop) (J:It) (H':Hp),itv = .ref it/\Inv X pins σ H' s2/\Turn X.prog X.w X.K tg J fp it tn/\tn 0 s2.heap/\(∀ b ∈ fp,FpOk X pins H' b)/\R J H'
def PI (X:Cx) (tg iter:Expr) (wi:TI):Prop :=
 ∀ (pins:List (Addr × Obj)) (s:Shared) (σ:St) (H:Hp) (R:It->Hp->Prop),Inv X pins σ H s->wi σ H R ->
  wpAny (model X.prog X.w) X.A (eval iter X.env) (fun v s1=>wpAny (model X.prog X.w) X.A (pyIter v) (PIE X pins σ tg R) X.xe s1) X.xe s
theorem qp {M:Model} {A:Around} {E:Value->Shared->Prop} {s:Shared} {tg:Expr} {it:Addr} {u:Value} {o:Obj} {n:String} {vs:Array Value} {Q:Unit->Shared->Prop} (ho:s.heap.get? it = some o) (hc:o.cls = .type n) (hd:o.data = .fields vs)
  (hn:["enumerate","zip","dict_itemiterator","dict_reverseitemiterator","odict_iterator","itertools.zip_longest","itertools.pairwise"].contains n = false) (hQ:Q () s):wpAny M A (letOwnedTupleGo tg (.ref it) u) Q E s:=by
 unfold letOwnedTupleGo
 cases tg <;> first
  | exact wpAny_pure hQ
  | (cases u <;> first
    | exact wpAny_pure hQ
    | (refine wpAny_bind (wpAny_load ho ?_)
       rw [hc,hd]
       show wpAny M A (if (["enumerate","zip","dict_itemiterator","dict_reverseitemiterator","odict_iterator","itertools.zip_longest","itertools.pairwise"].contains n && vs[0]? == some (rawInt _)) = true then _ else _) Q E s
       rw [if_neg (by intro h; rw [hn,Bool.false_and] at h; cases h)]
       exact wpAny_pure hQ))
def Itl (K:Frag) (a:Addr):It :=
 ⟨fun i H=>∃ xs x,SqL K H a xs/\xs[i]? = some x,fun i H x H'=>H' = H/\∀ xs,SqL K H a xs->xs[i]? = some x,fun i H=>∃ xs,SqL K H a xs/\xs.length<=i⟩
def Itt (K:Frag) (a:Addr):It :=
 ⟨fun i H=>∃ xs x,SqT K H a xs/\xs[i]? = some x,fun i H x H'=>H' = H/\∀ xs,SqT K H a xs->xs[i]? = some x,fun i H=>∃ xs,SqT K H a xs/\xs.length<=i⟩
def Itr (lo:Int) (n:Nat):It:=⟨fun i _=>i < n,fun i H x H'=>H' = H/\x = .int (lo + i),fun i _=>n<=i⟩
theorem su {P:Program} {w:World} {K:Frag} {tg:Expr} (a it:Addr):Turn P w K tg (Itl K a) [it] it (fun i h=>h.IsListIter it a i) where
 mem:=by simp
 obj:=fun i h st b hb=>by
  have e:b = it:=by simpa using hb
  subst e
  obtain ⟨o,e,c,d⟩:=st
  exact ⟨o,e,fun v z=>by rw [d] at z; cases z⟩
 keep:=fun i h h' st k=>st.at fun o e=>k it (by simp) o e
 item:=by
  intro X hP hw hK hc i pins s σ H E I hf st hg
  subst hP hw hK
  obtain ⟨xs,x,hq,hx⟩:=hg
  obtain ⟨its,rv,p,hz⟩:=I.list hq
  obtain ⟨u,hu,ru⟩:=rv.get hx
  obtain ⟨f0,f1,f2,f3,f4,f5⟩:=hf it (by simp)
  refine wpAny_pyNext_list_item st p.isList (x:=u) (by simpa using hu) fun h' st' sb=>?_
  have I1:Inv X pins σ H { s with heap:=h' }:=I.turned (t':=s.toks) (fun b o hb e=>(sb.2 b hb).trans e) f0 f1 f3 f4 f5
  obtain ⟨o,e,c,d⟩:=id st'
  exact ⟨u,rfl,qp (s:={ s with heap:=h' }) e c d (by decide) ⟨x,H,I1,ru,⟨rfl,fun ys hy=>by rw [I.list_inj hy hq]; exact hx⟩,st',fun b hb=>(hf b hb).1⟩⟩
 done:=by
  intro X hP hw hK hc i pins s σ H E I hf st hg
  subst hP hw hK
  obtain ⟨xs,hq,hx⟩:=hg
  obtain ⟨its,rv,p,hz⟩:=I.list hq
  obtain ⟨f0,f1,f2,f3,f4,f5⟩:=hf it (by simp)
  have hl:=rv.length
  exact wpAny_pyNext_list_end (I.ok.hd hc) st p.isList (by simp; omega) fun h' eb=>⟨rfl,I.turned (t':=s.toks) (fun b o hb e=>eb b o hb e) f0 f1 f3 f4 f5⟩
 self:=fun _ _ _ _ _ st h=>wpAny_pyIter_listiter st h
theorem qj {P:Program} {w:World} {K:Frag} {tg:Expr} (a it:Addr):Turn P w K tg (Itt K a) [it] it (fun i h=>h.IsTupleIter it a i) where
 mem:=by simp
 obj:=fun i h st b hb=>by
  have e:b = it:=by simpa using hb
  subst e
  obtain ⟨o,e,c,d⟩:=st
  exact ⟨o,e,fun v z=>by rw [d] at z; cases z⟩
 keep:=fun i h h' st k=>st.at fun o e=>k it (by simp) o e
 item:=by
  intro X hP hw hK hc i pins s σ H E I hf st hg
  subst hP hw hK
  obtain ⟨xs,x,hq,hx⟩:=hg
  obtain ⟨its,rv,p,hz⟩:=I.tuple hq
  obtain ⟨u,hu,ru⟩:=rv.get hx
  obtain ⟨f0,f1,f2,f3,f4,f5⟩:=hf it (by simp)
  refine wpAny_pyNext_tuple_item st (show s.heap.IsTuple a its.toArray from p) (x:=u) (by simpa using hu) fun h' st' sb=>?_
  have I1:Inv X pins σ H { s with heap:=h' }:=I.turned (t':=s.toks) (fun b o hb e=>(sb.2 b hb).trans e) f0 f1 f3 f4 f5
  obtain ⟨o,e,c,d⟩:=id st'
  exact ⟨u,rfl,qp (s:={ s with heap:=h' }) e c d (by decide) ⟨x,H,I1,ru,⟨rfl,fun ys hy=>by rw [I.tuple_inj hy hq]; exact hx⟩,st',fun b hb=>(hf b hb).1⟩⟩
 done:=by
  intro X hP hw hK hc i pins s σ H E I hf st hg
  subst hP hw hK
  obtain ⟨xs,hq,hx⟩:=hg
  obtain ⟨its,rv,p,hz⟩:=I.tuple hq
  obtain ⟨f0,f1,f2,f3,f4,f5⟩:=hf it (by simp)
  have hl:=rv.length
  exact wpAny_pyNext_tuple_end (I.ok.hd hc) st (show s.heap.IsTuple a its.toArray from p) (by simp; omega) fun h' eb=>⟨rfl,I.turned (t':=s.toks) (fun b o hb e=>eb b o hb e) f0 f1 f3 f4 f5⟩
 self:=fun _ _ _ _ _ st h=>wpAny_pyIter_tupleiter st h
theorem qt {P:Program} {w:World} {K:Frag} {tg:Expr} (it:Addr) (lo:Int) (n:Nat):Turn P w K tg (Itr lo n) [it] it (fun i h=>IsRangeIter h it (lo + (i:Nat) * 1) ((n:Int) - (i:Nat)) 1) where
 mem:=by simp
 obj:=fun i h st b hb=>by
  have e:b = it:=by simpa using hb
  subst e
  exact ⟨_,st,fun v z=>by
   have z':Data.fields _ = Data.cell v:=z
   cases z'⟩
 keep:=fun i h h' st k=>k it (by simp) _ st
 item:=by
  intro X hP hw hK hc i pins s σ H E I hf st hg
  subst hP hw hK
  obtain ⟨f0,f1,f2,f3,f4,f5⟩:=hf it (by simp)
  have W:=Walks.range (prog:=X.prog) (w:=X.w) (I.ok.hd hc) it lo 1 n
  refine W.item i s _ _ hg st fun v h' tk hv st' kk=>?_
  obtain ⟨t,rfl⟩:=hv
  have I1:Inv X pins σ H { s with heap:=h',toks:=tk }:=I.turned (fun b o hb e=>kk b o (by simpa using hb) e) f0 f1 f3 f4 f5
  refine ⟨_,rfl,qp (s:={ s with heap:=h',toks:=tk }) (n:="range_iterator") st' rfl rfl (by decide) ⟨.int (lo + i),H,I1,⟨t,?_⟩,⟨rfl,rfl⟩,st',fun b hb=>(hf b hb).1⟩⟩
  rw [Int.mul_one]
 done:=by
  intro X hP hw hK hc i pins s σ H E I hf st hg
  subst hP hw hK
  obtain ⟨f0,f1,f2,f3,f4,f5⟩:=hf it (by simp)
  exact wpAny_pyNext_range_end (I.ok.hd hc) st (by have:n<=i:=hg; omega) fun h' eb=>⟨rfl,I.turned (t':=s.toks) (fun b o hb e=>eb b o hb e) f0 f1 f3 f4 f5⟩
 self:=fun _ _ _ _ _ st h=>wpAny_pyIter_rangeiter st h
end L2
namespace L2
open PySem PySem.Spec PyProof.Rows
section
variable {X:Cx} {tg:Expr}
def iList (K:Frag) (tl:TE):TI:=fun σ H R=>tl σ H fun x H1=>∃ a,x = .ref a/\(∃ xs,SqL K H1 a xs)/\R (Itl K a) H1
def iTup (K:Frag) (tl:TE):TI:=fun σ H R=>tl σ H fun x H1=>∃ a,x = .ref a/\(∃ xs,SqT K H1 a xs)/\R (Itt K a) H1
theorem cu {l:Expr} {tl:TE} (hl:PE X l tl):PI X tg l (iList X.K tl):=by
 intro pins s σ H R I h
 refine thn (hl pins s σ H _ I h) fun v s1 ⟨x,H1,I1,r1,q1⟩=>?_
 obtain ⟨a,e,⟨xs,hq⟩,q⟩:=q1
 subst e
 cases r1
 obtain ⟨its,rv,p,hz⟩:=I1.list hq
 refine wpAny_pyIter_list p.isList ?_
 refine ⟨s1.heap.objs.size,[s1.heap.objs.size],_,_,H1,rfl,I1.kept (t':=s1.toks) fun b o e=>Heap.get?_push_of_some _ e,su a _,⟨_,Heap.get?_push_size _ rfl,rfl,rfl⟩,fun b hb=>?_,q⟩
 have e:b = s1.heap.objs.size:=by simpa using hb
 subst e
 exact I1.fpOk (Nat.le_refl _) (I1.hok.fresh (Nat.le_refl _))
theorem pi_tup {l:Expr} {tl:TE} (hl:PE X l tl):PI X tg l (iTup X.K tl):=by
 intro pins s σ H R I h
 refine thn (hl pins s σ H _ I h) fun v s1 ⟨x,H1,I1,r1,q1⟩=>?_
 obtain ⟨a,e,⟨xs,hq⟩,q⟩:=q1
 subst e
 cases r1
 obtain ⟨its,rv,p,hz⟩:=I1.tuple hq
 refine wpAny_pyIter_tuple (show s1.heap.IsTuple a its.toArray from p) ?_
 refine ⟨s1.heap.objs.size,[s1.heap.objs.size],_,_,H1,rfl,I1.kept (t':=s1.toks) fun b o e=>Heap.get?_push_of_some _ e,qj a _,⟨_,Heap.get?_push_size _ rfl,rfl,rfl⟩,fun b hb=>?_,q⟩
 have e:b = s1.heap.objs.size:=by simpa using hb
 subst e
 exact I1.fpOk (Nat.le_refl _) (I1.hok.fresh (Nat.le_refl _))
theorem range_it {pins:List (Addr × Obj)} {σ:St} {H:Hp} {s:Shared} {R:It->Hp->Prop} {E:Value->Shared->Prop} {lo hi:Int} {t u v:Tok} {tk:Nat} (I:Inv X pins σ H s) (h1:-(2 ^ 62)<=lo) (h2:lo < 2 ^ 62) (h3:-(2 ^ 62)<=hi) (h4:hi < 2 ^ 62)
  (q:R (Itr lo (hi - lo).toNat) H):wpAny (model X.prog X.w) X.A (pyIter (.ref s.heap.objs.size)) (PIE X pins σ tg R) E { s with heap:=s.heap.push { cls:=.type "range",data:=.fields #[.int lo t,.int hi u,.int 1 v] },toks:=tk }:=by
 refine wpAny_pyIter_range (IsRange.new ..) (small_one h1 h2 h3 h4) ?_
 have I1:Inv X pins σ H { s with heap:=s.heap.push { cls:=.type "range",data:=.fields #[.int lo t,.int hi u,.int 1 v] },toks:=tk }:=I.kept fun b o e=>Heap.get?_push_of_some _ e
 refine ⟨(s.heap.push { cls:=.type "range",data:=.fields #[.int lo t,.int hi u,.int 1 v] }).objs.size,[(s.heap.push { cls:=.type "range",data:=.fields #[.int lo t,.int hi u,.int 1 v] }).objs.size],_,_,H,rfl,
  I1.kept (t':=tk) fun b o e=>Heap.get?_push_of_some _ e,qt _ lo (hi - lo).toNat,?_,fun b hb=>?_,q⟩
 ·have e1:lo + ((0:Nat):Int) * 1 = lo:=by simp
  have e2:(((hi - lo).toNat:Nat):Int) - ((0:Nat):Int) = Builtin.Range.rangeSize lo hi 1:=by rw [rangeSize_one]; split <;> omega
  show IsRangeIter _ _ (lo + ((0:Nat):Int) * 1) ((((hi - lo).toNat:Nat):Int) - ((0:Nat):Int)) 1
  rw [e1,e2]
  exact Heap.get?_push_size _ rfl
 ·have e:b = (s.heap.push { cls:=.type "range",data:=.fields #[.int lo t,.int hi u,.int 1 v] }).objs.size:=by simpa using hb
  subst e
  exact I1.fpOk (Nat.le_refl _) (I1.hok.fresh (Nat.le_refl _))
def iRng1 (ta:TA):TI:=fun σ H R=>ta σ H fun vs H1=>∃ j:Int,vs = [.int j]/\-(2 ^ 62)<=j/\j < 2 ^ 62/\R (Itr 0 j.toNat) H1
theorem iL {a:Expr} {ta:TA} {p pos:Pos} (hg:Gl X "range") (hm:X.mg "range" = none) (ha:PA X [a] ta) (hs:starEach [a] X.env = [(false,eval a X.env)]:=by rfl):PI X tg (.Call (.Name "range" p) [a] [] pos) (iRng1 ta):=by
 intro pins s σ H R I h
 refine Call_ (ka I hg hm boot_range (PyProof.Rows.callWith_type1 (thn (ha pos pins s σ H _ I h) fun us s1 ⟨vs,H1,I1,r1,q1⟩=>?_) hs rfl))
 obtain ⟨j,e,q1,q2,q⟩:=q1
 subst e
 cases r1 with
 | cons r rr =>
  cases rr
  obtain ⟨t,rfl⟩:=r
  exact call_range_1 (range_it I1 (by omega) (by omega) q1 q2 (by simpa using q))
def tFor (wi:TI) (g:TG) (tb:TS):TS:=fun D σ H=>wi σ H fun J H1=>∃ W:Nat->Nat->St->Hp->Prop,(∃ m,W 0 m σ H1)/\∀ i m σ H,W i m σ H ->
 (J.stop i H/\D.nx σ H)\/(J.go i H/\∃ N:St->Hp->Prop,(∀ σ' H',N σ' H'->∃ m',m' < m/\W (i + 1) m' σ' H')/\∀ x H',J.yld i H x H'->g x σ H' fun σ2 H2=>tb { D with nx:=N,ct:=N,bk:=D.nx } σ2 H2)
def pJ (fp:List Addr) (h:Heap):List (Addr × Obj):=fp.filterMap fun b=>(h.get? b).map fun o=>(b,o)
theorem cG {fp:List Addr} {h:Heap} {b:Addr} {o:Obj} (hb:b ∈ fp) (e:h.get? b = some o):(b,o) ∈ pJ fp h:=List.mem_filterMap.mpr ⟨b,hb,by rw [e]; rfl⟩
theorem qQ {fp:List Addr} {h:Heap} {p:Addr × Obj} (hp:p ∈ pJ fp h):p.1 ∈ fp/\h.get? p.1 = some p.2:=by
 obtain ⟨b,hb,e⟩:=List.mem_filterMap.mp hp
 cases q:h.get? b with
 | none=>rw [q] at e; cases e
 | some o =>
  rw [q] at e
  have e':(b,o) = p:=Option.some.inj e
  subst e'
  exact ⟨hb,q⟩
theorem Inv.pinned {pins:List (Addr × Obj)} {σ:St} {H:Hp} {s:Shared} {fp:List Addr} (I:Inv X pins σ H s) (hf:∀ b ∈ fp,FpOk X pins H b) (ho:∀ b ∈ fp,∃ o,s.heap.get? b = some o/\∀ v,o.data ≠ .cell v):Inv X (pins ++ pJ fp s.heap) σ H s :=
 I.pins_of fun p hp=>(List.mem_append.mp hp).elim (fun z=>I.pin p (List.mem_append_right _ z)) fun z=>by
  obtain ⟨hb,e⟩:=qQ z
  obtain ⟨f0,f1,f2,_⟩:=hf p.1 hb
  obtain ⟨o,e',d⟩:=ho p.1 hb
  rw [e] at e'; cases e'
  exact ⟨e,f0,f1,f2,d⟩
theorem Inv.unpinned {pins pl:List (Addr × Obj)} {σ:St} {H:Hp} {s:Shared} (I:Inv X (pins ++ pl) σ H s):Inv X pins σ H s:=I.pins_of fun p hp=>I.pin p (List.mem_append_right _ (List.mem_append_left _ hp))
theorem cA {iter:Expr} {body:List Stmt} {wi:TI} {g:TG} {tb:TS} {pos:Pos} (hp:PassesOwn (model X.prog X.w) X.A X.env X.xe) (hc:X.calm = true) (hi:PI X tg iter wi) (hg:PG X tg g) (hb:PSs X body tb)
  (hs:∀ x,foldedSetIterable iter X.env x = pure x:=by intro _; rfl):PS X (.For tg iter body [] pos) (tFor wi g tb):=by
 intro pins s σ H D I h
 refine wpAny_For (thn (hi pins s σ H _ I h) fun v s1 h1=>thn h1 fun itv s2 h2=>?_) hs
 obtain ⟨it,fp,tn,J,H2,e,I2,T,st2,f2,W,⟨m0,w0⟩,turn⟩:=h2
 subst e
 have stat:∀ {H':Hp},(∀ b ∈ fp,H' b = none)->∀ b ∈ fp,FpOk X pins H' b:=fun hn b hb=>⟨hn b hb,(f2 b hb).2⟩
 refine codeAny_forLoop_any (fun n s'=>∃ i σ' H',Inv X pins σ' H' s'/\tn i s'.heap/\(∀ b ∈ fp,H' b = none)/\W i n σ' H') ?_ m0 ⟨0,σ,H2,I2,st2,fun b hb=>(f2 b hb).1,w0⟩
 rintro n s3 ⟨i,σ3,H3,I3,st3,fr3,w3⟩
 rcases turn i n σ3 H3 w3 with ⟨stop,qn⟩ | ⟨go,N,hN,step⟩
 ·refine wpAny_passesOwn hp (thn (T.done X rfl rfl rfl hc i pins s3 σ3 H3 X.xe I3 (stat fr3) st3 stop) fun r s4 ⟨hr,I4⟩=>?_)
  subst hr
  exact wpAny_execs_nil ⟨σ3,H3,I4,qn⟩
 ·refine wpAny_passesOwn hp (thn (T.item X rfl rfl rfl hc i pins s3 σ3 H3 X.xe I3 (stat fr3) st3 go) fun r s4 ⟨u,hr,h4⟩=>?_)
  subst hr
  refine wpAny_passesOwn hp (thn h4 fun _ s5 ⟨x,H5,I5,r5,y5,st5,fr5⟩=>?_)
  have I5':=I5.pinned (stat fr5) (T.obj _ _ st5)
  refine wpAny_passesOwn hp (thn (hg _ s5 σ3 H5 x u _ I5' r5 (step x H5 y5)) fun _ s6 ⟨σ6,H6,I6,q6⟩=>?_)
  refine wpAny_passesOwn hp (thn (hb _ s6 σ6 H6 _ I6 q6) fun f s7 q7=>?_)
  have again:∀ {σ7:St} {H7:Hp},Inv X (pins ++ pJ fp s5.heap) σ7 H7 s7->N σ7 H7->∃ m,m < n/\∃ i σ' H',Inv X pins σ' H' s7/\tn i s7.heap/\(∀ b ∈ fp,H' b = none)/\W i m σ' H':=fun {σ7 H7} I7 n7=>by
   obtain ⟨m',hm,w7⟩:=hN σ7 H7 n7
   refine ⟨m',hm,i + 1,σ7,H7,I7.unpinned,T.keep _ _ _ st5 fun b hb o e=>(I7.pin (b,o) (List.mem_append_right _ (List.mem_append_right _ (cG hb e)))).1,fun b hb=>?_,w7⟩
   obtain ⟨o,e,d⟩:=T.obj _ _ st5 b hb
   exact (I7.pin (b,o) (List.mem_append_right _ (List.mem_append_right _ (cG hb e)))).2.1
  cases f with
  | next=>obtain ⟨σ7,H7,I7,n7⟩:=q7; exact again I7 n7
  | cont=>obtain ⟨σ7,H7,I7,n7⟩:=q7; exact again I7 n7
  | brk=>obtain ⟨σ7,H7,I7,q7⟩:=q7; exact ⟨σ7,H7,I7.unpinned,q7⟩
  | ret v=>obtain ⟨x7,σ7,H7,I7,r7,q7⟩:=q7; exact ⟨x7,σ7,H7,I7.unpinned,r7,q7⟩
end
theorem ck {K:Frag} {a:Addr} {xs:List V} {g:TG} {tb:TS} {D:Ends} {σ:St} {H:Hp} (Pv:Nat->St->Hp->Prop) (h0:Pv 0 σ H) (hl:∀ i σ H,i<=xs.length->Pv i σ H->SqL K H a xs)
  (hs:∀ i x σ H,xs[i]? = some x->Pv i σ H->g x σ H fun σ2 H2=>tb { D with nx:=Pv (i + 1),ct:=Pv (i + 1),bk:=D.nx } σ2 H2) (hd:∀ σ H,Pv xs.length σ H->D.nx σ H) :
  ∃ W:Nat->Nat->St->Hp->Prop,(∃ m,W 0 m σ H)/\∀ i m σ H,W i m σ H ->
   ((Itl K a).stop i H/\D.nx σ H)\/((Itl K a).go i H/\∃ N:St->Hp->Prop,(∀ σ' H',N σ' H'->∃ m',m' < m/\W (i + 1) m' σ' H')/\∀ x H',(Itl K a).yld i H x H'->g x σ H' fun σ2 H2=>tb { D with nx:=N,ct:=N,bk:=D.nx } σ2 H2):=by
 refine ⟨fun i m σ H=>m = xs.length - i/\i<=xs.length/\Pv i σ H,⟨xs.length,by simp,Nat.zero_le _,h0⟩,?_⟩
 rintro i m σ H ⟨rfl,hi,p⟩
 have q:=hl i σ H hi p
 by_cases hlt:i < xs.length
 ·refine .inr ⟨⟨xs,xs[i],q,by simp [hlt]⟩,Pv (i + 1),fun σ' H' p'=>⟨xs.length - (i + 1),by omega,rfl,hlt,p'⟩,fun x H' y=>?_⟩
  obtain ⟨e,y⟩:=y
  subst e
  exact hs i x σ _ (y xs q) p
 ·have e:i = xs.length:=by omega
  subst e
  exact .inl ⟨⟨xs,q,Nat.le_refl _⟩,hd σ H p⟩
theorem for_tup {K:Frag} {a:Addr} {xs:List V} {g:TG} {tb:TS} {D:Ends} {σ:St} {H:Hp} (Pv:Nat->St->Hp->Prop) (h0:Pv 0 σ H) (hl:∀ i σ H,i<=xs.length->Pv i σ H->SqT K H a xs)
  (hs:∀ i x σ H,xs[i]? = some x->Pv i σ H->g x σ H fun σ2 H2=>tb { D with nx:=Pv (i + 1),ct:=Pv (i + 1),bk:=D.nx } σ2 H2) (hd:∀ σ H,Pv xs.length σ H->D.nx σ H) :
  ∃ W:Nat->Nat->St->Hp->Prop,(∃ m,W 0 m σ H)/\∀ i m σ H,W i m σ H ->
   ((Itt K a).stop i H/\D.nx σ H)\/((Itt K a).go i H/\∃ N:St->Hp->Prop,(∀ σ' H',N σ' H'->∃ m',m' < m/\W (i + 1) m' σ' H')/\∀ x H',(Itt K a).yld i H x H'->g x σ H' fun σ2 H2=>tb { D with nx:=N,ct:=N,bk:=D.nx } σ2 H2):=by
 refine ⟨fun i m σ H=>m = xs.length - i/\i<=xs.length/\Pv i σ H,⟨xs.length,by simp,Nat.zero_le _,h0⟩,?_⟩
 rintro i m σ H ⟨rfl,hi,p⟩
 have q:=hl i σ H hi p
 by_cases hlt:i < xs.length
 ·refine .inr ⟨⟨xs,xs[i],q,by simp [hlt]⟩,Pv (i + 1),fun σ' H' p'=>⟨xs.length - (i + 1),by omega,rfl,hlt,p'⟩,fun x H' y=>?_⟩
  obtain ⟨e,y⟩:=y
  subst e
  exact hs i x σ _ (y xs q) p
 ·have e:i = xs.length:=by omega
  subst e
  exact .inl ⟨⟨xs,q,Nat.le_refl _⟩,hd σ H p⟩
theorem mQ {lo:Int} {n:Nat} {g:TG} {tb:TS} {D:Ends} {σ:St} {H:Hp} (Pv:Nat->St->Hp->Prop) (h0:Pv 0 σ H)
  (hs:∀ i σ H,i < n->Pv i σ H->g (.int (lo + i)) σ H fun σ2 H2=>tb { D with nx:=Pv (i + 1),ct:=Pv (i + 1),bk:=D.nx } σ2 H2) (hd:∀ σ H,Pv n σ H->D.nx σ H) :
  ∃ W:Nat->Nat->St->Hp->Prop,(∃ m,W 0 m σ H)/\∀ i m σ H,W i m σ H ->
   ((Itr lo n).stop i H/\D.nx σ H)\/((Itr lo n).go i H/\∃ N:St->Hp->Prop,(∀ σ' H',N σ' H'->∃ m',m' < m/\W (i + 1) m' σ' H')/\∀ x H',(Itr lo n).yld i H x H'->g x σ H' fun σ2 H2=>tb { D with nx:=N,ct:=N,bk:=D.nx } σ2 H2):=by
 refine ⟨fun i m σ H=>m = n - i/\i<=n/\Pv i σ H,⟨n,by simp,Nat.zero_le _,h0⟩,?_⟩
 rintro i m σ H ⟨rfl,hi,p⟩
 by_cases hlt:i < n
 ·refine .inr ⟨hlt,Pv (i + 1),fun σ' H' p'=>⟨n - (i + 1),by omega,rfl,hlt,p'⟩,fun x H' y=>?_⟩
  obtain ⟨e,y⟩:=y
  subst e y
  exact hs i σ _ hlt p
 ·have e:i = n:=by omega
  subst e
  exact .inl ⟨Nat.le_refl _,hd σ H p⟩
end L2
namespace L2
open PySem PySem.Spec PyProof.Rows
abbrev R2:=V->V->Hp->VK->Prop
def OpR (X:Cx) (f:Value->Value->Sem Value) (r:R2):Prop :=
 ∀ (pins:List (Addr × Obj)) (s:Shared) (σ:St) (H:Hp) (x y:V) (v u:Value) (Q:VK),Inv X pins σ H s->RelV x v->RelV y u->r x y H Q ->
  wpAny (model X.prog X.w) X.A (f v u) (EP X pins σ Q) X.xe s
def UnR (X:Cx) (f:Value->Sem Value) (r:V->Hp->VK->Prop):Prop :=
 ∀ (pins:List (Addr × Obj)) (s:Shared) (σ:St) (H:Hp) (x:V) (v:Value) (Q:VK),Inv X pins σ H s->RelV x v->r x H Q ->
  wpAny (model X.prog X.w) X.A (f v) (EP X pins σ Q) X.xe s
def fq (X:Cx) (f:Value) (r:List V->Hp->VK->Prop):Prop :=
 ∀ (pins:List (Addr × Obj)) (s:Shared) (σ:St) (H:Hp) (xs:List V) (us:List Value) (Q:VK),Inv X pins σ H s->Vals xs us->r xs H Q ->
  wpAny (model X.prog X.w) X.A (call f us) (EP X pins σ Q) X.xe s
def tOp (r:R2) (ta tb:TE):TE:=fun σ H Q=>ta σ H fun x H1=>tb σ H1 fun y H2=>r x y H2 Q
def tUn (r:V->Hp->VK->Prop) (ta:TE):TE:=fun σ H Q=>ta σ H fun x H1=>r x H1 Q
def rI (C:Int->Int->Prop) (g:Int->Int->V):R2:=fun x y H Q=>∃ i j,x = .int i/\y = .int j/\C i j/\Q (g i j) H
def rI0 (g:Int->Int->V):R2:=fun x y H Q=>∃ i j,x = .int i/\y = .int j/\Q (g i j) H
def rU (g:Int->V):V->Hp->VK->Prop:=fun x H Q=>∃ i,x = .int i/\Q (g i) H
section
variable {X:Cx} {a b c:Expr} {ta tb tc:TE} {pos:Pos}
theorem binT (ha:PE X a ta) (hb:PE X b tb) {pins:List (Addr × Obj)} {s:Shared} {σ:St} {H:Hp} {R:V->V->Hp->Prop} (I:Inv X pins σ H s)
  (h:ta σ H fun x H1=>tb σ H1 fun y H2=>R x y H2) {Q:Value->Shared->Prop} {f:Value->Value->Sem Value}
  (hf:∀ v u s2 x y H2,Inv X pins σ H2 s2->RelV x v->RelV y u->R x y H2->wpAny (model X.prog X.w) X.A (f v u) Q X.xe s2) :
  wpAny (model X.prog X.w) X.A (eval a X.env) (fun v s₁=>wpAny (model X.prog X.w) X.A (eval b X.env) (fun u s₂=>wpAny (model X.prog X.w) X.A (f v u) Q X.xe s₂) X.xe s₁) X.xe s:=by
 refine thn (ha pins s σ H _ I h) fun v s1 ⟨x,H1,I1,r1,q1⟩=>?_
 refine thn (hb pins s1 σ H1 _ I1 q1) fun u s2 ⟨y,H2,I2,r2,q2⟩=>?_
 exact hf v u s2 x y H2 I2 r1 r2 q2
theorem aq {op:Operator} {r:R2} (ho:OpR X (binaryOp op) r) (ha:PE X a ta) (hb:PE X b tb):PE X (.BinOp a op b pos) (tOp r ta tb):=by
 intro pins s σ H Q I h
 exact wpAny_BinOp (binT ha hb I h fun v u s2 x y H2 I2 rx ry q=>ho pins s2 σ H2 x y v u Q I2 rx ry q)
theorem pe_un {op:UnaryOp} {r:V->Hp->VK->Prop} (ho:UnR X (unaryOp op) r) (ha:PE X a ta):PE X (.UnaryOp op a pos) (tUn r ta):=by
 intro pins s σ H Q I h
 exact UnaryOp_ (thn (ha pins s σ H _ I h) fun v s1 ⟨x,H1,I1,r1,q1⟩=>ho pins s1 σ H1 x v Q I1 r1 q1)
theorem opI {f:Value->Value->Sem Value} {C:Int->Int->Prop} {g:Int->Int->Int}
  (rule:∀ (i j:Int) (t u:Tok) (s:Shared) (Q:Value->Shared->Prop) (E:Value->Shared->Prop),C i j->Q (.int (g i j) s.toks) { s with toks:=s.toks + 1 }->wpAny (model X.prog X.w) X.A (f (.int i t) (.int j u)) Q E s) :
  OpR X f (rI C fun i j=>.int (g i j)):=by
 intro pins s σ H x y v u Q I rx ry h
 obtain ⟨i,j,rfl,rfl,hc,q⟩:=h
 obtain ⟨t,rfl⟩:=rx
 obtain ⟨t',rfl⟩:=ry
 exact rule i j t t' s _ _ hc ⟨.int (g i j),H,I.tok _,⟨_,rfl⟩,q⟩
theorem opI0 {f:Value->Value->Sem Value} {g:Int->Int->Int}
  (rule:∀ (i j:Int) (t u:Tok) (s:Shared) (Q:Value->Shared->Prop) (E:Value->Shared->Prop),Q (.int (g i j) s.toks) { s with toks:=s.toks + 1 }->wpAny (model X.prog X.w) X.A (f (.int i t) (.int j u)) Q E s) :
  OpR X f (rI0 fun i j=>.int (g i j)):=by
 intro pins s σ H x y v u Q I rx ry h
 obtain ⟨i,j,rfl,rfl,q⟩:=h
 obtain ⟨t,rfl⟩:=rx
 obtain ⟨t',rfl⟩:=ry
 exact rule i j t t' s _ _ ⟨.int (g i j),H,I.tok _,⟨_,rfl⟩,q⟩
theorem opB0 {f:Value->Value->Sem Value} {g:Int->Int->Bool}
  (rule:∀ (i j:Int) (t u:Tok) (s:Shared) (Q:Value->Shared->Prop) (E:Value->Shared->Prop),Q (.bool (g i j)) s->wpAny (model X.prog X.w) X.A (f (.int i t) (.int j u)) Q E s) :
  OpR X f (rI0 fun i j=>.bl (g i j)):=by
 intro pins s σ H x y v u Q I rx ry h
 obtain ⟨i,j,rfl,rfl,q⟩:=h
 obtain ⟨t,rfl⟩:=rx
 obtain ⟨t',rfl⟩:=ry
 exact rule i j t t' s _ _ ⟨.bl (g i j),H,I,rfl,q⟩
def CPow (i j:Int):Prop:=0<=j/\j<=1000000/\i.natAbs < 2 ^ 64
def CMul (i j:Int):Prop:=(-(2 ^ 64) < i/\i < 2 ^ 64)\/(-(2 ^ 64) < j/\j < 2 ^ 64)
theorem CMul.ok {i j:Int} (h:CMul i j):IntMulOk i j:=by
 rcases h with ⟨h1,h2⟩ | ⟨h1,h2⟩
 ·exact .of_left (intBits_le_64 h1 h2)
 ·exact .of_right (intBits_le_64 h1 h2)
theorem pU (k:Nat):(0:Int)<=2 ^ k:=by
 rw [two_pow_cast]
 exact Int.natCast_nonneg _
theorem bx:OpR X (binaryOp .Add) (rI0 fun i j=>.int (i + j)):=opI0 fun _ _ _ _ _ _ _ q=>add_int q
theorem em:OpR X (binaryOp .Sub) (rI0 fun i j=>.int (i - j)):=opI0 fun _ _ _ _ _ _ _ q=>sub_int q
theorem bh:OpR X (binaryOp .Mult) (rI CMul fun i j=>.int (i * j)):=opI fun _ _ _ _ _ _ _ hc q=>mul_int q hc.ok
theorem cq:OpR X (binaryOp .Mod) (rI (fun _ j=>0 < j) fun i j=>.int (i % j)):=opI fun i j _ _ _ _ _ hc q=>by
 have h1:(0:Int) < j:=hc
 exact mod_int' (by omega) (by rw [Int.fmod_eq_emod_of_nonneg i (by omega)]; exact q)
theorem op_pow:OpR X (binaryOp .Pow) (rI CPow fun i j=>.int (i ^ j.toNat)):=opI fun _ _ _ _ _ _ _ hc q=>pow_int_small hc.1 hc.2.1 hc.2.2 q
theorem ej:OpR X (binaryOp .LShift) (rI CPow fun i j=>.int (i * 2 ^ j.toNat)):=opI fun _ _ _ _ _ _ _ hc q=>lshift_int_small hc.1 hc.2.1 hc.2.2 q
theorem pA:OpR X (binaryOp .RShift) (rI (fun _ j=>0<=j) fun i j=>.int (i / 2 ^ j.toNat)):=opI fun i j _ _ _ _ _ hc q =>
 rshift_int hc (by rw [Int.fdiv_eq_ediv_of_nonneg i (pU _)]; exact q)
theorem op_and:OpR X (binaryOp .BitAnd) (rI0 fun i j=>.int (Builtin.bitAnd i j)):=opI0 fun _ _ _ _ _ _ _ q=>and_int q
theorem op_or:OpR X (binaryOp .BitOr) (rI0 fun i j=>.int (Builtin.bitOr i j)):=opI0 fun _ _ _ _ _ _ _ q=>or_int q
theorem op_xor:OpR X (binaryOp .BitXor) (rI0 fun i j=>.int (Builtin.bitXor i j)):=opI0 fun _ _ _ _ _ _ _ q=>xor_int q
theorem unI {f:Value->Sem Value} {g:Int->Int}
  (rule:∀ (i:Int) (t:Tok) (s:Shared) (Q:Value->Shared->Prop) (E:Value->Shared->Prop),Q (.int (g i) s.toks) { s with toks:=s.toks + 1 }->wpAny (model X.prog X.w) X.A (f (.int i t)) Q E s) :
  UnR X f (rU fun i=>.int (g i)):=by
 intro pins s σ H x v Q I rx h
 obtain ⟨i,rfl,q⟩:=h
 obtain ⟨t,rfl⟩:=rx
 exact rule i t s _ _ ⟨.int (g i),H,I.tok _,⟨_,rfl⟩,q⟩
theorem pT:UnR X (unaryOp .USub) (rU fun i=>.int (-i)):=unI fun _ _ _ _ _ q=>neg_int q
end
def scal:V->V->Bool
 | .non,.non=>true | .non,.int _=>true | .int _,.non=>true | .non,.bl _=>true | .bl _,.non=>true | .non,.str _=>true | .str _,.non=>true
 | .int _,.int _=>true | .bl _,.bl _=>true | .str _,.str _=>true | .byt _,.byt _=>true
 | .int _,.str _=>true | .str _,.int _=>true | .bl _,.str _=>true | .str _,.bl _=>true
 | _,_=>false
def rEq:R2:=fun x y H Q=>scal x y = true/\Q (.bl (decide (x = y))) H
def rNe:R2:=fun x y H Q=>scal x y = true/\Q (.bl (!decide (x = y))) H
theorem rG {i j:Int}:decide (V.int i = V.int j) = (i == j):=by
 rw [Bool.eq_iff_iff]
 simp
theorem dec_bl {i j:Bool}:decide (V.bl i = V.bl j) = (i == j):=by
 rw [Bool.eq_iff_iff]
 simp
theorem qK {i j:Str}:decide (V.str i = V.str j) = (i == j):=by
 rw [Bool.eq_iff_iff]
 simp
theorem sj {i j:Array UInt8}:decide (V.byt i = V.byt j) = (i.toList == j.toList):=by
 rw [Bool.eq_iff_iff]
 cases i
 cases j
 simp
section
variable {X:Cx} {a b c:Expr} {ta tb tc:TE} {pos:Pos}
theorem aU {pins:List (Addr × Obj)} {σ:St} {H:Hp} {s:Shared} {Q:VK} {k k':Bool} (I:Inv X pins σ H s) (q:Q (.bl k) H) (e:k = k'):EP X pins σ Q (.bool k') s:=by
 subst e
 exact ⟨.bl k,H,I,rfl,q⟩
theorem bS:OpR X (compareOp .Eq) rEq:=by
 intro pins s σ H x y v u Q I rx ry h
 obtain ⟨hs,q⟩:=h
 cases x with
 | non =>
  cases rx
  cases y with
  | non=>cases ry; exact PySem.EqNone.eq_none_none (aU I q (by simp))
  | bl j=>cases ry; exact PySem.EqNone.eq_none_bool (aU I q (by simp))
  | int j=>obtain ⟨t',rfl⟩:=ry; exact PySem.EqNone.eq_none_int (aU I q (by simp))
  | str j=>obtain ⟨t',rfl⟩:=ry; exact PySem.EqNone.eq_none_str (aU I q (by simp))
  | _=>exact absurd (show false = true from hs) Bool.false_ne_true
 | bl i =>
  cases rx
  cases y with
  | non=>cases ry; exact PySem.EqNone.eq_bool_none (aU I q (by simp))
  | bl j=>cases ry; exact eq_bool (aU I q dec_bl)
  | str j=>obtain ⟨t',rfl⟩:=ry; exact PySem.EqMixed.eq_bool_str (aU I q (by simp))
  | _=>exact absurd (show false = true from hs) Bool.false_ne_true
 | int i =>
  obtain ⟨t,rfl⟩:=rx
  cases y with
  | non=>cases ry; exact PySem.EqNone.eq_int_none (aU I q (by simp))
  | int j=>obtain ⟨t',rfl⟩:=ry; exact eq_int (aU I q rG)
  | str j=>obtain ⟨t',rfl⟩:=ry; exact PySem.EqMixed.eq_int_str (aU I q (by simp))
  | _=>exact absurd (show false = true from hs) Bool.false_ne_true
 | str i =>
  obtain ⟨t,rfl⟩:=rx
  cases y with
  | non=>cases ry; exact PySem.EqNone.eq_str_none (aU I q (by simp))
  | bl j=>cases ry; exact PySem.EqMixed.eq_str_bool (aU I q (by simp))
  | int j=>obtain ⟨t',rfl⟩:=ry; exact PySem.EqMixed.eq_str_int (aU I q (by simp))
  | str j=>obtain ⟨t',rfl⟩:=ry; exact eq_str (aU I q qK)
  | _=>exact absurd (show false = true from hs) Bool.false_ne_true
 | byt i =>
  obtain ⟨t,rfl⟩:=rx
  cases y with
  | byt j=>obtain ⟨t',rfl⟩:=ry; exact PySem.W.eq_bytes (aU I q sj)
  | _=>exact absurd (show false = true from hs) Bool.false_ne_true
 | _=>cases y <;> exact absurd (show false = true from hs) Bool.false_ne_true
theorem jD:OpR X (compareOp .NotEq) rNe:=by
 intro pins s σ H x y v u Q I rx ry h
 obtain ⟨hs,q⟩:=h
 cases x with
 | non =>
  cases rx
  cases y with
  | non=>cases ry; exact PySem.EqNone.ne_none_none (aU I q (by simp))
  | bl j=>cases ry; exact PySem.EqNone.ne_none_bool (aU I q (by simp))
  | int j=>obtain ⟨t',rfl⟩:=ry; exact PySem.EqNone.ne_none_int (aU I q (by simp))
  | str j=>obtain ⟨t',rfl⟩:=ry; exact PySem.EqNone.ne_none_str (aU I q (by simp))
  | _=>exact absurd (show false = true from hs) Bool.false_ne_true
 | bl i =>
  cases rx
  cases y with
  | non=>cases ry; exact PySem.EqNone.ne_bool_none (aU I q (by simp))
  | bl j=>cases ry; exact ne_bool (aU I q (congrArg not dec_bl))
  | str j=>obtain ⟨t',rfl⟩:=ry; exact PySem.EqMixed.ne_bool_str (aU I q (by simp))
  | _=>exact absurd (show false = true from hs) Bool.false_ne_true
 | int i =>
  obtain ⟨t,rfl⟩:=rx
  cases y with
  | non=>cases ry; exact PySem.EqNone.ne_int_none (aU I q (by simp))
  | int j=>obtain ⟨t',rfl⟩:=ry; exact ne_int (aU I q (congrArg not rG))
  | str j=>obtain ⟨t',rfl⟩:=ry; exact PySem.EqMixed.ne_int_str (aU I q (by simp))
  | _=>exact absurd (show false = true from hs) Bool.false_ne_true
 | str i =>
  obtain ⟨t,rfl⟩:=rx
  cases y with
  | non=>cases ry; exact PySem.EqNone.ne_str_none (aU I q (by simp))
  | bl j=>cases ry; exact PySem.EqMixed.ne_str_bool (aU I q (by simp))
  | int j=>obtain ⟨t',rfl⟩:=ry; exact PySem.EqMixed.ne_str_int (aU I q (by simp))
  | str j=>obtain ⟨t',rfl⟩:=ry; exact ne_str (aU I q (congrArg not qK))
  | _=>exact absurd (show false = true from hs) Bool.false_ne_true
 | byt i =>
  obtain ⟨t,rfl⟩:=rx
  cases y with
  | byt j=>obtain ⟨t',rfl⟩:=ry; exact PySem.W.ne_bytes (aU I q (congrArg not sj))
  | _=>exact absurd (show false = true from hs) Bool.false_ne_true
 | _=>cases y <;> exact absurd (show false = true from hs) Bool.false_ne_true
theorem jO:OpR X (compareOp .Lt) (rI0 fun i j=>.bl (decide (i < j))):=opB0 fun _ _ _ _ _ _ _ q=>lt_int q
theorem jv:OpR X (compareOp .LtE) (rI0 fun i j=>.bl (decide (i<=j))):=opB0 fun _ _ _ _ _ _ _ q=>le_int q
theorem op_gt:OpR X (compareOp .Gt) (rI0 fun i j=>.bl (decide (j < i))):=opB0 fun _ _ _ _ _ _ _ q=>gt_int q
theorem op_ge:OpR X (compareOp .GtE) (rI0 fun i j=>.bl (decide (j<=i))):=opB0 fun _ _ _ _ _ _ _ q=>ge_int q
theorem sk:OpR X (compareOp .In) (fun x y H Q=>∃ i j,x = .str i/\y = .str j/\Q (.bl (!(Builtin.Str.occurrences j i 0 j.length 1).isEmpty)) H):=by
 intro pins s σ H x y v u Q I rx ry h
 obtain ⟨i,j,rfl,rfl,q⟩:=h
 obtain ⟨t,rfl⟩:=rx
 obtain ⟨t',rfl⟩:=ry
 exact in_str (aU I q rfl)
theorem pP:OpR X (compareOp .Is) (fun x y H Q=>y = .non/\Q (.bl (decide (x = .non))) H):=by
 intro pins s σ H x y v u Q I rx ry h
 obtain ⟨rfl,q⟩:=h
 cases ry
 refine is_none_gen (aU I q ?_)
 cases x <;> first
  | (cases rx; rfl)
  | (obtain ⟨t,rfl⟩:=rx; rfl)
theorem tj:OpR X (compareOp .IsNot) (fun x y H Q=>y = .non/\Q (.bl (!decide (x = .non))) H):=by
 intro pins s σ H x y v u Q I rx ry h
 obtain ⟨rfl,q⟩:=h
 cases ry
 refine isnot_none_gen (aU I q ?_)
 cases x <;> first
  | (cases rx; rfl)
  | (obtain ⟨t,rfl⟩:=rx; rfl)
theorem aD (b:Expr) {op:CmpOp} (h:op ≠ .In:=by decide) (h2:op ≠ .NotIn:=by decide):behindInMarks op b = false:=by
 have e1:(op == CmpOp.In) = false:=by cases op <;> first | rfl | exact absurd rfl h
 have e2:(op == CmpOp.NotIn) = false:=by cases op <;> first | rfl | exact absurd rfl h2
 cases b <;> simp [behindInMarks,e1,e2]
theorem dl {op:CmpOp} {r:R2} (ho:OpR X (compareOp op) r) (ha:PE X a ta) (hb:PE X b tb) (hm:behindInMarks op b = false):PE X (.Compare a [op] [b] pos) (tOp r ta tb):=by
 intro pins s σ H Q I h
 exact wpAny_Compare1 (binT ha hb I h fun v u s2 x y H2 I2 rx ry q=>ho pins s2 σ H2 x y v u Q I2 rx ry q) hm
def tTest (t:TE):TT:=fun σ H Q=>t σ H fun x H'=>∃ k,x = .bl k/\Q k H'
theorem ay {op:CmpOp} {r:R2} (ho:OpR X (compareOp op) r) (ha:PE X a ta) (hb:PE X b tb) (hm:behindInMarks op b = false):PT X (.Compare a [op] [b] pos) (tTest (tOp r ta tb)):=by
 intro pins s σ H Q I h
 refine wpAny_isTrue_Compare1 (thn (ha pins s σ H _ I h) fun v s1 ⟨x,H1,I1,r1,q1⟩=>thn (hb pins s1 σ H1 _ I1 q1) fun u s2 ⟨y,H2,I2,r2,q2⟩ =>
  thn (ho pins s2 σ H2 x y v u _ I2 r1 r2 q2) fun c s3 ⟨z,H3,I3,r3,k,e,q3⟩=>?_) hm
 subst e
 cases r3
 exact wpAny_truthy_bool ⟨H3,I3,q3⟩
def tChain (r r':R2) (ta tb tc:TE):TE:=fun σ H Q=>ta σ H fun x H1=>tb σ H1 fun y H2=>r x y H2 fun z H3=>∃ k,z = .bl k /\
 (if k = true then tc σ H3 fun w' H4=>r' y w' H4 Q else Q (.bl false) H3)
theorem pN {op op':CmpOp} {r r':R2} (ho:OpR X (compareOp op) r) (ho':OpR X (compareOp op') r') (ha:PE X a ta) (hb:PE X b tb) (hc:PE X c tc)
  (hm:lastMarks [op,op'] [b,c] = false:=by with_unfolding_all rfl):PE X (.Compare a [op,op'] [b,c] pos) (tChain r r' ta tb tc):=by
 intro pins s σ H Q I h
 refine Compare_chain (thn (ha pins s σ H _ I h) fun v s1 ⟨x,H1,I1,r1,q1⟩=>chain_link (thn (hb pins s1 σ H1 _ I1 q1) fun u s2 ⟨y,H2,I2,r2,q2⟩ =>
  thn (ho pins s2 σ H2 x y v u _ I2 r1 r2 q2) fun d s3 ⟨z,H3,I3,r3,k,e,q3⟩=>?_)) hm
 subst e
 cases r3
 refine wpAny_truthy_bool ?_
 cases k with
 | false=>exact ite_ff ⟨.bl false,H3,I3,rfl,q3⟩
 | true=>exact ite_tt (chain_last (thn (hc pins s3 σ H3 _ I3 q3) fun w' s4 ⟨z',H4,I4,r4,q4⟩=>ho' pins s4 σ H4 y z' u w' Q I4 r2 r4 q4))
theorem gF {op op':CmpOp} {r r':R2} (ho:OpR X (compareOp op) r) (ho':OpR X (compareOp op') r') (ha:PE X a ta) (hb:PE X b tb) (hc:PE X c tc)
  (hm:lastMarks [op,op'] [b,c] = false:=by with_unfolding_all rfl):PT X (.Compare a [op,op'] [b,c] pos) (tTest (tChain r r' ta tb tc)):=by
 intro pins s σ H Q I h
 refine isTrue_chain (thn (ha pins s σ H _ I h) fun v s1 ⟨x,H1,I1,r1,q1⟩=>test_link (thn (hb pins s1 σ H1 _ I1 q1) fun u s2 ⟨y,H2,I2,r2,q2⟩ =>
  thn (ho pins s2 σ H2 x y v u _ I2 r1 r2 q2) fun d s3 ⟨z,H3,I3,r3,k,e,q3⟩=>?_)) hm
 subst e
 cases r3
 refine wpAny_truthy_bool ?_
 cases k with
 | false =>
  obtain ⟨k',e',q'⟩:=q3
  cases e'
  exact ite_ff ⟨H3,I3,q'⟩
 | true =>
  refine ite_tt (test_last (thn (hc pins s3 σ H3 _ I3 q3) fun w' s4 ⟨z',H4,I4,r4,q4⟩=>thn (ho' pins s4 σ H4 y z' u w' _ I4 r2 r4 q4) fun d' s5 ⟨z2,H5,I5,r5,k2,e2,q5⟩=>?_))
  subst e2
  cases r5
  exact wpAny_truthy_bool ⟨H5,I5,q5⟩
theorem ki:(sizeLine:Nat) < 2 ^ 63:=by rw [sizeLine_eq]; decide
theorem af:OpR X (binaryOp .Add) (fun x y H Q=>∃ i j,x = .str i/\y = .str j/\i.length + j.length<=sizeLine/\Q (.str (i ++ j)) H):=by
 intro pins s σ H x y v u Q I rx ry h
 obtain ⟨i,j,rfl,rfl,hz,q⟩:=h
 obtain ⟨t,rfl⟩:=rx
 obtain ⟨t',rfl⟩:=ry
 exact add_str (fun t' tk=>⟨.str (i ++ j),H,I.tok _,⟨_,rfl⟩,q⟩) hz
theorem mT {x:V} {us:List Value} (r:Vals [x] us):∃ u,us = [u]/\RelV x u:=by
 cases r with
 | cons r1 r2=>cases r2; exact ⟨_,rfl,r1⟩
theorem vals2 {x y:V} {us:List Value} (r:Vals [x,y] us):∃ u w',us = [u,w']/\RelV x u/\RelV y w':=by
 cases r with
 | cons r1 r2 =>
  cases r2 with
  | cons r3 r4=>cases r4; exact ⟨_,_,rfl,r1,r3⟩
theorem mX (hc:X.calm = true):fq X (.builtin "max") (fun xs H Q=>∃ i j,xs = [.int i,.int j]/\Q (.int (if j > i then j else i)) H):=by
 intro pins s σ H xs us Q I r h
 obtain ⟨i,j,rfl,q⟩:=h
 obtain ⟨u,w',rfl,⟨t,rfl⟩,⟨t',rfl⟩⟩:=vals2 r
 refine max_two_ints (I.ok.hd hc) fun h' tk k=>⟨_,H,I.kept k,?_,q⟩
 by_cases hj:j > i
 ·rw [if_pos hj,if_pos hj]; exact ⟨_,rfl⟩
 ·rw [if_neg hj,if_neg hj]; exact ⟨_,rfl⟩
theorem sS (hc:X.calm = true):fq X (.builtin "min") (fun xs H Q=>∃ i j,xs = [.int i,.int j]/\Q (.int (if j < i then j else i)) H):=by
 intro pins s σ H xs us Q I r h
 obtain ⟨i,j,rfl,q⟩:=h
 obtain ⟨u,w',rfl,⟨t,rfl⟩,⟨t',rfl⟩⟩:=vals2 r
 refine min_two_ints (I.ok.hd hc) fun h' tk k=>⟨_,H,I.kept k,?_,q⟩
 by_cases hj:j < i
 ·rw [if_pos hj,if_pos hj]; exact ⟨_,rfl⟩
 ·rw [if_neg hj,if_neg hj]; exact ⟨_,rfl⟩
theorem sN:fq X (.type "int") (fun xs H Q=>(∃ i,xs = [.int i]/\Q (.int i) H)\/∃ k,xs = [.bl k]/\Q (.int (if k then 1 else 0)) H):=by
 intro pins s σ H xs us Q I r h
 rcases h with ⟨i,rfl,q⟩ | ⟨k,rfl,q⟩
 ·obtain ⟨u,rfl,t,rfl⟩:=mT r
  exact call_int_int ⟨.int i,H,I,⟨_,rfl⟩,q⟩
 ·obtain ⟨u,rfl,r1⟩:=mT r
  cases r1
  exact call_int_bool ⟨.int (if k then 1 else 0),H,I.tok _,⟨_,rfl⟩,q⟩
end
end L2
namespace L2
open PySem PySem.Spec PyProof.Rows
structure ObjM (h:Heap) (x dx C:Addr) (mA:Str->Option Value):Prop where
 obj:h.get? x = some (instObj C dx)
 ns:h.Ns1 dx mA
 ne:dx ≠ x
theorem sU {h:Heap} {dx:Addr} {mA:Str->Option Value} (n:h.Ns1 dx mA):∃ od,h.get? dx = some od/\∀ name,PySem.W.lookIn name od = some (mA name):=by
 obtain ⟨o,es,ep,ho,hd,hk,_,hm⟩:=n
 refine ⟨o,ho,fun name=>?_⟩
 have e:=hm name
 unfold nsFind findBy at e
 rw [<- Array.find?_toList] at e
 unfold PySem.W.lookIn
 rw [hd]
 dsimp only
 split
 ·rename_i y q
  rw [q] at e
  exact congrArg some e
 ·rename_i q
  rw [q] at e
  have a:es.toList.any (·.refKey) = false:=by
   rw [List.any_eq_false]
   intro y hy
   obtain ⟨z,t,hkey⟩:=hk y (Array.mem_toList_iff.mp hy)
   simp [DictEntry.refKey,hkey]
  have a':¬ es.toList.any (·.refKey) = true:=by rw [a]; exact Bool.false_ne_true
  rw [if_neg a']
  exact congrArg some e
theorem ObjM.look {h:Heap} {x dx C:Addr} {mA:Str->Option Value} (I:ObjM h x dx C mA):∃ od,PySem.W.InstAt h x (instObj C dx) C (some od)/\∀ name,PySem.W.lookIn name od = some (mA name) :=
 let ⟨od,ho,hl⟩:=sU I.ns
 ⟨od,⟨I.obj,rfl,rfl,ho⟩,hl⟩
section
variable {prog:Program} {w:World} {A:Around} {E:Value->Shared->Prop} {s:Shared} {K:Frag} {x dx C f:Addr} {mA:Str->Option Value} {name:Str} {v:Value}
theorem get_map {expr:Bool} {Q:Value->Shared->Prop} (X:K.In s.heap) (I:ObjM s.heap x dx C mA) (hg:plainGet K C name = true) (hh:hasDictIn K C = true)
  (ha:findIn K (.ref C) name = some none) (hv:mA name = some v) (hv':PySem.W.handedIn v = true) (h:Q v { s with toks:=s.toks + 1 }) :
  wpAny (model prog w) A (getAttr (.ref x) name expr) Q E s:=by
 obtain ⟨od,J,hl⟩:=I.look
 exact PySem.W.get_value X J (PySem.W.plainGet_of hg).1 (PySem.W.findObj_own hh ha rfl (by rw [hl,hv])) hv' h
theorem get_meth {pl:Sem Bool} {Q:Value × List Value->Shared->Prop} (X:K.In s.heap) (I:ObjM s.heap x dx C mA) (hg:plainGet K C name = true)
  (hf:findIn K (.ref C) name = some (some (.ref f))) (ht:isFn K (.ref f) = true) (hv:mA name = none) (h:Q (.ref f,[.ref x]) s) :
  wpAny (model prog w) A (getMethod (.ref x) name pl) Q E s:=by
 obtain ⟨od,J,hl⟩:=I.look
 exact PySem.W.method_fn X J (PySem.W.plainGet_of hg).1 (PySem.W.plainGet_of hg).2 hf (beq_iff_eq.mp ht) (by show (PySem.W.lookIn name od).map (·.isSome) = some false; rw [hl,hv]; rfl) h
theorem set_map {ns:List Str} {Q:Unit->Shared->Prop} (X:K.In s.heap) (I:ObjM s.heap x dx C mA)
  (hs:findIn K (.ref C) "__setattr__" = some (some (.builtin "object.__setattr__"))) (hp:plainOver K C = true) (ht:PySem.W.takerIn K C name = some none) (hh:hasDictIn K C = true)
  (hw:PySem.Within mA ns) (hsz:ns.length<=sizeLine)
  (h:∀ h',ObjM h' x dx C (fun y=>if y = name then some v else mA y)->Heap.SameBut dx s.heap h'->Q () { s with heap:=h',toks:=s.toks + 2 }) :
  wpAny (model prog w) A (setAttr (.ref x) name v) Q E s:=by
 obtain ⟨od,J,hl⟩:=I.look
 refine PySem.W.set_plain X J hs (PySem.W.osa_open (s:={ s with toks:=s.toks + 1 }) (r:=none) X J hp ht fun b=>?_)
 obtain ⟨cd,hc,hd'⟩:=PySem.W.any_some hh
 have hx:s.heap.get? x = some ⟨.ref C,some dx,.plain,#[]⟩:=I.obj
 refine wpAny_bind (wpAny_pure (wpAny_bind (wpAny_bind (wpAny_loadPart hx (wpAny_bind (PySem.W.Looks.here (s:={ s with toks:=s.toks + 1 }) (PySem.W.looks_clsIn X hc) ?_))))))
 rw [hd']
 refine wpAny_pure (a:=some dx) (wpAny_bind (wpAny_pure (wpAny_bind ?_)))
 refine wpAny_nsSet1 (s:={ s with toks:=s.toks + 1 }) I.ns fun h' hn2 hs2=>?_
 obtain ⟨oD,esD,epD,hoD,hdD,hcD⟩:=hn2.count (PySem.Within.cons name v hw)
 refine wpAny_bind (wpAny_lookBehind hoD (by rw [hdD]; exact pastItsLine_dict (Nat.le_trans hcD (by rw [List.length_cons]; omega))) ?_)
 exact wpAny_pure (h _ ⟨(hs2.2 _ (Ne.symm I.ne)).trans I.obj,hn2,I.ne⟩ hs2)
theorem make_map {R:Result->Shared->Prop} {vs:List Value} {kw:List (Str × Value)} (X:K.In s.heap) (hm:makesIn K C = true)
  (hi:findIn K (.ref C) "__init__" = some (some (.ref f))) (hf:typeIn K (.ref f) = some (.type "function"))
  (h:codeAny (model prog w) (A.under (.builtin "type.__call__" ⟨.ref C :: vs,kw⟩)) (.call (.ref f) ⟨.ref (s.heap.objs.size + 1) :: vs,kw⟩) (PySem.W.InitBack (s.heap.objs.size + 1) R)
   { s with heap:=(s.heap.push PySem.W.emptyDict).push (instObj C s.heap.objs.size) }) :
  codeAny (model prog w) A (.call (.ref C) ⟨vs,kw⟩) R s:=by
 obtain ⟨hh,g,d,t,os⟩:=s
 exact PySem.W.make_core (PySem.W.makes_of X hm) (PySem.W.looks_findIn X hi) (fun self=>PySem.W.bind_fn X self hf) (.inl rfl) h
end
def m4 (f:Str) (v:V):List (Str × V)->List (Str × V)
 | []=>[(f,v)]
 | (g,x) :: r=>if g = f then (g,v) :: r else (g,x) :: m4 f v r
theorem iP (f g:Str) (v:V):∀ fs:List (Str × V),(m4 f v fs).lookup g = if g = f then some v else fs.lookup g
 | []=>by
  show List.lookup g [(f,v)] = _
  by_cases h:g = f
  ·have hb:(g == f) = true:=beq_iff_eq.mpr h
   simp only [List.lookup,hb,if_pos h]
  ·have hb:(g == f) = false:=beq_eq_false_iff_ne.mpr h
   simp only [List.lookup,hb,if_neg h]
 | (k,x) :: r=>by
  have ih:=iP f g v r
  rw [show m4 f v ((k,x) :: r) = (if k = f then (k,v) :: r else (k,x) :: m4 f v r) from rfl]
  by_cases hk:k = f
  ·rw [if_pos hk]
   by_cases h:g = k
   ·have hb:(g == k) = true:=beq_iff_eq.mpr h
    simp only [List.lookup,hb,if_pos (h.trans hk)]
   ·have hb:(g == k) = false:=beq_eq_false_iff_ne.mpr h
    simp only [List.lookup,hb,if_neg (fun e:g = f=>h (e.trans hk.symm))]
  ·rw [if_neg hk]
   by_cases h:g = k
   ·have hb:(g == k) = true:=beq_iff_eq.mpr h
    simp only [List.lookup,hb,if_neg (fun e:g = f=>hk (h.symm.trans e))]
   ·have hb:(g == k) = false:=beq_eq_false_iff_ne.mpr h
    simp only [List.lookup,hb]
    exact ih
theorem iQ (f:Str) (v:V):∀ fs:List (Str × V),f ∈ (m4 f v fs).map (·.1)/\∀ g,g ∈ fs.map (·.1)->g ∈ (m4 f v fs).map (·.1)
 | []=>⟨by simp [m4],fun g h=>by simp at h⟩
 | (k,x) :: r=>by
  obtain ⟨i1,i2⟩:=iQ f v r
  rw [show m4 f v ((k,x) :: r) = (if k = f then (k,v) :: r else (k,x) :: m4 f v r) from rfl]
  by_cases hk:k = f
  ·rw [if_pos hk]
   subst hk
   exact ⟨by simp,fun g h=>by simpa using h⟩
  ·rw [if_neg hk]
   refine ⟨?_,fun g h=>?_⟩
   ·rw [List.map_cons]
    exact List.mem_cons_of_mem _ i1
   ·rw [List.map_cons] at h ⊢
    rcases List.mem_cons.mp h with e | e
    ·exact List.mem_cons.mpr (.inl e)
    ·exact List.mem_cons_of_mem _ (i2 g e)
theorem ju (f:Str) (v:V):∀ fs:List (Str × V),(m4 f v fs).length<=fs.length + 1
 | []=>by simp [m4]
 | (k,x) :: r=>by
  have ih:=ju f v r
  rw [show m4 f v ((k,x) :: r) = (if k = f then (k,v) :: r else (k,x) :: m4 f v r) from rfl]
  by_cases hk:k = f
  ·rw [if_pos hk,List.length_cons,List.length_cons]; omega
  ·rw [if_neg hk,List.length_cons,List.length_cons]; omega
theorem RelO.some_of {v:V} {o:Option Value} (r:RelO (some v) o):∃ u,o = some u/\RelV v u:=by
 cases o with
 | none=>exact (show False from r).elim
 | some u=>exact ⟨u,rfl,r⟩
theorem RelO.none_of {o:Option Value} (r:RelO none o):o = none:=by
 cases o with
 | none=>rfl
 | some u=>exact (show False from r).elim
theorem qN {v:V} {u:Value} (r:RelV v u):PySem.W.handedIn u = true:=by
 cases v with
 | non=>cases (show u = Value.none from r); rfl
 | bl b=>cases (show u = Value.bool b from r); rfl
 | int i=>obtain ⟨t,e⟩:=(show ∃ t,u = Value.int i t from r); cases e; rfl
 | str x=>obtain ⟨t,e⟩:=(show ∃ t,u = Value.str x t from r); cases e; rfl
 | byt b=>obtain ⟨t,e⟩:=(show ∃ t,u = Value.bytes b t from r); cases e; rfl
 | flt b=>obtain ⟨t,e⟩:=(show ∃ t,u = Value.float b t from r); cases e; rfl
 | ref a=>cases (show u = Value.ref a from r); rfl
 | ty n=>cases (show u = Value.type n from r); rfl
section
variable {P:Program} {w:World} {H H':Hp} {h h':Heap} {a C dx:Addr} {fs fs':List (Str × V)}
theorem kA (hok:HOk P w H h) (e:H a = some (.ins C dx fs)):∃ mA,ObjM h a dx C mA/\(∀ f,RelO (fs.lookup f) (mA f))/\PySem.Within mA (fs.map (·.1))/\fs.length<=1000/\H dx = some (.own a):=by
 obtain ⟨d,z,ne,ob,mA,n,r,q⟩:=(show ObjOk P w H h a (.ins C dx fs) from hok a _ e)
 exact ⟨mA,⟨ob,n,ne⟩,r,q,z,d⟩
end
structure Cls (K:Frag) (C:Addr):Prop where
 pg:plainGet K C Str.empty = true
 hd:hasDictIn K C = true
 po:plainOver K C = true
 sa:findIn K (.ref C) "__setattr__" = some (some (.builtin "object.__setattr__"))
theorem Cls.get {K:Frag} {C:Addr} (c:Cls K C) (f:Str):plainGet K C f = true:=c.pg
def NoAttr (K:Frag) (C:Addr) (f:Str):Prop:=findIn K (.ref C) f = some none
theorem NoAttr.taker {K:Frag} {C:Addr} {f:Str} (n:NoAttr K C f):PySem.W.takerIn K C f = some none:=by
 unfold PySem.W.takerIn
 rw [show findIn K (.ref C) f = some none from n]
 rfl
structure Meth (K:Frag) (C:Addr) (m:Str) (f:Addr):Prop where
 at_:findIn K (.ref C) m = some (some (.ref f))
 fn:isFn K (.ref f) = true
 kp:keepIn K (.ref f) = true
section
variable {X:Cx} {pins:List (Addr × Obj)} {σ:St} {H:Hp} {s:Shared} {a C dx:Addr} {fs:List (Str × V)} {f:Str} {v:V} {A:Around} {E:Value->Shared->Prop}
theorem pX {b:Bool} {Q:Value->Shared->Prop} (I:Inv X pins σ H s) (e:H a = some (.ins C dx fs)) (c:Cls X.K C) (n:NoAttr X.K C f) (l:fs.lookup f = some v)
  (h:∀ u s',Inv X pins σ H s'->RelV v u->Q u s'):wpAny (model X.prog X.w) A (getAttr (.ref a) f b) Q E s:=by
 obtain ⟨mA,O,r,_,_,_⟩:=kA I.hok e
 obtain ⟨u,hu,ru⟩:=RelO.some_of (v:=v) (o:=mA f) (by rw [<- l]; exact r f)
 exact get_map I.kIn O (c.get f) c.hd n hu (qN ru) (h u _ (I.tok _) ru)
theorem kl {m:Str} {g:Addr} {pl:Sem Bool} {Q:Value × List Value->Shared->Prop} (I:Inv X pins σ H s) (e:H a = some (.ins C dx fs)) (c:Cls X.K C) (k:Meth X.K C m g) (l:fs.lookup m = none)
  (h:Q (.ref g,[.ref a]) s):wpAny (model X.prog X.w) A (getMethod (.ref a) m pl) Q E s:=by
 obtain ⟨mA,O,r,_,_,_⟩:=kA I.hok e
 have hn:mA m = none:=RelO.none_of (by rw [<- l]; exact r m)
 exact get_meth I.kIn O (c.get m) k.at_ k.fn hn h
theorem qb {y:V} {u:Value} {Q:Unit->Shared->Prop} (I:Inv X pins σ H s) (e:H a = some (.ins C dx fs)) (c:Cls X.K C) (n:NoAttr X.K C f) (hl:fs.length < 1000) (ry:RelV y u)
  (h:∀ s',Inv X pins σ (upd H a (.ins C dx (m4 f y fs))) s'->Q () s'):wpAny (model X.prog X.w) A (setAttr (.ref a) f u) Q E s:=by
 obtain ⟨mA,O,r,wi,_,ho⟩:=kA I.hok e
 have hz:(fs.map (·.1)).length<=sizeLine:=by rw [List.length_map,sizeLine_eq]; omega
 refine set_map I.kIn O c.sa c.po n.taker c.hd wi hz fun h' O' sb=>h _ ?_
 have hd:∃ o,h'.get? dx = some o:=let ⟨o,_,_,e',_⟩:=O'.ns; ⟨o,e'⟩
 refine I.write (x:=a) (e:=dx) (by rw [e]; exact True.intro) (.inr ho) (fun b q hb z=>(sb.2 b hb).trans z) hd ?_
 refine ⟨by rw [ao O.ne]; exact ho,?_,O.ne,O'.obj,_,O'.ns,fun g=>?_,fun g hg=>?_⟩
 ·have:=ju f y fs; omega
 ·show RelO ((m4 f y fs).lookup g) (if g = f then some u else mA g)
  rw [iP]
  by_cases q:g = f
  ·rw [if_pos q,if_pos q]; exact ry
  ·rw [if_neg q,if_neg q]; exact r g
 ·by_cases q:g = f
  ·rw [q]; exact (iQ f y fs).1
  ·refine (iQ f y fs).2 g (wi g fun z=>hg ?_)
   show (if g = f then some u else mA g) = none
   rw [if_neg q]; exact z
theorem Inv.made (I:Inv X pins σ H s):Inv X pins σ (upd (upd H s.heap.objs.size (.own (s.heap.objs.size + 1))) (s.heap.objs.size + 1) (.ins C s.heap.objs.size []))
  { s with heap:=(s.heap.push PySem.W.emptyDict).push (instObj C s.heap.objs.size) }:=by
 have e1:(s.heap.push PySem.W.emptyDict).get? s.heap.objs.size = some PySem.W.emptyDict:=Heap.get?_push_size s.heap rfl
 have e2:((s.heap.push PySem.W.emptyDict).push (instObj C s.heap.objs.size)).get? (s.heap.objs.size + 1) = some (instObj C s.heap.objs.size):=by
  have:=Heap.get?_push_size (s.heap.push PySem.W.emptyDict) (o:=instObj C s.heap.objs.size) rfl
  rwa [Heap.size_push] at this
 have e3:(s.heap.push PySem.W.emptyDict).Ns s.heap.objs.size (fun _=>none):=⟨PySem.W.emptyDict,#[],_,e1,rfl,(fun e he=>absurd he (by simp)),fun _=>rfl⟩
 have I1:=I.laid (a:=s.heap.objs.size) (o:=.own (s.heap.objs.size + 1)) (h':=s.heap.push PySem.W.emptyDict) (t':=s.toks) (fun b u q=>Heap.get?_push_of_some _ q) (Nat.le_refl _) ⟨_,e1⟩
 refine I1.laid (a:=s.heap.objs.size + 1) (o:=.ins C s.heap.objs.size []) (t':=s.toks) (fun b u q=>Heap.get?_push_of_some _ q) (Nat.le_of_eq (Heap.size_push _ _)) ?_
 have ne:s.heap.objs.size ≠ s.heap.objs.size + 1:=Nat.ne_of_lt (Nat.lt_succ_self _)
 refine ⟨by rw [ao ne,ae],Nat.zero_le _,ne,e2,fun _=>none,(Heap.Ns1.of_empty e3).at fun o q=>Heap.get?_push_of_some _ q,fun _=>True.intro,fun y hy=>absurd rfl hy⟩
theorem attr_of {prog:Program} {w:World} {env:Env} {e:Expr} {f:Str} {pos:Pos} {s:Shared} {Q:Value->Shared->Prop} (hb:attributeBase e f env (eval e env) = eval e env)
  (h:wpAny (model prog w) A (eval e env) (fun o s₁=>wpAny (model prog w) A (getAttr o f true) Q E s₁) E s):wpAny (model prog w) A (eval (.Attribute e f pos) env) Q E s :=
 Attribute_any_ h (by rw [arm_eval_Attribute,hb])
end
def tFld (K:Frag) (ta:TE) (f:Str):TE:=fun σ H Q=>ta σ H fun x H1=>∃ a C dx fs v,x = .ref a/\H1 a = some (.ins C dx fs)/\Cls K C/\NoAttr K C f/\fs.lookup f = some v/\Q v H1
def sFld (K:Frag) (ta tv:TE) (f:Str):TS:=fun D σ H=>tv σ H fun y H1=>ta σ H1 fun x H2=>∃ a C dx fs,x = .ref a/\H2 a = some (.ins C dx fs)/\Cls K C/\NoAttr K C f/\fs.length < 1000 /\
 D.nx σ (upd H2 a (.ins C dx (m4 f y fs)))
section
variable {X:Cx} {o e value:Expr} {f:Str} {pos pos' tpos:Pos} {ta tv:TE}
theorem aw (he:PE X e ta) (hb:attributeBase e f X.env (eval e X.env) = eval e X.env):PE X (.Attribute e f pos) (tFld X.K ta f):=by
 intro pins s σ H Q I h
 refine attr_of hb (thn (he pins s σ H _ I h) fun u s1 ⟨x,H1,I1,rx,a,C,dx,fs,v,ex,ea,c,n,l,q⟩=>?_)
 subst ex
 obtain rfl:u = Value.ref a:=rx
 exact pX I1 ea c n l fun u' s2 I2 ru=>⟨v,H1,I2,ru,q⟩
theorem bo (ha:PE X o ta) (hv:PE X value tv) (hs:swapsWith value (some (.Attribute o f pos')) pos.line X.env = pure false):PS X (.Assign [.Attribute o f pos'] value pos) (sFld X.K ta tv f):=by
 intro pins s σ H D I h
 refine plainObj_wpAny_Assign_Attribute (thn (hv pins s σ H _ I h) fun u s1 ⟨y,H1,I1,ry,q⟩=>thn (ha pins s1 σ H1 _ I1 q) fun ov s2 ⟨x,H2,I2,rx,a,C,dx,fs,ex,ea,c,n,l,q2⟩=>?_) hs
 subst ex
 obtain rfl:ov = Value.ref a:=rx
 exact qb I2 ea c n l ry fun s3 I3=>⟨σ,_,I3,q2⟩
end
section
variable {X:Cx} {pins:List (Addr × Obj)} {σ:St} {H:Hp} {s:Shared} {A:Around} {E:Value->Shared->Prop} {Q:Value->Shared->Prop} {c:Value} {b:Bool}
inductive TyOf (K:Frag) (H:Hp):V->Value->Prop where
 | non:TyOf K H .non (.type "NoneType")
 | bl (x:Bool):TyOf K H (.bl x) (.type "bool")
 | int (i:Int):TyOf K H (.int i) (.type "int")
 | str (x:Str):TyOf K H (.str x) (.type "str")
 | flt (x:UInt64):TyOf K H (.flt x) (.type "float")
 | lst {a:Addr} {xs:List V} (e:H a = some (.lst xs)):TyOf K H (.ref a) (.type "list")
 | frz {a:Addr} {o:Obj} {xs:List V} (e:H a = some (.frz o (.lst xs))):TyOf K H (.ref a) (.type "list")
 | tup {a:Addr} {xs:List V} (e:H a = some (.tup xs)):TyOf K H (.ref a) (.type "tuple")
 | dK {a:Addr} {kvs:List (Key × V)} (e:H a = some (.dK kvs)):TyOf K H (.ref a) (.type "dict")
 | dT {a:Addr} {kvs:List (List Key × V)} (e:H a = some (.dT kvs)):TyOf K H (.ref a) (.type "dict")
 | ins {a C dx:Addr} {fs:List (Str × V)} (e:H a = some (.ins C dx fs)) (cl:Cls K C) (ha:findIn K (.ref C) "__class__" = some (some (.builtin "object.__class__")))
   (hn:PySem.W.specialIn K (.builtin "object.__class__") "__get__" = some (some (.builtin "getset_descriptor.__get__"))) (htk:PySem.W.takesIn K (.builtin "object.__class__") = some true)
   (hm:mroIn K C (.type "object") = some true):TyOf K H (.ref a) (.ref C)
theorem r8 {x:V} {u t:Value} (I:Inv X pins σ H s) (rx:RelV x u) (ty:TyOf X.K H x t) (e:kitOne X.K t c = some b) (h:∀ tk,Q (.bool b) { s with toks:=tk }) :
  wpAny (model X.prog X.w) A (call (.builtin "isinstance") [u,c]) Q E s:=by
 cases ty with
 | non=>cases (show u = Value.none from rx); exact PySem.W.kia_one PySem.W.kitx_none I.kIn True.intro e (fun z=>nomatch z) h
 | bl y=>cases (show u = Value.bool y from rx); exact PySem.W.kia_one PySem.W.kitx_bool I.kIn True.intro e (fun z=>nomatch z) h
 | int i=>obtain ⟨t,q⟩:=(show ∃ t,u = Value.int i t from rx); cases q; exact PySem.W.kia_one PySem.W.kitx_int I.kIn True.intro e (fun z=>nomatch z) h
 | str y=>obtain ⟨t,q⟩:=(show ∃ t,u = Value.str y t from rx); cases q; exact PySem.W.kia_one PySem.W.kitx_str I.kIn True.intro e (fun z=>nomatch z) h
 | flt y=>obtain ⟨t,q⟩:=(show ∃ t,u = Value.float y t from rx); cases q; exact PySem.W.kia_one PySem.W.kitx_float I.kIn True.intro e (fun z=>nomatch z) h
 | @lst a xs ea =>
  cases (show u = Value.ref a from rx)
  obtain ⟨_,_,n,_,h1⟩:=(show ObjOk X.prog X.w H s.heap a (.lst xs) from I.hok a _ ea)
  exact PySem.W.kia_one PySem.W.kitx_list I.kIn ⟨_,h1,rfl⟩ e (fun z=>nomatch z) h
 | @frz a ob xs ea =>
  cases (show u = Value.ref a from rx)
  obtain ⟨_,_,_,n,_,h1⟩:=(show ObjOk X.prog X.w H s.heap a (.frz ob (.lst xs)) from I.hok a _ ea)
  exact PySem.W.kia_one PySem.W.kitx_list I.kIn ⟨_,h1,rfl⟩ e (fun z=>nomatch z) h
 | @tup a xs ea =>
  cases (show u = Value.ref a from rx)
  obtain ⟨_,_,_,p⟩:=(show ObjOk X.prog X.w H s.heap a (.tup xs) from I.hok a _ ea)
  obtain ⟨o,h1,h2,_⟩:=p
  exact PySem.W.kia_one PySem.W.kitx_tuple I.kIn ⟨o,h1,h2⟩ e (fun z=>nomatch z) h
 | @dK a kvs ea =>
  cases (show u = Value.ref a from rx)
  obtain ⟨_,_,vs,_,p⟩:=(show ObjOk X.prog X.w H s.heap a (.dK kvs) from I.hok a _ ea)
  obtain ⟨o,es,ep,h1,h2,_⟩:=p
  exact PySem.W.kia_one PySem.W.kitx_dict I.kIn ⟨o,h1,h2.1⟩ e (fun z=>nomatch z) h
 | @dT a kvs ea =>
  cases (show u = Value.ref a from rx)
  obtain ⟨_,_,xs,_,o,es,ep,h1,h2,_⟩:=(show ObjOk X.prog X.w H s.heap a (.dT kvs) from I.hok a _ ea)
  exact PySem.W.kia_one PySem.W.kitx_dict I.kIn ⟨o,h1,h2.1⟩ e (fun z=>nomatch z) h
 | @ins a C dx fs ea cl ha hn htk hm =>
  cases (show u = Value.ref a from rx)
  obtain ⟨mA,O,_⟩:=kA I.hok ea
  obtain ⟨od,J,_⟩:=O.look
  exact PySem.W.kia_one (PySem.W.kitx_own (cl.get _) cl.hd ha hn htk hm) I.kIn J e (fun z=>nomatch z) h
end
end L2
namespace L2
open PySem PySem.Spec PyProof.Rows
structure Room (k:Nat) (A:Around):Prop where
 hd:A.handled = none
 dp:A.depth + 3 * k + 5 < recursionLimit
 un:A.units + 16 * k + 200 < cLine
 gd:A.guards = some []
theorem Room.mono {j k:Nat} {A:Around} (r:Room k A) (h:j<=k):Room j A:=⟨r.hd,by have:=r.dp; omega,by have:=r.un; omega,r.gd⟩
theorem Room.deeper {k:Nat} {A:Around} (r:Room (k + 1) A) (env:Env):Room k (A.deeper env) :=
 ⟨r.hd,by have:=r.dp; show A.depth + 1 + 3 * k + 5 < _; omega,by have:=r.un; show A.units + 3 + 16 * k + 200 < _; omega,r.gd⟩
theorem qm {A:Around} {C:Addr} {us:List Value} {kw:List (Str × Value)}:(A.under (.builtin "type.__call__" ⟨.ref C :: us,kw⟩)).depth = A.depth + 1:=by
 first | rfl | simp [Around.under,Code.weight,Code.isCreation,Code.isGuard,Code.isCaller,Code.frames,Code.isFrame,guardIds]
theorem qk {A:Around} {C:Addr} {us:List Value} {kw:List (Str × Value)}:(A.under (.builtin "type.__call__" ⟨.ref C :: us,kw⟩)).units = A.units + 1:=by
 first | rfl | simp [Around.under,Code.cUnits,Code.frames,Code.isFrame]
theorem Room.make {k:Nat} {A:Around} (r:Room (k + 1) A) (C:Addr) (us:List Value) (kw:List (Str × Value)):Room k (A.under (.builtin "type.__call__" ⟨.ref C :: us,kw⟩)) :=
 ⟨r.hd,by have:=r.dp; rw [qm]; omega,by have:=r.un; rw [qk]; omega,r.gd⟩
theorem Room.depth {k:Nat} {A:Around} (r:Room k A):A.depth < recursionLimit:=by have:=r.dp; omega
theorem Room.units {k:Nat} {A:Around} (r:Room k A):A.units + 64 < cLine:=by have:=r.un; omega
def tNil:TA:=fun _ H Q=>Q [] H
def tCons (ta:TE) (tr:TA):TA:=fun σ H Q=>ta σ H fun x H1=>tr σ H1 fun xs H2=>Q (x :: xs) H2
section
variable {X:Cx} {e:Expr} {es:List Expr} {te:TE} {t:TA} {pos:Pos}
theorem ag:PA X [] tNil:=fun _ _ _ _ H Q I h=>Calls.spliced_nil ⟨[],H,I,.nil,h⟩
theorem aa (ha:PE X e te) (hr:PA X es t) (hs:starEach (e :: es) X.env = (false,eval e X.env) :: starEach es X.env:=by rfl):PA X (e :: es) (tCons te t):=by
 intro pos pins s σ H Q I h
 rw [hs]
 show wpAny _ _ (spliced ((false,eval e X.env) :: backTo pos (starEach es X.env))) _ _ s
 refine Calls.spliced_cons (thn (ha pins s σ H _ I h) fun u s1 ⟨x,H1,I1,r1,q1⟩=>?_)
 exact thn (hr pos pins s1 σ H1 _ I1 q1) fun us s2 ⟨xs,H2,I2,r2,q2⟩=>⟨x :: xs,H2,I2,.cons r1 r2,q2⟩
def tTup (t:TA):TE:=fun σ H Q=>t σ H fun xs H1=>xs.length<=sizeLine/\∀ p,H1 p = none->Q (.ref p) (upd H1 p (.tup xs))
def tLst (t:TA):TE:=fun σ H Q=>t σ H fun xs H1=>xs.length<=sizeLine/\∀ p,H1 p = none->Q (.ref p) (upd H1 p (.lst xs))
theorem cD {x1} (h:PA X es t):PE X (.Tuple es x1 pos) (tTup t):=by
 intro pins s σ H Q I hq
 refine wpAny_Tuple_spliced (thn (h pos pins s σ H _ I hq) fun us s1 ⟨xs,H1,I1,r,z,q⟩=>⟨by rw [<- r.length]; exact z,?_⟩)
 have hf:H1 s1.heap.objs.size = none:=I1.hok.fresh (Nat.le_refl _)
 refine ⟨.ref s1.heap.objs.size,upd H1 s1.heap.objs.size (.tup xs),I1.laid (t':=s1.toks) (fun b u e=>Heap.get?_push_of_some _ e) (Nat.le_refl _) ?_,rfl,q _ hf⟩
 exact ⟨z,us,r,⟨_,Heap.get?_push_size _ rfl,rfl,_,rfl⟩⟩
theorem aY (h:PA X es t):PE X (.List es pos) (tLst t):=by
 intro pins s σ H Q I hq
 refine wpAny_List_spliced (thn (h pos pins s σ H _ I hq) fun us s1 ⟨xs,H1,I1,r,z,q⟩=>⟨by rw [<- r.length]; exact z,?_⟩)
 have hf:H1 s1.heap.objs.size = none:=I1.hok.fresh (Nat.le_refl _)
 refine ⟨.ref s1.heap.objs.size,upd H1 s1.heap.objs.size (.lst xs),I1.laid (t':=s1.toks) (fun b u e=>Heap.get?_push_of_some _ e) (Nat.le_refl _) ?_,rfl,q _ hf⟩
 exact ⟨z,us,0,r,Heap.get?_push_size _ rfl⟩
end
abbrev Sp:=List V->Hp->VK->XK->Prop
abbrev CXT:=List Env->Hp->Shared->XK->Value->Shared->Prop
structure Env0 (P:Program) (w:World) (K:Frag) (mg:Str->Option Value) (base:Heap) (A:Around) (outer:List Env) (s:Shared) (H:Hp):Prop where
 frames:A.frames = some outer
 mod:Mod K mg base
 bs:∀ b o,base.get? b = some o->s.heap.get? b = some o/\H b = none
 bsz:base.objs.size<=s.heap.objs.size
 funs:s.heap.FunFrames base outer
 frf:∀ b ∈ frs outer,H b = none
 hok:HOk P w H s.heap
 bare:AllBare s.gens
def CE (outer:List Env) (P:Program) (w:World) (H:Hp) (s:Shared) (Q:VK) (u:Value) (s':Shared):Prop :=
 ∃ v H',s'.os = s.os/\AllBare s'.gens/\Un (frs outer) [] H H' s.heap s'.heap/\HOk P w H' s'.heap/\RelV v u/\Q v H'
def CR (CX:CXT) (outer:List Env) (P:Program) (w:World) (H:Hp) (s:Shared) (Q:VK) (E:XK) (r:Result) (s':Shared):Prop :=
 match r with
 | .ok (.ret u)=>CE outer P w H s Q u s'
 | .ok _=>False
 | .error e=>CX outer H s E e s'
structure FnOk (P:Program) (w:World) (K:Frag) (mg:Str->Option Value) (base:Heap) (CX:CXT) (k:Nat) (f:Addr) (fd:FuncData) (ps:List Str) (sp:Sp):Prop where
 len:∀ vs H Q E,sp vs H Q E->vs.length = ps.length
 run:∀ (A:Around) (outer:List Env) (s:Shared) (H:Hp) (args:Args) (us:List Value) (vs:List V) (Q:VK) (E:XK),Room k A->Env0 P w K mg base A outer s H->BindsTo s fd args (ps.zip us)->Vals vs us->sp vs H Q E ->
  codeAny (model P w) A (.call (.ref f) args) (CR CX outer P w H s Q E) s
theorem FnOk.mono {P:Program} {w:World} {K:Frag} {mg:Str->Option Value} {base:Heap} {CX:CXT} {j k:Nat} {f:Addr} {fd:FuncData} {ps:List Str} {sp:Sp} (F:FnOk P w K mg base CX j f fd ps sp) (h:j<=k) :
  FnOk P w K mg base CX k f fd ps sp:=⟨F.len,fun A outer s H args us vs Q E hr=>F.run A outer s H args us vs Q E (hr.mono h)⟩
theorem FnOk.imp {P:Program} {w:World} {K:Frag} {mg:Str->Option Value} {base:Heap} {CX:CXT} {k:Nat} {f:Addr} {fd:FuncData} {ps:List Str} {sp sp':Sp} (F:FnOk P w K mg base CX k f fd ps sp)
  (h:∀ vs H Q E,sp' vs H Q E->sp vs H Q E):FnOk P w K mg base CX k f fd ps sp' :=
 ⟨fun vs H Q E q=>F.len vs H Q E (h _ _ _ _ q),fun A outer s H args us vs Q E hr he hb hv hs=>F.run A outer s H args us vs Q E hr he hb hv (h _ _ _ _ hs)⟩
theorem Env0.make {P:Program} {w:World} {K:Frag} {mg:Str->Option Value} {base:Heap} {A:Around} {outer:List Env} {s:Shared} {H:Hp} (e:Env0 P w K mg base A outer s H) (C:Addr) (us:List Value) (kw:List (Str × Value)) :
  Env0 P w K mg base (A.under (.builtin "type.__call__" ⟨.ref C :: us,kw⟩)) outer s H:=⟨by first | exact e.frames | (simpa [Around.under,Code.envs,Code.isFrame,pushEnvs] using e.frames),e.mod,e.bs,e.bsz,e.funs,e.frf,e.hok,e.bare⟩
section
variable {X:Cx} {pins:List (Addr × Obj)} {σ:St} {H:Hp} {s s':Shared}
theorem Inv.env0 (I:Inv X pins σ H s):Env0 X.prog X.w X.K X.mg X.base X.A X.stack s H :=
 ⟨I.ok.frames,I.ok.mod,I.bs,Nat.le_trans I.ok.bsz I.sz,I.stack,I.stkFree,I.hok,I.bare⟩
theorem Inv.after {Q:VK} {u:Value} (I:Inv X pins σ H s) (h:CE X.stack X.prog X.w H s Q u s'):EP X pins σ Q u s':=by
 obtain ⟨v,H',os,bare,un,hok,r,q⟩:=h
 obtain ⟨hh,g,d,t,os'⟩:=s'
 obtain rfl:os' = s.os:=os
 exact ⟨v,H',I.call (h':=hh) (g':=g) (d':=d) (t':=t) (ch:=[]) un hok bare (fun b z=>absurd z (by simp)),r,q⟩
end
def tCall (sp:Sp) (dvs:List V) (E:XK) (t:TA):TE:=fun σ H Q=>t σ H fun vs H1=>sp (vs ++ dvs) H1 Q E
def tMake (C:Addr) (sp:Sp) (dvs:List V) (E:XK) (t:TA):TE:=fun σ H Q=>t σ H fun vs H1=>∀ x dx,H1 x = none->H1 dx = none->dx ≠ x ->
 sp (.ref x :: (vs ++ dvs)) (upd (upd H1 dx (.own x)) x (.ins C dx [])) (fun v H2=>v = .non/\Q (.ref x) H2) E
def Binds (K:Frag) (fd:FuncData) (ps:List Str) (ds:List Value):Prop :=
 ∀ (s:Shared) (us:List Value),K.In s.heap->(us ++ ds).length = ps.length->BindsTo s fd ⟨us,[]⟩ (ps.zip (us ++ ds))
theorem Binds.all {K:Frag} {fd:FuncData} {ps:List Str} (h:∀ us:List Value,us.length = ps.length->bindArgs fd ⟨us,[]⟩ = pure (ps.zip us)):Binds K fd ps []:=fun s us _ hl=>by
 rw [List.append_nil] at hl ⊢
 exact .of_eq (h us hl)
def jk (CX:CXT) (X:Cx) (E:XK):Prop:=∀ (pins:List (Addr × Obj)) (σ:St) (H:Hp) (s:Shared) (e:Value) (s':Shared),Inv X pins σ H s->CX X.stack H s E e s'->X.xe e s'
section
variable {X:Cx} {CX:CXT} {k:Nat} {f C:Addr} {fd:FuncData} {ps:List Str} {sp:Sp} {dvs:List V} {ds:List Value} {E:XK} {x m:Str} {p pos apos:Pos} {e o:Expr} {es:List Expr} {ta:TE} {t:TA}
theorem pk {pins:List (Addr × Obj)} {σ:St} {H:Hp} {s:Shared} {Q:VK} {us:List Value} {vs:List V} (F:FnOk X.prog X.w X.K X.mg X.base CX k f fd ps sp) (hr:Room k X.A) (hb:Binds X.K fd ps ds) (hd:Vals dvs ds) (hx:jk CX X E)
  (I:Inv X pins σ H s) (r:Vals vs us) (h:sp (vs ++ dvs) H Q E):wpAny (model X.prog X.w) X.A (call (.ref f) us) (EP X pins σ Q) X.xe s:=by
 have r2:Vals (vs ++ dvs) (us ++ ds):=r.append hd
 have hl:(us ++ ds).length = ps.length:=by rw [<- r2.length]; exact F.len _ _ _ _ h
 refine wpAny_call (codeAny_mono (F.run X.A X.stack s H ⟨us,[]⟩ (us ++ ds) (vs ++ dvs) Q E hr I.env0 (hb s us I.kIn hl) r2 h) fun r s' hq=>?_)
 cases r with
 | error e=>exact hx pins σ H s e s' I hq
 | ok fl =>
  cases fl with
  | ret u=>exact I.after hq
  | next=>exact False.elim hq
  | brk=>exact False.elim hq
  | cont=>exact False.elim hq
theorem pe_call (F:FnOk X.prog X.w X.K X.mg X.base CX k f fd ps sp) (hr:Room k X.A) (hg:Gl X x) (hm:X.mg x = some (.ref f)) (hk:keepIn X.K (.ref f) = true) (hb:Binds X.K fd ps ds) (hd:Vals dvs ds) (hx:jk CX X E)
  (ha:PA X (e :: es) t) (hdb:(x == ("__debug__":Str)) = false:=by decide) (he:starEach (e :: es) X.env = (false,eval e X.env) :: starEach es X.env:=by rfl) (hpl:(backTo pos (starEach es X.env)).any (·.1) = false:=by rfl) :
  PE X (.Call (.Name x p) (e :: es) [] pos) (tCall sp dvs E t):=by
 intro pins s σ H Q I h
 refine wpAny_Call_Name_kw (jm I hg hm ?_ hdb)
 refine PySem.W.callWith_K (h₀:=X.base) I.ok.mod.kin hk (thn (ha pos pins s σ H _ I h) fun us s1 ⟨vs,H1,I1,r,q⟩=>⟨I1.kIn,?_⟩) he hpl
 exact pk F hr hb hd hx I1 r q
theorem pe_call0 (F:FnOk X.prog X.w X.K X.mg X.base CX k f fd ps sp) (hr:Room k X.A) (hg:Gl X x) (hm:X.mg x = some (.ref f)) (hk:keepIn X.K (.ref f) = true) (hb:Binds X.K fd ps ds) (hd:Vals dvs ds) (hx:jk CX X E)
  (hdb:(x == ("__debug__":Str)) = false:=by decide):PE X (.Call (.Name x p) [] [] pos) (tCall sp dvs E tNil):=by
 intro pins s σ H Q I h
 refine wpAny_Call_Name_kw (jm I hg hm ?_ hdb)
 exact PySem.W.callWith_K0 I.kIn hk (pk (us:=[]) F hr hb hd hx I .nil h)
structure Mk (K:Frag) (C f:Addr):Prop where
 makes:makesIn K C = true
 init:findIn K (.ref C) "__init__" = some (some (.ref f))
 fn:isFn K (.ref f) = true
 kp:keepIn K (.ref C) = true
theorem pp {pins:List (Addr × Obj)} {σ:St} {H:Hp} {s:Shared} {Q:VK} {us:List Value} {vs:List V} (M:Mk X.K C f) (F:FnOk X.prog X.w X.K X.mg X.base CX k f fd ps sp) (hr:Room (k + 1) X.A) (hb:Binds X.K fd ps ds) (hd:Vals dvs ds)
  (hx:jk CX X E) (I:Inv X pins σ H s) (r:Vals vs us)
  (h:∀ x dx,H x = none->H dx = none->dx ≠ x->sp (.ref x :: (vs ++ dvs)) (upd (upd H dx (.own x)) x (.ins C dx [])) (fun v H2=>v = .non/\Q (.ref x) H2) E) :
  wpAny (model X.prog X.w) X.A (call (.ref C) us) (EP X pins σ Q) X.xe s:=by
 have hq:=h (s.heap.objs.size + 1) s.heap.objs.size (I.hok.fresh (Nat.le_succ _)) (I.hok.fresh (Nat.le_refl _)) (Nat.ne_of_lt (Nat.lt_succ_self _))
 have I2:=Inv.made (C:=C) I
 have r2:Vals (V.ref (s.heap.objs.size + 1) :: (vs ++ dvs)) (Value.ref (s.heap.objs.size + 1) :: (us ++ ds)):=.cons rfl (r.append hd)
 have hl:(Value.ref (s.heap.objs.size + 1) :: us ++ ds).length = ps.length:=by
  have e:=r2.length
  rw [F.len _ _ _ _ hq] at e
  exact e.symm
 refine wpAny_call (make_map (f:=f) I.kIn M.makes M.init (beq_iff_eq.mp M.fn) (codeAny_mono (F.run _ X.stack _ _ ⟨Value.ref (s.heap.objs.size + 1) :: us,[]⟩ (Value.ref (s.heap.objs.size + 1) :: (us ++ ds)) _ _ E (hr.make C us [])
  (I2.env0.make C us []) (hb _ (Value.ref (s.heap.objs.size + 1) :: us) I2.kIn hl) r2 hq) fun r s' hq'=>?_))
 cases r with
 | error e=>exact hx pins σ _ _ e s' I2 hq'
 | ok fl =>
  cases fl with
  | ret u =>
   obtain ⟨v,H',I3,rv,ev,q3⟩:=I2.after hq'
   subst ev
   exact ⟨rv,⟨V.ref (s.heap.objs.size + 1),H',I3,rfl,q3⟩⟩
  | next=>exact False.elim hq'
  | brk=>exact False.elim hq'
  | cont=>exact False.elim hq'
theorem pe_make (M:Mk X.K C f) (F:FnOk X.prog X.w X.K X.mg X.base CX k f fd ps sp) (hr:Room (k + 1) X.A) (hg:Gl X x) (hm:X.mg x = some (.ref C)) (hb:Binds X.K fd ps ds) (hd:Vals dvs ds) (hx:jk CX X E)
  (ha:PA X (e :: es) t) (hdb:(x == ("__debug__":Str)) = false:=by decide) (he:starEach (e :: es) X.env = (false,eval e X.env) :: starEach es X.env:=by rfl) (hpl:(backTo pos (starEach es X.env)).any (·.1) = false:=by rfl) :
  PE X (.Call (.Name x p) (e :: es) [] pos) (tMake C sp dvs E t):=by
 intro pins s σ H Q I h
 refine wpAny_Call_Name_kw (jm I hg hm ?_ hdb)
 refine PySem.W.callWith_K (h₀:=X.base) I.ok.mod.kin M.kp (thn (ha pos pins s σ H _ I h) fun us s1 ⟨vs,H1,I1,r,q⟩=>⟨I1.kIn,?_⟩) he hpl
 exact pp M F hr hb hd hx I1 r q
theorem pe_make0 (M:Mk X.K C f) (F:FnOk X.prog X.w X.K X.mg X.base CX k f fd ps sp) (hr:Room (k + 1) X.A) (hg:Gl X x) (hm:X.mg x = some (.ref C)) (hb:Binds X.K fd ps ds) (hd:Vals dvs ds) (hx:jk CX X E)
  (hdb:(x == ("__debug__":Str)) = false:=by decide):PE X (.Call (.Name x p) [] [] pos) (tMake C sp dvs E tNil):=by
 intro pins s σ H Q I h
 refine wpAny_Call_Name_kw (jm I hg hm ?_ hdb)
 exact PySem.W.callWith_K0 I.kIn M.kp (pp (us:=[]) M F hr hb hd hx I .nil h)
end
section
variable {X:Cx} {CX:CXT} {k:Nat} {f C:Addr} {fd:FuncData} {ps ks:List Str} {sp:Sp} {E:XK} {x m:Str} {p pos apos kpos:Pos} {e o:Expr} {es:List Expr} {kws:List Keyword} {te ta:TE} {t tk:TA} {nm:Option Str}
variable {g:List Value->List Value->List Value} {gV:List V->List V->List V}
end
structure FnScope (N P:List Str) (sc:Scope):Prop where
 kind:sc.kind = .function
 co:sc.isCoroutine = false
 gen:sc.isGenerator = false
 nd:N.Nodup
 pre:N.take P.length = P
 par:∀ x ∈ P,sc.names.lookup x = some .local\/sc.names.lookup x = some .cell
 nofree:∀ y ∈ sc.names,y.2 ≠ .free
theorem mB {kindOf:Str->Option NameKind} {x:Str}:∀ {binds:List (Str × Value)} {m:Str->Option Value},(∀ v,(x,v) ∉ binds)->bindL kindOf binds m x = m x
 | [],_,_=>rfl
 | (n,v) :: r,m,h=>by
  unfold bindL
  rw [mB fun w hw=>h w (List.mem_cons_of_mem _ hw)]
  split
  ·have:x ≠ n:=by rintro rfl; exact h v List.mem_cons_self
   simp [this]
  ·rfl
theorem mJ {kindOf:Str->Option NameKind} {x:Str}:∀ {binds:List (Str × Value)} {m:Str->Option Value},(∀ v,(x,v) ∉ binds)->bindC kindOf binds m x = m x
 | [],_,_=>rfl
 | (n,v) :: r,m,h=>by
  unfold bindC
  rw [mJ fun w hw=>h w (List.mem_cons_of_mem _ hw)]
  split
  ·rfl
  ·have:x ≠ n:=by rintro rfl; exact h v List.mem_cons_self
   simp [this]
theorem lZ {kindOf:Str->Option NameKind} {x:Str} {v:Value}:∀ {P:List Str} {vs:List Value} {i:Nat} {m:Str->Option Value},P.Nodup->P[i]? = some x->vs[i]? = some v->kindOf x = some .local ->
  bindL kindOf (P.zip vs) m x = some v
 | [],_,_,_,_,h,_,_=>by simp at h
 | _ :: _,[],_,_,_,_,h,_=>by simp at h
 | p :: P,w :: vs,0,m,nd,h1,h2,hk=>by
  simp at h1 h2; subst h1; subst h2
  show bindL kindOf ((p,w) :: P.zip vs) m p = _
  unfold bindL
  rw [mB fun v hv=>(List.nodup_cons.mp nd).1 (List.of_mem_zip hv).1,if_pos hk]
  simp
 | p :: P,w :: vs,i + 1,m,nd,h1,h2,hk=>by
  show bindL kindOf ((p,w) :: P.zip vs) m x = _
  unfold bindL
  exact lZ (i:=i) (List.nodup_cons.mp nd).2 (by simpa using h1) (by simpa using h2) hk
theorem mY {kindOf:Str->Option NameKind} {x:Str} {v:Value}:∀ {P:List Str} {vs:List Value} {i:Nat} {m:Str->Option Value},P.Nodup->P[i]? = some x->vs[i]? = some v->kindOf x ≠ some .local ->
  bindC kindOf (P.zip vs) m x = some v
 | [],_,_,_,_,h,_,_=>by simp at h
 | _ :: _,[],_,_,_,_,h,_=>by simp at h
 | p :: P,w :: vs,0,m,nd,h1,h2,hk=>by
  simp at h1 h2; subst h1; subst h2
  show bindC kindOf ((p,w) :: P.zip vs) m p = _
  unfold bindC
  rw [mJ fun v hv=>(List.nodup_cons.mp nd).1 (List.of_mem_zip hv).1,if_neg hk]
  simp
 | p :: P,w :: vs,i + 1,m,nd,h1,h2,hk=>by
  show bindC kindOf ((p,w) :: P.zip vs) m x = _
  unfold bindC
  exact mY (i:=i) (List.nodup_cons.mp nd).2 (by simpa using h1) (by simpa using h2) hk
def lW (N:List Str) (vs:List V):St:=vs.map some ++ List.replicate (N.length - vs.length) none
def cxOf (CX:CXT) (P:Program) (w:World) (K:Frag) (mg:Str->Option Value) (base:Heap) (N:List Str) (qual:Str) (scope:Scope) (f:Addr) (cd:Value) (A:Around) (outer:List Env) (s:Shared) (H:Hp) (E:XK):Cx where
 prog:=P
 w:=w
 K:=K
 mg:=mg
 base:=base
 A:=A.deeper (envOfC qual scope s.heap.objs.size f cd)
 N:=N
 s₀:=s
 H₀:=H
 env:=envOfC qual scope s.heap.objs.size f cd
 outer:=outer
 stack:=envOfC qual scope s.heap.objs.size f cd :: outer
 ex:=[]
 calm:=true
 fn:=fun _=>true
 pn:=[]
 xe:=fun e s'=>wpAny (model P w) (A.deeper (envOfC qual scope s.heap.objs.size f cd)) (leaving (envOfC qual scope s.heap.objs.size f cd) e) (fun _ s''=>CX outer H s E e s'') (fun e' s''=>CX outer H s E e' s'') s'
theorem pF {sc:Scope} {n:Nat} {x:Str} (h:sc.names.lookup x = some .cell):∃ c,(cellsFrom n sc.names []).lookup x = some c:=by
 have q:=PySem.W.cellsFrom_some sc.names n [] (.inl h)
 exact Option.isSome_iff_exists.mp q
theorem qI {CX:CXT} {P:Program} {w:World} {K:Frag} {mg:Str->Option Value} {base:Heap} {N ps:List Str} {qual:Str} {scope:Scope} {f:Addr} {cd:Value} {A:Around} {outer:List Env} {s s1:Shared} {H:Hp} {E:XK} {us:List Value} {vs:List V}
  (S:FnScope N ps scope) (hd:A.handled = none) (e0:Env0 P w K mg base A outer s H) (hl:vs.length = ps.length) (r:Vals vs us)
  (x:InCallC s s.heap.objs.size (bindL (envOfC qual scope s.heap.objs.size f cd).kindOf (ps.zip us) fun _=>none) (cellsFrom (s.heap.objs.size + 1) scope.names []) (bindC (envOfC qual scope s.heap.objs.size f cd).kindOf (ps.zip us) fun _=>none) s1) :
  Inv (cxOf CX P w K mg base N qual scope f cd A outer s H E) [] (lW N vs) H s1:=by
 have hpl:ps.length<=N.length:=by have:=congrArg List.length S.pre; rw [List.length_take] at this; omega
 obtain ⟨h1,tk,rfl,hk⟩:=x.done
 have noA:∀ b:Addr,b ∉ (cxOf CX P w K mg base N qual scope f cd A outer s H E).ex:=fun b z=>absurd (show b ∈ ([]:List Addr) from z) (by simp)
 refine ⟨⟨e0.mod,S.kind,rfl,rfl,Nat.le_refl _,fun y z c h1 h2=>?_,fun y hy=>?_,fun y c _ h=>?_,fun _=>hd,Around.frames_deeper e0.frames,.inr ⟨rfl,rfl⟩,fun b z=>absurd z (noA b),e0.bs,e0.bsz,fun b _ _=>noA b,fun b z=>absurd z (noA b),e0.funs,e0.frf⟩,
  rfl,e0.bare,Un.kept hk,⟨_,x.toInCall.ns,fun i y v h1 h2 h3=>?_⟩,fun y c h=>⟨_,x.cell y c h⟩,e0.hok.fresh (Nat.le_refl _),fun y c h=>?_,fun p hp=>absurd (show p ∈ ([]:List (Addr × Obj)) from hp) (by simp),e0.hok.kept hk,?_⟩
 ·exact name_of_addr x.apart (PySem.mem_of_lookup h1) (PySem.mem_of_lookup h2)
 ·have hy:scope.names.lookup y = some .cell\/scope.names.lookup y = some .free:=hy
  rcases hy with hy | hy
  ·exact pF hy
  ·exact absurd rfl (S.nofree _ (PySem.mem_of_lookup hy))
 ·exact Nat.le_of_lt (x.above y c (PySem.mem_of_lookup h))
 ·have hi:i < vs.length:=by
   unfold lW at h2
   by_cases hi:i < vs.length
   ·exact hi
   ·rw [List.getElem?_append_right (by simpa using hi)] at h2
    rw [List.getElem?_replicate] at h2
    split at h2 <;> cases h2
  have ha:vs[i]? = some v:=by
   unfold lW at h2
   rw [List.getElem?_append_left (by simpa using hi),List.getElem?_map] at h2
   cases e:vs[i]? with
   | none=>rw [e] at h2; cases h2
   | some a=>rw [e] at h2; cases h2; rfl
  obtain ⟨u,hu,rv⟩:=r.get ha
  have hp:ps[i]? = some y:=by
   rw [<- S.pre,List.getElem?_take_of_lt (by omega)]; exact h1
  have ndP:ps.Nodup:=by rw [<- S.pre]; exact S.nd.sublist (List.take_sublist _ _)
  refine ⟨u,rv,?_⟩
  rcases S.par y (List.mem_of_getElem? hp) with k | k
  ·exact .inl ⟨k,lZ ndP hp hu k⟩
  ·obtain ⟨c,e⟩:=pF (n:=s.heap.objs.size + 1) k
   refine .inr ⟨.inl k,c,e,?_⟩
   have q:=x.cell y c e
   rw [mY ndP hp hu (by show scope.names.lookup y ≠ _; rw [k]; decide)] at q
   exact q
 ·exact e0.hok.fresh (Nat.le_of_lt (x.above y c (PySem.mem_of_lookup h)))
 ·unfold lW
  show _ = N.length
  rw [List.length_append,List.length_map,List.length_replicate]
  omega
theorem fn_of {CX:CXT} {P:Program} {w:World} {K:Frag} {mg:Str->Option Value} {base:Heap} {k:Nat} {f:Addr} {name qual:Str} {params:Arguments} {body:List Stmt} {scope:Scope} {dV kV doc pm cdv ct oc:Value} {an od:Option Addr}
  {osl:Array (Option Value)} {N ps:List Str} {sp:Sp} (lk:K.lookup f = some ⟨oc,od,.func (fnOf name qual params body scope dV kV doc pm an cdv ct),osl⟩) (hcd:codeIn K cdv qual = true) (S:FnScope N ps scope)
  (len:∀ vs H Q E,sp vs H Q E->vs.length = ps.length)
  (hbody:∀ (A:Around) (outer:List Env) (s:Shared) (H:Hp) (vs:List V) (Q:VK) (E:XK),Room k (A.deeper (envOfC qual scope s.heap.objs.size f cdv))->sp vs H Q E ->
   ∃ t,PSs (cxOf CX P w K mg base N qual scope f cdv A outer s H E) body t/\t { nx:=fun _ H'=>Q .non H',rt:=Q } (lW N vs) H) :
  FnOk P w K mg base CX (k + 1) f (fnOf name qual params body scope dV kV doc pm an cdv ct) ps sp:=by
 refine ⟨len,fun A outer s H args us vs Q E hr e0 hb r hsp=>?_⟩
 have hl:=len _ _ _ _ hsp
 have KX:K.In s.heap:=e0.mod.kin.keeps fun b o e=>(e0.bs b o e).1
 have lim:s.heap.NoLimit:=e0.mod.nolimit.keeps fun b o e=>(e0.bs b o e).1
 have hkind:∀ y ∈ ps.zip us,scope.names.lookup y.1 = some .local\/(scope.names.lookup y.1 = some .cell/\((cellsFrom (s.heap.objs.size + 1) scope.names []).lookup y.1).isSome = true):=fun ⟨n,v⟩ hy=>by
  rcases S.par n (List.of_mem_zip hy).1 with q | q
  ·exact .inl q
  ·exact .inr ⟨q,PySem.W.cellsFrom_some _ _ _ (.inl q)⟩
 refine codeAny_call_function hr.depth (KX _ _ lk) rfl S.co S.gen rfl (PySem.W.codeRec_of KX hcd) (hb _ _ _ _ ?_)
 refine wpAny_newFunctionEnv_cells S.kind hkind fun env he s1 x=>?_
 subst he
 refine ⟨lim.keeps x.toInCall.keep,codeAny_func ?_⟩
 obtain ⟨t,ht,hq⟩:=hbody A outer s H vs Q E (hr.deeper _) hsp
 have I:Inv (cxOf CX P w K mg base N qual scope f cdv A outer s H E) [] (lW N vs) H s1:=qI S hr.hd e0 hl r x
 refine wpAny_mono (ht [] s1 (lW N vs) H _ I hq) (fun fl s' hs=>?_) fun e s' hs=>hs
 have fin:∀ {σ':St} {H':Hp} {v:V} {u:Value},Inv (cxOf CX P w K mg base N qual scope f cdv A outer s H E) [] σ' H' s'->RelV v u->Q v H'->CE outer P w H s Q u s' :=
  fun {σ' H' v u} J rv q=>⟨v,H',J.os,J.bare,J.base,J.hok,rv,q⟩
 cases fl with
 | ret u =>
  obtain ⟨v,σ',H',J,rv,q⟩:=hs
  exact fin J rv q
 | next =>
  obtain ⟨σ',H',J,q⟩:=hs
  exact fin (v:=V.non) (u:=Value.none) J rfl q
 | brk =>
  obtain ⟨_,_,_,q⟩:=hs
  exact False.elim q
 | cont =>
  obtain ⟨_,_,_,q⟩:=hs
  exact False.elim q
end L2
namespace L2
open PySem PySem.Spec PyProof.Rows
section
variable {X:Cx} {x:Str} {p pos:Pos} {e:Expr} {es:List Expr} {t:TA} {id T:String} {r:List V->Hp->VK->Prop}
def tCB (r:List V->Hp->VK->Prop) (t:TA):TE:=fun σ H Q=>t σ H fun vs H1=>r vs H1 Q
theorem aE (hc:fq X (.builtin id) r) (hg:Gl X x) (hm:X.mg x = none) (hv:bootBuiltins x = some (.builtin id)) (ha:PA X (e :: es) t) (hn:x ≠ "__name__":=by decide) (hdb:(x == ("__debug__":Str)) = false:=by decide)
  (he:starEach (e :: es) X.env = (false,eval e X.env) :: starEach es X.env:=by rfl) (hpl:(backTo pos (starEach es X.env)).any (·.1) = false:=by rfl):PE X (.Call (.Name x p) (e :: es) [] pos) (tCB r t):=by
 intro pins s σ H Q I h
 refine wpAny_Call_Name_kw (ka I hg hm hv ?_ hn hdb)
 exact PyProof.Rows.callWith_builtin1 (thn (ha pos pins s σ H _ I h) fun us s1 ⟨vs,H1,I1,r1,q1⟩=>hc pins s1 σ H1 vs us Q I1 r1 q1) he hpl
theorem cS (hc:fq X (.type T) r) (hg:Gl X x) (hm:X.mg x = none) (hv:bootBuiltins x = some (.type T)) (ha:PA X (e :: es) t) (hn:x ≠ "__name__":=by decide) (hdb:(x == ("__debug__":Str)) = false:=by decide)
  (he:starEach (e :: es) X.env = (false,eval e X.env) :: starEach es X.env:=by rfl) (hpl:(backTo pos (starEach es X.env)).any (·.1) = false:=by rfl):PE X (.Call (.Name x p) (e :: es) [] pos) (tCB r t):=by
 intro pins s σ H Q I h
 refine wpAny_Call_Name_kw (ka I hg hm hv ?_ hn hdb)
 exact PyProof.Rows.callWith_type1 (thn (ha pos pins s σ H _ I h) fun us s1 ⟨vs,H1,I1,r1,q1⟩=>hc pins s1 σ H1 vs us Q I1 r1 q1) he hpl
end
end L2
namespace HT
open PySem PyProof.Rows
section
open PySem.SeqAt
open PySem.AutoSeq1 (wpAny_loadPart')
open PySem.MeetsSeq PySem.MeetsSeq2 PySem.MeetsSeq3
end
section
variable {prog:Program} {w:World} {A:Around} {E:Value->Shared->Prop} {s:Shared}
def sIx (n d:Nat):Option Int->Nat
 | none=>d
 | some v=>if v < 0 then (v + (n:Int)).toNat else min v.toNat n
theorem sIx_none (n d:Nat):sIx n d none = d:=rfl
theorem sIx_nat (n d k:Nat):sIx n d (some (k:Int)) = min k n:=by
 show (if (k:Int) < 0 then ((k:Int) + (n:Int)).toNat else min (k:Int).toNat n) = min k n
 rw [if_neg (by omega),Int.toNat_natCast]
end
end HT
namespace L2
open PySem PySem.Spec PyProof.Rows
abbrev TO:=St->Hp->(Option Int->Hp->Prop)->Prop
def PO (X:Cx) (e:Option Expr) (t:TO):Prop :=
 ∀ (pins:List (Addr × Obj)) (s:Shared) (σ:St) (H:Hp) (Q:Option Int->Hp->Prop),Inv X pins σ H s->t σ H Q ->
  wpAny (model X.prog X.w) X.A (evalPart e X.env) (fun u s'=>∃ o H',Inv X pins σ H' s'/\IsPart u o/\Q o H') X.xe s
def tNoPart:TO:=fun _ H Q=>Q none H
def tPart (t:TE):TO:=fun σ H Q=>t σ H fun x H1=>∃ i,x = .int i/\Q (some i) H1
section
variable {X:Cx} {e:Expr} {te:TE} {lo hi:Option Expr} {tl th:TO} {pos p2:Pos}
theorem po_none:PO X none tNoPart:=by
 intro pins s σ H Q I h
 rw [evalPart_none]
 exact wpAny_pure ⟨none,H,I,.none,h⟩
theorem po_some (h:PE X e te):PO X (some e) (tPart te):=by
 intro pins s σ H Q I hw
 rw [evalPart_some]
 refine thn (h pins s σ H _ I hw) fun u s1 ⟨x,H1,I1,r1,q1⟩=>?_
 obtain ⟨i,rfl,q⟩:=q1
 obtain ⟨t,rfl⟩:=r1
 exact ⟨some i,H1,I1,.int i t,q⟩
def SlR (X:Cx) (r:V->Option Int->Option Int->Hp->VK->Prop):Prop :=
 ∀ (pins:List (Addr × Obj)) (s:Shared) (σ:St) (H:Hp) (x:V) (v vl vu:Value) (lo hi:Option Int) (sl:Addr) (Q:VK),Inv X pins σ H s->RelV x v->s.heap.IsSliceOf sl vl vu .none->IsPart vl lo->IsPart vu hi->r x lo hi H Q ->
  ∃ T id,typeLookup (.type T) "__getitem__" = pure (some (.builtin id))/\s.TypeIs v T/\wpAny (model X.prog X.w) X.A (getItem v (.ref sl)) (EP X pins σ Q) X.xe s
def tSl (r:V->Option Int->Option Int->Hp->VK->Prop) (te:TE) (tl th:TO):TE:=fun σ H Q=>te σ H fun x H1=>tl σ H1 fun l H2=>th σ H2 fun u H3=>r x l u H3 Q
theorem pe_slice {r:V->Option Int->Option Int->Hp->VK->Prop} (hr:SlR X r) (he:PE X e te) (hl:PO X lo tl) (hu:PO X hi th):PE X (.Subscript e (.Slice lo hi none p2) pos) (tSl r te tl th):=by
 intro pins s σ H Q I h
 refine Subscript_ (thn (he pins s σ H _ I h) fun v s1 ⟨x,H1,I1,r1,q1⟩=>?_)
 refine wpAny_Slice (thn (hl pins s1 σ H1 _ I1 q1) fun vl s2 ⟨l,H2,I2,pl,q2⟩=>thn (hu pins s2 σ H2 _ I2 q2) fun vu s3 ⟨u,H3,I3,pu,q3⟩=>?_)
 rw [evalPart_none]
 refine wpAny_pure ?_
 have I4:Inv X pins σ H3 { s3 with heap:=s3.heap.push { cls:=.type "slice",data:=.fields #[vl,vu,.none] } }:=I3.kept (t':=s3.toks) fun b ob q=>Heap.get?_push_of_some _ q
 obtain ⟨T,id,hT,ht,hg⟩:=hr pins { s3 with heap:=s3.heap.push { cls:=.type "slice",data:=.fields #[vl,vu,.none] } } σ H3 x v vl vu l u s3.heap.objs.size Q I4 r1 (Heap.IsSliceOf.new ..) pl pu q3
 show wpAny (model X.prog X.w) X.A (subscriptTail e (.Slice lo hi none p2) v (.ref s3.heap.objs.size)) (EP X pins σ Q) X.xe { s3 with heap:=s3.heap.push { cls:=.type "slice",data:=.fields #[vl,vu,.none] } }
 exact tail_any (ops:=[.ref s3.heap.objs.size,v]) ht hT hg (by with_unfolding_all rfl)
def cutV (xs:List V) (lo hi:Option Int):List V:=(xs.drop (HT.sIx xs.length 0 lo)).take (HT.sIx xs.length xs.length hi - HT.sIx xs.length 0 lo)
theorem ol (xs:List V) (lo hi:Option Int):(cutV xs lo hi).length<=xs.length:=by
 unfold cutV
 rw [List.length_take,List.length_drop]
 omega
end
end L2
namespace L2
open PySem PySem.Spec PyProof.Rows
def ixN (n:Nat) (i:Int):Option Nat:=if 0<=i then (if i < n then some i.toNat else none) else if -(n:Int)<=i then some (i + n).toNat else none
def atI {α:Type} (xs:List α) (i:Int):Option α:=(ixN xs.length i).bind fun j=>xs[j]?
theorem qD {n:Nat} {i:Int} {j:Nat} (h:ixN n i = some j):seqIndex? i n = some j/\j < n/\-(n:Int)<=i/\i < n:=by
 unfold ixN at h
 by_cases h0:0<=i
 ·rw [if_pos h0] at h
  by_cases h1:i < n
  ·rw [if_pos h1] at h
   have e:i.toNat = j:=Option.some.inj h
   exact ⟨by rw [seqIndex_of h0 h1,e],by omega,by omega,h1⟩
  ·rw [if_neg h1] at h; cases h
 ·rw [if_neg h0] at h
  by_cases h1:-(n:Int)<=i
  ·rw [if_pos h1] at h
   have e:(i + n).toNat = j:=Option.some.inj h
   exact ⟨by rw [seqIndex_neg (by omega) h1,e],by omega,h1,by omega⟩
  ·rw [if_neg h1] at h; cases h
theorem ou {α:Type} {xs:List α} {i:Int} {v:α} (h:atI xs i = some v):∃ j,seqIndex? i xs.length = some j/\xs[j]? = some v/\j < xs.length/\-(xs.length:Int)<=i/\i < xs.length:=by
 unfold atI at h
 cases e:ixN xs.length i with
 | none=>rw [e] at h; cases h
 | some j =>
  rw [e] at h
  obtain ⟨h1,h2,h3,h4⟩:=qD e
  exact ⟨j,h1,h,h2,h3,h4⟩
theorem fL {α:Type} {xs:List α} {j:Nat} {v:α} (h:xs[j]? = some v):atI xs (j:Int) = some v:=by
 have hj:j < xs.length:=(List.getElem?_eq_some_iff.mp h).1
 have e:ixN xs.length (j:Int) = some j:=by
  unfold ixN
  rw [if_pos (by omega),if_pos (by omega)]; simp
 unfold atI; rw [e]; exact h
def PlainIx (b:Expr):Prop:=∀ o i,subscripted b false o i = operate [o,i] (getItem o i)
def IxR (X:Cx) (r:R2):Prop :=
 ∀ (value slice:Expr) (pins:List (Addr × Obj)) (s:Shared) (σ:St) (H:Hp) (x y:V) (v u:Value) (Q:VK),Inv X pins σ H s->RelV x v->RelV y u->r x y H Q ->
  subscripted slice false v u = operate [v,u] (getItem v u)->wpAny (model X.prog X.w) X.A (subscriptTail value slice v u) (EP X pins σ Q) X.xe s
def MtR (X:Cx) (id:String) (r:V->List V->Hp->VK->Prop):Prop :=
 ∀ (pins:List (Addr × Obj)) (s:Shared) (σ:St) (H:Hp) (x:V) (xs:List V) (v:Value) (us:List Value) (Q:VK),Inv X pins σ H s->RelV x v->Vals xs us->r x xs H Q ->
  wpAny (model X.prog X.w) X.A (call (.builtin id) (v :: us)) (EP X pins σ Q) X.xe s
section
variable {X:Cx} {a b:Expr} {ta tb:TE} {pos:Pos}
theorem aN {r:R2} (hr:IxR X r) (ha:PE X a ta) (hb:PE X b tb) (hs:PlainIx b):PE X (.Subscript a b pos) (tOp r ta tb):=by
 intro pins s σ H Q I h
 exact Subscript_ (binT ha hb I h fun v u s2 x y H2 I2 rx ry q=>hr a b pins s2 σ H2 x y v u Q I2 rx ry q (hs _ _))
def rIxL (K:Frag):R2:=fun x y H Q=>∃ p xs i v,x = .ref p/\y = .int i/\SqL K H p xs/\atI xs i = some v/\Q v H
def rIxT (K:Frag):R2:=fun x y H Q=>∃ p xs i v,x = .ref p/\y = .int i/\SqT K H p xs/\atI xs i = some v/\Q v H
def rIxS:R2:=fun x y H Q=>∃ z i c,x = .str z/\y = .int i/\z.length<=sizeLine/\atI z.cps.toList i = some c/\Q (.str ⟨#[c]⟩) H
theorem aC:IxR X (rIxL X.K):=by
 intro value slice pins s σ H x y v u Q I rx ry h hs
 obtain ⟨p,xs,i,z,rfl,rfl,hq,he,q⟩:=h
 cases rx
 obtain ⟨t,rfl⟩:=ry
 obtain ⟨its,r,pl,hz⟩:=I.list hq
 obtain ⟨j,h1,h2,h3,h4,h5⟩:=ou he
 obtain ⟨w,ew,rw'⟩:=r.get h2
 have hl:=r.length
 have hn:=ki
 have fin:EP X pins σ Q w s:=⟨z,H,I,rw',q⟩
 by_cases h0:0<=i
 ·have hj:i.toNat = j:=by
   rw [seqIndex_of h0 h5] at h1
   exact Option.some.inj h1
  exact item_listR pl.isList h0 (by omega) (by rw [hj]; simpa using ew) fin hs
 ·have hj:(i + (its.toArray.size:Int)).toNat = j:=by
   rw [seqIndex_neg (by omega) h4] at h1
   rw [List.size_toArray,<- hl]
   exact Option.some.inj h1
  exact subscriptTail_builtinR (x:=w) pl.isList.typeIs slot_list_getitem.lookup
   (wpAny_getItem_list_neg (Q:=fun r s'=>r = w/\EP X pins σ Q r s') pl.isList (by omega) (by rw [List.size_toArray] <;> omega) (by omega) (by rw [hj]; simpa using ew) ⟨rfl,fin⟩) hs
theorem qS:IxR X (rIxT X.K):=by
 intro value slice pins s σ H x y v u Q I rx ry h hs
 obtain ⟨p,xs,i,z,rfl,rfl,hq,he,q⟩:=h
 cases rx
 obtain ⟨t,rfl⟩:=ry
 obtain ⟨its,r,pl,hz⟩:=I.tuple hq
 obtain ⟨j,h1,h2,h3,h4,h5⟩:=ou he
 obtain ⟨w,ew,rw'⟩:=r.get h2
 have hl:=r.length
 have hn:=ki
 have fin:EP X pins σ Q w s:=⟨z,H,I,rw',q⟩
 exact subscriptTail_builtinR (x:=w) pl.typeIs slot_tuple_getitem.lookup
  (getItem_tuple (j:=j) (Q:=fun r s'=>r = w/\EP X pins σ Q r s') pl (by omega) (by omega) (by rw [List.size_toArray,<- hl]; exact h1) (by simpa using ew) ⟨rfl,fin⟩) hs
theorem ix_str:IxR X rIxS:=by
 intro value slice pins s σ H x y v u Q I rx ry h hs
 obtain ⟨z,i,c,rfl,rfl,hz,he,q⟩:=h
 obtain ⟨t,rfl⟩:=rx
 obtain ⟨t',rfl⟩:=ry
 obtain ⟨j,h1,h2,h3,h4,h5⟩:=ou he
 have hl:z.cps.toList.length = z.length:=by simp [Str.length]
 rw [hl] at h1 h4 h5
 have hn:=ki
 exact tail_any (typeIs_str s z t) slot_str_getitem.lookup (getItem_str (c:=c) (by
  have e1:decide (i < -(2 ^ 63:Int)) = false:=decide_eq_false (by omega)
  have e2:decide (i ≥ 2 ^ 63) = false:=decide_eq_false (by omega)
  rw [e1,e2,Bool.or_false]) (by rw [h1]; simpa using h2) ⟨.str ⟨#[c]⟩,H,I.tok _,⟨_,rfl⟩,q⟩) hs
theorem p5 (its:List Value) (n j:Nat) (u:Value):Obj.mapSeq (·.setIfInBounds j u) { cls:=.type "list",data:=.seq its.toArray n } = { cls:=.type "list",data:=.seq (its.set j u).toArray n }:=by
 simp [Obj.mapSeq]
theorem Inv.lst {pins:List (Addr × Obj)} {σ:St} {H:Hp} {s:Shared} {p:Addr} {xs:List V} (I:Inv X pins σ H s) (h:H p = some (.lst xs)) :
  ∃ (its:List Value) (n:Nat),Vals xs its/\s.heap.get? p = some { cls:=.type "list",data:=.seq its.toArray n }/\xs.length<=sizeLine:=by
 obtain ⟨z,its,n,r,e⟩:=I.hok p _ h
 exact ⟨its,n,r,e,z⟩
theorem Inv.lstUpd {pins:List (Addr × Obj)} {σ:St} {H:Hp} {s:Shared} {p:Addr} {xs ys:List V} {its its':List Value} {n n':Nat} {f:Obj->Obj} (I:Inv X pins σ H s) (h:H p = some (.lst xs))
  (ho:s.heap.get? p = some { cls:=.type "list",data:=.seq its.toArray n }) (hf:f { cls:=.type "list",data:=.seq its.toArray n } = { cls:=.type "list",data:=.seq its'.toArray n' }) (r:Vals ys its') (hz:ys.length<=sizeLine) (t:Nat) :
  Inv X pins σ (upd H p (.lst ys)) { s with heap:=s.heap.update p f,toks:=t }:=by
 have e:(s.heap.update p f).get? p = some { cls:=.type "list",data:=.seq its'.toArray n' }:=by
  rw [Heap.get?_update_self f ho (by rw [hf] <;> rfl),hf]
 refine I.write (x:=p) (e:=p) (by rw [h]; trivial) (.inl rfl) (fun b u hb q=>(Heap.get?_update_other _ _ (Ne.symm hb)).trans q) ⟨_,e⟩ ?_
 exact ⟨hz,its',n',r,e⟩
def rSetL:V->V->V->Hp->(Hp->Prop)->Prop:=fun o i v H Q=>∃ p xs k j,o = .ref p/\i = .int k/\H p = some (.lst xs)/\ixN xs.length k = some j/\Q (upd H p (.lst (xs.set j v)))
theorem o6:PSet X rSetL:=by
 intro pins s σ H o i v ov iv u Q I ro ri rv h
 obtain ⟨p,xs,k,j,rfl,rfl,hp,hj,q⟩:=h
 cases ro
 obtain ⟨t,rfl⟩:=ri
 obtain ⟨its,n,r,ho,hz⟩:=I.lst hp
 obtain ⟨h1,h2,h3,h4⟩:=qD hj
 have hl:=r.length
 have hn:=ki
 have I':Inv X pins σ (upd H p (.lst (xs.set j v))) { s with heap:=s.heap.update p (Obj.mapSeq (·.setIfInBounds j u)) } :=
  I.lstUpd hp ho (p5 its n j u) (r.set rv j) (by rw [List.length_set]; exact hz) s.toks
 by_cases h0:0<=k
 ·have hk:k.toNat = j:=by
   rw [seqIndex_of h0 h4] at h1
   exact Option.some.inj h1
  exact PySem.W.ki_setAt ho h0 (by omega) (by rw [List.size_toArray,<- hl]; exact h4) (by rw [hk]; exact ⟨_,I',q⟩)
 ·have hk:(k + (its.toArray.size:Int)).toNat = j:=by
   rw [seqIndex_neg (by omega) h3] at h1
   rw [List.size_toArray,<- hl]
   exact Option.some.inj h1
  exact PySem.W.ki_setBack ho (by omega) (by rw [List.size_toArray,<- hl]; exact h3) (by omega) (by rw [hk]; exact ⟨_,I',q⟩)
theorem mf (lo hi:Option Int) (n:Nat):(sliceBounds lo hi none n).1 = ((HT.sIx n 0 lo:Nat):Int)/\(sliceBounds lo hi none n).2.1 = ((HT.sIx n n hi:Nat):Int)/\(sliceBounds lo hi none n).2.2 = 1:=by
 refine ⟨?_,?_,rfl⟩
 ·cases lo with
  | none=>simp [sliceBounds,HT.sIx]
  | some i =>
   simp only [sliceBounds,HT.sIx,Option.getD_none,show (1:Int) > 0 by decide,if_true]
   by_cases h:i < 0
   ·simp only [h,if_true] <;> omega
   ·simp only [h,if_false] <;> omega
 ·cases hi with
  | none=>simp [sliceBounds,HT.sIx]
  | some i =>
   simp only [sliceBounds,HT.sIx,Option.getD_none,show (1:Int) > 0 by decide,if_true]
   by_cases h:i < 0
   ·simp only [h,if_true] <;> omega
   ·simp only [h,if_false] <;> omega
theorem kL (its:List Value) (lo hi:Option Int):slicePick its.toArray lo hi none = ((its.drop (HT.sIx its.length 0 lo)).take (HT.sIx its.length its.length hi - HT.sIx its.length 0 lo)).toArray:=by
 obtain ⟨h1,h2,h3⟩:=mf lo hi its.toArray.size
 unfold slicePick
 rw [h1,h2,h3]
 simp only [sliceRange_one,pick_run,List.size_toArray] <;> rfl
def rSlL (K:Frag):V->Option Int->Option Int->Hp->VK->Prop:=fun x lo hi H Q=>∃ a xs,x = .ref a/\SqL K H a xs/\∀ p,H p = none->Q (.ref p) (upd H p (.lst (cutV xs lo hi)))
theorem sl_list:SlR X (rSlL X.K):=by
 intro pins s σ H x v vl vu lo hi sl Q I rx hs pl pu h
 obtain ⟨a,xs,rfl,hx,q⟩:=h
 cases rx
 obtain ⟨its,r,ht,hz⟩:=I.list hx
 have hlen:=r.length
 refine ⟨"list",_,slot_list_getitem.lookup,ht.isList.typeIs,?_⟩
 refine wpAny_getItem_list_slice ht.isList hs pl pu .none (by simp) ?_ (by rw [List.size_toArray] <;> omega)
 rw [kL,<- hlen]
 refine ⟨.ref s.heap.objs.size,_,I.laid (t':=s.toks) (o:=.lst (cutV xs lo hi)) (fun b ob q=>Heap.get?_push_of_some _ q) (Nat.le_refl _) ?_,rfl,q _ (I.hok.fresh (Nat.le_refl _))⟩
 exact ⟨Nat.le_trans (ol xs lo hi) hz,_,0,(r.drop (HT.sIx xs.length 0 lo)).take (HT.sIx xs.length xs.length hi - HT.sIx xs.length 0 lo),Heap.get?_push_size _ rfl⟩
def fK:V->Bool
 | .non=>true
 | .bl _=>true
 | .int _=>true
 | .str _=>true
 | _=>false
def eqV:V->V->Bool
 | .non,.non=>true
 | .bl a,.bl b=>a == b
 | .bl a,.int b=>(if a then 1 else 0) == b
 | .int a,.bl b=>a == (if b then 1 else 0)
 | .int a,.int b=>a == b
 | .str a,.str b=>a == b
 | _,_=>false
theorem qH {A:Around} {s:Shared} {y x:V} {u v:Value} (ry:RelV y u) (rx:RelV x v) (fy:fK y = true) (fx:fK x = true):SeqAt.EqAt A s u v (eqV y x):=by
 cases y with
 | non =>
  cases ry
  cases x with
  | non=>cases rx; exact SeqAt.EqAt.same _
  | bl b=>cases rx; exact SeqAt.EqAt.none_bool b
  | int b=>obtain ⟨t,rfl⟩:=rx; exact SeqAt.EqAt.none_int b t
  | str b=>obtain ⟨t,rfl⟩:=rx; exact SeqAt.EqAt.none_str b t
  | _=>exact absurd (show false = true from fx) Bool.false_ne_true
 | bl a =>
  cases ry
  cases x with
  | non=>cases rx; exact SeqAt.EqAt.bool_none a
  | bl b=>cases rx; exact SeqAt.EqAt.bool_bool a b
  | int b=>obtain ⟨t,rfl⟩:=rx; exact SeqAt.EqAt.bool_int a b t
  | str b=>obtain ⟨t,rfl⟩:=rx; exact SeqAt.EqAt.bool_str a b t
  | _=>exact absurd (show false = true from fx) Bool.false_ne_true
 | int a =>
  obtain ⟨t',rfl⟩:=ry
  cases x with
  | non=>cases rx; exact SeqAt.EqAt.int_none a t'
  | bl b=>cases rx; exact SeqAt.EqAt.int_bool a t' b
  | int b=>obtain ⟨t,rfl⟩:=rx; exact SeqAt.EqAt.int_int a t' b t
  | str b=>obtain ⟨t,rfl⟩:=rx; exact SeqAt.EqAt.int_str a t' b t
  | _=>exact absurd (show false = true from fx) Bool.false_ne_true
 | str a =>
  obtain ⟨t',rfl⟩:=ry
  cases x with
  | non=>cases rx; exact SeqAt.EqAt.str_none a t'
  | bl b=>cases rx; exact SeqAt.EqAt.str_bool a t' b
  | int b=>obtain ⟨t,rfl⟩:=rx; exact SeqAt.EqAt.str_int a t' b t
  | str b=>obtain ⟨t,rfl⟩:=rx; exact SeqAt.EqAt.str_str a t' b t
  | _=>exact absurd (show false = true from fx) Bool.false_ne_true
 | _=>exact absurd (show false = true from fy) Bool.false_ne_true
def eqU (x:V) (u:Value):Bool:=match u with
 | .none=>eqV .non x
 | .bool b=>eqV (.bl b) x
 | .int i _=>eqV (.int i) x
 | .str z _=>eqV (.str z) x
 | _=>false
theorem eqU_of {x y:V} {u:Value} (r:RelV y u) (f:fK y = true):eqU x u = eqV y x:=by
 cases y with
 | non=>cases r; rfl
 | bl b=>cases r; rfl
 | int i=>obtain ⟨t,rfl⟩:=r; rfl
 | str z=>obtain ⟨t,rfl⟩:=r; rfl
 | _=>exact absurd (show false = true from f) Bool.false_ne_true
theorem nX {x:V}:∀ {xs:List V} {us:List Value},Vals xs us->xs.all fK = true->us.any (eqU x) = xs.any fun y=>eqV y x
 | _,_,.nil,_=>rfl
 | y :: xs,u :: us,.cons r t,f=>by
  rw [List.all_cons,Bool.and_eq_true] at f
  rw [List.any_cons,List.any_cons,eqU_of r f.1,nX t f.2]
theorem kD {A:Around} {s:Shared} {x:V} {v:Value} (rx:RelV x v) (fx:fK x = true):∀ {xs:List V} {us:List Value},Vals xs us->xs.all fK = true->∀ u ∈ us,SeqAt.EqAt A s u v (eqU x u)
 | _,_,.nil,_=>fun u hu=>by cases hu
 | y :: xs,u :: us,.cons r t,f=>fun u' hu=>by
  rw [List.all_cons,Bool.and_eq_true] at f
  rcases List.mem_cons.mp hu with rfl | hu
  ·rw [eqU_of r f.1]; exact qH r rx f.1 fx
  ·exact kD rx fx t f.2 u' hu
def inV (x:V) (xs:List V):Bool:=xs.any fun y=>eqV y x
def rIn (K:Frag) (neg:Bool):R2:=fun x y H Q=>∃ p xs,y = .ref p/\(SqL K H p xs\/SqT K H p xs)/\fK x = true/\xs.all fK = true/\Q (.bl (if neg then !inV x xs else inV x xs)) H
theorem lU:OpR X (compareOp .In) (rIn X.K false):=by
 intro pins s σ H x y v u Q I rx ry h
 obtain ⟨p,xs,rfl,hq,fx,fs,q⟩:=h
 cases ry
 rcases hq with hq | hq
 ·obtain ⟨its,r,pl,hz⟩:=I.list hq
  refine SeqAt.in_listAt (eqU x) pl.isList (fun w hw=>kD rx fx r fs w (by simpa using hw)) ⟨.bl _,H,I,rfl,?_⟩
  rw [show its.toArray.any (eqU x) = its.any (eqU x) by simp,nX r fs]
  exact q
 ·obtain ⟨its,r,pl,hz⟩:=I.tuple hq
  refine SeqAt.in_tupleAt (eqU x) pl (fun w hw=>kD rx fx r fs w (by simpa using hw)) ⟨.bl _,H,I,rfl,?_⟩
  rw [show its.toArray.any (eqU x) = its.any (eqU x) by simp,nX r fs]
  exact q
theorem mL:OpR X (compareOp .NotIn) (fun x y H Q=>∃ i j,x = .str i/\y = .str j/\Q (.bl (!(!(Builtin.Str.occurrences j i 0 j.length 1).isEmpty))) H):=by
 intro pins s σ H x y v u Q I rx ry h
 obtain ⟨i,j,rfl,rfl,q⟩:=h
 obtain ⟨t,rfl⟩:=rx
 obtain ⟨t',rfl⟩:=ry
 exact notIn_str ⟨.bl _,H,I,rfl,q⟩
theorem bn:fq X (.builtin "len") (fun xs H Q=>∃ p ys,xs = [.ref p]/\(SqL X.K H p ys\/SqT X.K H p ys)/\Q (.int ys.length) H):=by
 intro pins s σ H xs us Q I r h
 obtain ⟨p,ys,rfl,hq,q⟩:=h
 obtain ⟨u,rfl,rx⟩:=mT r
 cases rx
 have hn:=ki
 rcases hq with hq | hq
 ·obtain ⟨its,r',pl,hz⟩:=I.list hq
  have hlen:=r'.length
  exact Calls.call_len_list pl.isList (by simp only [List.size_toArray] <;> omega) ⟨.int ys.length,H,I.tok _,⟨s.toks + 1,by rw [List.size_toArray,hlen]⟩,q⟩
 ·obtain ⟨its,r',pl,hz⟩:=I.tuple hq
  have hlen:=r'.length
  exact len_tuple pl (by simp only [List.size_toArray] <;> omega) ⟨.int ys.length,H,I.tok _,⟨s.toks + 1,by rw [List.size_toArray,hlen]⟩,q⟩
theorem h8:fq X (.builtin "len") (fun xs H Q=>∃ z,xs = [.str z]/\z.length<=sizeLine/\Q (.int z.length) H):=by
 intro pins s σ H xs us Q I r h
 obtain ⟨z,rfl,hz,q⟩:=h
 obtain ⟨u,rfl,t,rfl⟩:=mT r
 have hn:=ki
 exact len_str (by omega) ⟨.int z.length,H,I.tok _,⟨_,rfl⟩,q⟩
theorem ia:fq X (.type "list") (fun xs H Q=>∃ p ys,xs = [.ref p]/\(SqL X.K H p ys\/SqT X.K H p ys)/\∀ l,H l = none->Q (.ref l) (upd H l (.lst ys))):=by
 intro pins s σ H xs us Q I r h
 obtain ⟨p,ys,rfl,hq,q⟩:=h
 obtain ⟨u,rfl,rx⟩:=mT r
 cases rx
 have fin:∀ (its:List Value),Vals ys its->ys.length<=sizeLine->∀ (h':Heap) (c':Nat),(∀ b o',s.heap.get? b = some o'->h'.get? b = some o') ->
   h'.get? s.heap.objs.size = some { cls:=.type "list",dict:=none,data:=.seq its.toArray c',slots:=#[] }->EP X pins σ Q (.ref s.heap.objs.size) { s with heap:=h' }:=fun its r' hz h' c' kp e =>
  ⟨.ref s.heap.objs.size,_,I.laid (t':=s.toks) kp (Nat.le_refl _) (show ObjOk X.prog X.w _ h' _ (.lst ys) from ⟨hz,its,c',r',e⟩),rfl,q _ (I.hok.fresh (Nat.le_refl _))⟩
 rcases hq with hq | hq
 ·obtain ⟨its,r',pl,hz⟩:=I.list hq
  have hlen:=r'.length
  obtain ⟨o,ho,hc,n,hd⟩:=pl.isList
  exact call_list_seq p (.inl rfl) ho hc hd (fun h' c' kp e=>fin its r' hz h' c' kp e) (by simp only [List.size_toArray] <;> omega)
 ·obtain ⟨its,r',pl,hz⟩:=I.tuple hq
  have hlen:=r'.length
  obtain ⟨o,ho,hc,n,hd⟩:=pl
  exact call_list_seq p (.inr rfl) ho hc hd (fun h' c' kp e=>fin its r' hz h' c' kp e) (by simp only [List.size_toArray] <;> omega)
def tyV (K:Frag) (T:String) (x:V) (H:Hp):Prop:=match x with
 | .str _=>T = "str"
 | .int _=>T = "int"
 | .ref p=>(T = "list"/\∃ xs,SqL K H p xs)\/(T = "tuple"/\∃ o,K.lookup p = some o/\o.cls = .type "tuple"/\o.dict = none) \/
   (T = "dict"/\((∃ kvs,H p = some (.dK kvs))\/∃ kvs,H p = some (.dT kvs)))\/(T = "set"/\∃ S n,H p = some (.set S n))
 | _=>False
theorem tyV_is {pins:List (Addr × Obj)} {σ:St} {H:Hp} {s:Shared} {T:String} {x:V} {v:Value} (I:Inv X pins σ H s) (r:RelV x v) (ty:tyV X.K T x H) :
  s.TypeIs v T/\∀ a,v = .ref a->∃ ob,s.heap.get? a = some ob/\ob.dict = none:=by
 cases x with
 | str z =>
  obtain ⟨t,rfl⟩:=r
  cases (show T = "str" from ty)
  exact ⟨typeIs_str s z t,fun _ e=>nomatch e⟩
 | int i =>
  obtain ⟨t,rfl⟩:=r
  cases (show T = "int" from ty)
  exact ⟨typeIs_int s i t,fun _ e=>nomatch e⟩
 | ref p =>
  cases r
  rcases ty with ⟨rfl,xs,hq⟩ | ⟨rfl,o,hk,hc,hd⟩ | ⟨rfl,hk⟩ | ⟨rfl,S,n,hk⟩
  ·obtain ⟨its,_,pl,_⟩:=I.list hq
   refine ⟨pl.isList.typeIs,fun a e=>?_⟩
   cases e
   obtain ⟨o,n,e,c,hd,_⟩:=pl
   exact ⟨o,e,hd⟩
  ·refine ⟨⟨o,I.kIn p o hk,hc⟩,fun a e=>?_⟩
   cases e
   exact ⟨o,I.kIn _ o hk,hd⟩
  ·have z:∃ o,s.heap.get? p = some o/\o.ExactDict:=by
    rcases hk with ⟨kvs,hk⟩ | ⟨kvs,hk⟩
    ·obtain ⟨_,_,_,_,o,_,_,e,ex,_⟩:=I.hok p _ hk
     exact ⟨o,e,ex⟩
    ·obtain ⟨_,_,_,_,o,_,_,e,ex,_⟩:=I.hok p _ hk
     exact ⟨o,e,ex⟩
   obtain ⟨o,e,ex⟩:=z
   refine ⟨⟨o,e,ex.1⟩,fun a e2=>?_⟩
   cases e2
   exact ⟨o,e,ex.2.1⟩
  ·obtain ⟨o,_,_,_,e,ex,_⟩:=I.hok p _ hk
   refine ⟨⟨o,e,ex.1⟩,fun a e2=>?_⟩
   cases e2
   exact ⟨o,e,ex.2.1⟩
 | _=>exact False.elim ty
def tBM0 (K:Frag) (T:String) (r:V->List V->Hp->VK->Prop) (to:TE):TE:=fun σ H Q=>to σ H fun x H1=>tyV K T x H1/\r x [] H1 Q
def tBM (K:Frag) (T:String) (r:V->List V->Hp->VK->Prop) (to:TE) (t:TA):TE:=fun σ H Q=>to σ H fun x H1=>tyV K T x H1/\t σ H1 fun xs H2=>r x xs H2 Q
variable {o e:Expr} {es:List Expr} {to:TE} {t:TA} {name:Str} {apos cpos:Pos} {T id:String} {r:V->List V->Hp->VK->Prop}
theorem j6 (pa:PlainAttrs T) (slot:Slot T name id) (hty:typeOf (.builtin id) = pure (.type "method_descriptor")) (hm:MtR X id r) (ho:PE X o to)
  (hbase:attributeBase o name X.env (eval o X.env) = eval o X.env:=by rfl) (hline:(apos.endLine == cpos.line) = true:=by rfl):PE X (.Call (.Attribute o name apos) [] [] cpos) (tBM0 X.K T r to):=by
 intro pins s σ H Q I h
 refine wpAny_Call_method0_late hbase hline (thn (ho pins s σ H _ I h) fun v s1 ⟨x,H1,I1,r1,ty,q1⟩=>?_)
 obtain ⟨h1,h2⟩:=tyV_is I1 r1 ty
 exact ⟨T,id,pa,slot,hty,h1,h2,Calls.callWith_builtin rfl (PySem.evalArgs_none (hm pins s1 σ H1 x [] v [] Q I1 r1 .nil q1))⟩
theorem gv (pa:PlainAttrs T) (slot:Slot T name id) (hty:typeOf (.builtin id) = pure (.type "method_descriptor")) (hm:MtR X id r) (ho:PE X o to) (ha:PA X (e :: es) t)
  (hbase:attributeBase o name X.env (eval o X.env) = eval o X.env:=by rfl)
  (hfew:((backTo cpos (starEach (e :: es) X.env)).all (fun x=>!x.1) && (backToKw cpos (keywordEach [] X.env)).all (fun x=>x.1.isSome)
   && decide ((e :: es).length + ([]:List Keyword).length + (if ([]:List Keyword).isEmpty then 0 else 1) < 30)) = true:=by rfl)
  (hline:(apos.endLine == cpos.line) = true:=by rfl) (hs:starEach (e :: es) X.env = (false,eval e X.env) :: starEach es X.env:=by rfl) (hplain:(backTo cpos (starEach es X.env)).any (·.1) = false:=by rfl) :
  PE X (.Call (.Attribute o name apos) (e :: es) [] cpos) (tBM X.K T r to t):=by
 intro pins s σ H Q I h
 refine wpAny_Call_method_late hbase hfew hline rfl (thn (ho pins s σ H _ I h) fun v s1 ⟨x,H1,I1,r1,ty,q1⟩=>?_)
 obtain ⟨h1,h2⟩:=tyV_is I1 r1 ty
 refine ⟨T,id,pa,slot,hty,h1,h2,?_⟩
 have hA:=ha cpos pins s1 σ H1 _ I1 q1
 rw [hs] at hA ⊢
 refine Calls.callWith_builtin (by show (false || (backTo cpos (starEach es X.env)).any (·.1)) = false; rw [hplain] <;> rfl) (Calls.evalArgs_plain ?_)
 exact thn hA fun us s2 ⟨vs,H2,I2,r2,q2⟩=>hm pins s2 σ H2 x vs v us Q I2 r1 r2 q2
/- xs.append(e),list.index on a module's tuple .. are MtR facts of 06m -/
end
end L2
namespace L2
open PySem PySem.Spec PyProof.Rows
def MtM (X:Cx) (id:String) (r:V->List V->Hp->VK->Prop):Prop :=
 ∀ (pins:List (Addr × Obj)) (s:Shared) (σ:St) (H:Hp) (x:V) (xs:List V) (v:Value) (us:List Value) (Q:VK),Inv X pins σ H s->RelV x v->Vals xs us->r x xs H Q ->
  wpAny (model X.prog X.w) X.A (call (.builtin id) (v :: us)) (EP X pins σ Q) X.xe s
theorem Vals.one:∀ {x:V} {us:List Value},Vals [x] us->∃ u,us = [u]/\RelV x u
 | _,_,.cons r .nil=>⟨_,rfl,r⟩
theorem Vals.zero:∀ {us:List Value},Vals [] us->us = []
 | _,.nil=>rfl
theorem Vals.dropLast {xs:List V} {us:List Value} (h:Vals xs us):Vals xs.dropLast us.dropLast:=by
 induction h with
 | nil=>exact .nil
 | cons r t ih =>
  cases t with
  | nil=>exact .nil
  | cons q t'=>exact .cons r ih
theorem Vals.reverse {xs:List V} {us:List Value} (h:Vals xs us):Vals xs.reverse us.reverse:=by
 induction h with
 | nil=>exact .nil
 | cons r t ih=>rw [List.reverse_cons,List.reverse_cons]; exact Vals.append ih (.cons r .nil)
theorem ql {α:Type} (l:List α):l.eraseIdx (l.length - 1) = l.dropLast:=by
 induction l with
 | nil=>rfl
 | cons a r ih =>
  cases r with
  | nil=>rfl
  | cons b r =>
   have e:(a :: b :: r).length - 1 = ((b :: r).length - 1) + 1:=by
    have h1:(a :: b :: r).length = r.length + 2:=rfl
    have h2:(b :: r).length = r.length + 1:=rfl
    omega
   rw [e,List.eraseIdx_cons_succ,ih]
   all_goals rfl
section
variable {X:Cx} {pins:List (Addr × Obj)} {σ:St} {H:Hp} {s:Shared} {l b:Addr} {xs ys zs:List V}
theorem Inv.lset {its its':List Value} {n:Nat} {f:Array Value->Array Value} {t':Nat} (I:Inv X pins σ H s) (hH:H l = some (.lst xs))
  (e:s.heap.get? l = some { cls:=.type "list",data:=.seq its.toArray n }) (hf:f its.toArray = its'.toArray) (hv:Vals ys its') (hz:ys.length<=sizeLine) :
  Inv X pins σ (upd H l (.lst ys)) { s with heap:=s.heap.update l (Obj.mapSeq f),toks:=t' }:=by
 have q:=PySem.IsL.update e f
 rw [hf] at q
 refine I.write (x:=l) (e:=l) (by rw [hH]; exact trivial) (.inl rfl) (fun b' u hb hu=>(Heap.get?_update_other s.heap (Obj.mapSeq f) (Ne.symm hb)).trans hu) ⟨_,q⟩ ?_
 exact ⟨hz,its',_,hv,q⟩
theorem Inv.lnew {its:List Value} {t':Nat} (I:Inv X pins σ H s) (hv:Vals ys its) (hz:ys.length<=sizeLine) :
  Inv X pins σ (upd H s.heap.objs.size (.lst ys)) { s with heap:=s.heap.push { cls:=.type "list",data:=.seq its.toArray },toks:=t' } :=
 I.laid (fun _ _ q=>Heap.get?_push_of_some _ q) (Nat.le_refl _) ⟨hz,its,0,hv,Heap.get?_push_size _ rfl⟩
theorem Inv.fresh (I:Inv X pins σ H s):H s.heap.objs.size = none:=I.hok.fresh (Nat.le_refl _)
theorem Inv.lstM (I:Inv X pins σ H s) (hH:H l = some (.lst xs)):xs.length<=sizeLine/\∃ (its:List Value) (n:Nat),Vals xs its/\xs.length = its.length/\s.heap.get? l = some { cls:=.type "list",data:=.seq its.toArray n }:=by
 obtain ⟨z,its,n,r,e⟩:=I.hok l _ hH
 exact ⟨z,its,n,r,r.length,e⟩
theorem notLongL {n:Nat} (h:n<=sizeLine):Builtin.List.listTooLong n = false:=by
 unfold Builtin.List.listTooLong
 exact decide_eq_false (by omega)
end
section
variable {X:Cx}
def rAppend:V->List V->Hp->VK->Prop:=fun x vs H Q=>∃ l xs y,x = .ref l/\vs = [y]/\H l = some (.lst xs)/\xs.length < sizeLine/\Q .non (upd H l (.lst (xs ++ [y])))
theorem bE:MtM X "list.append" rAppend:=by
 intro pins s σ H x vs v us Q I rx rv h
 obtain ⟨l,xs,y,rfl,rfl,hH,hz,q⟩:=h
 cases rx
 obtain ⟨u,rfl,ru⟩:=rv.one
 obtain ⟨z,its,n,r,hl,e⟩:=I.lstM hH
 refine call_meets F.slot_list_append ⟨_,e,rfl⟩ F.entry_list_append (F.args_list_append_2 _ _) (PySem.list_append l its.toArray n u (by rw [List.size_toArray]; omega)) ⟨e,?_⟩
 refine ⟨.non,_,I.lset (its':=its ++ [u]) hH e (by simp) (r.append (.cons ru .nil)) ?_,rfl,q⟩
 rw [List.length_append,List.length_singleton]
 omega
def rExtend:V->List V->Hp->VK->Prop:=fun x vs H Q=>∃ l b xs zs,x = .ref l/\vs = [.ref b]/\H l = some (.lst xs)/\H b = some (.lst zs)/\xs.length + zs.length<=sizeLine/\Q .non (upd H l (.lst (xs ++ zs)))
theorem sQ:MtM X "list.extend" rExtend:=by
 intro pins s σ H x vs v us Q I rx rv h
 obtain ⟨l,b,xs,zs,rfl,rfl,hH,hB,hz,q⟩:=h
 cases rx
 obtain ⟨u,rfl,ru⟩:=rv.one
 cases ru
 obtain ⟨z,its,n,r,hl,e⟩:=I.lstM hH
 obtain ⟨z2,its2,n2,r2,hl2,e2⟩:=I.lstM hB
 have hsz:its.toArray.size + its2.toArray.size<=sizeLine:=by rw [List.size_toArray,List.size_toArray]; omega
 have hlong:¬ (!its.toArray.isEmpty && Builtin.List.listTooLong (its.toArray.size + its2.toArray.size)) = true:=by
  rw [notLongL hsz,Bool.and_false]
  exact Bool.false_ne_true
 refine call_meets F.slot_list_extend ⟨_,e,rfl⟩ F.entry_list_extend (F.args_list_extend_2 _ _)
  (AutoSeq1.list_extend_list_list_0 l its.toArray n b its2.toArray n2 hlong (by rw [List.size_toArray]; omega) (by omega)) ⟨e,e2,?_⟩
 refine ⟨.non,_,I.lset (its':=its ++ its2) hH e (by simp) (r.append r2) ?_,rfl,q⟩
 rw [List.length_append]
 omega
def rPop:V->List V->Hp->VK->Prop:=fun x vs H Q=>∃ l xs y,x = .ref l/\vs = []/\H l = some (.lst xs)/\xs[xs.length - 1]? = some y/\Q y (upd H l (.lst xs.dropLast))
theorem mt_pop:MtM X "list.pop" rPop:=by
 intro pins s σ H x vs v us Q I rx rv h
 obtain ⟨l,xs,y,rfl,rfl,hH,hy,q⟩:=h
 cases rx
 have hus:=rv.zero
 subst hus
 obtain ⟨z,its,n,r,hl,e⟩:=I.lstM hH
 obtain ⟨u,hu,ru⟩:=r.get hy
 have hy':its.toArray[its.toArray.size - 1]? = some u:=by
  show its.toArray[its.length - 1]? = some u
  rw [<- Array.getElem?_toList,<- hl]
  exact hu
 refine call_meets F.slot_list_pop ⟨_,e,rfl⟩ F.entry_list_pop (F.args_list_pop_1 _) (MeetsSeq.list_pop_last l its.toArray n u hy' (by rw [List.size_toArray]; omega)) ⟨e,?_⟩
 refine ⟨y,_,I.lset (its':=its.dropLast) hH e ?_ r.dropLast ?_,ru,q⟩
 ·show its.toArray.eraseIdxIfInBounds (its.toArray.size - 1) = its.dropLast.toArray
  rw [List.size_toArray,List.eraseIdxIfInBounds_toArray,ql]
 ·rw [List.length_dropLast]
  omega
end
section
variable {prog:Program} {w:World} {A:Around} {E:Value->Shared->Prop} {s:Shared}
set_option maxRecDepth 100000 in
end
section
variable {X:Cx}
end
end L2
namespace Att
open PySem PySem.W PySem.Calls PyProof.Rows
theorem iF {P:Params} {h:Heap}:∀ (ns:List Int) (vs:List Value),WellAll P h vs (ns.map WData.int)->IntsAre vs ns:=by
 intro ns
 induction ns with
 | nil =>
  intro vs w
  rw [List.map_nil] at w
  cases w
  exact .nil
 | cons n ns ih =>
  intro vs w
  rw [List.map_cons] at w
  cases w with
  | cons a b =>
   cases a
   exact .cons _ _ (ih _ b)
theorem rW {l:OpenLaw} {n:Nat} (hn:l.most = some n) {P:Params} {h:Heap} {args:List WData} {vals:List Value}
  (hpre:l.row.toRowW.claim.pre args = true) (hwl:WellAll P h vals args) :
  ∃ a vs ns,vals = [Value.ref a]/\args = [WData.list (ns.map WData.int)]/\h.get? a = some { cls:=.type "list",data:=.seq vs.toArray }/\IntsAre vs ns/\ns.length<=n:=by
 have hsh:WShape.hasAll [] args [.list .int] = true:=(pre_splitW hpre).1
 have hc:l.pre.holds [] { args:=args } = true:=(pre_splitW hpre).2
 obtain ⟨d,r,rfl,h1,h2⟩:=hasAllW_cons hsh
 obtain rfl:=hasAllW_nil h2
 obtain ⟨xs,rfl,h3⟩:=hasW_list h1
 obtain ⟨ns,rfl⟩:=items_int h3
 have hlen:ns.length<=n:=by
  unfold OpenLaw.pre at hc
  have h4:(WTm.not (.lt (.lit (.int (n:Int))) (.len (.arg 0)))).holds [] { args:=[.list (ns.map .int)] } = true:=by
   have h4:=(holds_andW hc).1
   rw [hn] at h4
   exact h4
  have h5:=condW_of h4 (w_not (w_lt w_lit (w_len_list (w_arg rfl))))
  rw [List.length_map] at h5
  refine Nat.le_of_not_lt fun q=>?_
  have q':(n:Int) < ((ns.length:Nat):Int):=by omega
  first
   | (rw [decide_eq_true q'] at h5; exact absurd h5 (by decide))
   | (simp at h5; omega)
 cases hwl with
 | cons w1 w2 =>
  cases w2
  cases w1 with
  | list ho hall=>exact ⟨_,_,ns,rfl,rfl,ho,iF ns _ hall,hlen⟩
theorem rf (l:OpenLaw) (args:List WData):l.row.toRowW.claim.post args (.bool true) args = true :=
 postW_of (r:=l.row.toRowW) (X:=(true == true))
  (show WShape.has [] (.bool true) .bool = true by first | rfl | decide | simp [WShape.has,WShape.arms,WShape.armsAll])
  (show (WTm.eq .res (.lit (.bool true))).value [] { args:=args,res:=some (.bool true),after:=args } = some (.bool (true == true)) from w_eq_bool (w_res rfl) w_lit) rfl
theorem attach_call {l:OpenLaw} {n:Nat} {q:Program} {loose:List Str} {XP:(Str->Option Value)->Heap->Prop} {YP:World->Heap->Prop} {d:DefRec}
  (hn:l.most = some n) (hdf:d.params.defaults = [])
  (call:∀ (w:World) (s₀ s₁:Shared) (mg mb:Str->Option Value) (fa:Addr) (o:Obj) (pm cd doc:Value) (a:Addr) (vs:List Value) (ns:List Int),
   Ground q loose [] XP w s₀ mg mb s₁.heap->YP w s₁.heap ->
   s₁.heap.get? fa = some o->o.data = .func (docDef d.name d.params d.body d.scope pm cd doc)->s₁.heap.CodeRec cd d.name->mg d.name = some (.ref fa) ->
   s₁.heap.get? a = some { cls:=.type "list",data:=.seq vs.toArray }->IntsAre vs ns->ns.length<=n->s₁.gens = #[] ->
   codeAny (model l.prog w) callerA (.call (.ref fa) ⟨[.ref a],[]⟩) (fun r s'=>r = .ok (.ret (.bool true))/\OldK s₁.heap s'.heap/\s'.os = s₁.os/\AllBare s'.gens) s₁) :
  WalkO q loose XP YP l.row.toRowW d [] (fun f vs=>PySem.call f vs):=by
 intro w s₀ s₁ mg mb G Y fa o pm cd doc dV kV ho hd hcd hD hmg hg args vals as hpre hlay hrd hwl hlo
 obtain rfl:dV = .none:=Dflts.none hD hdf
 obtain rfl:kV = .none:=Dflts.noKw hD
 obtain ⟨a,vs,ns,rfl,rfl,hobj,hints,hlen⟩:=rW hn hpre hwl
 refine enter_call (codeAny_mono (call w s₀ s₁ mg mb fa o pm cd doc a vs ns G Y ho (fd_plain hd) hcd hmg hobj hints hlen hg) fun r s' hq=>?_)
 obtain ⟨rfl,h2,h3,h4⟩:=hq
 exact ⟨.inl ⟨.bool true,.bool true,[],rfl,fun _=>rfl,.bool true,rf l _,fun _=>⟨List.Pairwise.nil,fun _ hm=>(nomatch hm)⟩⟩,h2,h3,h4⟩
section
variable {prog:Program} {w:World} {A:Around} {E:Value->Shared->Prop} {s:Shared} {K:Frag}
end
end Att
namespace L2
open PySem PySem.Spec PyProof.Rows
theorem lR:∀ {vs:List Value} {ns:List Int},IntsAre vs ns->Vals (ns.map V.int) vs
 | _,_,.nil=>.nil
 | _,_,.cons n t h=>.cons ⟨t,rfl⟩ (lR h)
def Only (H:Hp):Prop:=∀ b,H b = none\/∃ o xs,H b = some (.frz o (.lst xs))
theorem law_call {P:Program} {w:World} {K:Frag} {mg mb:Str->Option Value} {CX:CXT} {k:Nat} {fa a:Addr} {fd:FuncData} {x:Str} {sp:Sp} {s₁:Shared} {vs:List Value} {ns:List Int}
  (KX:K.In s₁.heap) (hns:s₁.heap.Ns mainGlobals mg) (hb:s₁.heap.Ns builtinsNs mb) (hbb:∀ x:Str,x ≠ "__name__"->mb x = bootBuiltins x) (hlim:s₁.heap.NoLimit) (hg:s₁.gens = #[])
  (ha:s₁.heap.get? a = some { cls:=.type "list",data:=.seq vs.toArray }) (hi:IntsAre vs ns) (hl:ns.length<=sizeLine) (hr:Room k callerA)
  (F:∀ base:Heap,K.In base->base.Ns mainGlobals mg->FnOk P w K mg base CX k fa fd [x] sp) (hbind:∀ (s:Shared) (u:Value),BindsTo s fd ⟨[u],[]⟩ [(x,u)])
  (hsp:∀ H:Hp,Only H->SqL K H a (ns.map V.int)->sp [.ref a] H (fun v _=>v = .bl true) fun _ _ _=>False)
  (hCX:∀ H e s',CX [] H s₁ (fun _ _ _=>False) e s'->False) :
  codeAny (model P w) callerA (.call (.ref fa) ⟨[.ref a],[]⟩) (fun r s'=>r = .ok (.ret (.bool true))/\OldK s₁.heap s'.heap/\s'.os = s₁.os/\AllBare s'.gens) s₁:=by
 have rv:=lR hi
 have lenV:=hi.length
 have core:∀ H:Hp,Only H->SqL K H a (ns.map V.int)->HOk P w H s₁.heap->(∀ b,H b ≠ none->b = a)->(H a ≠ none->K.lookup a = none) ->
   codeAny (model P w) callerA (.call (.ref fa) ⟨[.ref a],[]⟩) (fun r s'=>r = .ok (.ret (.bool true))/\OldK s₁.heap s'.heap/\s'.os = s₁.os/\AllBare s'.gens) s₁:=by
  intro H hO hS hok hA hK
  have base_of:∀ {b:Addr} {o:Obj},s₁.heap.get? b = some o->H b = none->(hidT s₁.heap H).get? b = some o:=fun e n=>hidT_get e n
  have noA:∀ {b:Addr} {o:Obj} {es:Array DictEntry} {ep:Nat},s₁.heap.get? b = some o->o.data = .dict es ep->H b = none:=fun {b o es ep} e d=>by
   cases q:H b with
   | none=>rfl
   | some u =>
    have e':b = a:=hA b (by rw [q]; simp)
    subst e'
    rw [ha] at e; cases e
    have d':Data.seq vs.toArray _ = Data.dict es ep:=d
    cases d'
  have nsK:∀ {b:Addr} {m:Str->Option Value},s₁.heap.Ns b m->(hidT s₁.heap H).Ns b m:=fun {b m} ⟨o,es,ep,e,d,r⟩=>⟨o,es,ep,base_of e (noA e d),d,r⟩
  have hKb:K.In (hidT s₁.heap H):=fun b o e=>base_of (KX b o e) (by
   cases q:H b with
   | none=>rfl
   | some u =>
    have e':b = a:=hA b (by rw [q]; simp)
    subst e'
    rw [hK (by rw [q]; simp)] at e; cases e)
  have hM:Mod K mg (hidT s₁.heap H):=⟨hKb,nsK hns,⟨mb,nsK hb,hbb⟩,let ⟨mc,h1,h2⟩:=hlim; ⟨mc,nsK h1,h2⟩⟩
  have e0:Env0 P w K mg (hidT s₁.heap H) callerA [] s₁ H:=⟨rfl,hM,fun b o e=>of_hidT e,Nat.le_of_eq (rY _ _),trivial,fun b hb=>absurd (show b ∈ ([]:List Addr) from hb) (by simp),hok,.of_eq hg⟩
  refine codeAny_mono ((F _ hKb (nsK hns)).run callerA [] s₁ H ⟨[.ref a],[]⟩ [.ref a] [.ref a] _ _ hr e0 (hbind s₁ (.ref a)) (.cons rfl .nil) (hsp H hO hS)) fun r s' h=>?_
  cases r with
  | error e=>exact (hCX H e s' h).elim
  | ok fl =>
   cases fl with
   | next=>exact False.elim h
   | brk=>exact False.elim h
   | cont=>exact False.elim h
   | ret u =>
    obtain ⟨v,H',os,bare,un,hok',r',q⟩:=h
    have q':v = .bl true:=q
    subst q'
    obtain rfl:u = Value.bool true:=r'
    refine ⟨rfl,OldK.of_keep fun b o e=>?_,os,bare⟩
    cases q:H b with
    | none=>exact un.keep b o e q (by intro z; exact absurd (show b ∈ ([]:List Addr) from z) (by simp)) (by simp)
    | some u =>
     rcases hO b with z | ⟨ob,xs,z⟩
     ·rw [q] at z; cases z
     ·have z2:=un.frzs b ob _ z
      obtain ⟨e1,_⟩:=hok b _ z
      obtain ⟨e2,_⟩:=hok' b _ z2
      rw [e] at e1; cases e1
      exact e2
 cases hk:K.lookup a with
 | some o =>
  have e:=KX a o hk
  rw [ha] at e
  cases e
  refine core (fun _=>none) (fun _=>.inl rfl) (.inr ⟨_,vs.toArray,_,hk,rfl,rfl,rfl,by rw [List.size_toArray,lenV]; exact hl,by simpa using rv⟩) (fun b u z=>by have z':(none:Option HO) = some u:=z; cases z') (fun b z=>absurd rfl z) fun z=>absurd rfl z
 | none =>
  refine core (fun b=>if b = a then some (.frz { cls:=.type "list",data:=.seq vs.toArray } (.lst (ns.map V.int))) else none) (fun b=>?_) (.inl (.inr ⟨{ cls:=.type "list",data:=.seq vs.toArray },if_pos rfl⟩)) (fun b u z=>?_) (fun b z=>?_) fun _=>hk
  ·by_cases hb:b = a
   ·exact .inr ⟨_,_,if_pos hb⟩
   ·exact .inl (if_neg hb)
  ·by_cases hb:b = a
   ·have z':=(if_pos hb).symm.trans z
    cases z'
    subst hb
    exact ⟨ha,by rw [List.length_map]; exact hl,vs,_,rv,ha⟩
   ·have z':=(if_neg hb).symm.trans z
    cases z'
  ·by_cases hb:b = a
   ·exact hb
   ·exact absurd (if_neg hb) z
end L2
namespace L2
open PySem PySem.Spec PyProof.Rows
theorem walk_of {l:PySem.W.OpenLaw} {n k:Nat} {q:Program} {loose:List Str} {XP:(Str->Option Value)->Heap->Prop} {YP:World->Heap->Prop} {d:DefRec} {K:Params->Frag} {CX:World->CXT} {sp:World->Sp} {x:Str}
  (hn:l.most = some n) (hn2:n<=sizeLine) (hdf:d.params.defaults = []) (hr:Room k callerA)
  (hY:∀ (w:World) (h:Heap),YP w h->(K w.params).In h)
  (F:∀ (w:World) (mg:Str->Option Value) (fa:Addr) (h:Heap),(K w.params).In h->h.Ns mainGlobals mg->mg d.name = some (.ref fa) ->
   ∃ fd:FuncData,(∀ (s:Shared) (u:Value),BindsTo s fd ⟨[u],[]⟩ [(x,u)]) /\
    ∀ base:Heap,(K w.params).In base->base.Ns mainGlobals mg->FnOk l.prog w (K w.params) mg base (CX w) k fa fd [x] (sp w))
  (hsp:∀ (w:World) (H:Hp) (a:Addr) (ns:List Int),ns.length<=n->Only H->SqL (K w.params) H a (ns.map V.int)->sp w [.ref a] H (fun v _=>v = .bl true) fun _ _ _=>False)
  (hCX:∀ (w:World) (H:Hp) (s:Shared) (e:Value) (s':Shared),CX w [] H s (fun _ _ _=>False) e s'->False) :
  PySem.W.WalkO q loose XP YP l.row.toRowW d [] (fun f vs=>PySem.call f vs):=by
 refine Att.attach_call hn hdf fun w s₀ s₁ mg mb fa o pm cd doc a vs ns G Y ho hd hcd hmg hobj hints hlen hg=>?_
 have KX:=hY w _ Y
 obtain ⟨fd,hb,hF⟩:=F w mg fa _ KX G.T.g hmg
 exact law_call KX G.T.g G.T.b G.T.builtins G.T.nolimit hg hobj hints (Nat.le_trans hlen hn2) hr hF hb (fun H hO hS=>hsp w H a ns hlen hO hS) fun H e s'=>hCX w H s₁ e s'
end L2
namespace L2
open PySem PySem.Spec PyProof.Rows
def ax (s:Stmt) (j:Nat):Stmt:=match s with
 | .ClassDef _ _ _ body _ _ _ _ _ _ _=>body.getD j (.Pass ⟨0,0,0,0⟩)
 | _=>.Pass ⟨0,0,0,0⟩
def eX (s:Stmt):Arguments:=match s with
 | .FunctionDef _ a _ _ _ _ _ _ _ _=>a
 | _=>{ posonlyargs:=[],args:=[],vararg:=none,kwonlyargs:=[],kw_defaults:=[],kwarg:=none,defaults:=[] }
def dW (s:Stmt):List Stmt:=match s with
 | .FunctionDef _ _ b _ _ _ _ _ _ _=>b
 | _=>[]
def aj (s:Stmt):Scope:=match s with
 | .FunctionDef _ _ _ _ _ _ sc _ _ _=>sc
 | _=>{ kind:=.function,names:=[],isGenerator:=false,isCoroutine:=false }
abbrev CX0:CXT:=fun _ _ _ _ _ _=>False
abbrev E0:XK:=fun _ _ _=>False
theorem qf {X:Cx}:jk CX0 X E0:=fun _ _ _ _ _ _ _ h=>h.elim
structure Fun (K:Frag) (x qual:Str) (st:Stmt) (f:Addr) (fd:FuncData):Prop where
 ex:∃ (oc:Value) (od:Option Addr) (kV doc pm:Value) (an:Option Addr) (cdv ct:Value) (osl:Array (Option Value)),
  fd = fnOf x qual (eX st) (dW st) (aj st) .none kV doc pm an cdv ct/\K.lookup f = some ⟨oc,od,.func fd,osl⟩/\codeIn K cdv qual = true
 kp:keepIn K (.ref f) = true
section
variable {P:Program} {w:World} {K:Frag} {mg:Str->Option Value} {base:Heap}
theorem Fun.ok {x qual:Str} {st:Stmt} {f:Addr} {fd:FuncData} {N ps:List Str} {k:Nat} {sp:Sp} (F:Fun K x qual st f fd) (S:FnScope N ps (aj st)) (len:∀ vs H Q E,sp vs H Q E->vs.length = ps.length)
  (hbody:∀ (cdv:Value) (A:Around) (outer:List Env) (s:Shared) (H:Hp) (vs:List V) (Q:VK) (E:XK),Room k (A.deeper (envOfC qual (aj st) s.heap.objs.size f cdv))->sp vs H Q E ->
   ∃ t,PSs (cxOf CX0 P w K mg base N qual (aj st) f cdv A outer s H E).nox (dW st) t/\t { nx:=fun _ H'=>Q .non H',rt:=Q } (lW N vs) H):FnOk P w K mg base CX0 (k + 1) f fd ps sp:=by
 obtain ⟨oc,od,kV,doc,pm,an,cdv,ct,osl,rfl,lk,hcd⟩:=F.ex
 refine fn_of lk hcd S len fun A outer s H vs Q E hr hsp=>?_
 obtain ⟨t,h,q⟩:=hbody cdv A outer s H vs Q E hr hsp
 exact ⟨t,h.nox,q⟩
theorem Fun.binds {x qual:Str} {st:Stmt} {f:Addr} {fd:FuncData} {ps:List Str} (F:Fun K x qual st f fd)
  (h:∀ (kV doc pm:Value) (an:Option Addr) (cdv ct:Value) (us:List Value),us.length = ps.length->bindArgs (fnOf x qual (eX st) (dW st) (aj st) .none kV doc pm an cdv ct) ⟨us,[]⟩ = pure (ps.zip us)):Binds K fd ps []:=by
 obtain ⟨oc,od,kV,doc,pm,an,cdv,ct,osl,rfl,lk,hcd⟩:=F.ex
 exact .all (h kV doc pm an cdv ct)
theorem fun_mk {x qual:Str} {st:Stmt} {f:Addr} {oc:Value} {od an:Option Addr} {osl:Array (Option Value)} {kV doc pm cdv ct:Value} (l:K.lookup f = some ⟨oc,od,.func (fnOf x qual (eX st) (dW st) (aj st) .none kV doc pm an cdv ct),osl⟩)
  (c:codeIn K cdv qual = true) (k:keepIn K (.ref f) = true):Fun K x qual st f (fnOf x qual (eX st) (dW st) (aj st) .none kV doc pm an cdv ct):=⟨⟨oc,od,kV,doc,pm,an,cdv,ct,osl,rfl,l,c⟩,k⟩
end
theorem aZ {A:Around} {k:Nat} (hr:Room k A):A.units + 1 < cLine:=Nat.lt_of_le_of_lt (Nat.add_le_add_left (by decide:1<=64) _) hr.units
section
variable {X:Cx}
theorem pv (i:Nat) {x:Str} {pos:Pos} (hN:X.N[i]? = some x:=by rfl) (hv:Vis X.env.scope x:=by first | exact Or.inl rfl | exact Or.inr (Or.inl rfl) | exact Or.inr (Or.inr rfl)) (hd:(x == ("__debug__":Str)) = false:=by decide)
  (hcd:(x == ("__classdict__":Str)) = false:=by decide):PE X (.Name x pos) (tVar i):=pe_var hN hv hd hcd
end
theorem eB {A B:Prop} (h:B):if false = true then A else B:=by
 rw [if_neg Bool.false_ne_true]
 exact h
theorem fN {A B:Prop} (h:A):if true = true then A else B:=by
 rw [if_pos rfl]
 exact h
theorem fz {c A B:Prop} [Decidable c] (hc:c) (h:B):if (!decide c) = true then A else B:=by
 rw [decide_eq_true hc]
 exact eB h
def Same (H H':Hp):Prop:=∀ b o,H b = some o->H' b = some o
theorem Same.refl (H:Hp):Same H H:=fun _ _ h=>h
theorem Same.trans {H H1 H2:Hp} (a:Same H H1) (b:Same H1 H2):Same H H2:=fun c o h=>b c o (a c o h)
theorem Same.seq {K:Frag} {H H':Hp} {a:Addr} {xs:List V} (e:Same H H') (h:SqL K H a xs):SqL K H' a xs:=by
 rcases h with (h | ⟨o,h⟩) | h
 ·exact .inl (.inl (e _ _ h))
 ·exact .inl (.inr ⟨o,e _ _ h⟩)
 ·exact .inr h
end L2
set_option maxHeartbeats 4000000
namespace Ow
open PySem PySem.Spec PyProof.Rows L2
structure Has (P:Program) (w:World) (K:Frag) (mg:Str->Option Value) (base:Heap) (k:Nat) (x:Str) (ps:List Str) (sp:Sp):Prop where
 ex:∃ (f:Addr) (fd:FuncData),FnOk P w K mg base CX0 k f fd ps sp/\Binds K fd ps []/\keepIn K (.ref f) = true/\mg x = some (.ref f)
section
variable {X:Cx} {k:Nat} {x:Str} {ps:List Str} {sp:Sp} {p pos:Pos} {e:Expr} {es:List Expr} {t:TA}
theorem aG (h:Has X.prog X.w X.K X.mg X.base k x ps sp) (hr:Room k X.A) (hg:Gl X x) (ha:PA X (e :: es) t) (hdb:(x == ("__debug__":Str)) = false:=by decide)
  (he:starEach (e :: es) X.env = (false,eval e X.env) :: starEach es X.env:=by rfl) (hpl:(backTo pos (starEach es X.env)).any (·.1) = false:=by rfl) :
  PE X (.Call (.Name x p) (e :: es) [] pos) (tCall sp [] E0 t):=by
 obtain ⟨f,fd,F,b,kp,m⟩:=h.ex
 exact pe_call F hr hg m kp b .nil qf ha hdb he hpl
theorem pe_fn0 (h:Has X.prog X.w X.K X.mg X.base k x ps sp) (hr:Room k X.A) (hg:Gl X x) (hdb:(x == ("__debug__":Str)) = false:=by decide) :
  PE X (.Call (.Name x p) [] [] pos) (tCall sp [] E0 tNil):=by
 obtain ⟨f,fd,F,b,kp,m⟩:=h.ex
 exact pe_call0 F hr hg m kp b .nil qf hdb
theorem iZ {T:String} (hg:Gl X x) (hm:X.mg x = none) (hv:bootBuiltins x = some (.type T)) (hn:x ≠ "__name__":=by decide) (hd:(x == ("__debug__":Str)) = false:=by decide):PE X (.Name x pos) (tC (.ty T)):=pe_bltn (v:=.ty T) hg hm hv rfl hn hd
theorem fA {C:Addr} (hg:Gl X x) (hm:X.mg x = some (.ref C)) (hd:(x == ("__debug__":Str)) = false:=by decide):PE X (.Name x pos) (tC (.ref C)):=nM (v:=.ref C) hg hm rfl hd
def clsV:V->Option Value
 | .ty n=>some (.type n)
 | .ref C=>some (.ref C)
 | _=>none
theorem clsV_rel {c:V} {u cv:Value} (r:RelV c u) (h:clsV c = some cv):u = cv:=by
 cases c with
 | ty n=>cases h; exact r
 | ref C=>cases h; exact r
 | _=>cases h
theorem aK:fq X (.builtin "isinstance") (fun xs H Q=>∃ x c t cv b,xs = [x,c]/\clsV c = some cv/\TyOf X.K H x t/\kitOne X.K t cv = some b/\Q (.bl b) H):=by
 intro pins s σ H xs us Q I r h
 obtain ⟨x,c,t,cv,b,rfl,hc,ty,e,q⟩:=h
 obtain ⟨u,u',rfl,rx,rc⟩:=vals2 r
 cases clsV_rel rc hc
 exact r8 I rx ty e fun tk=>⟨.bl b,H,I.tok _,rfl,q⟩
theorem pG:OpR X (binaryOp .FloorDiv) (rI (fun _ j=>0 < j/\j.natAbs.log2 < 9000) fun i j=>.int (i / j)):=opI fun i j _ _ _ _ _ hc q=>by
 have h1:(0:Int) < j:=hc.1
 exact floordiv_int (by omega) (by rw [Int.fdiv_eq_ediv_of_nonneg i (by omega)]; exact q) (.inl (PyProof.noPylong_of_log2 hc.2))
theorem op_mulB:OpR X (binaryOp .Mult) (rI (fun i j=>Builtin.Int.intBits i<=100000/\Builtin.Int.intBits j<=100000) fun i j=>.int (i * j)):=opI fun _ _ _ _ _ _ _ hc q =>
 mul_int q (IntMulOk.of_bits (Nat.le_trans hc.1 (by decide)) (Nat.le_trans hc.2 (by decide)))
theorem sB:OpR X (binaryOp .LShift) (rI (fun i j=>0<=j/\j<=100000/\Builtin.Int.intBits i<=100000) fun i j=>.int (i * 2 ^ j.toNat)):=opI fun i j _ _ _ _ _ hc q =>
 lshift_int hc.1 (by have h1:=hc.2.1; have h2:Builtin.Int.intBits i<=100000:=hc.2.2; have h3:(2:Int) ^ 27 = 134217728:=(by decide); rw [h3]; omega) q
end
theorem gc (K:Frag):kitOne K (.type "int") (.type "int") = some true:=rfl
theorem eC (K:Frag):kitOne K (.type "int") (.type "bool") = some false:=by with_unfolding_all rfl
theorem dg {c A B:Prop} [Decidable c] (hc:c) (h:A):if decide c = true then A else B:=by
 rw [if_pos (decide_eq_true hc)]
 exact h
theorem be {c A B:Prop} [Decidable c] (hc:¬ c) (h:B):if decide c = true then A else B:=by
 rw [if_neg (by rw [decide_eq_false hc]; decide)]
 exact h
theorem ret_true {Q:VK} {H:Hp} {c:Prop} [Decidable c] (hc:c) (q:Q (.bl true) H):Q (.bl (decide c)) H:=by
 rw [decide_eq_true hc]
 exact q
theorem iteN {c A B:Prop} [Decidable c] (hc:¬ c) (h:A):if (!decide c) = true then A else B:=by
 rw [decide_eq_false hc]
 exact fN h
theorem jb (n:Nat):(0:Int) < 1 * 2 ^ n:=by
 rw [Int.one_mul]
 exact Int.pow_pos (by decide)
theorem p_pos (n:Nat):(0:Int) < 2 ^ n:=Int.pow_pos (by decide)
theorem p_mono {m n:Nat} (h:m<=n):(2:Int) ^ m<=2 ^ n:=by
 have e:n = m + (n - m):=by omega
 rw [e,Int.pow_add]
 have h1:=p_pos m
 have h2:(1:Int)<=2 ^ (n - m):=p_pos (n - m)
 have h3:=Int.mul_le_mul_of_nonneg_left h2 (Int.le_of_lt h1)
 rw [Int.mul_one] at h3
 exact h3
def SameX (p:Addr) (H H':Hp):Prop:=∀ b o,b ≠ p->H b = some o->H' b = some o
theorem SameX.refl (p:Addr) (H:Hp):SameX p H H:=fun _ _ _ h=>h
theorem SameX.trans {p:Addr} {H H1 H2:Hp} (a:SameX p H H1) (b:SameX p H1 H2):SameX p H H2:=fun c o n h=>b c o n (a c o n h)
theorem SameX.of {p:Addr} {H H':Hp} (a:Same H H'):SameX p H H':=fun c o _ h=>a c o h
theorem SameX.upd {p:Addr} {H:Hp} {o:HO}:SameX p H (upd H p o):=fun c u n h=>by rw [ao n]; exact h
theorem au {H:Hp} {p:Addr} (h:H p = none) (o:HO):Same H (L2.upd H p o):=fun b u q=>by rw [ao (av q h)]; exact q
def Box (H:Hp) (p:Addr):Prop:=∃ r s c:Int,H p = some (.lst [.int r,.int s,.int c])
theorem Box.same {H H':Hp} {p:Addr} (b:Box H p) (s:Same H H'):Box H' p:=by
 obtain ⟨r,s',c,h⟩:=b
 exact ⟨r,s',c,s _ _ h⟩
theorem getI (ns:List Int) (k:Nat) (h:k < ns.length):atI (ns.map V.int) (k:Int) = some (.int ns[k]):=fL (by rw [List.getElem?_map,List.getElem?_eq_getElem h] <;> rfl)
end Ow
namespace Ow
open PySem PySem.Spec PyProof.Rows L2
structure MHas (P:Program) (w:World) (K:Frag) (mg:Str->Option Value) (base:Heap) (k:Nat) (C:Addr) (m:Str) (ps:List Str) (sp:Sp):Prop where
 cl:Cls K C
 ex:∃ (f:Addr) (fd:FuncData),Meth K C m f/\FnOk P w K mg base CX0 k f fd ps sp/\Binds K fd ps []
def tMethP (X:Cx) (k:Nat) (m:Str) (ta:TE) (t:TA):TE:=fun σ H Q=>ta σ H fun x H1=>∃ (a C dx:Addr) (fs:List (Str × V)) (ps:List Str) (sp:Sp),x = .ref a/\H1 a = some (.ins C dx fs)/\fs.lookup m = none /\
 MHas X.prog X.w X.K X.mg X.base k C m ps sp/\t σ H1 fun vs H2=>sp (x :: (vs ++ [])) H2 Q E0
section
variable {X:Cx} {k:Nat} {x m:Str} {C:Addr} {p pos apos:Pos} {o e:Expr} {es:List Expr} {ta:TE} {t:TA}
theorem cF {pl:Sem Bool} (he:PE X o ta) (hr:Room k X.A) (ha:PA X (e :: es) t)
  (hst:starEach (e :: es) X.env = (false,eval e X.env) :: starEach es X.env:=by rfl) (hpl:(backTo pos (starEach es X.env)).any (·.1) = false:=by rfl)
  (ht:eval (.Call (.Attribute o m apos) (e :: es) [] pos) X.env = (do
   let ov <- eval o X.env
   standAt apos.atName
   let (f,first) <- holding [ov] (getMethod ov m pl)
   callWith pos f first (backTo pos (starEach (e :: es) X.env)) (backToKw pos (keywordEach [] X.env))):=by rfl) :
  PE X (.Call (.Attribute o m apos) (e :: es) [] pos) (tMethP X k m ta t):=by
 intro pins s σ H Q I h
 refine PySem.W.methodCall_KW (pl:=pl) (thn (he pins s σ H _ I h) fun u s1 ⟨x,H1,I1,rx,a,C,dx,fs,ps,sp,ex,ea,l,M,q⟩=>?_) ht
 subst ex
 obtain rfl:u = Value.ref a:=rx
 obtain ⟨f,fd,hm,F,hb⟩:=M.ex
 refine kl I1 ea M.cl hm l ?_
 refine PySem.W.callWith_K (first:=[.ref a]) (h₀:=X.base) I.ok.mod.kin hm.kp (thn (ha pos pins s1 σ H1 _ I1 q) fun us s2 ⟨vs,H2,I2,r,q2⟩=>⟨I2.kIn,?_⟩) hst hpl
 exact pk (us:=.ref a :: us) (vs:=.ref a :: vs) F hr hb .nil qf I2 (.cons rfl r) q2
theorem cL {pl:Sem Bool} (he:PE X o ta) (hr:Room k X.A)
  (ht:eval (.Call (.Attribute o m apos) [] [] pos) X.env = (do
   let ov <- eval o X.env
   standAt apos.atName
   let (f,first) <- holding [ov] (getMethod ov m pl)
   callWith pos f first (backTo pos (starEach [] X.env)) (backToKw pos (keywordEach [] X.env))):=by rfl) :
  PE X (.Call (.Attribute o m apos) [] [] pos) (tMethP X k m ta tNil):=by
 intro pins s σ H Q I h
 refine PySem.W.methodCall_KW (pl:=pl) (thn (he pins s σ H _ I h) fun u s1 ⟨x,H1,I1,rx,a,C,dx,fs,ps,sp,ex,ea,l,M,q⟩=>?_) ht
 subst ex
 obtain rfl:u = Value.ref a:=rx
 obtain ⟨f,fd,hm,F,hb⟩:=M.ex
 refine kl I1 ea M.cl hm l ?_
 exact PySem.W.callWith_K0 (first:=[.ref a]) I1.kIn hm.kp (pk (us:=[.ref a]) (vs:=[.ref a]) F hr hb .nil qf I1 (.cons rfl .nil) q)
def gTupL (K:Frag) (n:Nat) (t:TGs):TG:=fun v σ H Q=>∃ a xs,v = .ref a/\SqL K H a xs/\xs.length = n/\t xs σ H Q
theorem pg_tupL {es:List Expr} {k:Nat} {t:TGs} {n:Nat} (hc:X.calm = true) (h:PGs X es t)
  (hn:(assignEach es X.env).length = n:=by rfl) (hst:(assignEach es X.env).findIdx? (·.1) = none:=by rfl):PG X (.Tuple es k pos) (gTupL X.K n t):=by
 intro pins s σ H v u Q I r hw
 obtain ⟨a,xs,e1,hq,hl,hw⟩:=hw
 subst e1
 cases r
 obtain ⟨its,rv,ht,hz⟩:=I.list hq
 rw [assign_Tuple]
 refine wpAny_bind (wpAny_standAt ?_)
 unfold unpack
 have hn':(assignEach es X.env).length = its.toArray.size:=by simp [hn,<- hl,rv.length]
 rw [hn',hst]
 refine wpAny_bind (wpAny_holding (PySem.W.kun_itemsOf (I.ok.hd hc) ht.isList fun h' hx=>?_))
 have I1:Inv X pins σ H { s with heap:=h' }:=I.kept (t':=s.toks) fun b o e=>hx b o (Nat.ne_of_lt (Heap.lt_size e)) e
 exact h pins _ σ H xs _ Q I1 (by simpa using rv) hw
end
end Ow
namespace Ow
open PySem PySem.Spec PyProof.Rows L2
def bO (X:Cx) (N:List Str) (scope:Scope) (cl:List (Str × Addr)) (C:Addr) (s2:Shared) (H2:Hp) (fp:List Addr):Cx where
 prog:=X.prog
 w:=X.w
 K:=X.K
 mg:=X.mg
 base:=X.base
 A:=X.A
 N:=N
 s₀:=s2
 H₀:=H2
 env:=compEnvC scope cl C X.env
 outer:=X.stack
 stack:=X.stack
 ex:=fp
 calm:=true
 fn:=fun _=>false
 pn:=[]
 xe:=fun _ _=>False
def sY (wi:TI) (te:TE) (cap:L2.St->L2.St):TE:=fun σ H Q=>wi σ H fun J H1=>∀ D,H1 D = none->∃ W:Nat->Nat->Hp->Prop,(∃ m,W 0 m (upd H1 D (.lst [])))/\∀ i m H,W i m H ->
 (J.stop i H/\Q (.ref D) H)\/(J.go i H/\∀ x H',J.yld i H x H'->te (some x :: cap σ) H' fun y H2=>∃ ys,H2 D = some (.lst ys)/\ys.length < sizeLine/\∃ m',m' < m/\W (i + 1) m' (upd H2 D (.lst (ys ++ [y]))))
section
variable {X:Cx} {elt iter:Expr} {x:Str} {px pos:Pos} {scope:Scope} {wi:TI} {te:TE} {N:List Str} {cl:List (Str × Addr)} {cap:L2.St->L2.St}
theorem re (hc:X.calm = true) (hclos:closureFor scope X.env = pure cl) (hsub:∀ n c,cl.lookup n = some c->X.env.cells.lookup n = some c)
  (hcell:∀ y ∈ scope.names,y.2 ≠ .cell) (hkind:scope.kind = .function) (hnames:∀ y ∈ scope.names,y.2 = .local->scope.names.lookup y.1 = some .local) (hx:scope.names.lookup x = some .local)
  (hhas:∀ y,(Env.kindOf (compEnvC scope cl 0 X.env) y = some .cell\/Env.kindOf (compEnvC scope cl 0 X.env) y = some .free)->∃ c,cl.lookup y = some c)
  (hN:(x :: N).Nodup) (hcapl:∀ σ,(cap σ).length = N.length)
  (hcap:∀ (σ:L2.St) (i:Nat) (y:Str) (v:V),σ.length = X.N.length->N[i]? = some y->(cap σ)[i]? = some (some v)->(Env.kindOf (compEnvC scope cl 0 X.env) y = some .cell\/Env.kindOf (compEnvC scope cl 0 X.env) y = some .free)/\X.env.kindOf y = some .cell/\∃ j:Nat,X.N[j]? = some y/\σ[j]? = some (some v))
  (hi:PI X (.Name x px) iter wi) (he:∀ C s2 H2 fp,PE (bO X (x :: N) scope cl C s2 H2 fp) elt te)
  (hs:∀ z,foldedSetIterable iter X.env z = pure z:=by intro _; rfl) :
  PE X (.ListComp elt [⟨.Name x px,iter,[],0⟩] scope pos) (sY wi te cap):=by
 intro pins s σ H Q I h
 rw [eval_ListComp]
 refine wpAny_comprehension_free (use:=none) rfl hs hclos hkind hnames (thn (hi pins s σ H _ I h) fun xv s1 h1=>thn h1 fun itv s2 h2=>?_)
 obtain ⟨it,fp,tn,J,H2,e,I2,T,st2,f2,hW⟩:=h2
 subst e
 have hD:H2 s2.heap.objs.size = none:=I2.hok.fresh (Nat.le_refl _)
 obtain ⟨W,⟨m0,w0⟩,turn⟩:=hW s2.heap.objs.size hD
 refine wpAny_newObj_type (wpAny_newFunctionEnv hcell (by intro y hy; simp at hy) (fun h4 hns4 hsb4=>?_) hkind) (by show 0<=sizeLine; decide)
 dsimp only at hns4 hsb4 ⊢
 generalize hH3:s2.heap.push { cls:=.type "list",dict:=none,data:=.seq ([]:List Value).toArray } = H3 at hns4 hsb4 ⊢
 have hCz:H3.objs.size = s2.heap.objs.size + 1:=by rw [<- hH3,Heap.size_push]
 have old3:∀ b o,s2.heap.get? b = some o->H3.get? b = some o:=fun b o e=>hH3 ▸ Heap.get?_push_of_some _ e
 have eD3:H3.get? s2.heap.objs.size = some { cls:=.type "list",dict:=none,data:=.seq ([]:List Value).toArray }:=hH3 ▸ Heap.get?_push_size _ rfl
 have old4:∀ b o,H3.get? b = some o->h4.get? b = some o:=fun b o e=>hsb4.extBut b o (Nat.ne_of_lt (Heap.lt_size e)) (Heap.get?_push_of_some _ e)
 have old:∀ b o,s2.heap.get? b = some o->h4.get? b = some o:=fun b o e=>old4 b o (old3 b o e)
 have szC:s2.heap.objs.size < H3.objs.size:=by rw [hCz]; exact Nat.lt_succ_self _
 have fpC:∀ b ∈ fp,b ≠ H3.objs.size:=fun b hb=>by
  obtain ⟨o,ho,_⟩:=T.obj 0 _ st2 b hb
  exact Nat.ne_of_lt (Nat.lt_trans (Heap.lt_size ho) szC)
 have ok':(bO X (x :: N) scope cl H3.objs.size s2 H2 fp).Ok:=by
  refine ⟨I2.ok.mod,hkind,I2.ok.glob,I2.ok.blt,(Nat.le_of_lt szC),fun a b c e1 e2=>I2.ok.inj a b c (hsub a c e1) (hsub b c e2),fun y hy=>hhas y hy,fun y c z _=>absurd (show false = true from z) (by decide),
   fun _=>I2.ok.hd hc,I2.ok.frames,.inl rfl,fun b hb=>⟨fpC b hb,fun y c e=>(f2 b hb).2.2.2.2.1 y c (hsub y c e)⟩,I2.bs,Nat.le_trans I2.ok.bsz I2.sz,fun b o e hb=>?_,fun b hb z=>?_,I2.stack,I2.stkFree⟩
  ·rcases (f2 b hb).2.2.2.1 with q | q
   ·exact I2.ok.noex b o e q
   ·exact absurd (Nat.lt_of_lt_of_le (Heap.lt_size e) (Nat.le_trans I2.ok.bsz q)) (Nat.lt_irrefl _)
  ·rcases List.mem_cons.mp (I2.stkSub b z) with q | q
   ·exact (f2 b hb).2.1 q
   ·exact (f2 b hb).2.2.1 q
 have okD:ObjOk X.prog X.w (upd H2 s2.heap.objs.size (.lst [])) h4 s2.heap.objs.size (.lst []):=⟨Nat.zero_le _,[],0,.nil,old4 _ _ eD3⟩
 have I4:Inv (bO X (x :: N) scope cl H3.objs.size s2 H2 fp) [] (none :: cap σ) (upd H2 s2.heap.objs.size (.lst [])) { s2 with heap:=h4,toks:=s2.toks + ([]:List (Str × Value)).length }:=by
  refine ⟨ok',rfl,I2.bare,Un.laid old (Nat.le_refl _) hD,⟨_,hns4,fun i y v e1 e2 _=>?_⟩,fun y c e=>?_,?_,fun y c e=>?_,fun p hp=>absurd hp (by show p ∉ ([] ++ []:List (Addr × Obj)); simp),I2.hok.laid old (Nat.le_refl _) okD,?_⟩
  ·cases i with
   | zero=>simp at e2
   | succ i =>
    obtain ⟨k1,k2,j,e3,e4⟩:=hcap σ i y v I2.len (show N[i]? = some y from e1) (show (cap σ)[i]? = some (some v) from e2)
    obtain ⟨m,_,hl⟩:=I2.loc
    obtain ⟨u,ru,lk⟩:=hl j y v e3 e4 (.inr (.inl k2))
    refine ⟨u,ru,.inr ⟨k1,?_⟩⟩
    rcases lk with ⟨z,_⟩ | ⟨_,c,e5,hcl⟩
    ·rw [k2] at z; cases z
    ·obtain ⟨c',e6⟩:=hhas y k1
     have:c' = c:=by
      have:=hsub y c' e6
      rw [e5] at this
      exact (Option.some.inj this).symm
     subst this
     obtain ⟨oc,ho,hd⟩:=hcl
     exact ⟨c',e6,oc,old _ _ ho,hd⟩
  ·obtain ⟨v,oc,ho,hd⟩:=I2.cell y c (hsub y c e)
   exact ⟨v,oc,old _ _ ho,hd⟩
  ·show upd H2 s2.heap.objs.size (.lst []) H3.objs.size = none
   rw [ao (Nat.ne_of_gt szC)]
   exact I2.hok.fresh (Nat.le_of_lt szC)
  ·have h1:=I2.freeC y c (hsub y c e)
   obtain ⟨v,oc,ho,_⟩:=I2.cell y c (hsub y c e)
   rw [ao (Nat.ne_of_lt (Heap.lt_size ho))]
   exact h1
  ·show (none :: cap σ).length = (x :: N).length
   simp [hcapl]
 have stat:∀ {H':Hp},(∀ b ∈ fp,H' b = none)->∀ b ∈ fp,FpOk (bO X (x :: N) scope cl H3.objs.size s2 H2 fp) [] H' b:=fun {H'} hn b hb =>
  ⟨hn b hb,(ok'.exf b hb).1,ok'.exfs b hb,.inl hb,(ok'.exf b hb).2,fun p hp=>absurd hp (by show p ∉ ([] ++ []:List (Addr × Obj)); simp)⟩
 have loop:codeAny (model X.prog X.w) X.A (.compLoop (.ListComp elt [⟨.Name x px,iter,[],0⟩] scope pos) 0 (.ref it) (.ref s2.heap.objs.size) (compEnvC scope cl H3.objs.size X.env))
   (compPost (model X.prog X.w) X.A X.xe none (EP X pins σ Q) (.ref s2.heap.objs.size) H3.objs.size) { s2 with heap:=h4,toks:=s2.toks + ([]:List (Str × Value)).length }:=by
  refine codeAny_compLoop_list (fun n s'=>∃ (i:Nat) (z0:Option V) (H':Hp),Inv (bO X (x :: N) scope cl H3.objs.size s2 H2 fp) [] (z0 :: cap σ) H' s'/\tn i s'.heap/\(∀ b ∈ fp,H' b = none)/\W i n H') ?_ m0
   ⟨0,none,_,I4,T.keep 0 _ _ st2 (fun b _ o e=>old b o e),fun b hb=>?_,w0⟩
  ·rintro n s5 ⟨i,z0,H5,I5,st5,fr5,w5⟩
   rcases turn i n H5 w5 with ⟨stop,qn⟩ | ⟨go,step⟩
   ·refine wpAny_mono (T.done (bO X (x :: N) scope cl H3.objs.size s2 H2 fp) rfl rfl rfl rfl i [] s5 _ H5 _ I5 (stat fr5) st5 stop) (fun r s6 ⟨hr,I6⟩=>?_) fun _ _ z=>z
    subst hr
    obtain ⟨m,hn6,_⟩:=id I6.loc
    refine ⟨m,hn6,fun h' sb=>⟨.ref s2.heap.objs.size,H5,?_,rfl,qn⟩⟩
    have kp:∀ b o,b ≠ H3.objs.size->s6.heap.get? b = some o->h'.get? b = some o:=fun b o hb e=>sb.extBut b o hb e
    have nC:∀ b o,s2.heap.get? b = some o->b ≠ H3.objs.size:=fun b o e=>Nat.ne_of_lt (Nat.lt_trans (Heap.lt_size e) szC)
    have fC:H5 H3.objs.size = none:=I6.free
    refine I2.call' (ch:=fp) (s':={ s6 with heap:=h' }) I6.os ?_ ?_ I6.bare fun b hb=>⟨(f2 b hb).2.2.2.1,(f2 b hb).2.1,(f2 b hb).2.2.2.2.1,(f2 b hb).2.2.2.2.2⟩
    ·have U:Un (frs X.stack) fp H2 H5 s2.heap s6.heap:=I6.base
     exact ⟨fun b o e n1 n2 n3=>kp b o (nC b o e) (U.keep b o e n1 n2 n3),fun b o e n1 n2 n3=>by
       obtain ⟨sl,q⟩:=U.slot b o e n1 n2 n3
       exact ⟨sl,kp b _ (nC b o e) q⟩,U.free,fun b o e n3=>by
       obtain ⟨o',q⟩:=U.there b o e n3
       exact ⟨o',kp b _ (nC b o e) q⟩,U.tups,U.frzs,U.tbls⟩
    ·intro b u e
     refine (I6.hok b u e).stay (fun c v hc q=>kp c v (fun z=>?_) q) (fun _ q=>q) fun _ _ q=>q
     rcases hc with y | y
     ·rw [<- y,z,fC] at e
      cases e
     ·rw [z,fC] at y
      cases y
   ·refine wpAny_mono (T.item (bO X (x :: N) scope cl H3.objs.size s2 H2 fp) rfl rfl rfl rfl i [] s5 _ H5 _ I5 (stat fr5) st5 go) (fun r s6 ⟨u,hr,h6⟩=>?_) fun _ _ z=>z
    subst hr
    have key:(letOwnedTupleGo (.Name x px) (.ref it) u >>= fun _=>assign (.Name x px) (compEnvC scope cl H3.objs.size X.env) u) = assign (.Name x px) (compEnvC scope cl H3.objs.size X.env) u:=by first | rfl | exact pure_bind _ _
    dsimp only
    rw [<- key]
    refine wpAny_bind (wpAny_mono h6 (fun _ s7 ⟨v,H7,I7,r7,y7,st7,fr7⟩=>?_) fun _ _ z=>z)
    have I7':=I7.pinned (stat fr7) (T.obj _ _ st7)
    refine wpAny_assign_Name (iD (i:=0) I7' hN rfl (.inl (lookup_relabel_local hx)) r7 (fun s8 I8=>?_) (.inr (lookup_relabel_local hx)))
    refine wpAny_mono (he H3.objs.size s2 H2 fp _ s8 (some v :: cap σ) H7 _ I8 (step v H7 y7)) (fun w9 s9 ⟨y,H9,I9,r9,ys,hys,hlt,m',hm,w9'⟩=>?_) fun _ _ z=>z.elim
    refine wpAny_mono (bE (X:=bO X (x :: N) scope cl H3.objs.size s2 H2 fp) _ s9 _ H9 (.ref s2.heap.objs.size) [y] _ [w9] (fun _ Hn=>Hn = upd H9 s2.heap.objs.size (.lst (ys ++ [y]))) I9 rfl (.cons r9 .nil) ⟨_,ys,y,rfl,rfl,hys,hlt,rfl⟩) (fun _ s10 ⟨_,H10,I10,_,e10⟩=>?_) fun _ _ z=>z.elim
    subst e10
    refine ⟨m',hm,i + 1,some v,_,I10.unpinned,T.keep _ _ _ st7 fun b hb o e=>(I10.pin (b,o) (List.mem_append_right _ (List.mem_append_right _ (cG hb e)))).1,fun b hb=>?_,w9'⟩
    obtain ⟨o,e,d⟩:=T.obj _ _ st7 b hb
    exact (I10.pin (b,o) (List.mem_append_right _ (List.mem_append_right _ (cG hb e)))).2.1
  ·obtain ⟨o,ho,_⟩:=T.obj 0 _ st2 b hb
   rw [ao (Nat.ne_of_lt (Heap.lt_size ho))]
   exact (f2 b hb).1
 exact codeAny_compStart_list loop (T.self X.A 0 _ _ _ (T.keep 0 _ _ st2 (fun b _ o e=>old b o e)) loop)
theorem iE (hc:X.calm = true) (hclos:closureFor scope X.env = pure []) (hno:∀ p ∈ scope.names,p.2 ≠ .cell/\p.2 ≠ .free) (hkind:scope.kind = .function)
  (hnames:∀ y ∈ scope.names,y.2 = .local->scope.names.lookup y.1 = some .local) (hx:scope.names.lookup x = some .local)
  (hi:PI X (.Name x px) iter wi) (he:∀ C s2 H2 fp,PE (bO X [x] scope [] C s2 H2 fp) elt te)
  (hs:∀ z,foldedSetIterable iter X.env z = pure z:=by intro _; rfl) :
  PE X (.ListComp elt [⟨.Name x px,iter,[],0⟩] scope pos) (sY wi te fun _=>[]):=by
 refine re (N:=[]) (cl:=[]) hc hclos (fun _ _ e=>nomatch e) (fun y hy=>(hno y hy).1) hkind hnames hx (fun y hy=>?_) (by simp) (fun _=>rfl) (fun _ i y v _ e _=>by simp at e) hi he hs
 exfalso
 have sub:∀ (l:List (Str × NameKind)),(∀ p ∈ l,p.2 ≠ .cell/\p.2 ≠ .free)->∀ p ∈ (l.map fun (n,k)=>if (k == NameKind.free && X.env.scope.kind == ScopeKind.function && X.env.kindOf n == some NameKind.cell) then (n,NameKind.cell) else (n,k)),p.2 ≠ .cell/\p.2 ≠ .free:=by
  intro l hl p hp
  obtain ⟨q,hq,e⟩:=List.mem_map.mp hp
  have h1:=hl q hq
  obtain ⟨n,k⟩:=q
  have hf:(k == NameKind.free) = false:=by
   cases k <;> first | rfl | exact absurd rfl h1.2
  rw [<- e]
  dsimp only
  rw [hf,Bool.false_and,Bool.false_and,if_neg (by decide)]
  exact h1
 have mem:∀ k,Env.kindOf (compEnvC scope [] 0 X.env) y = some k->k ≠ .cell/\k ≠ .free:=fun k e=>sub scope.names hno (y,k) (PySem.mem_of_lookup e)
 rcases hy with z | z
 ·exact (mem _ z).1 rfl
 ·exact (mem _ z).2 rfl
theorem ps_comp {i:Nat} {y:Str} {py spos:Pos} (hNX:X.N.Nodup) (hiy:X.N[i]? = some y) (hly:Loc X.env.scope y) (hsw:swapsWith (.ListComp elt [⟨.Name x px,iter,[],0⟩] scope pos) (some (.Name y py)) spos.line X.env = pure true) (hc:X.calm = true) (hclos:closureFor scope X.env = pure cl) (hsub:∀ n c,cl.lookup n = some c->X.env.cells.lookup n = some c)
  (hcell:∀ y ∈ scope.names,y.2 ≠ .cell) (hkind:scope.kind = .function) (hnames:∀ y ∈ scope.names,y.2 = .local->scope.names.lookup y.1 = some .local) (hx:scope.names.lookup x = some .local)
  (hhas:∀ y,(Env.kindOf (compEnvC scope cl 0 X.env) y = some .cell\/Env.kindOf (compEnvC scope cl 0 X.env) y = some .free)->∃ c,cl.lookup y = some c)
  (hN:(x :: N).Nodup) (hcapl:∀ σ,(cap σ).length = N.length)
  (hcap:∀ (σ:L2.St) (i:Nat) (y:Str) (v:V),σ.length = X.N.length->N[i]? = some y->(cap σ)[i]? = some (some v)->(Env.kindOf (compEnvC scope cl 0 X.env) y = some .cell\/Env.kindOf (compEnvC scope cl 0 X.env) y = some .free)/\X.env.kindOf y = some .cell/\∃ j:Nat,X.N[j]? = some y/\σ[j]? = some (some v))
  (hi:PI X (.Name x px) iter wi) (he:∀ C s2 H2 fp,PE (bO X (x :: N) scope cl C s2 H2 fp) elt te)
  (hs:∀ z,foldedSetIterable iter X.env z = pure z:=by intro _; rfl) (hf:X.fn y = true\/X.env.scope.names.lookup y = some .local:=by first | exact .inl rfl | exact .inr rfl | assumption) :
  PS X (.Assign [.Name y py] (.ListComp elt [⟨.Name x px,iter,[],0⟩] scope pos) spos) (tAsg (sY wi te cap) (rA i)):=by
 intro pins s σ H DD I h
 rw [exec_Assign_Name_used _ _ _ _ hsw]
 refine wpAny_bind (wpAny_standAt (wpAny_bind ?_))
 show wpAny _ X.A (do let _ <- comprehension (.ListComp elt [⟨.Name x px,iter,[],0⟩] scope pos) scope X.env _ (newList []) false (eval iter X.env) (some (assign (.Name y py) X.env))) _ _ s
 refine wpAny_bind (wpAny_mono (wpAny_comprehension_free (use:=some (assign (.Name y py) X.env)) (Q:=fun _ s'=>SP X pins DD .next s') rfl hs hclos hkind hnames (thn (hi pins s σ H _ I h) fun xv s1 h1=>thn h1 fun itv s2 h2=>?_)) (fun _ s' hq=>wpAny_pure (wpAny_pure hq)) fun _ _ e=>e)
 obtain ⟨it,fp,tn,J,H2,e,I2,T,st2,f2,hW⟩:=h2
 subst e
 have hD:H2 s2.heap.objs.size = none:=I2.hok.fresh (Nat.le_refl _)
 obtain ⟨W,⟨m0,w0⟩,turn⟩:=hW s2.heap.objs.size hD
 refine wpAny_newObj_type (wpAny_newFunctionEnv hcell (by intro y hy; simp at hy) (fun h4 hns4 hsb4=>?_) hkind) (by show 0<=sizeLine; decide)
 dsimp only at hns4 hsb4 ⊢
 generalize hH3:s2.heap.push { cls:=.type "list",dict:=none,data:=.seq ([]:List Value).toArray } = H3 at hns4 hsb4 ⊢
 have hCz:H3.objs.size = s2.heap.objs.size + 1:=by rw [<- hH3,Heap.size_push]
 have old3:∀ b o,s2.heap.get? b = some o->H3.get? b = some o:=fun b o e=>hH3 ▸ Heap.get?_push_of_some _ e
 have eD3:H3.get? s2.heap.objs.size = some { cls:=.type "list",dict:=none,data:=.seq ([]:List Value).toArray }:=hH3 ▸ Heap.get?_push_size _ rfl
 have old4:∀ b o,H3.get? b = some o->h4.get? b = some o:=fun b o e=>hsb4.extBut b o (Nat.ne_of_lt (Heap.lt_size e)) (Heap.get?_push_of_some _ e)
 have old:∀ b o,s2.heap.get? b = some o->h4.get? b = some o:=fun b o e=>old4 b o (old3 b o e)
 have szC:s2.heap.objs.size < H3.objs.size:=by rw [hCz]; exact Nat.lt_succ_self _
 have fpC:∀ b ∈ fp,b ≠ H3.objs.size:=fun b hb=>by
  obtain ⟨o,ho,_⟩:=T.obj 0 _ st2 b hb
  exact Nat.ne_of_lt (Nat.lt_trans (Heap.lt_size ho) szC)
 have ok':(bO X (x :: N) scope cl H3.objs.size s2 H2 fp).Ok:=by
  refine ⟨I2.ok.mod,hkind,I2.ok.glob,I2.ok.blt,(Nat.le_of_lt szC),fun a b c e1 e2=>I2.ok.inj a b c (hsub a c e1) (hsub b c e2),fun y hy=>hhas y hy,fun y c z _=>absurd (show false = true from z) (by decide),
   fun _=>I2.ok.hd hc,I2.ok.frames,.inl rfl,fun b hb=>⟨fpC b hb,fun y c e=>(f2 b hb).2.2.2.2.1 y c (hsub y c e)⟩,I2.bs,Nat.le_trans I2.ok.bsz I2.sz,fun b o e hb=>?_,fun b hb z=>?_,I2.stack,I2.stkFree⟩
  ·rcases (f2 b hb).2.2.2.1 with q | q
   ·exact I2.ok.noex b o e q
   ·exact absurd (Nat.lt_of_lt_of_le (Heap.lt_size e) (Nat.le_trans I2.ok.bsz q)) (Nat.lt_irrefl _)
  ·rcases List.mem_cons.mp (I2.stkSub b z) with q | q
   ·exact (f2 b hb).2.1 q
   ·exact (f2 b hb).2.2.1 q
 have okD:ObjOk X.prog X.w (upd H2 s2.heap.objs.size (.lst [])) h4 s2.heap.objs.size (.lst []):=⟨Nat.zero_le _,[],0,.nil,old4 _ _ eD3⟩
 have I4:Inv (bO X (x :: N) scope cl H3.objs.size s2 H2 fp) [] (none :: cap σ) (upd H2 s2.heap.objs.size (.lst [])) { s2 with heap:=h4,toks:=s2.toks + ([]:List (Str × Value)).length }:=by
  refine ⟨ok',rfl,I2.bare,Un.laid old (Nat.le_refl _) hD,⟨_,hns4,fun i y v e1 e2 _=>?_⟩,fun y c e=>?_,?_,fun y c e=>?_,fun p hp=>absurd hp (by show p ∉ ([] ++ []:List (Addr × Obj)); simp),I2.hok.laid old (Nat.le_refl _) okD,?_⟩
  ·cases i with
   | zero=>simp at e2
   | succ i =>
    obtain ⟨k1,k2,j,e3,e4⟩:=hcap σ i y v I2.len (show N[i]? = some y from e1) (show (cap σ)[i]? = some (some v) from e2)
    obtain ⟨m,_,hl⟩:=I2.loc
    obtain ⟨u,ru,lk⟩:=hl j y v e3 e4 (.inr (.inl k2))
    refine ⟨u,ru,.inr ⟨k1,?_⟩⟩
    rcases lk with ⟨z,_⟩ | ⟨_,c,e5,hcl⟩
    ·rw [k2] at z; cases z
    ·obtain ⟨c',e6⟩:=hhas y k1
     have:c' = c:=by
      have:=hsub y c' e6
      rw [e5] at this
      exact (Option.some.inj this).symm
     subst this
     obtain ⟨oc,ho,hd⟩:=hcl
     exact ⟨c',e6,oc,old _ _ ho,hd⟩
  ·obtain ⟨v,oc,ho,hd⟩:=I2.cell y c (hsub y c e)
   exact ⟨v,oc,old _ _ ho,hd⟩
  ·show upd H2 s2.heap.objs.size (.lst []) H3.objs.size = none
   rw [ao (Nat.ne_of_gt szC)]
   exact I2.hok.fresh (Nat.le_of_lt szC)
  ·have h1:=I2.freeC y c (hsub y c e)
   obtain ⟨v,oc,ho,_⟩:=I2.cell y c (hsub y c e)
   rw [ao (Nat.ne_of_lt (Heap.lt_size ho))]
   exact h1
  ·show (none :: cap σ).length = (x :: N).length
   simp [hcapl]
 have stat:∀ {H':Hp},(∀ b ∈ fp,H' b = none)->∀ b ∈ fp,FpOk (bO X (x :: N) scope cl H3.objs.size s2 H2 fp) [] H' b:=fun {H'} hn b hb =>
  ⟨hn b hb,(ok'.exf b hb).1,ok'.exfs b hb,.inl hb,(ok'.exf b hb).2,fun p hp=>absurd hp (by show p ∉ ([] ++ []:List (Addr × Obj)); simp)⟩
 have loop:codeAny (model X.prog X.w) X.A (.compLoop (.ListComp elt [⟨.Name x px,iter,[],0⟩] scope pos) 0 (.ref it) (.ref s2.heap.objs.size) (compEnvC scope cl H3.objs.size X.env))
   (compPost (model X.prog X.w) X.A X.xe (some (assign (.Name y py) X.env)) (fun _ s'=>SP X pins DD .next s') (.ref s2.heap.objs.size) H3.objs.size) { s2 with heap:=h4,toks:=s2.toks + ([]:List (Str × Value)).length }:=by
  refine codeAny_compLoop_list (fun n s'=>∃ (i:Nat) (z0:Option V) (H':Hp),Inv (bO X (x :: N) scope cl H3.objs.size s2 H2 fp) [] (z0 :: cap σ) H' s'/\tn i s'.heap/\(∀ b ∈ fp,H' b = none)/\W i n H') ?_ m0
   ⟨0,none,_,I4,T.keep 0 _ _ st2 (fun b _ o e=>old b o e),fun b hb=>?_,w0⟩
  ·rintro n s5 ⟨i,z0,H5,I5,st5,fr5,w5⟩
   rcases turn i n H5 w5 with ⟨stop,qn⟩ | ⟨go,step⟩
   ·refine wpAny_mono (T.done (bO X (x :: N) scope cl H3.objs.size s2 H2 fp) rfl rfl rfl rfl i [] s5 _ H5 _ I5 (stat fr5) st5 stop) (fun r s6 ⟨hr,I6⟩=>?_) fun _ _ z=>z
    subst hr
    obtain ⟨m,hn6,_⟩:=id I6.loc
    have I6X:Inv X pins σ H5 s6:=I2.call' (ch:=fp) (s':=s6) I6.os I6.base I6.hok I6.bare fun b hb=>⟨(f2 b hb).2.2.2.1,(f2 b hb).2.1,(f2 b hb).2.2.2.2.1,(f2 b hb).2.2.2.2.2⟩
    have fC:H5 H3.objs.size = none:=I6.free
    have nL:H3.objs.size ≠ X.env.locals:=Ne.symm (Nat.ne_of_lt (Nat.lt_trans I2.lt szC))
    have nCl:∀ z c,X.env.cells.lookup z = some c->c ≠ H3.objs.size:=fun z c e=>by
     obtain ⟨v,oc,ho,_⟩:=I2.cell z c e
     exact Nat.ne_of_lt (Nat.lt_trans (Heap.lt_size ho) szC)
    refine wpAny_assign_Name (mE I6X hNX hiy hly (v:=.ref s2.heap.objs.size) rfl (fun s7 I7 ⟨ad,sb7,had⟩=>?_) hf)
    have nA:H3.objs.size ≠ ad:=by
     rcases had with e | e
     ·rw [e]; exact nL
     ·exact Ne.symm (nCl _ _ e)
    refine ⟨m,hn6.sameBut sb7 nA,fun h' sb=>⟨_,H5,?_,qn⟩⟩
    refine I7.turned (it:=H3.objs.size) (t':=s7.toks) (fun b o hb e=>sb.extBut b o hb e) fC nL (.inr (Nat.le_trans I2.sz (Nat.le_of_lt szC))) nCl fun p hp=>?_
    exact Nat.ne_of_lt (Nat.lt_trans (Heap.lt_size (I2.pin p hp).1) szC)
   ·refine wpAny_mono (T.item (bO X (x :: N) scope cl H3.objs.size s2 H2 fp) rfl rfl rfl rfl i [] s5 _ H5 _ I5 (stat fr5) st5 go) (fun r s6 ⟨u,hr,h6⟩=>?_) fun _ _ z=>z
    subst hr
    have key:(letOwnedTupleGo (.Name x px) (.ref it) u >>= fun _=>assign (.Name x px) (compEnvC scope cl H3.objs.size X.env) u) = assign (.Name x px) (compEnvC scope cl H3.objs.size X.env) u:=by first | rfl | exact pure_bind _ _
    dsimp only
    rw [<- key]
    refine wpAny_bind (wpAny_mono h6 (fun _ s7 ⟨v,H7,I7,r7,y7,st7,fr7⟩=>?_) fun _ _ z=>z)
    have I7':=I7.pinned (stat fr7) (T.obj _ _ st7)
    refine wpAny_assign_Name (iD (i:=0) I7' hN rfl (.inl (lookup_relabel_local hx)) r7 (fun s8 I8=>?_) (.inr (lookup_relabel_local hx)))
    refine wpAny_mono (he H3.objs.size s2 H2 fp _ s8 (some v :: cap σ) H7 _ I8 (step v H7 y7)) (fun w9 s9 ⟨yv,H9,I9,r9,ys,hys,hlt,m',hm,w9'⟩=>?_) fun _ _ z=>z.elim
    refine wpAny_mono (bE (X:=bO X (x :: N) scope cl H3.objs.size s2 H2 fp) _ s9 _ H9 (.ref s2.heap.objs.size) [yv] _ [w9] (fun _ Hn=>Hn = upd H9 s2.heap.objs.size (.lst (ys ++ [yv]))) I9 rfl (.cons r9 .nil) ⟨_,ys,yv,rfl,rfl,hys,hlt,rfl⟩) (fun _ s10 ⟨_,H10,I10,_,e10⟩=>?_) fun _ _ z=>z.elim
    subst e10
    refine ⟨m',hm,i + 1,some v,_,I10.unpinned,T.keep _ _ _ st7 fun b hb o e=>(I10.pin (b,o) (List.mem_append_right _ (List.mem_append_right _ (cG hb e)))).1,fun b hb=>?_,w9'⟩
    obtain ⟨o,e,d⟩:=T.obj _ _ st7 b hb
    exact (I10.pin (b,o) (List.mem_append_right _ (List.mem_append_right _ (cG hb e)))).2.1
  ·obtain ⟨o,ho,_⟩:=T.obj 0 _ st2 b hb
   rw [ao (Nat.ne_of_lt (Heap.lt_size ho))]
   exact (f2 b hb).1
 exact codeAny_compStart_list loop (T.self X.A 0 _ _ _ (T.keep 0 _ _ st2 (fun b _ o e=>old b o e)) loop)
theorem mS {K:Frag} {a D:Addr} {xs:List V} {te':TE} {tl:L2.St} {G:Hp->Prop} {H1:Hp} (Pv:Nat->Hp->Prop) (h0:Pv 0 (upd H1 D (.lst []))) (hl:∀ i H,i<=xs.length->Pv i H->SqL K H a xs)
  (hs:∀ i x H,xs[i]? = some x->Pv i H->te' (some x :: tl) H fun y H2=>∃ ys,H2 D = some (.lst ys)/\ys.length < sizeLine/\∃ m',m' < xs.length - i/\(m' = xs.length - (i + 1)/\i + 1<=xs.length/\Pv (i + 1) (upd H2 D (.lst (ys ++ [y])))))
  (hd:∀ H,Pv xs.length H->G H) :
  ∃ W:Nat->Nat->Hp->Prop,(∃ m,W 0 m (upd H1 D (.lst [])))/\∀ i m H,W i m H ->
   ((Itl K a).stop i H/\G H)\/((Itl K a).go i H/\∀ x H',(Itl K a).yld i H x H'->te' (some x :: tl) H' fun y H2=>∃ ys,H2 D = some (.lst ys)/\ys.length < sizeLine/\∃ m',m' < m/\W (i + 1) m' (upd H2 D (.lst (ys ++ [y])))):=by
 refine ⟨fun i m H=>m = xs.length - i/\i<=xs.length/\Pv i H,⟨xs.length,by simp,Nat.zero_le _,h0⟩,?_⟩
 rintro i m H ⟨rfl,hi,p⟩
 have q:=hl i H hi p
 by_cases hlt:i < xs.length
 ·refine .inr ⟨⟨xs,xs[i],q,by simp [hlt]⟩,fun x H' y=>?_⟩
  obtain ⟨e,y⟩:=y
  subst e
  exact hs i x _ (y xs q) p
 ·have e:i = xs.length:=by omega
  subst e
  exact .inl ⟨⟨xs,q,Nat.le_refl _⟩,hd H p⟩
end
def tJoin (t u:TS):TS:=fun D σ H=>∃ J:L2.St->Hp->Prop,t { D with nx:=J } σ H/\∀ σ' H',J σ' H'->u D σ' H'
theorem pss_join {X:Cx} {st:Stmt} {rest:List Stmt} {t u:TS} (h1:PS X st t) (h2:PSs X rest u):PSs X (st :: rest) (tJoin t u):=by
 intro pins s σ H D I h
 obtain ⟨J,h,hJ⟩:=h
 refine wpAny_execs_cons (thn (h1 pins s σ H { D with nx:=J } I h) fun f s1 q=>?_)
 cases f with
 | next =>
  obtain ⟨σ',H',I',q⟩:=q
  exact h2 pins s1 σ' H' D I' (hJ _ _ q)
 | ret v=>exact q
 | brk=>exact q
 | cont=>exact q
end Ow
namespace Ow
open PySem PySem.Spec PyProof.Rows L2
section
variable {X:Cx}
theorem db {xs:List V} {us:List Value} (r:Vals xs us) {j:Nat} (h1:j < us.length):RelV (xs.getD j .non) us[j]:=by
 have hl:=r.length
 have hj:j < xs.length:=by omega
 obtain ⟨u,hu,ru⟩:=r.get (i:=j) (x:=xs[j]) (List.getElem?_eq_getElem hj)
 rw [List.getElem?_eq_getElem h1] at hu
 rw [List.getD_eq_getElem?_getD,List.getElem?_eq_getElem hj]
 cases hu
 exact ru
def rEq0 (K:Frag) (neg:Bool):R2:=fun x y H Q=>∃ p q xs,x = .ref p/\y = .ref q/\SqL K H p xs/\SqL K H q []/\Q (.bl (if neg then !xs.isEmpty else xs.isEmpty)) H
theorem op_eq0 (hu:X.A.units < cLine):OpR X (compareOp .Eq) (rEq0 X.K false):=by
 intro pins s σ H x y v u Q I rx ry h
 obtain ⟨p,q,xs,rfl,rfl,hp,hq,k⟩:=h
 cases rx
 cases ry
 obtain ⟨its,r,pl,hz⟩:=I.list hp
 obtain ⟨its2,r2,pl2,hz2⟩:=I.list hq
 cases r2
 have hl:=r.length
 cases xs with
 | nil =>
  cases r
  exact SeqAt.eq_listAt (e:=fun _=>true) pl.isList pl2.isList rfl hu (fun j h1 _=>absurd h1 (by simp)) ⟨.bl _,H,I,rfl,k⟩
 | cons z zs =>
  refine SeqAt.eq_list_lengthsAt pl.isList pl2.isList ?_ hu ⟨.bl _,H,I,rfl,k⟩
  rw [List.length_cons] at hl
  simp only [List.size_toArray,<- hl]
  rfl
theorem qG (hu:X.A.units < cLine):OpR X (compareOp .NotEq) (rEq0 X.K true):=by
 intro pins s σ H x y v u Q I rx ry h
 obtain ⟨p,q,xs,rfl,rfl,hp,hq,k⟩:=h
 cases rx
 cases ry
 obtain ⟨its,r,pl,hz⟩:=I.list hp
 obtain ⟨its2,r2,pl2,hz2⟩:=I.list hq
 cases r2
 have hl:=r.length
 cases xs with
 | nil =>
  cases r
  exact SeqAt.RcNeAt.lists (e:=fun _=>true) pl.isList pl2.isList rfl hu (fun j h1 _=>absurd h1 (by simp)) X.prog X.w X.xe _ ⟨.bl _,H,I,rfl,k⟩
 | cons z zs =>
  refine SeqAt.RcNeAt.lists_lengths pl.isList pl2.isList ?_ hu X.prog X.w X.xe _ ⟨.bl _,H,I,rfl,k⟩
  rw [List.length_cons] at hl
  simp only [List.size_toArray,<- hl]
  rfl
def tRev (K:Frag) (te:TE):TE:=fun σ H Q=>te σ H fun x H1=>∃ a xs,x = .ref a/\SqL K H1 a xs/\∀ p,H1 p = none->Q (.ref p) (upd H1 p (.lst xs.reverse))
theorem pe_rev {e:Expr} {te:TE} {j:Nat} {p1 p2 p3 pos:Pos} (he:PE X e te):PE X (.Subscript e (.Slice none none (some (.UnaryOp .USub (.Constant (.int 1) j p1) p3)) p2) pos) (tRev X.K te):=by
 intro pins s σ H Q I h
 refine Subscript_ (thn (he pins s σ H _ I h) fun v s1 ⟨x,H1,I1,r1,a,xs,ex,hx,q⟩=>?_)
 subst ex
 cases r1
 refine wpAny_Slice ?_
 rw [evalPart_none]
 refine wpAny_pure (wpAny_pure ?_)
 rw [evalPart_some]
 refine thn ((pe_un pT ak:PE X (.UnaryOp .USub (.Constant (.int 1) j p1) p3) _) pins s1 σ H1 (fun z Hz=>z = .int (-1)/\Hz = H1) I1 ⟨_,rfl,rfl,rfl⟩) fun vk s2 ⟨z,H2,I2,rz,ez,eH⟩=>?_
 subst ez eH
 obtain ⟨tk,rfl⟩:=rz
 obtain ⟨its,r,ht,hz⟩:=I2.list hx
 have hlen:=r.length
 have I4:Inv X pins σ H2 { s2 with heap:=s2.heap.push { cls:=.type "slice",data:=.fields #[.none,.none,.int (-1) tk] } }:=I2.kept (t':=s2.toks) fun b ob q=>Heap.get?_push_of_some _ q
 obtain ⟨its',r',ht',hz'⟩:=I4.list hx
 show wpAny (model X.prog X.w) X.A (subscriptTail e (.Slice none none (some (.UnaryOp .USub (.Constant (.int 1) j p1) p3)) p2) (.ref a) (.ref s2.heap.objs.size)) (EP X pins σ Q) X.xe { s2 with heap:=s2.heap.push { cls:=.type "slice",data:=.fields #[.none,.none,.int (-1) tk] } }
 have hlen':=r'.length
 refine tail_any (ops:=[.ref a,.ref s2.heap.objs.size]) ht'.isList.typeIs slot_list_getitem.lookup (wpAny_getItem_list_slice ht'.isList (Heap.IsSliceOf.new ..) .none .none (.int (-1) tk) (by decide) ?_ (by rw [List.size_toArray] <;> omega)) (by with_unfolding_all rfl)
 rw [PySem.W.krv_pick]
 refine ⟨.ref (s2.heap.push { cls:=.type "slice",data:=.fields #[.none,.none,.int (-1) tk] }).objs.size,_,I4.laid (t':=s2.toks) (o:=.lst xs.reverse) (fun b ob q=>Heap.get?_push_of_some _ q) (Nat.le_refl _) ?_,rfl,q _ (I4.hok.fresh (Nat.le_refl _))⟩
 refine ⟨by rw [List.length_reverse]; exact hz,its'.reverse,0,L2.Vals.reverse r',?_⟩
 exact Heap.get?_push_size _ rfl
end
end Ow
namespace Ow
open PySem PySem.Spec PyProof.Rows L2
section
variable {X:Cx}
def rAddL (K:Frag):R2:=fun x y H Q=>∃ a b xs ys,x = .ref a/\y = .ref b/\SqL K H a xs/\SqL K H b ys/\xs.length + ys.length<=sizeLine/\∀ p,H p = none->Q (.ref p) (upd H p (.lst (xs ++ ys)))
theorem bB:OpR X (binaryOp .Add) (rAddL X.K):=by
 intro pins s σ H x y v u Q I rx ry h
 obtain ⟨a,b,xs,ys,rfl,rfl,ha,hb,hz,q⟩:=h
 cases rx
 cases ry
 obtain ⟨its,r,pl,_⟩:=I.list ha
 obtain ⟨its2,r2,pl2,_⟩:=I.list hb
 have hl:=r.length
 have hl2:=r2.length
 obtain ⟨⟨cls,dd,data,sl⟩,ho,hc,n,hd⟩:=id pl.isList
 obtain ⟨⟨cls2,dd2,data2,sl2⟩,ho2,hc2,n2,hd2⟩:=id pl2.isList
 simp only at hc hd hc2 hd2
 subst hc hd hc2 hd2
 have e:its.toArray ++ its2.toArray = (its ++ its2).toArray:=by simp
 refine concat_meets ⟨_,ho,rfl⟩ ⟨_,ho2,rfl⟩ noFill_list_add seq_list_add PySem.F.slot_list_add PySem.F.entry_list_add (PySem.F.args_list_add_2 _ _) (list_addW a b its.toArray its2.toArray n n2 dd dd2 sl sl2 (by simp; omega)) ⟨ho,ho2,?_⟩
 rw [e]
 exact ⟨.ref s.heap.objs.size,_,I.lnew (t':=s.toks) (r.append r2) (by rw [List.length_append]; exact hz),rfl,q _ I.fresh⟩
variable {tg:Expr}
inductive EqD (K:Frag) (H:Hp):Nat->V->V->Bool->Prop where
 | flat {d:Nat} {x y:V} (fx:fK x = true) (fy:fK y = true):EqD K H d x y (eqV x y)
 | tup {d:Nat} {p q:Addr} {xs ys:List V} {e:Nat->Bool} (hn:p ≠ q) (hx:SqT K H p xs) (hy:SqT K H q ys) (he:∀ j,j < xs.length->j < ys.length->EqD K H d (xs.getD j .non) (ys.getD j .non) (e j)) :
   EqD K H (d + 1) (.ref p) (.ref q) ((List.range (min xs.length ys.length)).all e && xs.length == ys.length)
 | lst {d:Nat} {p q:Addr} {xs ys:List V} {e:Nat->Bool} (hn:p ≠ q) (hx:SqL K H p xs) (hy:SqL K H q ys) (hl:xs.length = ys.length) (he:∀ j,j < xs.length->EqD K H d (xs.getD j .non) (ys.getD j .non) (e j)) :
   EqD K H (d + 1) (.ref p) (.ref q) ((List.range xs.length).all e)
 | same {d:Nat} {p:Addr}:EqD K H d (.ref p) (.ref p) true
theorem EqD.at {pins:List (Addr × Obj)} {σ:L2.St} {H:Hp} {s:Shared} (I:Inv X pins σ H s):∀ {d:Nat} {x y:V} {b:Bool} {u v:Value} {A:Around},EqD X.K H d x y b->RelV x u->RelV y v->A.units + d < cLine->SeqAt.EqAt A s u v b:=by
 intro d x y b u v A h
 induction h generalizing u v A with
 | flat fx fy=>intro rx ry _; exact qH rx ry fx fy
 | same=>intro rx ry _; cases rx; cases ry; exact SeqAt.EqAt.same _
 | @tup d p q xs ys e hn hx hy he ih =>
  intro rx ry hu
  cases rx
  cases ry
  obtain ⟨its,r,pl,_⟩:=I.tuple hx
  obtain ⟨its2,r2,pl2,_⟩:=I.tuple hy
  have hl:=r.length
  have hl2:=r2.length
  have:=SeqAt.EqAt.of_refs hn (SeqAt.RcAt.tuples (A:=A) (e:=e) pl pl2 (by omega) (fun j h1 h2=>by
   have h1':j < its.length:=by simpa using h1
   have h2':j < its2.length:=by simpa using h2
   have z:=ih j (by omega) (by omega) (db r h1') (db r2 h2') (A:=A.in1) (by show A.units + 1 + d < _; omega)
   simpa using z))
  simp only [List.size_toArray,<- hl,<- hl2] at this
  exact this
 | @lst d p q xs ys e hn hx hy hle he ih =>
  intro rx ry hu
  cases rx
  cases ry
  obtain ⟨its,r,pl,_⟩:=I.list hx
  obtain ⟨its2,r2,pl2,_⟩:=I.list hy
  have hl:=r.length
  have hl2:=r2.length
  have:=SeqAt.EqAt.of_refs hn (SeqAt.RcAt.lists (A:=A) (e:=e) pl.isList pl2.isList (by simp only [List.size_toArray]; omega) (by omega) (fun j h1 h2=>by
   have h1':j < its.length:=by simpa using h1
   have h2':j < its2.length:=by simpa using h2
   have z:=ih j (by omega) (db r h1') (db r2 h2') (A:=A.in1) (by show A.units + 1 + d < _; omega)
   simpa using z))
  simp only [List.size_toArray,<- hl] at this
  exact this
def rEqLD (K:Frag) (d:Nat) (neg:Bool):R2:=fun x y H Q=>∃ p q xs ys e,x = .ref p/\y = .ref q/\SqL K H p xs/\SqL K H q ys/\xs.length = ys.length/\(∀ j,j < xs.length->EqD K H d (xs.getD j .non) (ys.getD j .non) (e j))/\Q (.bl (if neg = true then !(List.range xs.length).all e else (List.range xs.length).all e)) H
theorem op_neLD {d:Nat} (hu:X.A.units + d + 1 < cLine):OpR X (compareOp .NotEq) (rEqLD X.K d true):=by
 intro pins s σ H x y v u Q I rx ry h
 obtain ⟨p,q,xs,ys,e,rfl,rfl,hp,hq,hle,he,k⟩:=h
 cases rx
 cases ry
 obtain ⟨its,r,pl,_⟩:=I.list hp
 obtain ⟨its2,r2,pl2,_⟩:=I.list hq
 have hl:=r.length
 have hl2:=r2.length
 refine SeqAt.RcNeAt.lists (e:=e) pl.isList pl2.isList (by simp only [List.size_toArray]; omega) (by omega) (fun j h1 h2=>?_) X.prog X.w X.xe _ ⟨.bl _,H,I,rfl,?_⟩
 ·have h1':j < its.length:=by simpa using h1
  have h2':j < its2.length:=by simpa using h2
  have z:=(he j (by omega)).at I (db r h1') (db r2 h2') (A:=X.A.in1) (by show X.A.units + 1 + d < _; omega)
  simpa using z
 ·simp only [List.size_toArray,<- hl]
  exact k
end
end Ow
namespace Ow
open PySem PySem.Spec PyProof.Rows L2
section
variable {X:Cx} {tg:Expr}
theorem gf (hc:X.calm = true):fq X (.builtin "all") (fun xs H Q=>∃ (a:Addr) (bs:List Bool),xs = [.ref a]/\SqL X.K H a (bs.map V.bl)/\Q (.bl (bs.all id)) H):=by
 intro pins s σ H xs us Q I r h
 obtain ⟨a,bs,rfl,hq,q⟩:=h
 obtain ⟨u,rfl,rx⟩:=mT r
 cases rx
 obtain ⟨its,rv,pl,hz⟩:=I.list hq
 have hl:=rv.length
 rw [List.length_map] at hl
 refine call_all_walk (wpAny_pyIter_list pl.isList ?_)
 have hne:a ≠ s.heap.objs.size:=by
  obtain ⟨o,ho,_⟩:=pl.isList
  exact Nat.ne_of_lt (Heap.lt_size ho)
 refine ⟨s.heap.objs.size,_,_,_,_,_,fun j=>bs.getD j false,rfl,Walks.list (A:=X.A.in1) (I.ok.hd hc) s.heap.objs.size a hne its.toArray,⟨⟨_,Heap.get?_push_size _ rfl,rfl,rfl⟩,Heap.IsList.push pl.isList _⟩,?_,?_⟩
 ·intro i v s' Q' E' hP hQ'
  have hP':its[i]? = some v:=by simpa using hP
  have hi:i < its.length:=(List.getElem?_eq_some_iff.mp hP').1
  have hb:(bs.map V.bl)[i]? = some (V.bl (bs.getD i false)):=by
   rw [List.getElem?_map,List.getD_eq_getElem?_getD,List.getElem?_eq_getElem (by omega)]
   rfl
  obtain ⟨u',hu',ru'⟩:=rv.get hb
  rw [hP'] at hu'
  cases hu'
  cases ru'
  exact wpAny_truthy_bool hQ'
 ·intro h' tk hk
  refine ⟨.bl _,H,I.kept (t':=tk) fun b o e=>hk b o (fun z=>?_) (Heap.get?_push_of_some _ e),?_,q⟩
  ·have z':b = s.heap.objs.size:=by simpa using z
   exact absurd (Heap.lt_size e) (by rw [z']; exact Nat.lt_irrefl _)
  ·have e1:(List.range its.toArray.size).all (fun j=>bs.getD j false) = bs.all id:=by
    rw [List.size_toArray,<- hl]
    rw [Bool.eq_iff_iff,List.all_eq_true,List.all_eq_true]
    constructor
    ·intro h x hx
     obtain ⟨j,hj,e⟩:=List.getElem_of_mem hx
     have:=h j (List.mem_range.mpr hj)
     rw [List.getD_eq_getElem?_getD,List.getElem?_eq_getElem hj] at this
     show x = true
     rw [<- e]
     exact this
    ·intro h j hj
     have hj':=List.mem_range.mp hj
     rw [List.getD_eq_getElem?_getD,List.getElem?_eq_getElem hj']
     exact h _ (List.getElem_mem hj')
   rw [e1]
   rfl
variable {elt iter:Expr} {x:Str} {px pos:Pos} {scope:Scope} {wi:TI} {te:TE} {cl:List (Str × Addr)}
theorem pR (js:List Nat) (ns:List Str) (hc:X.calm = true) (hclos:closureFor scope X.env = pure cl) (hcls:cl.map (·.1) = ns) (hsub:∀ p ∈ cl,X.env.cells.lookup p.1 = some p.2)
  (hno:∀ p ∈ scope.names,p.2 ≠ .cell/\(p.2 = .free->p.1 ∈ ns)) (hkind:scope.kind = .function) (hnames:∀ y ∈ scope.names,y.2 = .local->scope.names.lookup y.1 = some .local) (hx:scope.names.lookup x = some .local)
  (hN:(x :: ns).Nodup) (hkd:∀ y ∈ ns,(Env.kindOf (compEnvC scope cl 0 X.env) y = some .cell\/Env.kindOf (compEnvC scope cl 0 X.env) y = some .free)/\X.env.kindOf y = some .cell)
  (hjl:js.length = ns.length) (hj:js.map (fun j=>X.N[j]?) = ns.map some)
  (hi:PI X (.Name x px) iter wi) (he:∀ C s2 H2 fp,PE (bO X (x :: ns) scope cl C s2 H2 fp) elt te)
  (hs:∀ z,foldedSetIterable iter X.env z = pure z:=by intro _; rfl) :
  PE X (.ListComp elt [⟨.Name x px,iter,[],0⟩] scope pos) (sY wi te fun σ=>js.map fun j=>(σ[j]?).getD none):=by
 refine re (N:=ns) (cl:=cl) hc hclos (fun n c e=>hsub (n,c) (PySem.mem_of_lookup e)) (fun y hy=>(hno y hy).1) hkind hnames hx (fun y hy=>?_) hN (fun σ=>by rw [List.length_map]; exact hjl) (fun σ i y v _ e1 e2=>?_) hi he hs
 ·have sub:∀ (l:List (Str × NameKind)),(∀ p ∈ l,p.2 ≠ .cell/\(p.2 = .free->p.1 ∈ ns))->∀ p ∈ (l.map fun (n,k)=>if (k == NameKind.free && X.env.scope.kind == ScopeKind.function && X.env.kindOf n == some NameKind.cell) then (n,NameKind.cell) else (n,k)),(p.2 = .cell\/p.2 = .free)->p.1 ∈ ns:=by
   intro l hl p hp hk
   obtain ⟨q,hq,e⟩:=List.mem_map.mp hp
   have h1:=hl q hq
   obtain ⟨n,k⟩:=q
   dsimp only at e
   by_cases hf:k = .free
   ·have h2:=h1.2 hf
    split at e
    ·rw [<- e]; exact h2
    ·rw [<- e]; exact h2
   ·have hf':(k == NameKind.free) = false:=by
     cases k <;> first | rfl | exact absurd rfl hf
    rw [hf',Bool.false_and,Bool.false_and,if_neg (by decide)] at e
    rw [<- e] at hk
    rcases hk with z | z
    ·exact absurd z h1.1
    ·exact absurd z hf
  have hy':y ∈ ns:=by
   rcases hy with z | z
   ·exact sub scope.names hno (y,.cell) (PySem.mem_of_lookup z) (.inl rfl)
   ·exact sub scope.names hno (y,.free) (PySem.mem_of_lookup z) (.inr rfl)
  rw [<- hcls] at hy'
  have key:∀ l:List (Str × Addr),y ∈ l.map (·.1)->∃ c,l.lookup y = some c:=by
   intro l
   induction l with
   | nil=>intro h; simp at h
   | cons p r ih =>
    intro h
    by_cases e:y = p.1
    ·exact ⟨p.2,by obtain ⟨p1,p2⟩:=p; dsimp only at e; subst e; simp [List.lookup]⟩
    ·have h':y ∈ r.map (·.1):=by
      rw [List.map_cons] at h
      exact (List.mem_cons.mp h).resolve_left e
     obtain ⟨c,hc'⟩:=ih h'
     refine ⟨c,?_⟩
     obtain ⟨p1,p2⟩:=p
     have:(y == p1) = false:=by simpa using e
     rw [List.lookup_cons,this]
     exact hc'
  exact key cl hy'
 ·have hm:y ∈ ns:=List.mem_of_getElem? e1
  refine ⟨(hkd y hm).1,(hkd y hm).2,?_⟩
  rw [List.getElem?_map] at e2
  cases hji:js[i]? with
  | none=>rw [hji] at e2; cases e2
  | some j =>
   rw [hji] at e2
   have e3:(σ[j]?).getD none = some v:=by
    have:=Option.some.inj e2
    exact this
   have e4:=congrArg (fun l=>l[i]?) hj
   rw [List.getElem?_map,List.getElem?_map,hji,e1] at e4
   have e5:X.N[j]? = some y:=by
    have:=Option.some.inj e4
    exact this
   refine ⟨j,e5,?_⟩
   cases hσ:σ[j]? with
   | none=>rw [hσ] at e3; cases e3
   | some o =>
    rw [hσ] at e3
    have e6:o = some v:=e3
    rw [e6]
structure CHas (P:Program) (w:World) (K:Frag) (mg:Str->Option Value) (base:Heap) (k:Nat) (C:Addr) (x:Str) (ps:List Str) (sp:Sp):Prop where
 ex:∃ (f:Addr) (fd:FuncData),Mk K C f/\FnOk P w K mg base CX0 k f fd ps sp/\Binds K fd ps []/\mg x = some (.ref C)
theorem aF {k:Nat} {C:Addr} {y:Str} {ps:List Str} {sp:Sp} {p:Pos} {e:Expr} {es:List Expr} {t:TA} (h:CHas X.prog X.w X.K X.mg X.base k C y ps sp) (hr:Room (k + 1) X.A) (hg:Gl X y) (ha:PA X (e :: es) t) (hdb:(y == ("__debug__":Str)) = false:=by decide)
  (he:starEach (e :: es) X.env = (false,eval e X.env) :: starEach es X.env:=by rfl) (hpl:(backTo pos (starEach es X.env)).any (·.1) = false:=by rfl) :
  PE X (.Call (.Name y p) (e :: es) [] pos) (tMake C sp [] E0 t):=by
 obtain ⟨f,fd,M,F,b,m⟩:=h.ex
 exact pe_make M F hr hg m b .nil qf ha hdb he hpl
end
end Ow
namespace Ow
open PySem PySem.Spec PyProof.Rows L2
section
variable {X:Cx}
theorem rN {K:Frag} (h:X.K = K):IxR X (rIxT K):=by
 subst h
 exact qS
variable {elt iter:Expr} {x:Str} {px pos:Pos} {scope:Scope} {wi:TI} {te:TE} {cl:List (Str × Addr)}
theorem ps_compC {i:Nat} {y:Str} {py spos:Pos} (hNX:X.N.Nodup) (hiy:X.N[i]? = some y) (hly:Loc X.env.scope y) (hsw:swapsWith (.ListComp elt [⟨.Name x px,iter,[],0⟩] scope pos) (some (.Name y py)) spos.line X.env = pure true) (js:List Nat) (ns:List Str) (hc:X.calm = true) (hclos:closureFor scope X.env = pure cl) (hcls:cl.map (·.1) = ns) (hsub:∀ p ∈ cl,X.env.cells.lookup p.1 = some p.2)
  (hno:∀ p ∈ scope.names,p.2 ≠ .cell/\(p.2 = .free->p.1 ∈ ns)) (hkind:scope.kind = .function) (hnames:∀ y ∈ scope.names,y.2 = .local->scope.names.lookup y.1 = some .local) (hx:scope.names.lookup x = some .local)
  (hN:(x :: ns).Nodup) (hkd:∀ y ∈ ns,(Env.kindOf (compEnvC scope cl 0 X.env) y = some .cell\/Env.kindOf (compEnvC scope cl 0 X.env) y = some .free)/\X.env.kindOf y = some .cell)
  (hjl:js.length = ns.length) (hj:js.map (fun j=>X.N[j]?) = ns.map some)
  (hi:PI X (.Name x px) iter wi) (he:∀ C s2 H2 fp,PE (bO X (x :: ns) scope cl C s2 H2 fp) elt te)
  (hs:∀ z,foldedSetIterable iter X.env z = pure z:=by intro _; rfl) (hf:X.fn y = true\/X.env.scope.names.lookup y = some .local:=by first | exact .inl rfl | exact .inr rfl | assumption) :
  PS X (.Assign [.Name y py] (.ListComp elt [⟨.Name x px,iter,[],0⟩] scope pos) spos) (tAsg (sY wi te fun σ=>js.map fun j=>(σ[j]?).getD none) (rA i)):=by
 refine ps_comp hNX hiy hly hsw (N:=ns) (cl:=cl) hc hclos (fun n c e=>hsub (n,c) (PySem.mem_of_lookup e)) (fun y hy=>(hno y hy).1) hkind hnames hx (fun y hy=>?_) hN (fun σ=>by rw [List.length_map]; exact hjl) (fun σ i y v _ e1 e2=>?_) hi he hs hf
 ·have sub:∀ (l:List (Str × NameKind)),(∀ p ∈ l,p.2 ≠ .cell/\(p.2 = .free->p.1 ∈ ns))->∀ p ∈ (l.map fun (n,k)=>if (k == NameKind.free && X.env.scope.kind == ScopeKind.function && X.env.kindOf n == some NameKind.cell) then (n,NameKind.cell) else (n,k)),(p.2 = .cell\/p.2 = .free)->p.1 ∈ ns:=by
   intro l hl p hp hk
   obtain ⟨q,hq,e⟩:=List.mem_map.mp hp
   have h1:=hl q hq
   obtain ⟨n,k⟩:=q
   dsimp only at e
   by_cases hf:k = .free
   ·have h2:=h1.2 hf
    split at e
    ·rw [<- e]; exact h2
    ·rw [<- e]; exact h2
   ·have hf':(k == NameKind.free) = false:=by
     cases k <;> first | rfl | exact absurd rfl hf
    rw [hf',Bool.false_and,Bool.false_and,if_neg (by decide)] at e
    rw [<- e] at hk
    rcases hk with z | z
    ·exact absurd z h1.1
    ·exact absurd z hf
  have hy':y ∈ ns:=by
   rcases hy with z | z
   ·exact sub scope.names hno (y,.cell) (PySem.mem_of_lookup z) (.inl rfl)
   ·exact sub scope.names hno (y,.free) (PySem.mem_of_lookup z) (.inr rfl)
  rw [<- hcls] at hy'
  have key:∀ l:List (Str × Addr),y ∈ l.map (·.1)->∃ c,l.lookup y = some c:=by
   intro l
   induction l with
   | nil=>intro h; simp at h
   | cons p r ih =>
    intro h
    by_cases e:y = p.1
    ·exact ⟨p.2,by obtain ⟨p1,p2⟩:=p; dsimp only at e; subst e; simp [List.lookup]⟩
    ·have h':y ∈ r.map (·.1):=by
      rw [List.map_cons] at h
      exact (List.mem_cons.mp h).resolve_left e
     obtain ⟨c,hc'⟩:=ih h'
     refine ⟨c,?_⟩
     obtain ⟨p1,p2⟩:=p
     have:(y == p1) = false:=by simpa using e
     rw [List.lookup_cons,this]
     exact hc'
  exact key cl hy'
 ·have hm:y ∈ ns:=List.mem_of_getElem? e1
  refine ⟨(hkd y hm).1,(hkd y hm).2,?_⟩
  rw [List.getElem?_map] at e2
  cases hji:js[i]? with
  | none=>rw [hji] at e2; cases e2
  | some j =>
   rw [hji] at e2
   have e3:(σ[j]?).getD none = some v:=by
    have:=Option.some.inj e2
    exact this
   have e4:=congrArg (fun l=>l[i]?) hj
   rw [List.getElem?_map,List.getElem?_map,hji,e1] at e4
   have e5:X.N[j]? = some y:=by
    have:=Option.some.inj e4
    exact this
   refine ⟨j,e5,?_⟩
   cases hσ:σ[j]? with
   | none=>rw [hσ] at e3; cases e3
   | some o =>
    rw [hσ] at e3
    have e6:o = some v:=e3
    rw [e6]
end
end Ow
namespace Ow
open PySem PySem.Spec PyProof.Rows L2
section
variable {P:Program} {w:World} {base h h1 h2 B:Heap} {fs:List Addr} {H H':Hp} {l:List Env}
theorem qR {a:Addr} {o:HO} (x:ObjOk P w H h a o):∃ ob,h.get? a = some ob:=by
 induction o with
 | lst xs=>obtain ⟨_,_,_,_,e⟩:=x; exact ⟨_,e⟩
 | tup xs=>obtain ⟨_,_,_,o,e,_⟩:=x; exact ⟨_,e⟩
 | dK kvs=>obtain ⟨_,_,_,_,o,_,_,e,_⟩:=x; exact ⟨_,e⟩
 | dT kvs=>obtain ⟨_,_,_,_,o,_,_,e,_⟩:=x; exact ⟨_,e⟩
 | set S n=>obtain ⟨o,_,_,_,e,_⟩:=x; exact ⟨_,e⟩
 | ins C dx fs=>obtain ⟨_,_,_,e,_⟩:=x; exact ⟨_,e⟩
 | own y=>exact x
 | xd fs=>obtain ⟨_,⟨_,_,_,e,_⟩,_⟩:=x; exact ⟨_,e⟩
 | met f y=>exact ⟨_,x⟩
 | rng lo hi=>obtain ⟨_,_,_,e⟩:=x; exact ⟨_,e⟩
 | frz ob u ih=>exact ⟨_,x.1⟩
 | tbl ps=>exact ⟨_,x⟩
 | ext φ=>exact x.2.1
end
section
variable {P:Program} {w:World} {K:Frag} {mg:Str->Option Value} {base:Heap} {N:List Str} {qual:Str} {scope:Scope} {f:Addr} {cdv:Value} {A:Around} {outer:List Env} {s₀:Shared} {H₀:Hp} {E:XK}
end
section
variable {X:Cx} {pins:List (Addr × Obj)} {σ:L2.St} {H:Hp} {s:Shared} {a:Addr} {oe:Obj}
end
section
variable {X:Cx} {k i j:Nat} {f y n c:Str} {ps:List Str} {sp:Sp} {e:Expr} {es:List Expr} {ta:TA} {C₁:Addr} {b₀:Stmt} {suite:List Stmt} {tb:Addr->Obj->TS} {py p pos apos np hpos tpos:Pos}
end
section
variable {prog:Program} {w:World} {A:Around} {E:Value->Shared->Prop} {h:Heap} {g:Array GenState} {d:Drawn} {t:Nat} {os:OsState} {K:Frag} {a C:Addr} {o:Obj}
end
theorem kitc_of {K:Frag} {C D:Addr} {b:Bool} (h1:isClsIn K D = true) (h2:typeIn K (.ref D) = some (.type "type")) (h3:mroIn K C (.ref D) = some b):PySem.W.kitCls K (.ref C) (.ref D) = some b:=by
 unfold PySem.W.kitCls
 have e:((PySem.W.clsIn K D).isSome && typeIn K (.ref D) == some (.type "type")) = true:=by
  rw [h2]
  have h1':(PySem.W.clsIn K D).isSome = true:=h1
  rw [h1',Bool.true_and]
  exact beq_self_eq_true _
 show (if ((PySem.W.clsIn K D).isSome && typeIn K (.ref D) == some (.type "type")) = true then PySem.W.subIn K (.ref C) (.ref D) else none) = _
 rw [if_pos e]
 exact h3
theorem sK {K:Frag} {C D:Addr} (h1:isClsIn K D = true) (h2:typeIn K (.ref D) = some (.type "type")) (h3:mroIn K C (.ref D) = some false) (h4:mroIn K D (.ref D) = some true):kitOne K (.ref C) (.ref D) = some false:=by
 unfold kitOne
 split
 ·next q =>
  have e:C = D:=Value.ref.inj (beq_iff_eq.mp q)
  subst e
  rw [h3] at h4
  cases h4
 ·exact kitc_of h1 h2 h3
end Ow
namespace Ow
open PySem PySem.Spec PyProof.Rows L2
section
variable {P:Program} {w:World} {K:Frag} {mg:Str->Option Value} {base:Heap} {N:List Str} {qual:Str} {scope:Scope} {f:Addr} {cdv:Value} {A:Around} {outer:List Env} {s₀:Shared} {H₀:Hp} {E:XK}
end
section
variable {X:Cx} {pins pins':List (Addr × Obj)} {σ:L2.St} {H:Hp} {s:Shared} {E:L2.St->XK}
end
end Ow
namespace Ow
open PySem PySem.Spec PyProof.Rows L2
section
variable {X:Cx} {pins:List (Addr × Obj)} {σ:L2.St} {H:Hp} {s:Shared} {a:Addr} {oe:Obj} {j:Nat} {n:Str}
end
section
variable {X:Cx} {j:Nat} {n c:Str} {C₁:Addr} {b₀:Stmt} {suite:List Stmt} {tb:Addr->Obj->TS} {np hpos:Pos}
end
end Ow
namespace Ow
open PySem PySem.Spec PyProof.Rows L2
section
variable {M:Model} {A:Around} {E:Value->Shared->Prop} {s:Shared} {bs:Heap} {en:Env} {out:List Env} {L e:Addr} {c:Bool}
end
end Ow
namespace Ow
open PySem PySem.Spec PyProof.Rows L2
section
variable {prog:Program} {w:World} {A:Around} {E:Value->Shared->Prop} {s:Shared} {K:Frag} {x C N:Addr} {fs:Array Value} {sl:Array (Option Value)} {name:Str} {v:Value}
variable {nm qn:Str} {bs bm:List Value} {sn:List Str} {sub:List Value} {ab:Bool} {col:Option Bool} {dd:Option Addr} {k0 k1 k2 k3 k5:Option Value} {nid:String}
end
end Ow
namespace Ow
open PySem PySem.Spec PyProof.Rows L2
section
variable {prog:Program} {w:World} {A:Around} {E:Value->Shared->Prop} {h:Heap} {g:Array GenState} {d:Drawn} {t:Nat} {os:OsState} {C N fI:Addr} {v:Value} {oI:Obj} {mN:Str->Option Value}
variable {nm qn:Str} {bs bm:List Value} {hdc:Bool} {sn:List Str} {sub:List Value} {ab:Bool} {col:Option Bool} {dd:Option Addr} {k0 k1 k2 k3 k5:Option Value}
end
end Ow
namespace Ow
open PySem PySem.Spec PyProof.Rows L2
section
variable {P:Program} {w:World} {K:Frag} {mg:Str->Option Value} {base:Heap} {N:List Str} {qual:Str} {scope:Scope} {f:Addr} {cdv:Value} {A:Around} {outer:List Env} {s₀:Shared} {H₀:Hp} {E:XK}
end
end Ow
namespace Ow
open PySem PySem.Spec PyProof.Rows L2
section
variable {X:Cx} {f:Str} {o value:Expr} {ta tv:TE} {pos pos':Pos}
end
end Ow
namespace Ow
open PySem PySem.Spec PyProof.Rows L2
section
variable {P:Program} {w:World} {K:Frag} {mg:Str->Option Value} {base:Heap} {N:List Str} {qual:Str} {scope:Scope} {fa:Addr} {cdv:Value} {A:Around} {outer:List Env} {s₀:Shared} {H₀:Hp} {E:XK}
end
end Ow
namespace Ow
open PySem PySem.Spec PyProof.Rows L2
section
variable {P:Program} {w:World} {K:Frag} {mg:Str->Option Value} {base:Heap} {N:List Str} {qual:Str} {scope:Scope} {f:Addr} {cdv:Value} {A:Around} {outer:List Env} {s₀:Shared} {H₀:Hp} {E:XK}
end
section
variable {P:Program} {w:World} {K:Frag} {mg:Str->Option Value} {base:Heap} {N:List Str} {qual:Str} {scope:Scope} {f:Addr} {cdv:Value} {A:Around} {outer:List Env} {s₀:Shared} {H₀:Hp} {E:XK}
end
section
variable {X:Cx} {j:Nat} {n c:Str} {C₁:Addr} {b₀:Stmt} {suite:List Stmt} {tb:Addr->Obj->TS} {np hpos:Pos}
end
end Ow
namespace Ow
open PySem PySem.Spec PyProof.Rows L2
section
variable {prog:Program} {w:World} {A:Around} {E:Value->Shared->Prop} {h:Heap} {g:Array GenState} {d:Drawn} {t:Nat} {os:OsState} {K:Frag} {a C D:Addr} {o od:Obj} {name:Str} {v:Value}
end
end Ow
namespace Ow
open PySem PySem.Spec PyProof.Rows L2
end Ow
namespace Ow
open PySem PySem.Spec PyProof.Rows L2
section
variable {prog:Program} {w:World} {A:Around} {E:Value->Shared->Prop} {s:Shared} {a:Addr} {o:Obj} {ks:List Int} {k:Int} {tk:Tok}
end
end Ow
namespace Ow
open PySem PySem.Spec PyProof.Rows L2
section
variable {prog:Program} {w:World} {A:Around} {R:Result->Shared->Prop} {I:Addr} {fp wr:List Addr} {G:Array GenState->Array GenState->Prop} {n:Nat} {P:Nat->Value->Prop} {St:Nat->Shared->Prop}
end
section
variable {prog:Program} {w:World} {A:Around} {E:Value->Shared->Prop} {s:Shared}
end
end Ow
namespace Ow
open PySem PySem.Spec PyProof.Rows L2
section
variable {prog:Program} {w:World} {A:Around} {E:Value->Shared->Prop} {s:Shared} {S I:Addr} {es:Array (Int × Value)} {ep:Nat} {t:SetTable}
end
end Ow
namespace Ow
open PySem PySem.Spec PyProof.Rows L2
section
variable {prog:Program} {w:World} {A:Around} {E:Value->Shared->Prop} {s:Shared} {S I:Addr} {es:Array (Int × Value)} {ep:Nat} {t:SetTable}
end
end Ow
namespace Ow
open PySem PySem.Spec PyProof.Rows L2
section
variable {prog:Program} {w:World} {A:Around} {E:Value->Shared->Prop} {s:Shared} {S:Addr} {es:Array (Int × Value)} {ep:Nat} {t:SetTable}
end
end Ow
namespace Ow
open PySem PySem.Spec PyProof.Rows L2
section
variable {prog:Program} {w:World} {A:Around} {E:Value->Shared->Prop} {s:Shared} {S:Addr} {es:Array (Int × Value)} {ep:Nat} {t:SetTable}
end
end Ow
namespace Ow
open PySem PySem.Spec PyProof.Rows L2
section
variable {prog:Program} {w:World} {A:Around} {E:Value->Shared->Prop} {s:Shared} {S:Addr} {o:Obj} {ks:List Int}
end
end Ow
namespace L2
open PySem PySem.Spec PyProof.Rows
section
variable {prog:Program} {w:World} {A:Around} {E:Value->Shared->Prop} {s:Shared}
theorem j9 {it t:Addr} {i:Nat} {items:Array Value} {x:Value} {Q:Value->Shared->Prop} (hit:s.heap.IsTupleIter it t i) (ht:s.heap.IsTuple t items) (hx:items[i]? = some x)
  (hQ:∀ h',h'.IsTupleIter it t (i + 1)->Heap.SameBut it s.heap h'->Q x { s with heap:=h' }):wpAny (model prog w) A (Builtin.SmallTypes.nextOf (.ref it)) Q E s:=by
 obtain ⟨o,ho,hc,hd⟩:=id hit
 obtain ⟨ot,hot,_,n,hdt⟩:=ht
 have fin:(s.heap.update it (·.mapFields (·.setIfInBounds 1 (rawInt ((i:Int) + 1))))).IsTupleIter it t (i + 1) :=
  ⟨_,Heap.get?_update_self _ ho (Obj.isFreed_of_fields (Obj.data_mapFields hd _)),(Obj.cls_mapFields ..).trans hc,by rw [Obj.data_mapFields hd]; simp [rawInt]⟩
 unfold Builtin.SmallTypes.nextOf
 refine wpAny_bind (wpAny_callSpecial?_slot (name:=Str.ofString "__next__") hit.typeIs F.slot_tuple_iterator_next (wpAny_call_entry F.slot_tuple_iterator_next hit.typeIs F.entry_tuple_iterator_next ?_ (F.args_tuple_iterator_next_1 _)))
 show wpAny _ _ (field (.ref it) 0 >>= _) _ _ s
 refine wpAny_bind (wpAny_field ho hd (x:=.ref t) rfl ?_)
 show wpAny _ _ (if (Value.ref t == Value.none) = true then _ else _) _ _ s
 rw [if_neg (show ¬ ((Value.ref t == Value.none) = true) from Bool.false_ne_true)]
 show wpAny _ _ (field (.ref it) 1 >>= _) _ _ s
 refine wpAny_bind (wpAny_field ho hd (x:=.int i 0) rfl ?_)
 show wpAny _ _ (seqItems? (.ref t) >>= _) _ _ s
 refine wpAny_bind (wpAny_seqItems hot hdt ?_)
 simp only [Int.toNat_natCast,hx]
 exact wpAny_bind (wpAny_setField ho hd (by simp) (wpAny_pure ⟨x,rfl,wpAny_pure (hQ _ fin (Heap.SameBut.update ..))⟩))
theorem gz {it t:Addr} {i:Nat} {items:Array Value} {Q:Value->Shared->Prop} (hh:A.handled = none) (hit:s.heap.IsTupleIter it t i) (ht:s.heap.IsTuple t items) (hx:items[i]? = none)
  (hE:∀ h' e,Heap.ExtBut it s.heap h'->(∃ o,h'.get? e = some o/\o.cls = .type "StopIteration")->E (.ref e) { s with heap:=h' }):wpAny (model prog w) A (Builtin.SmallTypes.nextOf (.ref it)) Q E s:=by
 obtain ⟨o,ho,hc,hd⟩:=id hit
 obtain ⟨ot,hot,_,n,hdt⟩:=ht
 unfold Builtin.SmallTypes.nextOf
 refine wpAny_bind (wpAny_callSpecial?_slot (name:=Str.ofString "__next__") hit.typeIs F.slot_tuple_iterator_next (wpAny_call_entry F.slot_tuple_iterator_next hit.typeIs F.entry_tuple_iterator_next ?_ (F.args_tuple_iterator_next_1 _)))
 show wpAny _ _ (field (.ref it) 0 >>= _) _ _ s
 refine wpAny_bind (wpAny_field ho hd (x:=.ref t) rfl ?_)
 show wpAny _ _ (if (Value.ref t == Value.none) = true then _ else _) _ _ s
 rw [if_neg (show ¬ ((Value.ref t == Value.none) = true) from Bool.false_ne_true)]
 show wpAny _ _ (field (.ref it) 1 >>= _) _ _ s
 refine wpAny_bind (wpAny_field ho hd (x:=.int i 0) rfl ?_)
 show wpAny _ _ (seqItems? (.ref t) >>= _) _ _ s
 refine wpAny_bind (wpAny_seqItems hot hdt ?_)
 simp only [Int.toNat_natCast,hx]
 refine wpAny_bind (wpAny_rule (wpAny_bind (wpAny_setField ho hd (by simp) ?_)))
 show wpAny _ _ (newExc (.type "StopIteration") [] >>= _) _ _ _
 refine wpAny_bind ?_
 simp only [newExc,newTuple]
 refine wpAny_bind (wpAny_newObj_type ?_ (by size_fits))
 refine wpAny_bind (m:=firstArgMember _ _) (wpAny_of_eq (a:=Value.none) (by first | rfl | (simp only [firstArgMember]; rfl)) ?_)
 refine wpAny_newObj_type ?_ (by size_fits)
 simp only [raiseNew]
 refine wpAny_bind (wpAny_handled ?_)
 first | rw [show A.in1.handled = none from hh] | rw [hh]
 exact wpAny_bind (wpAny_pure (wpAny_throw (hE _ _ (((Heap.SameBut.update ..).extBut.push _).push _) ⟨_,Heap.get?_push_size _ rfl,rfl⟩)))
end
section
variable {X:Cx}
end
end L2
namespace Ow
open PySem PySem.Spec PyProof.Rows L2
theorem dk_none {P:Program} {w:World} {H:Hp} (h:Heap) (hb:sysModules < h.objs.size):ObjOk P w H (h.push { cls:=.type "dict",data:=.dict #[] }) h.objs.size (.dK []) :=
 ⟨Nat.zero_le _,beq_eq_false_iff_ne.mpr (Ne.symm (Nat.ne_of_lt hb)),[],.nil,Heap.DictOf.new h⟩
theorem inv_big {X:Cx} {pins:List (Addr × Obj)} {σ:L2.St} {H:Hp} {s:Shared} (I:Inv X pins σ H s):sysModules < s.heap.objs.size:=by
 have h1:=I.ok.mod.glob.lt
 have h2:=Nat.le_trans I.ok.bsz I.sz
 exact Nat.lt_of_lt_of_le (Nat.lt_of_le_of_lt (by decide) h1) h2
def tDNew:TE:=fun _ H Q=>∀ p,H p = none->Q (.ref p) (upd H p (.dK []))
theorem kS {X:Cx} {pos:Pos}:PE X (.Dict [] [] pos) tDNew:=fun pins s σ H Q I h =>
 wpAny_Dict_empty ⟨.ref s.heap.objs.size,_,I.laid (a:=s.heap.objs.size) (o:=.dK []) (t':=s.toks) (fun _ _ q=>Heap.get?_push_of_some _ q) (Nat.le_refl _) (dk_none s.heap (inv_big I)),rfl,h _ (I.hok.fresh (Nat.le_refl _))⟩
inductive Th (H:Hp):V->Prop where
 | int (i:Int):Th H (.int i)
 | bl (b:Bool):Th H (.bl b)
 | str (x:Str):Th H (.str x)
 | non:Th H .non
 | lst {a:Addr} {xs:List V} (h:H a = some (.lst xs)):Th H (.ref a)
 | tup {a:Addr} {xs:List V} (h:H a = some (.tup xs)):Th H (.ref a)
 | dct {a:Addr} {kvs:List (Key × V)} (h:H a = some (.dK kvs)):Th H (.ref a)
def isI:V->Bool
 | .int _=>true
 | _=>false
def btw (x:V) (lo hi:Int):Bool:=match x with
 | .int i=>decide (lo<=i) && decide (i<=hi)
 | _=>false
end Ow
namespace Ow
open PySem PySem.Spec PyProof.Rows L2
theorem qU {K:Frag} {C D:Addr} (h1:isClsIn K D = true) (h2:typeIn K (.ref D) = some (.type "type")) (h3:mroIn K C (.ref D) = some true):kitOne K (.ref C) (.ref D) = some true:=by
 unfold kitOne
 split
 ·rfl
 ·unfold PySem.W.kitCls
  have e:((PySem.W.clsIn K D).isSome && typeIn K (.ref D) == some (.type "type")) = true:=by
   rw [h2]
   have h1':(PySem.W.clsIn K D).isSome = true:=h1
   rw [h1',Bool.true_and]
   exact beq_self_eq_true _
  show (if ((PySem.W.clsIn K D).isSome && typeIn K (.ref D) == some (.type "type")) = true then PySem.W.subIn K (.ref C) (.ref D) else none) = _
  rw [if_pos e]
  exact h3
end Ow
namespace Ow
open PySem PySem.Spec PyProof.Rows L2
theorem comp_rng {lo:Int} {n:Nat} {D:Addr} {te':TE} {tl:L2.St} {G:Hp->Prop} {H1:Hp} (Pv:Nat->Hp->Prop) (h0:Pv 0 (upd H1 D (.lst [])))
  (hs:∀ (i:Nat) H,i < n->Pv i H->te' (some (.int (lo + i)) :: tl) H fun y H2=>∃ ys,H2 D = some (.lst ys)/\ys.length < sizeLine/\∃ m',m' < n - i/\(m' = n - (i + 1)/\i + 1<=n/\Pv (i + 1) (upd H2 D (.lst (ys ++ [y])))))
  (hd:∀ H,Pv n H->G H) :
  ∃ W:Nat->Nat->Hp->Prop,(∃ m,W 0 m (upd H1 D (.lst [])))/\∀ i m H,W i m H ->
   ((Itr lo n).stop i H/\G H)\/((Itr lo n).go i H/\∀ x H',(Itr lo n).yld i H x H'->te' (some x :: tl) H' fun y H2=>∃ ys,H2 D = some (.lst ys)/\ys.length < sizeLine/\∃ m',m' < m/\W (i + 1) m' (upd H2 D (.lst (ys ++ [y])))):=by
 refine ⟨fun i m H=>m = n - i/\i<=n/\Pv i H,⟨n,by simp,Nat.zero_le _,h0⟩,?_⟩
 rintro i m H ⟨rfl,hi,p⟩
 by_cases hlt:i < n
 ·refine .inr ⟨hlt,fun x H' y=>?_⟩
  obtain ⟨e,y⟩:=y
  subst e y
  exact hs i _ hlt p
 ·have e:i = n:=by omega
  subst e
  exact .inl ⟨Nat.le_refl _,hd H p⟩
end Ow
namespace Ow
open PySem PySem.Spec PyProof.Rows L2
section
variable {X:Cx}
theorem mP {K:Frag} {x:Str} {H:Hp}:tyV K "str" (.str x) H:=rfl
theorem qO {ys:List Str} {us:List Value} (h:Vals (ys.map V.str) us):StrsAre us ys:=by
 induction ys generalizing us with
 | nil=>cases h; exact .nil
 | cons y ys ih =>
  cases h with
  | cons r rr =>
   obtain ⟨t,rfl⟩:=r
   exact .cons _ _ (ih rr)
def rJoin (K:Frag):V->List V->Hp->VK->Prop:=fun x xs H Q=>∃ sep p ys,x = .str sep/\xs = [.ref p]/\SqL K H p (ys.map V.str)/\(ys.map (·.length)).sum + ys.length * sep.length<=16777216/\Q (.str (Txt.join sep ys)) H
theorem qA:MtM X "str.join" (rJoin X.K):=by
 intro pins s σ H x vs v us Q I rx rv h
 obtain ⟨sep,p,ys,rfl,rfl,hp,hok,q⟩:=h
 obtain ⟨t,rfl⟩:=rx
 obtain ⟨u,rfl,ru⟩:=rv.one
 cases (show u = Value.ref p from ru)
 obtain ⟨its,r,pl,_⟩:=I.list hp
 exact join_list pl.isList (qO r) hok fun t' k=>⟨.str _,H,I.kept (t':=k) fun b o e=>e,⟨t',rfl⟩,q⟩
end
def Its (z:Str):It where
 go:=fun i _=>i < z.cps.size
 yld:=fun i H x H'=>H' = H/\∃ c,z.cps[i]? = some c/\x = .str ⟨#[c]⟩
 stop:=fun i _=>z.cps.size<=i
theorem qu {P:Program} {w:World} {K:Frag} {tg:Expr} (it:Addr) (z:Str) (t:Tok):Turn P w K tg (Its z) [it] it (fun i h=>h.IsStrIter it "str_ascii_iterator" z t i) where
 mem:=by simp
 obj:=fun i h st b hb=>by
  have e:b = it:=by simpa using hb
  subst e
  obtain ⟨o,e,c,d⟩:=st
  exact ⟨o,e,fun v z=>by rw [d] at z; cases z⟩
 keep:=fun i h h' st k=>let ⟨o,ho,r⟩:=st; ⟨o,k it (by simp) o ho,r⟩
 item:=by
  intro X hP hw hK hc i pins s σ H E I hf st hg
  subst hP hw hK
  obtain ⟨f0,f1,f2,f3,f4,f5⟩:=hf it (by simp)
  have hi:i < z.cps.size:=hg
  refine wpAny_pyNext_ascii_item st (c:=z.cps[i]) (by simp [hi]) fun h' st' sb=>?_
  have I1:Inv X pins σ H { s with heap:=h',toks:=s.toks + 1 }:=I.turned (t':=s.toks + 1) (fun b o hb e=>(sb.2 b hb).trans e) f0 f1 f3 f4 f5
  obtain ⟨o,e,c,d⟩:=id st'
  exact ⟨_,rfl,qp (s:={ s with heap:=h',toks:=s.toks + 1 }) e c d (by decide) ⟨.str ⟨#[z.cps[i]]⟩,H,I1,⟨_,rfl⟩,⟨rfl,_,by simp [hi],rfl⟩,st',fun b hb=>(hf b hb).1⟩⟩
 done:=by
  intro X hP hw hK hc i pins s σ H E I hf st hg
  subst hP hw hK
  obtain ⟨f0,f1,f2,f3,f4,f5⟩:=hf it (by simp)
  have hi:z.cps.size<=i:=hg
  exact wpAny_pyNext_ascii_end (I.ok.hd hc) st (by simp [hi]) fun h' eb=>⟨rfl,I.turned (t':=s.toks) (fun b o hb e=>eb b o hb e) f0 f1 f3 f4 f5⟩
 self:=fun _ _ _ _ _ st h=>wpAny_pyIter_striter_ascii st h
theorem rX {P:Program} {w:World} {K:Frag} {tg:Expr} (it:Addr) (z:Str) (t:Tok):Turn P w K tg (Its z) [it] it (fun i h=>h.IsStrIter it "str_iterator" z t i) where
 mem:=by simp
 obj:=fun i h st b hb=>by
  have e:b = it:=by simpa using hb
  subst e
  obtain ⟨o,e,c,d⟩:=st
  exact ⟨o,e,fun v z=>by rw [d] at z; cases z⟩
 keep:=fun i h h' st k=>let ⟨o,ho,r⟩:=st; ⟨o,k it (by simp) o ho,r⟩
 item:=by
  intro X hP hw hK hc i pins s σ H E I hf st hg
  subst hP hw hK
  obtain ⟨f0,f1,f2,f3,f4,f5⟩:=hf it (by simp)
  have hi:i < z.cps.size:=hg
  refine wpAny_pyNext_wide_item st (c:=z.cps[i]) (by simp [hi]) fun h' st' sb=>?_
  have I1:Inv X pins σ H { s with heap:=h',toks:=s.toks + 1 }:=I.turned (t':=s.toks + 1) (fun b o hb e=>(sb.2 b hb).trans e) f0 f1 f3 f4 f5
  obtain ⟨o,e,c,d⟩:=id st'
  exact ⟨_,rfl,qp (s:={ s with heap:=h',toks:=s.toks + 1 }) e c d (by decide) ⟨.str ⟨#[z.cps[i]]⟩,H,I1,⟨_,rfl⟩,⟨rfl,_,by simp [hi],rfl⟩,st',fun b hb=>(hf b hb).1⟩⟩
 done:=by
  intro X hP hw hK hc i pins s σ H E I hf st hg
  subst hP hw hK
  obtain ⟨f0,f1,f2,f3,f4,f5⟩:=hf it (by simp)
  have hi:z.cps.size<=i:=hg
  exact wpAny_pyNext_wide_end (I.ok.hd hc) st (by simp [hi]) fun h' eb=>⟨rfl,I.turned (t':=s.toks) (fun b o hb e=>eb b o hb e) f0 f1 f3 f4 f5⟩
 self:=fun _ _ _ _ _ st h=>wpAny_pyIter_striter_wide st h
def iStr (tl:TE):TI:=fun σ H R=>tl σ H fun x H1=>∃ z,x = .str z/\R (Its z) H1
theorem pi_str {X:Cx} {tg l:Expr} {tl:TE} (hl:PE X l tl):PI X tg l (iStr tl):=by
 intro pins s σ H R I h
 refine thn (hl pins s σ H _ I h) fun v s1 ⟨x,H1,I1,r1,q1⟩=>?_
 obtain ⟨z,e,q⟩:=q1
 subst e
 obtain ⟨t,rfl⟩:=r1
 have ff:∀ b ∈ [s1.heap.objs.size],FpOk X pins H1 b:=fun b hb=>by
  have e:b = s1.heap.objs.size:=by simpa using hb
  subst e
  exact I1.fpOk (Nat.le_refl _) (I1.hok.fresh (Nat.le_refl _))
 cases ha:z.cps.all (· < 128) with
 | true=>exact wpAny_pyIter_ascii ha ⟨s1.heap.objs.size,[s1.heap.objs.size],_,_,H1,rfl,I1.kept (t':=s1.toks) fun b o e=>Heap.get?_push_of_some _ e,qu _ z t,⟨_,Heap.get?_push_size _ rfl,rfl,rfl⟩,ff,q⟩
 | false=>exact wpAny_pyIter_wide ha ⟨s1.heap.objs.size,[s1.heap.objs.size],_,_,H1,rfl,I1.kept (t':=s1.toks) fun b o e=>Heap.get?_push_of_some _ e,rX _ z t,⟨_,Heap.get?_push_size _ rfl,rfl,rfl⟩,ff,q⟩
theorem for_str {z:Str} {g:TG} {tb:TS} {D:Ends} {σ:L2.St} {H:Hp} (Pv:Nat->L2.St->Hp->Prop) (h0:Pv 0 σ H)
  (hs:∀ i c σ H,z.cps[i]? = some c->Pv i σ H->g (.str ⟨#[c]⟩) σ H fun σ2 H2=>tb { D with nx:=Pv (i + 1),ct:=Pv (i + 1),bk:=D.nx } σ2 H2) (hd:∀ σ H,Pv z.cps.size σ H->D.nx σ H) :
  ∃ W:Nat->Nat->L2.St->Hp->Prop,(∃ m,W 0 m σ H)/\∀ i m σ H,W i m σ H ->
   ((Its z).stop i H/\D.nx σ H)\/((Its z).go i H/\∃ N:L2.St->Hp->Prop,(∀ σ' H',N σ' H'->∃ m',m' < m/\W (i + 1) m' σ' H')/\∀ x H',(Its z).yld i H x H'->g x σ H' fun σ2 H2=>tb { D with nx:=N,ct:=N,bk:=D.nx } σ2 H2):=by
 refine ⟨fun i m σ H=>m = z.cps.size - i/\i<=z.cps.size/\Pv i σ H,⟨z.cps.size,by simp,Nat.zero_le _,h0⟩,?_⟩
 rintro i m σ H ⟨rfl,hi,p⟩
 by_cases hlt:i < z.cps.size
 ·refine .inr ⟨hlt,Pv (i + 1),fun σ' H' p'=>⟨z.cps.size - (i + 1),by omega,rfl,hlt,p'⟩,fun x H' y=>?_⟩
  obtain ⟨e,c,hc,ex⟩:=y
  subst e ex
  exact hs i c σ _ hc p
 ·have e:i = z.cps.size:=by omega
  subst e
  exact .inl ⟨Nat.le_refl _,hd σ H p⟩
def rEqTD (K:Frag) (d:Nat) (neg:Bool):R2:=fun x y H Q=>∃ p q xs ys e,x = .ref p/\y = .ref q/\SqT K H p xs/\SqT K H q ys/\(∀ j,j < xs.length->j < ys.length->EqD K H d (xs.getD j .non) (ys.getD j .non) (e j))/\Q (.bl (if neg = true then !((List.range (min xs.length ys.length)).all e && xs.length == ys.length) else ((List.range (min xs.length ys.length)).all e && xs.length == ys.length))) H
theorem op_eqTD {X:Cx} {d:Nat} (hu:X.A.units + d + 1 < cLine):OpR X (compareOp .Eq) (rEqTD X.K d false):=by
 intro pins s σ H x y v u Q I rx ry h
 obtain ⟨p,q,xs,ys,e,rfl,rfl,hp,hq,he,k⟩:=h
 cases rx
 cases ry
 obtain ⟨its,r,pl,_⟩:=I.tuple hp
 obtain ⟨its2,r2,pl2,_⟩:=I.tuple hq
 have hl:=r.length
 have hl2:=r2.length
 refine SeqAt.eq_tupleAt (e:=e) pl pl2 (by omega) (fun j h1 h2=>?_) ⟨.bl _,H,I,rfl,?_⟩
 ·have h1':j < its.length:=by simpa using h1
  have h2':j < its2.length:=by simpa using h2
  have z:=(he j (by omega) (by omega)).at I (db r h1') (db r2 h2') (A:=X.A.in1) (by show X.A.units + 1 + d < _; omega)
  simpa using z
 ·simp only [List.size_toArray,<- hl,<- hl2]
  exact k
end Ow
namespace Ow
open PySem PySem.Spec PyProof.Rows L2
section
variable {prog:Program} {w:World} {K:Type} [DecidableEq K] {knd:KeyKind prog w K} {A:Around} {E:Value->Shared->Prop} {s:Shared}
end
section
variable {prog:Program} {w:World} {A:Around} {E:Value->Shared->Prop} {s:Shared}
end
section
variable {X:Cx}
end
def pS:Expr->Bool
 | .Starred _ _=>false
 | _=>true
theorem sO {e:Expr} (h:pS e = true) (rest:List Expr) (env:Env):starEach (e :: rest) env = (false,eval e env) :: starEach rest env:=by
 cases e <;> first | rfl | cases h
theorem pb {X:Cx} {e:Expr} {es:List Expr} {te:TE} {t:TA} (ha:PE X e te) (hr:PA X es t) (hn:pS e = true:=by rfl):PA X (e :: es) (tCons te t):=aa ha hr (sO hn es X.env)
structure Sl (p:Prop):Prop where
 out:p
section
variable {X:Cx}
theorem bC {i:Nat} {x:Str} {e:Expr} {te:TE} {pos pos':Pos} (hN:X.N.Nodup) (hi:X.N[i]? = some x) (hx:Loc X.env.scope x) (he:Sl (PE X e te)) (hs:swapsWith e (some (.Name x pos')) pos.line X.env = pure false:=by rfl) (hf:X.fn x = true\/X.env.scope.names.lookup x = some .local:=by first | exact .inl rfl | exact .inr rfl | assumption) :
  Sl (PS X (.Assign [.Name x pos'] e pos) (tAsg te (rA i))):=⟨aH hN hi hx he.out hs hf⟩
theorem bD {es:List Expr} {t:TA} {pos:Pos} (h:Sl (PA X es t)):Sl (PE X (.List es pos) (tLst t)):=⟨aY h.out⟩
theorem aB {e:Expr} {es:List Expr} {te:TE} {t:TA} (ha:PE X e te) (hr:Sl (PA X es t)) (hn:pS e = true:=by rfl):Sl (PA X (e :: es) (tCons te t)):=⟨pb ha hr.out hn⟩
theorem br:Sl (PA X [] tNil):=⟨ag⟩
end
end Ow
namespace L2
open PySem PySem.Spec PyProof.Rows
section
variable {κ:Type} [DecidableEq κ]
def dG (kvs:List (κ × V)) (k:κ):Option V:=(kvs.find? fun kv=>decide (kv.1 = k)).map (·.2)
def fk (kvs:List (κ × V)) (k:κ) (v:V):List (κ × V) :=
 if (kvs.any fun kv=>decide (kv.1 = k)) = true then kvs.map (fun kv=>if kv.1 = k then (kv.1,v) else kv) else kvs ++ [(k,v)]
theorem bv {p:κ × V} {r:List (κ × V)} {k:κ} (e:p.1 = k):dG (p :: r) k = some p.2:=by simp [dG,List.find?_cons,e]
theorem bw {p:κ × V} {r:List (κ × V)} {k:κ} (e:¬ p.1 = k):dG (p :: r) k = dG r k:=by simp [dG,List.find?_cons,e]
theorem cX (k:κ):∀ kvs:List (κ × V),(kvs.any fun kv=>decide (kv.1 = k)) = (dG kvs k).isSome
 | []=>rfl
 | p :: r=>by
  rw [List.any_cons]
  by_cases e:p.1 = k
  ·simp only [bv e,decide_eq_true e,Bool.true_or,Option.isSome_some]
  ·rw [bw e,decide_eq_false e,Bool.false_or]; exact cX k r
theorem pI (k j:κ) (y:V):∀ kvs:List (κ × V),dG (kvs.map fun kv=>if kv.1 = k then (kv.1,y) else kv) j = (dG kvs j).map fun x=>if j = k then y else x
 | []=>rfl
 | p :: r=>by
  have ih:=pI k j y r
  rw [List.map_cons]
  by_cases h:p.1 = k
  ·rw [if_pos h]
   by_cases e:p.1 = j
   ·rw [bv (p:=(p.1,y)) e,bv e,Option.map_some,if_pos (e.symm.trans h)]
   ·rw [bw (p:=(p.1,y)) e,bw e,ih]
  ·rw [if_neg h]
   by_cases e:p.1 = j
   ·rw [bv (p:=p) e,bv e,Option.map_some,if_neg (fun z=>h (e.trans z))]
   ·rw [bw (p:=p) e,bw e,ih]
theorem mM (k j:κ) (y:V):∀ kvs:List (κ × V),dG kvs k = none->dG (kvs ++ [(k,y)]) j = if j = k then some y else dG kvs j
 | [],_=>by
  by_cases e:k = j
  ·rw [if_pos e.symm]; exact bv (p:=(k,y)) e
  ·rw [if_neg (fun z=>e z.symm)]; exact bw (p:=(k,y)) e
 | p :: r,hn=>by
  rw [List.cons_append]
  have hk:¬ p.1 = k:=fun z=>by rw [bv z] at hn; cases hn
  rw [bw hk] at hn
  have ih:=mM k j y r hn
  by_cases e:p.1 = j
  ·rw [bv e,bv e,if_neg (fun z=>hk (e.trans z))]
  ·rw [bw e,bw e,ih]
theorem o8 (kvs:List (κ × V)) (k j:κ) (y:V):dG (fk kvs k y) j = if j = k then some y else dG kvs j:=by
 unfold fk
 by_cases a:(kvs.any fun kv=>decide (kv.1 = k)) = true
 ·rw [if_pos a,pI]
  rw [cX] at a
  by_cases e:j = k
  ·obtain ⟨x,hx⟩:=Option.isSome_iff_exists.mp a
   rw [if_pos e,e,hx,Option.map_some,if_pos rfl]
  ·rw [if_neg e]
   cases dG kvs j with
   | none=>rfl
   | some x=>rw [Option.map_some,if_neg e]
 ·rw [if_neg a]
  refine mM k j y kvs ?_
  rw [cX] at a
  cases q:dG kvs k with
  | none=>rfl
  | some x=>rw [q] at a; exact (a rfl).elim
theorem d8 (kvs:List (κ × V)) (k:κ) (v:V):(fk kvs k v).length<=kvs.length + 1:=by
 unfold fk
 split
 ·rw [List.length_map]; omega
 ·rw [List.length_append,List.length_cons,List.length_nil]; omega
theorem km {kvs:List (κ × V)} {k:κ} (v:V) (h:dG kvs k = none):fk kvs k v = kvs ++ [(k,v)]:=by
 unfold fk
 rw [cX,h]
 exact if_neg (by decide)
theorem RelO.isSome_eq {o:Option V} {u:Option Value} (r:RelO o u):o.isSome = u.isSome:=by
 cases o with
 | none=>cases u with
  | none=>rfl
  | some _=>exact (show False from r).elim
 | some _=>cases u with
  | none=>exact (show False from r).elim
  | some _=>rfl
theorem RelO.getD {o:Option V} {u:Option Value} {d:V} {d':Value} (r:RelO o u) (rd:RelV d d'):RelV (o.getD d) (u.getD d'):=by
 cases o with
 | none=>cases u with
  | none=>exact rd
  | some _=>exact (show False from r).elim
 | some _=>cases u with
  | none=>exact (show False from r).elim
  | some _=>exact r
theorem KV.val {kvs:List (κ × V)} {vs:List (κ × Value)} (r:KV kvs vs) (k:κ):RelO (dG kvs k) (valueAt vs k):=by
 unfold KV at r
 induction r with
 | nil=>exact True.intro
 | @cons p q ps qs h t ih =>
  obtain ⟨h1,h2⟩:=h
  by_cases e:p.1 = k
  ·have e':q.1 = k:=h1.symm.trans e
   have b:valueAt (q :: qs) k = some q.2:=by simp [valueAt,List.find?_cons,e']
   rw [bv e,b]; exact h2
  ·have e':¬ q.1 = k:=fun z=>e (h1.trans z)
   have b:valueAt (q :: qs) k = valueAt qs k:=by simp [valueAt,List.find?_cons,e']
   rw [bw e,b]; exact ih
theorem KV.any {kvs:List (κ × V)} {vs:List (κ × Value)} (r:KV kvs vs) (k:κ):(kvs.any fun kv=>decide (kv.1 = k)) = vs.any fun kv=>decide (kv.1 = k):=by
 unfold KV at r
 induction r with
 | nil=>rfl
 | cons h t ih=>rw [List.any_cons,List.any_cons,ih,h.1]
theorem KV.repl {kvs:List (κ × V)} {vs:List (κ × Value)} (r:KV kvs vs) (k:κ) {y:V} {u:Value} (ry:RelV y u) :
  KV (kvs.map fun kv=>if kv.1 = k then (kv.1,y) else kv) (vs.map fun kv=>if kv.1 = k then (kv.1,u) else kv):=by
 unfold KV at r ⊢
 induction r with
 | nil=>exact .nil
 | @cons p q ps qs h t ih =>
  rw [List.map_cons,List.map_cons]
  refine .cons ?_ ih
  obtain ⟨h1,h2⟩:=h
  by_cases e:p.1 = k
  ·rw [if_pos e,if_pos (h1.symm.trans e)]; exact ⟨h1,ry⟩
  ·rw [if_neg e,if_neg (fun z=>e (h1.trans z))]; exact ⟨h1,h2⟩
theorem KV.put {kvs:List (κ × V)} {vs:List (κ × Value)} (r:KV kvs vs) (k:κ) {y:V} {u:Value} (ry:RelV y u):KV (fk kvs k y) (stored vs k u):=by
 unfold fk stored
 rw [r.any k]
 by_cases e:(vs.any fun kv=>decide (kv.1 = k)) = true
 ·rw [if_pos e,if_pos e]; exact r.repl k ry
 ·rw [if_neg e,if_neg e]; exact Paired.snoc r ⟨rfl,ry⟩
theorem KV.keys {kvs:List (κ × V)} {vs:List (κ × Value)} (r:KV kvs vs):kvs.map (·.1) = vs.map (·.1):=by
 unfold KV at r
 induction r with
 | nil=>rfl
 | cons h t ih=>rw [List.map_cons,List.map_cons,ih,h.1]
theorem KV.length {kvs:List (κ × V)} {vs:List (κ × Value)} (r:KV kvs vs):kvs.length = vs.length:=Paired.length r
end
theorem nc {P:Program} {w:World} {k:Key} {u:Value} (r:RelV (kV k) u):(aL P w).is k u = true:=by
 cases k with
 | inl i=>obtain ⟨t,e⟩:=(show ∃ t,u = Value.int i t from r); subst e; exact m9 P w i t
 | inr x=>obtain ⟨t,e⟩:=(show ∃ t,u = Value.str x t from r); subst e; exact nI P w x t
theorem mF {P:Program} {w:World}:∀ {ks:List Key} {us:List Value},Vals (ks.map kV) us->ItemsAre (aL P w) ks us
 | [],_,r=>by rw [List.map_nil] at r; cases r; exact .nil
 | k :: ks,_,r=>by
  rw [List.map_cons] at r
  cases r with
  | cons h t=>exact .cons (nc h) (mF t)
abbrev KT (H:Hp):List (List Key × V)->List (List Key × Addr × Value)->Prop:=Paired fun p q=>p.1 = q.1/\H q.2.1 = some (.tup (p.1.map kV))/\RelV p.2 q.2.2
theorem KT.val {H:Hp} {kvs:List (List Key × V)} {xs:List (List Key × Addr × Value)} (r:KT H kvs xs) (k:List Key):RelO (dG kvs k) ((atKey xs k).map (·.2)):=by
 induction r with
 | nil=>exact True.intro
 | @cons p q ps qs h t ih =>
  obtain ⟨h1,_,h2⟩:=h
  by_cases e:p.1 = k
  ·have e':q.1 = k:=h1.symm.trans e
   have b:atKey (q :: qs) k = some q.2:=by simp [atKey,List.find?_cons,e']
   rw [bv e,b]; exact h2
  ·have e':¬ q.1 = k:=fun z=>e (h1.trans z)
   have b:atKey (q :: qs) k = atKey qs k:=by simp [atKey,List.find?_cons,e']
   rw [bw e,b]; exact ih
theorem KT.repl {H:Hp} {kvs:List (List Key × V)} {xs:List (List Key × Addr × Value)} (r:KT H kvs xs) (k:List Key) {y:V} {u:Value} (ry:RelV y u) :
  KT H (kvs.map fun kv=>if kv.1 = k then (kv.1,y) else kv) (xs.map (putAt k u)):=by
 induction r with
 | nil=>exact .nil
 | @cons p q ps qs h t ih =>
  rw [List.map_cons,List.map_cons]
  refine .cons ?_ ih
  obtain ⟨h1,h2,h3⟩:=h
  unfold putAt
  by_cases e:p.1 = k
  ·rw [if_pos e,if_pos (h1.symm.trans e)]; exact ⟨h1,h2,ry⟩
  ·rw [if_neg e,if_neg (fun z=>e (h1.trans z))]; exact ⟨h1,h2,h3⟩
theorem KT.put {H:Hp} {kvs:List (List Key × V)} {xs:List (List Key × Addr × Value)} (r:KT H kvs xs) (k:List Key) {b:Addr} {y:V} {u:Value} (hb:H b = some (.tup (k.map kV))) (ry:RelV y u) :
  KT H (fk kvs k y) (storedH xs k b u):=by
 have e:(kvs.any fun kv=>decide (kv.1 = k)) = (atKey xs k).isSome:=by
  rw [cX,(r.val k).isSome_eq,Option.isSome_map]
 unfold fk storedH
 rw [e]
 by_cases q:(atKey xs k).isSome = true
 ·rw [if_pos q,if_pos q]; exact r.repl k ry
 ·rw [if_neg q,if_neg q]; exact Paired.snoc r ⟨rfl,hb,ry⟩
theorem KT.keeps {H H':Hp} {kvs:List (List Key × V)} {xs:List (List Key × Addr × Value)} (r:KT H kvs xs) (ht:∀ b ys,H b = some (.tup ys)->H' b = some (.tup ys)):KT H' kvs xs :=
 Paired.mapP r fun _ _ z=>⟨z.1,ht _ _ z.2.1,z.2.2⟩
section
variable {P:Program} {w:World} {H:Hp} {h:Heap} {a:Addr}
theorem rd_of {u:HO} (ok:HOk P w H h) (e:Rd H a u):ObjOk P w H h a u:=e.ok ok
theorem oH {kvs:List (Key × V)} (ok:HOk P w H h) (e:Rd H a (.dK kvs)):kvs.length<=sizeLine/\(a == sysModules) = false/\∃ vs,KV kvs vs/\h.DictOf (aL P w) a vs :=
 show ObjOk P w H h a (.dK kvs) from rd_of ok e
theorem oE {kvs:List (Key × V)} (ok:HOk P w H h) (e:H a = some (.dK kvs)):kvs.length<=sizeLine/\(a == sysModules) = false/\∃ vs,KV kvs vs/\h.DictOf (aL P w) a vs:=oH ok (.inl e)
theorem lP {ks:List Key} (ok:HOk P w H h) (e:H a = some (.tup (ks.map kV))):(tupleKind (aL P w)).is h ks a:=by
 obtain ⟨_,its,r,o,h1,h2,n,h3⟩:=(show ObjOk P w H h a (.tup (ks.map kV)) from ok a _ e)
 exact ⟨o,its.toArray,n,h1,h2,h3,by simpa using mF r⟩
theorem pW {kvs:List (List Key × V)} (ok:HOk P w H h) (e:Rd H a (.dT kvs)):kvs.length<=sizeLine/\(a == sysModules) = false /\
  ∃ xs,KT H kvs xs/\h.DictOfH (tupleKind (aL P w)) a xs:=by
 obtain ⟨z,y,xs,r,o,es,ep,h1,h2,h3,h4,h5⟩:=(show ObjOk P w H h a (.dT kvs) from rd_of ok e)
 refine ⟨z,y,xs,r,o,es,ep,h1,h2,h3,h4,fun x hx=>?_,h5⟩
 have all:∀ {l:List (List Key × V)} {m:List (List Key × Addr × Value)},KT H l m->∀ x ∈ m,(tupleKind (aL P w)).is h x.1 x.2.1:=by
  intro l m q
  induction q with
  | nil=>intro x hx; exact nomatch hx
  | @cons p q ps qs hq t ih =>
   intro x hx
   rcases List.mem_cons.mp hx with e | hx
   ·subst e
    exact lP ok (by rw [<- hq.1]; exact hq.2.1)
   ·exact ih x hx
 exact all r x hx
theorem dt_of {kvs:List (List Key × V)} (ok:HOk P w H h) (e:H a = some (.dT kvs)):kvs.length<=sizeLine/\(a == sysModules) = false /\
  ∃ xs,KT H kvs xs/\h.DictOfH (tupleKind (aL P w)) a xs:=pW ok (.inl e)
end
def DGet (H:Hp) (a:Addr) (y:V) (r:Option V):Prop :=
 (∃ kvs k,Rd H a (.dK kvs)/\y = kV k/\r = dG kvs k)\/∃ kvs k b,Rd H a (.dT kvs)/\y = .ref b/\H b = some (.tup (k.map kV))/\r = dG kvs k
def DPut (H:Hp) (a:Addr) (y v:V) (H':Hp):Prop :=
 (∃ kvs k,H a = some (.dK kvs)/\y = kV k/\kvs.length < sizeLine/\H' = upd H a (.dK (fk kvs k v))) \/
 ∃ kvs k b,H a = some (.dT kvs)/\y = .ref b/\H b = some (.tup (k.map kV))/\kvs.length < sizeLine/\H' = upd H a (.dT (fk kvs k v))
theorem DGet.k {H:Hp} {a:Addr} {kvs:List (Key × V)} {k:Key} (e:H a = some (.dK kvs)):DGet H a (kV k) (dG kvs k):=.inl ⟨kvs,k,.inl e,rfl,rfl⟩
theorem DPut.k {H:Hp} {a:Addr} {kvs:List (Key × V)} {k:Key} {v:V} (e:H a = some (.dK kvs)) (hl:kvs.length < sizeLine):DPut H a (kV k) v (upd H a (.dK (fk kvs k v))):=.inl ⟨kvs,k,e,rfl,hl,rfl⟩
section
variable {X:Cx} {pins:List (Addr × Obj)} {σ:St} {H:Hp} {s:Shared} {a:Addr} {y v:V} {u r:Value} {o:Option V} {A:Around} {E:Value->Shared->Prop}
theorem Inv.big (I:Inv X pins σ H s):sysModules < s.heap.objs.size:=by
 have h:mainGlobals < s.heap.objs.size:=(I.mod.glob.keeps I.bk).lt
 exact Nat.lt_trans (by decide) h
theorem qP {Q:Value->Shared->Prop} (hu:A.units + 1 < cLine) (I:Inv X pins σ H s) (g:DGet H a y (some v)) (ry:RelV y u) (h:∀ w' s',Inv X pins σ H s'->RelV v w'->Q w' s') :
  wpAny (model X.prog X.w) A (getItem (.ref a) u) Q E s:=by
 rcases g with ⟨kvs,k,e,ey,l⟩ | ⟨kvs,k,b,e,ey,eb,l⟩
 ·subst ey
  obtain ⟨z,hd,vs,rel,dd⟩:=oH I.hok e
  obtain ⟨w',hw,rw'⟩:=RelO.some_of (v:=v) (o:=valueAt vs k) (by rw [l]; exact rel.val k)
  exact wpAny_getItem_of (nc ry) dd.mapOf hw (h w' _ (I.tok _) rw')
 ·subst ey
  cases (show u = Value.ref b from ry)
  obtain ⟨z,hd,xs,rel,dd⟩:=pW I.hok e
  obtain ⟨w',hw,rw'⟩:=RelO.some_of (v:=v) (o:=(atKey xs k).map (·.2)) (by rw [l]; exact rel.val k)
  obtain ⟨p,hp,hp2⟩:=Option.map_eq_some_iff.mp hw
  refine wpAny_getItem_heap (tupleKind_room_in1 hu) (lP I.hok eb) dd hp ?_
  rw [hp2]
  exact h w' _ (I.tok _) rw'
theorem m7 {h':Heap} {t':Nat} {ob:HO} (I:Inv X pins σ H s) (mu:Mut (H a)) (hs:Heap.SameBut a s.heap h') (he:∃ q,h'.get? a = some q) (new:ObjOk X.prog X.w (upd H a ob) h' a ob) :
  Inv X pins σ (upd H a ob) { s with heap:=h',toks:=t' } :=
 I.write (x:=a) (e:=a) mu (.inl rfl) (fun b q hb z=>(hs.2 b hb).trans z) he new
theorem sE {P:Program} {w:World} {H':Hp} {h':Heap} {kvs:List (Key × V)} {vs:List (Key × Value)} (z:kvs.length<=sizeLine) (hd:(a == sysModules) = false) (rel:KV kvs vs) (dd:h'.DictOf (aL P w) a vs) :
  ObjOk P w H' h' a (.dK kvs):=⟨z,hd,vs,rel,dd⟩
theorem tu {H':Hp} {Q:Unit->Shared->Prop} (hu:A.units + 1 < cLine) (I:Inv X pins σ H s) (g:DPut H a y v H') (ry:RelV y u) (rv:RelV v r) (h:∀ s',Inv X pins σ H' s'->Q () s') :
  wpAny (model X.prog X.w) A (setItem (.ref a) u r) Q E s:=by
 rcases g with ⟨kvs,k,e,ey,l,eH⟩ | ⟨kvs,k,b,e,ey,eb,l,eH⟩
 ·subst ey eH
  obtain ⟨z,hd,vs,rel,dd⟩:=oE I.hok e
  have hz:vs.length<=sizeLine:=by rw [<- rel.length]; exact z
  have hl:(fk kvs k v).length<=sizeLine:=by have:=d8 kvs k v; omega
  refine wpAny_setItem_pairs (hsz:=hz) (nc ry) dd fun h' dd' hs=>h _ ?_
  have he:∃ q,h'.get? a = some q:=let ⟨q,_,_,hq,_⟩:=dd'; ⟨q,hq⟩
  exact m7 I (by rw [e]; exact True.intro) hs he (sE hl hd (rel.put k rv) dd')
 ·subst ey eH
  cases (show u = Value.ref b from ry)
  obtain ⟨z,hd,xs,rel,dd⟩:=dt_of I.hok e
  have hz:xs.length<=sizeLine:=by rw [<- Paired.length rel]; exact z
  have hl:(fk kvs k v).length<=sizeLine:=by have:=d8 kvs k v; omega
  refine wpAny_setItem_heap (hsz:=hz) (tupleKind_room_in1 hu) (lP I.hok eb) dd fun h' dd' hs=>h _ ?_
  obtain ⟨q,es,ep,hq,h2,h3,h4,_,h5⟩:=dd'
  refine m7 I (by rw [e]; exact True.intro) hs ⟨q,hq⟩ ⟨hl,hd,_,(rel.put k eb rv).keeps fun c ys ec=>?_,q,es,ep,hq,h2,h3,h4,h5⟩
  rw [ao (jE ec e (fun z=>nomatch z))]
  exact ec
end
section
variable {X:Cx} {pins:List (Addr × Obj)} {σ:St} {H:Hp} {s:Shared} {a:Addr} {kvs:List (Key × V)} {k:Key} {u:Value} {A:Around} {E:Value->Shared->Prop}
end
def NoSl (i:Expr):Prop:=∀ ov iv,subscripted i false ov iv = operate [ov,iv] (getItem ov iv)
theorem subD_of {prog:Program} {w:World} {A:Around} {E:Value->Shared->Prop} {s:Shared} {env:Env} {value slice:Expr} {pos:Pos} {T id:String} {Q:Value->Shared->Prop}
  (hl:typeLookup (.type T) "__getitem__" = pure (some (.builtin id))) (hs:NoSl slice)
  (h:wpAny (model prog w) A (eval value env) (fun o s₁=>wpAny (model prog w) A (eval slice env) (fun i s₂=>s₂.TypeIs o T/\wpAny (model prog w) A (getItem o i) Q E s₂) E s₁) E s) :
  wpAny (model prog w) A (eval (.Subscript value slice pos) env) Q E s:=by
 refine Subscript_ (wpAny_mono h (fun o s₁ h₁=>wpAny_mono h₁ (fun i s₂ h₂=>?_) fun _ _ x=>x) fun _ _ x=>x)
 obtain ⟨hT,h₂⟩:=h₂
 unfold subscriptTail
 refine wpAny_bind ?_
 rw [getitemInPython_of_ne hT.not_modules]
 refine wpAny_bind (wpAny_specialOf hT hl ?_)
 have fin:wpAny (model prog w) A (subscripted slice false o i) (fun r s₃=>wpAny (model prog w) A (letTemporaryGo value o r >>= fun _=>pure r) Q E s₃) E s₂:=by
  rw [hs o i]
  exact wpAny_operating (wpAny_mono h₂ (fun r s₃ h₃=>wpAny_bind (wpAny_letTemporaryGo (wpAny_pure h₃))) fun _ _ x=>x)
 first
  | exact wpAny_pure (wpAny_bind fin)
  | exact wpAny_bind (wpAny_pure (wpAny_bind fin))
  | exact wpAny_bind fin
theorem nF {X:Cx} {pins:List (Addr × Obj)} {σ:St} {H:Hp} {s:Shared} {a:Addr} {y:V} {o:Option V} (I:Inv X pins σ H s) (g:DGet H a y o):s.TypeIs (.ref a) "dict":=by
 rcases g with ⟨kvs,k,e,_,_⟩ | ⟨kvs,k,b,e,_,_,_⟩
 ·obtain ⟨_,_,vs,_,dd⟩:=oH I.hok e
  exact dd.typeIs
 ·obtain ⟨_,_,xs,_,dd⟩:=pW I.hok e
  exact dd.typeIs
def tDGet (td ty:TE):TE:=fun σ H Q=>td σ H fun x H1=>ty σ H1 fun y H2=>∃ a v,x = .ref a/\DGet H2 a y (some v)/\Q v H2
def sDPut (td ty tv:TE):TS:=fun D σ H=>tv σ H fun v H1=>td σ H1 fun x H2=>ty σ H2 fun y H3=>∃ a H4,x = .ref a/\DPut H3 a y v H4/\D.nx σ H4
section
variable {X:Cx} {o i e value:Expr} {pos pos' tpos:Pos} {td ty tv:TE}
theorem bA (hu:X.A.units + 1 < cLine) (ho:PE X o td) (hi:PE X i ty) (hs:NoSl i):PE X (.Subscript o i pos) (tDGet td ty):=by
 intro pins s σ H Q I h
 refine subD_of PySem.F.slot_dict_getitem.lookup hs (thn (ho pins s σ H _ I h) fun u s1 ⟨x,H1,I1,rx,q1⟩=>thn (hi pins s1 σ H1 _ I1 q1) fun iv s2 ⟨y,H2,I2,ry,a,v,ex,g,q2⟩=>?_)
 subst ex
 obtain rfl:u = Value.ref a:=rx
 exact ⟨nF I2 g,qP hu I2 g ry fun w' s3 I3 rw'=>⟨v,H2,I3,rw',q2⟩⟩
theorem cR (hu:X.A.units + 1 < cLine) (ho:PE X o td) (hi:PE X i ty) (hv:PE X value tv) (hs:swapsWith value (some (.Subscript o i pos')) pos.line X.env = pure false) :
  PS X (.Assign [.Subscript o i pos'] value pos) (sDPut td ty tv):=by
 intro pins s σ H D I h
 refine wpAny_Assign_Subscript (thn (hv pins s σ H _ I h) fun r s1 ⟨v,H1,I1,rv,q1⟩=>thn (ho pins s1 σ H1 _ I1 q1) fun u s2 ⟨x,H2,I2,rx,q2⟩=>thn (hi pins s2 σ H2 _ I2 q2) fun iv s3 ⟨y,H3,I3,ry,a,H4,ex,g,q3⟩=>?_) hs
 subst ex
 obtain rfl:u = Value.ref a:=rx
 exact tu hu I3 g ry rv fun s4 I4=>⟨σ,H4,I4,q3⟩
end
theorem dk_empty {P:Program} {w:World} {H:Hp} (h:Heap) (hb:sysModules < h.objs.size):ObjOk P w H (h.push { cls:=.type "dict",data:=.dict #[] }) h.objs.size (.dK []) :=
 ⟨Nat.zero_le _,beq_eq_false_iff_ne.mpr (Ne.symm (Nat.ne_of_lt hb)),[],.nil,Heap.DictOf.new h⟩
section
variable {X:Cx} {pos:Pos}
end
def rB:List (TE × TE)->St->Hp->(List (V × V)->Hp->Prop)->Prop
 | [],_,H,Q=>Q [] H
 | (tk,tv) :: r,σ,H,Q=>tk σ H fun x H1=>tv σ H1 fun y H2=>rB r σ H2 fun ps H3=>Q ((x,y) :: ps) H3
abbrev VV:List (V × V)->List (Value × Value)->Prop:=Paired fun p q=>RelV p.1 q.1/\RelV p.2 q.2
def PPs (X:Cx) (pos:Pos) (keys:List (Option Expr)) (values:List Expr) (trs:List (TE × TE)):Prop :=
 ∀ (pins:List (Addr × Obj)) (s:Shared) (σ:St) (H:Hp) (Q:List (V × V)->Hp->Prop),Inv X pins σ H s->rB trs σ H Q ->
  wpAny (model X.prog X.w) X.A (evalPairs (pairTrees keys values X.env pos)) (fun vs s'=>∃ ps H',Inv X pins σ H' s'/\VV ps vs/\Q ps H') X.xe s
theorem qZ {X:Cx} {pos:Pos}:PPs X pos [] [] []:=fun pins s σ H Q I h=>pairTrees_nil_walk ⟨[],H,I,.nil,h⟩
theorem dR {X:Cx} {pos:Pos} {k v:Expr} {ks:List (Option Expr)} {vs:List Expr} {tk tv:TE} {trs:List (TE × TE)} (hk:PE X k tk) (hv:PE X v tv) (hr:PPs X pos ks vs trs) :
  PPs X pos (some k :: ks) (v :: vs) ((tk,tv) :: trs):=fun pins s σ H Q I h =>
 pairTrees_cons_walk (thn (hk pins s σ H _ I h) fun u s1 ⟨x,H1,I1,rx,q1⟩=>thn (hv pins s1 σ H1 _ I1 q1) fun w2 s2 ⟨y,H2,I2,ry,q2⟩ =>
  thn (hr pins s2 σ H2 _ I2 q2) fun ws s3 ⟨ps,H3,I3,rel,q3⟩=>⟨(x,y) :: ps,H3,I3,.cons ⟨rx,ry⟩ rel,q3⟩)
def mx (kvs more:List (Key × V)):List (Key × V):=more.foldl (fun acc kv=>fk acc kv.1 kv.2) kvs
theorem KV.merge:∀ {more:List (Key × V)} {rs:List (Key × Value)} {kvs:List (Key × V)} {vs:List (Key × Value)},KV more rs->KV kvs vs->KV (mx kvs more) (merged vs rs):=by
 intro more rs kvs vs r
 unfold KV at r
 induction r generalizing kvs vs with
 | nil=>intro q; exact q
 | @cons p q ps qs h t ih =>
  intro r0
  have e:KV (fk kvs p.1 p.2) (stored vs q.1 q.2):=by
   have:=r0.put p.1 h.2
   rw [<- h.1]; exact this
  exact ih e
theorem gB:∀ (more kvs:List (Key × V)),(mx kvs more).length<=kvs.length + more.length
 | [],kvs=>by show kvs.length<=kvs.length + 0; omega
 | p :: r,kvs=>by
  have h1:=gB r (fk kvs p.1 p.2)
  have h2:=d8 kvs p.1 p.2
  show (mx (fk kvs p.1 p.2) r).length<=_
  rw [List.length_cons]; omega
theorem kh {P:Program} {w:World}:∀ {kvs:List (Key × V)} {ws:List (Value × Value)},VV (kvs.map fun kv=>(kV kv.1,kv.2)) ws->∃ rs,Carries (aL P w) ws rs/\KV kvs rs
 | [],_,r=>by rw [List.map_nil] at r; cases r; exact ⟨[],True.intro,.nil⟩
 | p :: kvs,_,r=>by
  rw [List.map_cons] at r
  cases r with
  | @cons a b as bs h t =>
   obtain ⟨rs,c,q⟩:=kh (P:=P) (w:=w) t
   obtain ⟨b1,b2⟩:=b
   exact ⟨(p.1,b2) :: rs,⟨nc h.1,rfl,c⟩,.cons ⟨rfl,h.2⟩ q⟩
def tDisp (trs:List (TE × TE)):TE:=fun σ H Q=>∀ p,H p = none->rB trs σ (upd H p (.dK [])) fun ps H2=>H2 p = some (.dK [])/\∃ kvs:List (Key × V),ps = kvs.map (fun kv=>(kV kv.1,kv.2))/\kvs.length<=15/\Q (.ref p) (upd H2 p (.dK (mx [] kvs)))
theorem sg {X:Cx} {pos:Pos} {keys:List (Option Expr)} {values:List Expr} {trs:List (TE × TE)} (h:PPs X pos keys values trs) (hall:keys.all (·.isSome) = true) (hl:keys.length = values.length) (h0:keys ≠ [])
  (h15:keys.length<=15):PE X (.Dict keys values pos) (tDisp trs):=by
 intro pins s σ H Q I q
 have hn:=I.hok.fresh (Nat.le_refl s.heap.objs.size)
 have I1:=I.laid (a:=s.heap.objs.size) (o:=.dK []) (h':=s.heap.push { cls:=.type "dict",data:=.dict #[] }) (t':=s.toks) (fun _ _ q=>Heap.get?_push_of_some _ q) (Nat.le_refl _) (dk_empty s.heap I.big)
 refine wpAny_Dict_walk (knd:=aL X.prog X.w) hall hl h0 h15 (thn (h pins _ σ _ _ I1 (q _ hn)) fun ws s2 ⟨ps,H2,I2,rel,e,kvs,ep,lk,q2⟩=>?_)
 subst ep
 obtain ⟨rs,c,rk⟩:=kh (P:=X.prog) (w:=X.w) rel
 obtain ⟨z,hd,vs0,r0,dd⟩:=oE I2.hok e
 cases r0
 refine ⟨rs,c,dd,fun h' dd' hs=>⟨.ref s.heap.objs.size,_,?_,rfl,q2⟩⟩
 have hz:(mx [] kvs).length<=sizeLine:=by
  have h1:=gB kvs []
  rw [List.length_nil] at h1
  rw [sizeLine_eq]; omega
 have he:∃ q,h'.get? s.heap.objs.size = some q:=let ⟨q,_,_,hq,_⟩:=dd'; ⟨q,hq⟩
 exact m7 I2 (by rw [e]; exact True.intro) hs he (sE hz hd (rk.merge .nil) dd')
structure M1 (X:Cx) (o:Expr) (m:Str) (apos:Pos) (e:Expr) (cpos:Pos):Prop where
 base:attributeBase o m X.env (eval o X.env) = eval o X.env
 few:((backTo cpos (starEach [e] X.env)).all (fun x=>!x.1) && (backToKw cpos (keywordEach [] X.env)).all (fun x=>x.1.isSome)
  && decide (([e]:List Expr).length + ([]:List Keyword).length + (if ([]:List Keyword).isEmpty then 0 else 1) < 30)) = true
 line:(apos.endLine == cpos.line) = true
 trees:backTo cpos (starEach [e] X.env) = [(false,eval e X.env)]
structure M2 (X:Cx) (o:Expr) (m:Str) (apos:Pos) (e f:Expr) (cpos:Pos):Prop where
 base:attributeBase o m X.env (eval o X.env) = eval o X.env
 few:((backTo cpos (starEach [e,f] X.env)).all (fun x=>!x.1) && (backToKw cpos (keywordEach [] X.env)).all (fun x=>x.1.isSome)
  && decide (([e,f]:List Expr).length + ([]:List Keyword).length + (if ([]:List Keyword).isEmpty then 0 else 1) < 30)) = true
 line:(apos.endLine == cpos.line) = true
 trees:backTo cpos (starEach [e,f] X.env) = [(false,eval e X.env),(false,eval f X.env)]
def IsD (H:Hp) (a:Addr):Prop:=(∃ kvs,Rd H a (.dK kvs))\/∃ kvs,Rd H a (.dT kvs)
theorem isD_at {X:Cx} {pins:List (Addr × Obj)} {σ:St} {H:Hp} {s:Shared} {a:Addr} (I:Inv X pins σ H s) (d:IsD H a) :
  s.TypeIs (.ref a) "dict"/\(∀ b,Value.ref a = .ref b->∃ ob,s.heap.get? b = some ob/\ob.dict = none)/\(a == sysModules) = false:=by
 rcases d with ⟨kvs,e⟩ | ⟨kvs,e⟩
 ·obtain ⟨_,hd,vs,_,dd⟩:=oH I.hok e
  refine ⟨dd.typeIs,fun b q=>?_,hd⟩
  cases q
  obtain ⟨ob,_,_,h1,h2,_⟩:=dd
  exact ⟨ob,h1,h2.2.1⟩
 ·obtain ⟨_,hd,xs,_,dd⟩:=pW I.hok e
  refine ⟨dd.typeIs,fun b q=>?_,hd⟩
  cases q
  obtain ⟨ob,_,_,h1,h2,_⟩:=dd
  exact ⟨ob,h1,h2.2.1⟩
section
variable {X:Cx} {pins:List (Addr × Obj)} {σ:St} {H:Hp} {s:Shared} {a:Addr} {y d:V} {u r:Value} {o:Option V} {A:Around} {E:Value->Shared->Prop}
theorem d_get1 {Q:Value->Shared->Prop} (hu:A.units + 1 < cLine) (I:Inv X pins σ H s) (g:DGet H a y o) (ry:RelV y u) (h:∀ w' s',Inv X pins σ H s'->RelV (o.getD .non) w'->Q w' s') :
  wpAny (model X.prog X.w) A (call (.builtin "dict.get") [.ref a,u]) Q E s:=by
 rcases g with ⟨kvs,k,e,ey,l⟩ | ⟨kvs,k,b,e,ey,eb,l⟩
 ·subst ey
  obtain ⟨z,hd,vs,rel,dd⟩:=oH I.hok e
  refine call_meetsIn PySem.F.slot_dict_get dd.typeIs PySem.F.entry_dict_get (PySem.F.args_dict_get_2 _ _) (meets_dict_get (aL X.prog X.w) a (nc ry) hd) ⟨_,dd.mapOf,h _ _ (I.tok _) ?_⟩
  rw [l]
  exact (rel.val k).getD rfl
 ·subst ey
  cases (show u = Value.ref b from ry)
  obtain ⟨z,hd,xs,rel,dd⟩:=pW I.hok e
  refine call_meetsIn PySem.F.slot_dict_get dd.typeIs PySem.F.entry_dict_get (PySem.F.args_dict_get_2 _ _) (meetsH_dict_get (tupleKind (aL X.prog X.w)) a b hd) ⟨tupleKind_room_in1 hu,k,xs,lP I.hok eb,dd,h _ _ (I.tok _) ?_⟩
  rw [l]
  exact (rel.val k).getD rfl
theorem d_get2 {Q:Value->Shared->Prop} (hu:A.units + 1 < cLine) (I:Inv X pins σ H s) (g:DGet H a y o) (ry:RelV y u) (rd:RelV d r) (h:∀ w' s',Inv X pins σ H s'->RelV (o.getD d) w'->Q w' s') :
  wpAny (model X.prog X.w) A (call (.builtin "dict.get") [.ref a,u,r]) Q E s:=by
 rcases g with ⟨kvs,k,e,ey,l⟩ | ⟨kvs,k,b,e,ey,eb,l⟩
 ·subst ey
  obtain ⟨z,hd,vs,rel,dd⟩:=oH I.hok e
  refine call_meetsIn PySem.F.slot_dict_get dd.typeIs PySem.F.entry_dict_get (PySem.F.args_dict_get_3 _ _ _) (meets_dict_get_default (aL X.prog X.w) a (nc ry) hd r) ⟨_,dd.mapOf,h _ _ (I.tok _) ?_⟩
  rw [l]
  exact (rel.val k).getD rd
 ·subst ey
  cases (show u = Value.ref b from ry)
  obtain ⟨z,hd,xs,rel,dd⟩:=pW I.hok e
  refine call_meetsIn PySem.F.slot_dict_get dd.typeIs PySem.F.entry_dict_get (PySem.F.args_dict_get_3 _ _ _) (meetsH_dict_get_default (tupleKind (aL X.prog X.w)) a b hd r) ⟨tupleKind_room_in1 hu,k,xs,lP I.hok eb,dd,h _ _ (I.tok _) ?_⟩
  rw [l]
  exact (rel.val k).getD rd
end
def tDGet1 (td ty:TE):TE:=fun σ H Q=>td σ H fun x H1=>∃ a,x = .ref a/\IsD H1 a/\ty σ H1 fun y H2=>∃ o,DGet H2 a y o/\Q (o.getD .non) H2
section
variable {X:Cx} {o e f:Expr} {apos cpos:Pos} {td ty tx:TE}
theorem pe_dget1 (hu:X.A.units + 1 < cLine) (ho:PE X o td) (he:PE X e ty) (m:M1 X o "get" apos e cpos):PE X (.Call (.Attribute o "get" apos) [e] [] cpos) (tDGet1 td ty):=by
 intro pins s σ H Q I h
 refine wpAny_Call_method m.base m.few m.line PySem.F.plainAttrs_dict PySem.F.slot_dict_get PySem.F.type_dict_get (thn (ho pins s σ H _ I h) fun u s1 ⟨x,H1,I1,rx,a,ex,d,q1⟩=>?_)
 subst ex
 obtain rfl:u = Value.ref a:=rx
 obtain ⟨t1,t2,_⟩:=isD_at I1 d
 refine ⟨t1,t2,?_⟩
 rw [m.trees]
 refine Calls.callWith_builtin rfl (Calls.evalArgs_plain (Calls.spliced_cons (thn (he pins s1 σ H1 _ I1 q1) fun iv s2 ⟨y,H2,I2,ry,ov,g,q2⟩=>Calls.spliced_nil ?_)))
 exact d_get1 hu I2 g ry fun w' s3 I3 rw'=>⟨_,H2,I3,rw',q2⟩
end
section
variable {X:Cx} {pins:List (Addr × Obj)} {σ:St} {H:Hp} {s:Shared} {a:Addr} {kvs:List (Key × V)} {A:Around} {E:Value->Shared->Prop}
theorem d_copyOf {Q:Value->Shared->Prop} (I:Inv X pins σ H s) (e:Rd H a (.dK kvs)) (h:∀ p s',H p = none->Inv X pins σ (upd H p (.dK kvs)) s'->Q (.ref p) s'):wpAny (model X.prog X.w) A (call (.type "dict") [.ref a]) Q E s:=by
 obtain ⟨z,hd,vs,rel,dd⟩:=oH I.hok e
 refine kt_call_dict hd dd (by rw [<- rel.length]; exact z) fun h' dd' hs=>?_
 refine h _ _ (I.hok.fresh (Nat.le_refl _)) (I.laid (a:=s.heap.objs.size) (o:=.dK kvs) (t':=s.toks) (fun b q hq=>?_) (Nat.le_refl _) (sE z (beq_eq_false_iff_ne.mpr (Ne.symm (Nat.ne_of_lt I.big))) rel dd'))
 exact (hs.2 b (Nat.ne_of_lt (Heap.lt_size hq))).trans (Heap.get?_push_of_some _ hq)
end
section
variable {X:Cx} {pins:List (Addr × Obj)} {σ:St} {H:Hp} {s:Shared} {a:Addr} {y:V} {u:Value} {A:Around} {E:Value->Shared->Prop}
end
end L2
namespace L2
open PySem PySem.Spec PyProof.Rows
section
variable {κ:Type} [DecidableEq κ]
theorem pE {kvs:List (κ × V)} {k:κ} (h:dG kvs k = none):¬ k ∈ kvs.map (·.1):=by
 intro m
 obtain ⟨p,hp,e⟩:=List.mem_map.mp m
 have q:(kvs.any fun kv=>decide (kv.1 = k)) = true:=List.any_eq_true.mpr ⟨p,hp,decide_eq_true e⟩
 rw [cX,h] at q
 exact absurd q (by simp)
theorem sf:∀ {l:List κ} {k:κ},l.Nodup->¬ k ∈ l->(l ++ [k]).Nodup
 | [],k,_,_=>by simp
 | a :: r,k,h,hk=>by
  obtain ⟨h1,h2⟩:=List.nodup_cons.mp h
  show (a :: (r ++ [k])).Nodup
  refine List.nodup_cons.mpr ⟨fun m=>?_,sf h2 fun m=>hk (List.mem_cons.mpr (Or.inr m))⟩
  rcases List.mem_append.mp m with q | q
  ·exact h1 q
  ·exact hk (List.mem_cons.mpr (Or.inl (List.mem_singleton.mp q).symm))
theorem nd_putK {kvs:List (κ × V)} {k:κ} (v:V) (hn:(kvs.map (·.1)).Nodup) (h:dG kvs k = none):((fk kvs k v).map (·.1)).Nodup:=by
 rw [km v h,List.map_append]
 exact sf hn (pE h)
end
end L2
namespace Ow
open PySem PySem.Spec PyProof.Rows L2
section
variable {X:Cx} {pins:List (Addr × Obj)} {σ:L2.St} {H:Hp} {s:Shared}
theorem _root_.L2.Inv.freeze {a:Addr} {o:Obj} {kvs:List (Key × V)} (I:Inv X pins σ H s) (e:H a = some (.dK kvs)) (g:s.heap.get? a = some o):Inv X pins σ (upd H a (.frz o (.dK kvs))) s:=by
 have ok:=I.hok a _ e
 exact I.write (x:=a) (e:=a) (o:=.frz o (.dK kvs)) (h':=s.heap) (t':=s.toks) (by rw [e]; exact True.intro) (.inl rfl) (fun b u _ q=>q) ⟨_,g⟩ ⟨g,ok⟩
theorem _root_.L2.Inv.thaw {a:Addr} {o:Obj} {kvs:List (Key × V)} (I:Inv X pins σ H s) (e:H a = some (.frz o (.dK kvs))) (h0:∀ o u,X.H₀ a ≠ some (.frz o u)):Inv X pins σ (upd H a (.dK kvs)) s:=by
 have up:∀ b u,H b = some u->(∀ o u',u ≠ .frz o u')->upd H a (.dK kvs) b = some u:=fun b u q hn=>by
  rw [ao (fun z=>by rw [z,e] at q; cases q; exact hn _ _ rfl)]; exact q
 have upn:∀ b,H b = none->upd H a (.dK kvs) b = none:=fun b q=>by
  rw [ao (fun z=>by rw [z,e] at q; cases q)]; exact q
 refine ⟨I.ok,I.os,I.bare,⟨I.base.keep,I.base.slot,fun b o' q n hx=>upn b (I.base.free b o' q n hx),I.base.there,fun b xs q=>up b _ (I.base.tups b xs q) (fun _ _ z=>nomatch z),fun b o' u q=>?_,fun b ps q=>?_⟩,I.loc,I.cell,upn _ I.free,fun x c q=>upn c (I.freeC x c q),fun p hp=>?_,fun b ob q=>?_,I.len⟩
 ·have:=I.base.frzs b o' u q
  rw [ao (fun z=>h0 _ _ (z ▸ q))]; exact this
 ·obtain ⟨m,z⟩:=I.base.tbls b ps q
  exact ⟨m,up b _ z (fun _ _ z=>nomatch z)⟩
 ·obtain ⟨g,n,r⟩:=I.pin p hp
  exact ⟨g,upn _ n,r⟩
 ·by_cases hb:b = a
  ·subst hb
   rw [ae] at q
   cases q
   exact (I.hok b _ e).2
  ·rw [ao hb] at q
   refine (I.hok b ob q).stay (fun c v hc z=>z) (fun c z=>?_) fun c xs z=>?_
   ·exact up c _ z (fun _ _ z=>nomatch z)
   ·exact up c _ z (fun _ _ z=>nomatch z)
end
def Itk (a:Addr) (o:Obj) (kvs:List (Key × V)):It :=
 ⟨fun i H=>H a = some (.frz o (.dK kvs))/\i < kvs.length,fun i H x H'=>H' = H/\∃ kv,kvs[i]? = some kv/\x = kV kv.1,fun i H=>H a = some (.frz o (.dK kvs))/\i = kvs.length⟩
theorem oQ {P:Program} {w:World} {k:Key} {u:Value} (h:(aL P w).is k u = true):RelV (kV k) u:=by
 rcases bc h with ⟨i,t,rfl,rfl⟩ | ⟨x,t,rfl,rfl⟩
 ·exact ⟨t,rfl⟩
 ·exact ⟨t,rfl⟩
theorem KV.at' {kvs:List (Key × V)} {vs:List (Key × Value)} (r:KV kvs vs) {i:Nat} (h:i < kvs.length):∃ kv v,kvs[i]? = some kv/\vs[i]? = some (kv.1,v):=by
 have e:=r.keys
 have hl:=r.length
 refine ⟨kvs[i],(vs[i]'(by omega)).2,List.getElem?_eq_getElem h,?_⟩
 have z:=congrArg (fun l=>l[i]?) e
 simp only [List.getElem?_map,List.getElem?_eq_getElem h,List.getElem?_eq_getElem (show i < vs.length by omega),Option.map_some] at z
 rw [List.getElem?_eq_getElem (show i < vs.length by omega),Option.some.inj z]
theorem tw {P:Program} {w:World} {K:Frag} {tg:Expr} (a it:Addr) (o:Obj) (kvs:List (Key × V)) (es:Array DictEntry) (ep:Nat) (ho:o.data = .dict es ep):Turn P w K tg (Itk a o kvs) [it] it (fun i h=>h.IsKeyIter it a i kvs.length ep) where
 mem:=by simp
 obj:=fun i h st b hb=>by
  have e:b = it:=by simpa using hb
  subst e
  obtain ⟨o,e,c,d⟩:=st
  exact ⟨o,e,fun v z=>by rw [d] at z; cases z⟩
 keep:=fun i h h' st k=>st.at fun o e=>k it (by simp) o e
 item:=by
  intro X hP hw hK hc i pins s σ H E I hf st hg
  subst hP hw hK
  obtain ⟨hq,hi⟩:=hg
  obtain ⟨g,hl,hs,vs,kv,o2,es2,ep2,g2,ed,dt,ko,pr,nd⟩:=I.hok a _ hq
  rw [g] at g2
  cases g2
  rw [ho] at dt
  cases dt
  obtain ⟨kx,vx,hk,hv⟩:=KV.at' kv hi
  obtain ⟨f0,f1,f2,f3,f4,f5⟩:=hf it (by simp)
  have hln:=kv.length
  refine wpAny_pyNext_dict_item (knd:=aL X.prog X.w) (by rw [<- hln]; exact st) ⟨o,es,g,ed,ho,ko,pr,nd⟩ hv fun key h' ke st' sb=>?_
  have I1:Inv X pins σ H { s with heap:=h' }:=I.turned (t':=s.toks) (fun b o hb e=>(sb.2 b hb).trans e) f0 f1 f3 f4 f5
  obtain ⟨o3,e,c,d⟩:=id st'
  exact ⟨key,rfl,qp (s:={ s with heap:=h' }) e c d (by decide) ⟨kV kx.1,H,I1,oQ ke,⟨rfl,kx,hk,rfl⟩,by rw [hln]; exact st',fun b hb=>(hf b hb).1⟩⟩
 done:=by
  intro X hP hw hK hc i pins s σ H E I hf st hg
  subst hP hw hK
  obtain ⟨hq,hi⟩:=hg
  obtain ⟨g,hl,hs,vs,kv,o2,es2,ep2,g2,ed,dt,ko,pr,nd⟩:=I.hok a _ hq
  rw [g] at g2
  cases g2
  rw [ho] at dt
  cases dt
  obtain ⟨f0,f1,f2,f3,f4,f5⟩:=hf it (by simp)
  have hln:=kv.length
  exact wpAny_pyNext_dict_end (knd:=aL X.prog X.w) (I.ok.hd hc) (by rw [<- hln]; exact st) ⟨o,es,g,ed,ho,ko,pr,nd⟩ (List.getElem?_eq_none (by omega)) fun h' eb=>⟨rfl,I.turned (t':=s.toks) (fun b o hb e=>eb b o hb e) f0 f1 f3 f4 f5⟩
 self:=fun _ _ _ _ _ st h=>wpAny_pyIter_keyiter st h
section
variable {X:Cx} {tg:Expr}
def iDict (tl:TE):TI:=fun σ H R=>tl σ H fun x H1=>∃ a kvs,x = .ref a/\H1 a = some (.dK kvs)/\∀ o,R (Itk a o kvs) (upd H1 a (.frz o (.dK kvs)))
theorem rZ {l:Expr} {tl:TE} (hl:PE X l tl):PI X tg l (iDict tl):=by
 intro pins s σ H R I h
 refine thn (hl pins s σ H _ I h) fun v s1 ⟨x,H1,I1,r1,q1⟩=>?_
 obtain ⟨a,kvs,e,hq,q⟩:=q1
 subst e
 cases r1
 obtain ⟨hz,hs,vs,kv,o,es,ep,g,ed,dt,ko,pr,nd⟩:=I1.hok a _ hq
 have hln:=kv.length
 refine wpAny_pyIter_dict (knd:=aL X.prog X.w) hs ⟨o,es,g,ed,dt,ko,pr,nd⟩ ?_
 have I2:=I1.freeze hq g
 refine ⟨s1.heap.objs.size,[s1.heap.objs.size],_,_,_,rfl,I2.kept (t':=s1.toks) fun b o e=>Heap.get?_push_of_some _ e,tw a _ o kvs es ep dt,⟨_,Heap.get?_push_size _ rfl,rfl,by rw [hln]; rfl⟩,fun b hb=>?_,q o⟩
 have e:b = s1.heap.objs.size:=by simpa using hb
 subst e
 exact I2.fpOk (Nat.le_refl _) (I2.hok.fresh (Nat.le_refl _))
def tThaw (H₀:Hp) (te:TE):TE:=fun σ H Q=>te σ H fun v H1=>∃ a o kvs,H1 a = some (.frz o (.dK kvs))/\(∀ o u,H₀ a ≠ some (.frz o u))/\Q v (upd H1 a (.dK kvs))
theorem pe_thaw {e:Expr} {te:TE} (he:PE X e te):PE X e (tThaw X.H₀ te):=by
 intro pins s σ H Q I h
 exact thn (he pins s σ H _ I h) fun v s1 ⟨x,H1,I1,r1,a,o,kvs,hq,h0,q⟩=>⟨x,_,I1.thaw hq h0,r1,q⟩
def sThaw (H₀:Hp) (ts:TS):TS:=fun D σ H=>ts { D with nx:=fun σ' H1=>∃ a o kvs,H1 a = some (.frz o (.dK kvs))/\(∀ o u,H₀ a ≠ some (.frz o u))/\D.nx σ' (upd H1 a (.dK kvs)) } σ H
theorem ps_thaw {st:Stmt} {ts:TS} (h:PS X st ts):PS X st (sThaw X.H₀ ts):=by
 intro pins s σ H D I q
 refine wpAny_mono (h pins s σ H _ I q) (fun fl s1 z=>?_) fun _ _ z=>z
 cases fl with
 | next=>obtain ⟨σ',H1,I1,a,o,kvs,hq,h0,q⟩:=z; exact ⟨σ',_,I1.thaw hq h0,q⟩
 | brk=>exact z
 | cont=>exact z
 | ret u=>exact z
theorem rC {a:Addr} {o:Obj} {kvs:List (Key × V)} {D:Addr} {te':TE} {tl:L2.St} {G:Hp->Prop} {H1:Hp} (Pv:Nat->Hp->Prop) (h0:Pv 0 (upd H1 D (.lst [])))
  (hf:∀ i H,i<=kvs.length->Pv i H->H a = some (.frz o (.dK kvs)))
  (hs:∀ (i:Nat) (kv:Key × V) H,i < kvs.length->kvs[i]? = some kv->Pv i H->te' (some (kV kv.1) :: tl) H fun y H2=>∃ ys,H2 D = some (.lst ys)/\ys.length < sizeLine/\∃ m',m' < kvs.length - i/\m' = kvs.length - (i + 1)/\i + 1<=kvs.length/\Pv (i + 1) (upd H2 D (.lst (ys ++ [y]))))
  (hd:∀ H,Pv kvs.length H->G H) :
  ∃ W:Nat->Nat->Hp->Prop,(∃ m,W 0 m (upd H1 D (.lst [])))/\∀ i m H,W i m H ->
   ((Itk a o kvs).stop i H/\G H)\/((Itk a o kvs).go i H/\∀ x H',(Itk a o kvs).yld i H x H'->te' (some x :: tl) H' fun y H2=>∃ ys,H2 D = some (.lst ys)/\ys.length < sizeLine/\∃ m',m' < m/\W (i + 1) m' (upd H2 D (.lst (ys ++ [y])))):=by
 refine ⟨fun i m H=>m = kvs.length - i/\i<=kvs.length/\Pv i H,⟨kvs.length,by simp,Nat.zero_le _,h0⟩,?_⟩
 rintro i m H ⟨rfl,hi,p⟩
 by_cases hlt:i < kvs.length
 ·refine .inr ⟨⟨hf i H hi p,hlt⟩,?_⟩
  rintro x H' ⟨rfl,kv,hk,rfl⟩
  exact hs i kv _ hlt hk p
 ·have e:i = kvs.length:=by omega
  subst e
  exact .inl ⟨⟨hf _ H hi p,rfl⟩,hd H p⟩
end
theorem call_sum {X:Cx} (hc:X.calm = true):fq X (.builtin "sum") (fun xs H Q=>∃ (a:Addr) (ns:List Int),xs = [.ref a]/\SqL X.K H a (ns.map V.int)/\Q (.int ns.sum) H):=by
 intro pins s σ H xs us Q I r h
 obtain ⟨a,ns,rfl,hq,q⟩:=h
 obtain ⟨u,rfl,rx⟩:=mT r
 cases rx
 obtain ⟨its,rv,pl,hz⟩:=I.list hq
 have hl:=rv.length
 rw [List.length_map] at hl
 refine call_sum_walkG (wpAny_pyIter_list pl.isList ?_)
 have hne:a ≠ s.heap.objs.size:=by
  obtain ⟨o,ho,_⟩:=pl.isList
  exact Nat.ne_of_lt (Heap.lt_size ho)
 refine ⟨s.heap.objs.size,_,_,_,_,_,fun j=>ns.getD j 0,rfl,Walks.list (A:=X.A.in1) (I.ok.hd hc) s.heap.objs.size a hne its.toArray,⟨⟨_,Heap.get?_push_size _ rfl,rfl,rfl⟩,Heap.IsList.push pl.isList _⟩,?_,?_,?_⟩
 ·intro b hb
  show b < (s.heap.push _).objs.size
  rw [Heap.size_push]
  rcases List.mem_cons.mp hb with rfl | hb
  ·exact Nat.lt_succ_self _
  ·rw [List.mem_singleton.mp hb]
   obtain ⟨o,ho,_⟩:=pl.isList
   exact Nat.lt_succ_of_lt (Heap.lt_size ho)
 ·intro i v hP
  have hP':its[i]? = some v:=by simpa using hP
  have hi:i < its.length:=(List.getElem?_eq_some_iff.mp hP').1
  have hb:(ns.map V.int)[i]? = some (V.int (ns.getD i 0)):=by
   rw [List.getElem?_map,List.getD_eq_getElem?_getD,List.getElem?_eq_getElem (by omega)]
   rfl
  obtain ⟨u',hu',t,ru'⟩:=rv.get hb
  rw [hP'] at hu'
  cases hu'
  exact ⟨t,ru'⟩
 ·intro h' tk t' hk
  have e0:∀ (l:List Int) (m:Nat),m<=l.length->preSum (fun j=>l.getD j 0) m = (l.take m).sum:=by
   intro l m
   induction m with
   | zero=>intro _; simp [preSum]
   | succ m ih =>
    intro hm
    rw [List.take_add_one,List.sum_append,<- ih (by omega),List.getElem?_eq_getElem (by omega)]
    simp [preSum,List.getD_eq_getElem?_getD,List.getElem?_eq_getElem (show m < l.length by omega)]
  have e1:preSum (fun j=>ns.getD j 0) its.toArray.size = ns.sum:=by
   rw [List.size_toArray,<- hl,e0 ns ns.length (Nat.le_refl _),List.take_length]
  rw [e1]
  exact ⟨.int _,H,I.kept (t':=tk) fun b o e=>hk b o (fun z=>by
   have z':b = s.heap.objs.size:=by simpa using z
   exact absurd (Heap.lt_size e) (by rw [z']; exact Nat.lt_irrefl _)) (Heap.get?_push_of_some _ e),⟨t',rfl⟩,q⟩
structure GD (K:Frag) (P:Program) (w:World) (a:Addr) (vs:List (Key × Value)):Prop where
 ex:∃ o es ep,K.lookup a = some o/\o.ExactDict/\o.data = .dict es ep/\PySem.KeysOf (aL P w) es/\Pairs (aL P w) es.toList vs/\(vs.map (·.1)).Nodup
def gEnt (p:Params) (x:Str × Tok × Addr):DictEntry:=⟨PyData.keyHash p x.1,.str x.1 x.2.1,.ref x.2.2⟩
def gVal (x:Str × Tok × Addr):Key × Value:=(.inr x.1,.ref x.2.2)
theorem gd_mk {K:Frag} {P:Program} {w:World} {a:Addr} {ents:List (Str × Tok × Addr)} {ep:Nat} {sl:Array (Option Value)} (h:K.lookup a = some ⟨.type "dict",none,.dict (ents.map (gEnt w.params)).toArray ep,sl⟩) (nd:(ents.map (·.1)).Nodup) (hx:(⟨.type "dict",none,.dict (ents.map (gEnt w.params)).toArray ep,sl⟩:Obj).ExactDict) :
  GD K P w a (ents.map gVal):=by
 refine ⟨_,_,_,h,hx,rfl,fun e he=>?_,?_,?_⟩
 ·obtain ⟨x,_,rfl⟩:=List.mem_map.mp (List.mem_toArray.mp he)
  refine ⟨.inr x.1,?_,?_⟩
  ·show Value.isStrOf x.1 (.str x.1 x.2.1) = true
   exact beq_self_eq_true _
  ·rfl
 ·show Pairs _ (ents.map (gEnt w.params)) _
  clear h nd hx
  induction ents with
  | nil=>exact .nil
  | cons x r ih =>
   refine .cons ?_ rfl ih
   show Value.isStrOf x.1 (.str x.1 x.2.1) = true
   exact beq_self_eq_true _
 ·have e:(ents.map gVal).map (·.1) = (ents.map (·.1)).map (Sum.inr (α:=Int)):=by
   rw [List.map_map,List.map_map]
   rfl
  rw [e]
  unfold List.Nodup
  rw [List.pairwise_map]
  exact List.Pairwise.imp (fun h z=>h (Sum.inr.inj z)) nd
section
variable {X:Cx}
end
end Ow
namespace Ow
open PySem PySem.Spec PyProof.Rows L2
section
variable {X:Cx}
end
end Ow
namespace Ow
open PySem PySem.Spec PyProof.Rows L2
section
variable {prog:Program} {w:World} {A:Around} {R:Result->Shared->Prop} {s:Shared}
end
section
variable {X:Cx} {elt iter:Expr} {x y:Str} {px py pos tp:Pos} {kk:Nat} {scope:Scope} {wi:TI} {te:TE} {N:List Str} {cl:List (Str × Addr)} {cap:L2.St->L2.St}
end
section
variable {X:Cx} {elt iter:Expr} {x y0:Str} {px py pos tp:Pos} {kk:Nat} {scope:Scope} {wi:TI} {te:TE} {cl:List (Str × Addr)}
end
end Ow
namespace L2
open PySem PySem.Spec PyProof.Rows
section
variable {X:Cx}
def Ite (K:Frag) (a:Addr):It :=
 ⟨fun i H=>∃ xs x,SqL K H a xs/\xs[i]? = some x,
  fun i H v H'=>∀ xs x,SqL K H a xs->xs[i]? = some x->∃ T,v = .ref T/\H T = none/\H' = upd H T (.tup [.int (i:Nat),x]),
  fun i H=>∃ xs,SqL K H a xs/\xs.length<=i⟩
theorem sw {P:Program} {w:World} {K:Frag} {elts:List Expr} {x1} {tp:Pos} {e it a:Addr} (hei:e ≠ it) (hae:a ≠ e) (hai:a ≠ it) :
  Turn P w K (.Tuple elts x1 tp) (Ite K a) [e,it] e (fun i h=>(∃ old,IsEnum h e it (i:Nat) old)/\h.IsListIter it a i) where
 mem:=by simp
 obj:=fun i h st c hc=>by
  obtain ⟨⟨old,q1⟩,⟨o2,e2,_,d2⟩⟩:=st
  simp only [List.mem_cons,List.not_mem_nil,or_false] at hc
  rcases hc with rfl | rfl
  ·exact ⟨_,q1,fun v z=>by cases z⟩
  ·exact ⟨_,e2,fun v z=>by rw [d2] at z; cases z⟩
 keep:=fun i h h' st k=>by
  obtain ⟨⟨old,q1⟩,q2⟩:=st
  exact ⟨⟨old,k e (by simp) _ q1⟩,q2.at fun o e=>k it (by simp) o e⟩
 item:=by
  intro X hP hw hK hc i pins s σ H E I hf st hg
  subst hP hw hK
  obtain ⟨xs,x,ha,hx⟩:=hg
  obtain ⟨⟨old,q1⟩,q2⟩:=st
  obtain ⟨its,rv,p,_⟩:=I.list ha
  obtain ⟨ux,hux,rx⟩:=rv.get hx
  refine wpAny_pyNext_enum_item q1 q2 (show s.heap.IsList a its.toArray from p.isList) (x:=ux) (by simpa using hux) hei fun h' z1 v1 pr sz all=>?_
  refine ⟨_,rfl,wpAny_letOwnedTupleGo_enum z1 fun h'' z2 sb=>?_⟩
  have nz:∀ c o,c ≠ e->h'.get? c = some o->h''.get? c = some o:=fun c o n e=>sb.extBut c o n e
  have zl:e < s.heap.objs.size:=Heap.lt_size q1
  have hT:H s.heap.objs.size = none:=I.hok.fresh (Nat.le_refl _)
  have prT:=nz _ _ (Nat.ne_of_gt zl) pr
  have kept:∀ c o,c ∉ [e,it]->s.heap.get? c = some o->h''.get? c = some o:=fun c o n e=>by
   simp only [List.mem_cons,List.not_mem_nil,or_false,not_or] at n
   exact nz c o n.1 (all c o n.1 n.2 e)
  have trk:∀ c u,H c = some u->c ∉ [e,it]:=fun c u e n=>by
   have:=(hf c n).1
   rw [e] at this; cases this
  refine ⟨.ref s.heap.objs.size,upd H s.heap.objs.size (.tup [.int (i:Nat),x]),?_,rfl,fun xs' x' ha' hx'=>?_,⟨⟨_,by simpa using z2⟩,v1.at fun o e=>nz _ o (Ne.symm hei) e⟩,fun c hc=>?_⟩
  ·refine Inv.step (s:=s) (h':=h'') (g':=s.gens) (d':=s.drawn) (t':=s.toks + 1) (ch:=[e,it]) I (fun c n=>let q:=hf c n; ⟨q.2.2.2.1,q.2.1,q.2.2.2.2.1,q.2.2.2.2.2⟩) (fun c o _ _ n e _=>kept c o n e) (fun c o _ _ n e _=>⟨o.slots,kept c o n e⟩)
    (fun c o _ e n=>by rw [ao (Nat.ne_of_lt (Heap.lt_size e))]; exact n) (fun c o n e=>⟨o,kept c o n e⟩) (fun c zs e=>by rw [ao (av e hT)]; exact e) (fun c o u e=>by rw [ao (av e hT)]; exact e) (fun c ps e=>⟨#[],by rw [ao (av e hT),e]; simp⟩) (fun m hm=>?_) (fun c u e=>?_) I.bare
   ·obtain ⟨o,es,ep,ho,r⟩:=hm
    exact ⟨o,es,ep,kept _ o (fun n=>(hf _ n).2.1 rfl) ho,r⟩
   ·by_cases q:c = s.heap.objs.size
    ·subst q
     rw [ae] at e; cases e
     exact ⟨by show 2<=sizeLine; decide,[.int (i:Nat) s.toks,ux],.cons ⟨s.toks,rfl⟩ (.cons rx .nil),⟨_,prT,rfl,_,rfl⟩⟩
    ·rw [ao q] at e
     refine (I.hok c u e).stay (fun c' v hc' e'=>kept c' v ?_ e') (fun c' e'=>by rw [ao (av e' hT)]; exact e') fun c' zs e'=>by rw [ao (av e' hT)]; exact e'
     rcases hc' with z' | z'
     ·rw [z']; exact trk c u e
     ·exact trk c' _ z'
  ·rw [I.list_inj ha' ha,hx] at hx'
   cases hx'
   exact ⟨_,rfl,hT,rfl⟩
  ·have q:=hf c hc
   have hl:c ≠ s.heap.objs.size:=by
    simp only [List.mem_cons,List.not_mem_nil,or_false] at hc
    obtain ⟨_,e4,_⟩:=q2
    rcases hc with rfl | rfl
    ·exact Nat.ne_of_lt zl
    ·exact Nat.ne_of_lt (Heap.lt_size e4)
   rw [ao hl]
   exact q.1
 done:=by
  intro X hP hw hK hc i pins s σ H E I hf st hg
  subst hP hw hK
  obtain ⟨xs,ha,hx⟩:=hg
  obtain ⟨⟨old,q1⟩,q2⟩:=st
  obtain ⟨its,rv,p,_⟩:=I.list ha
  have hl:=rv.length
  refine wpAny_pyNext_enum_end (I.ok.hd hc) q1 q2 (show s.heap.IsList a its.toArray from p.isList) (by simp; omega) fun h' all=>⟨rfl,?_⟩
  have kept:∀ c o,c ∉ [e,it]->s.heap.get? c = some o->h'.get? c = some o:=fun c o n e=>by
   simp only [List.mem_cons,List.not_mem_nil,or_false,not_or] at n
   exact all c o n.2 e
  have trk:∀ c u,H c = some u->c ∉ [e,it]:=fun c u e n=>by
   have:=(hf c n).1
   rw [e] at this; cases this
  refine Inv.step (s:=s) (h':=h') (g':=s.gens) (d':=s.drawn) (t':=s.toks) (ch:=[e,it]) I (fun c n=>let q:=hf c n; ⟨q.2.2.2.1,q.2.1,q.2.2.2.2.1,q.2.2.2.2.2⟩) (fun c o _ _ n e _=>kept c o n e) (fun c o _ _ n e _=>⟨o.slots,kept c o n e⟩)
    (fun c o _ e n=>n) (fun c o n e=>⟨o,kept c o n e⟩) (fun c zs e=>e) (fun c o u e=>e) (fun c ps e=>⟨#[],by rw [e]; simp⟩) (fun m hm=>?_) (fun c u e=>?_) I.bare
  ·obtain ⟨o,es,ep,ho,r⟩:=hm
   exact ⟨o,es,ep,kept _ o (fun n=>(hf _ n).2.1 rfl) ho,r⟩
  ·refine (I.hok c u e).stay (fun c' v hc' e'=>kept c' v ?_ e') (fun c' e'=>e') fun c' zs e'=>e'
   rcases hc' with z' | z'
   ·rw [z']; exact trk c u e
   ·exact trk c' _ z'
 self:=fun _ _ _ _ _ st h=>by
  obtain ⟨⟨old,q1⟩,_⟩:=st
  exact wpAny_pyIter_enum q1 h
def iEnum (K:Frag) (ta:TA):TI:=fun σ H R=>ta σ H fun vs H1=>∃ a xs,vs = [.ref a]/\SqL K H1 a xs/\R (Ite K a) H1
theorem pi_enum {e1:Expr} {ta:TA} {p pos:Pos} {elts:List Expr} {x1} {tp:Pos} (hg:Gl X "enumerate") (hm:X.mg "enumerate" = none) (ha:PA X [e1] ta) (hs:starEach [e1] X.env = (false,eval e1 X.env) :: starEach [] X.env:=by rfl) (hpl:(backTo pos (starEach [] X.env)).any (·.1) = false:=by rfl) :
  PI X (.Tuple elts x1 tp) (.Call (.Name "enumerate" p) [e1] [] pos) (iEnum X.K ta):=by
 intro pins s σ H R I h
 refine Call_ (ka I hg hm PyProof.Rows.boot_enumerate (PyProof.Rows.callWith_type1 (thn (ha pos pins s σ H _ I h) fun us s1 ⟨vs,H1,I1,r1,q1⟩=>?_) hs hpl))
 obtain ⟨a,xs,e,hqa,q⟩:=q1
 subst e
 cases r1 with
 | cons r rr =>
  cases rr
  cases r
  obtain ⟨its,rv,pl,_⟩:=I1.list hqa
  refine call_enumerate_list (show s1.heap.IsList a its.toArray from pl.isList) fun h' z1 z2 sz z6=>?_
  have I2:Inv X pins σ H1 { s1 with heap:=h' }:=I1.kept (t':=s1.toks) z6
  have la:a < s1.heap.objs.size:=by obtain ⟨o,e,_⟩:=pl.isList; exact Heap.lt_size e
  refine wpAny_pyIter_enum z1 ?_
  refine ⟨s1.heap.objs.size + 1,[s1.heap.objs.size + 1,s1.heap.objs.size],_,_,H1,rfl,I2,sw (Nat.ne_of_gt (Nat.lt_succ_self _)) (Nat.ne_of_lt (Nat.lt_succ_of_lt la)) (Nat.ne_of_lt la),⟨⟨_,z1⟩,z2⟩,fun c hc=>?_,q⟩
  have le:s1.heap.objs.size<=c:=by
   simp only [List.mem_cons,List.not_mem_nil,or_false] at hc
   rcases hc with h | h <;> rw [h]
   ·exact Nat.le_add_right _ _
   ·exact Nat.le_refl _
  exact I1.fpOk le (I1.hok.fresh le)
theorem for_enum {K:Frag} {a:Addr} {xs:List V} {g:TG} {tb:TS} {D:Ends} {σ:L2.St} {H:Hp} (Pv:Nat->L2.St->Hp->Prop) (h0:Pv 0 σ H) (hl:∀ i σ H,Pv i σ H->SqL K H a xs)
  (hs:∀ i x σ H,xs[i]? = some x->Pv i σ H->∀ T,H T = none->g (.ref T) σ (upd H T (.tup [.int (i:Nat),x])) fun σ2 H2=>tb { D with nx:=Pv (i + 1),ct:=Pv (i + 1),bk:=D.nx } σ2 H2) (hd:∀ σ H,Pv xs.length σ H->D.nx σ H) :
  ∃ W:Nat->Nat->L2.St->Hp->Prop,(∃ m,W 0 m σ H)/\∀ i m σ H,W i m σ H ->
   ((Ite K a).stop i H/\D.nx σ H)\/((Ite K a).go i H/\∃ N:L2.St->Hp->Prop,(∀ σ' H',N σ' H'->∃ m',m' < m/\W (i + 1) m' σ' H')/\∀ x H',(Ite K a).yld i H x H'->g x σ H' fun σ2 H2=>tb { D with nx:=N,ct:=N,bk:=D.nx } σ2 H2):=by
 refine ⟨fun i m σ H=>m = xs.length - i/\i<=xs.length/\Pv i σ H,⟨xs.length,by simp,Nat.zero_le _,h0⟩,?_⟩
 rintro i m σ H ⟨rfl,hi,p⟩
 have qa:=hl i σ H p
 by_cases hlt:i < xs.length
 ·have ex:xs[i]? = some xs[i]:=List.getElem?_eq_getElem hlt
  refine .inr ⟨⟨xs,_,qa,ex⟩,Pv (i + 1),fun σ' H' p'=>⟨xs.length - (i + 1),by omega,rfl,hlt,p'⟩,fun x H' y=>?_⟩
  obtain ⟨T,rfl,hT,rfl⟩:=y xs _ qa ex
  exact hs i _ σ H ex p T hT
 ·have e:i = xs.length:=by omega
  subst e
  exact .inl ⟨⟨xs,qa,Nat.le_refl _⟩,hd σ H p⟩
end
end L2
namespace Ow
open PySem PySem.Spec PyProof.Rows L2
section
variable {prog:Program} {w:World} {A:Around} {E:Value->Shared->Prop} {s:Shared} {K:Frag} {x C N:Addr} {fs:Array Value} {sl:Array (Option Value)} {name:Str} {v:Value}
variable {nm qn:Str} {bs bm:List Value} {sn:List Str} {sub:List Value} {ab:Bool} {col:Option Bool} {dd:Option Addr} {k0 k1 k2 k3 k5:Option Value} {nid:String}
end
section
variable {prog:Program} {w:World} {A:Around} {E:Value->Shared->Prop} {h:Heap} {g:Array GenState} {d:Drawn} {t:Nat} {os:OsState} {C N fI:Addr} {us:List Value} {oI:Obj} {mN:Str->Option Value}
variable {nm qn:Str} {bs bm:List Value} {hdc:Bool} {sn:List Str} {sub:List Value} {ab:Bool} {col:Option Bool} {dd:Option Addr} {k0 k1 k2 k3 k5:Option Value}
end
section
variable {X:Cx} {f:Str} {o value:Expr} {ta tv:TE} {pos pos':Pos}
end
section
variable {X:Cx}
end
end Ow
namespace Ow
open PySem PySem.Spec PyProof.Rows L2
end Ow
namespace Ow
open PySem PySem.Spec PyProof.Rows L2
section
variable {X:Cx} {j:Nat} {n:Str}
end
end Ow
namespace Ow
open PySem PySem.Spec PyProof.Rows L2
theorem slE {X:Cx} {b:List Stmt} {R:TS->Prop} (h:∃ t,Sl (PSs X b t)/\R t):∃ t,PSs X b t/\R t:=let ⟨t,a,r⟩:=h; ⟨t,a.out,r⟩
end Ow
namespace Ow
open PySem PySem.Spec PyProof.Rows L2
theorem eg {p:Prop} (h:p):Sl p:=⟨h⟩
section
variable {X:Cx} {st:Stmt} {rest body:List Stmt} {t u tb:TS} {e:Expr} {es:List Expr} {te:TE} {ta:TA} {pos:Pos}
theorem fj:Sl (PSs X [] tNext):=⟨aA⟩
theorem aM (h:Sl (PS X st t)):Sl (PSs X [st] t):=⟨ai h.out⟩
theorem aJ (h1:Sl (PS X st t)) (h2:Sl (PSs X rest u)):Sl (PSs X (st :: rest) (tSeq t u)):=⟨ah h1.out h2.out⟩
theorem kj {c:Expr} {a b:List Stmt} {tc:TT} (hc:PT X c tc) (ha:Sl (PSs X a t)) (hb:Sl (PSs X b u)):Sl (PS X (.If c a b pos) (tIfS tc t u)):=⟨aR hc ha.out hb.out⟩
theorem ps_forZ {tg iter:Expr} {wi:TI} {g:TG} (hp:PassesOwn (model X.prog X.w) X.A X.env X.xe) (hc:X.calm = true) (hi:PI X tg iter wi) (hg:PG X tg g) (hb:Sl (PSs X body tb)) (hs:∀ x,foldedSetIterable iter X.env x = pure x:=by intro _; rfl):Sl (PS X (.For tg iter body [] pos) (tFor wi g tb)):=⟨cA hp hc hi hg hb.out hs⟩
theorem ps_exprZ (he:Sl (PE X e te)) (hs:swapsWith e none pos.line X.env = pure false:=by rfl):Sl (PS X (.Expr e pos) (tDrop te)):=⟨aX he.out hs⟩
theorem pe_bmZ {T id:String} {name:Str} {o:Expr} {to:TE} {r:V->List V->Hp->(V->Hp->Prop)->Prop} {cpos apos:Pos} (pa:PlainAttrs T) (slot:Slot T name id) (hty:typeOf (.builtin id) = pure (.type "method_descriptor")) (hm:MtR X id r) (ho:PE X o to) (ha:Sl (PA X (e :: es) ta))
  (hbase:attributeBase o name X.env (eval o X.env) = eval o X.env:=by rfl)
  (hfew:((backTo cpos (starEach (e :: es) X.env)).all (fun x=>!x.1) && (backToKw cpos (keywordEach [] X.env)).all (fun x=>x.1.isSome)
   && decide ((e :: es).length + ([]:List Keyword).length + (if ([]:List Keyword).isEmpty then 0 else 1) < 30)) = true:=by rfl)
  (hline:(apos.endLine == cpos.line) = true:=by rfl) (hs:starEach (e :: es) X.env = (false,eval e X.env) :: starEach es X.env:=by rfl) (hplain:(backTo cpos (starEach es X.env)).any (·.1) = false:=by rfl) :
  Sl (PE X (.Call (.Attribute o name apos) (e :: es) [] cpos) (tBM X.K T r to ta)):=⟨gv pa slot hty hm ho ha.out hbase hfew hline hs hplain⟩
theorem pa_consZ (ha:Sl (PE X e te)) (hr:Sl (PA X es ta)) (hn:pS e = true:=by rfl):Sl (PA X (e :: es) (tCons te ta)):=⟨pb ha.out hr.out hn⟩
theorem pe_tupZ {x1:Nat} (h:Sl (PA X es ta)):Sl (PE X (.Tuple es x1 pos) (tTup ta)):=⟨cD h.out⟩
theorem dF {a b:Expr} {op:Operator} {r:R2} {t1 t2:TE} (hr:OpR X (binaryOp op) r) (ha:Sl (PE X a t1)) (hb:Sl (PE X b t2)):Sl (PE X (.BinOp a op b pos) (tOp r t1 t2)):=⟨aq hr ha.out hb.out⟩
end
end Ow
namespace Ow
open PySem PySem.Spec PyProof.Rows L2
theorem comp_str {z:Str} {D:Addr} {te':TE} {tl:L2.St} {G:Hp->Prop} {H1:Hp} (Pv:Nat->Hp->Prop) (h0:Pv 0 (upd H1 D (.lst [])))
  (hs:∀ i c H,z.cps[i]? = some c->Pv i H->te' (some (.str ⟨#[c]⟩) :: tl) H fun y H2=>∃ ys,H2 D = some (.lst ys)/\ys.length < sizeLine/\∃ m',m' < z.cps.size - i/\(m' = z.cps.size - (i + 1)/\i + 1<=z.cps.size/\Pv (i + 1) (upd H2 D (.lst (ys ++ [y])))))
  (hd:∀ H,Pv z.cps.size H->G H) :
  ∃ W:Nat->Nat->Hp->Prop,(∃ m,W 0 m (upd H1 D (.lst [])))/\∀ i m H,W i m H ->
   ((Its z).stop i H/\G H)\/((Its z).go i H/\∀ x H',(Its z).yld i H x H'->te' (some x :: tl) H' fun y H2=>∃ ys,H2 D = some (.lst ys)/\ys.length < sizeLine/\∃ m',m' < m/\W (i + 1) m' (upd H2 D (.lst (ys ++ [y])))):=by
 refine ⟨fun i m H=>m = z.cps.size - i/\i<=z.cps.size/\Pv i H,⟨z.cps.size,by simp,Nat.zero_le _,h0⟩,?_⟩
 rintro i m H ⟨rfl,hi,p⟩
 by_cases hlt:i < z.cps.size
 ·refine .inr ⟨hlt,fun x H' y=>?_⟩
  obtain ⟨e,c,hc,ex⟩:=y
  subst e ex
  exact hs i c _ hc p
 ·have e:i = z.cps.size:=by omega
  subst e
  exact .inl ⟨Nat.le_refl _,hd H p⟩
theorem pK {X:Cx} {x v:Str} {pos:Pos} (hg:Gl X x) (hm:∃ t,X.mg x = some (.str v t)) (hd:(x == ("__debug__":Str)) = false:=by decide):PE X (.Name x pos) (tC (.str v)):=by
 obtain ⟨t,h⟩:=hm
 exact nM (v:=.str v) hg h ⟨t,rfl⟩ hd
end Ow
namespace Ow
open PySem PySem.Spec PyProof.Rows L2
section
variable {X:Cx}
theorem _root_.L2.Inv.many {pins:List (Addr × Obj)} {σ:L2.St} {H H':Hp} {s:Shared} {h':Heap} {t':Nat} (I:Inv X pins σ H s) (k:∀ b u,s.heap.get? b = some u->h'.get? b = some u) (up:∀ b u,H b = some u->H' b = some u) (fr:∀ b o,s.heap.get? b = some o->H b = none->H' b = none) (hok:HOk X.prog X.w H' h') :
  Inv X pins σ H' { s with heap:=h',toks:=t' } :=
 I.step (h':=h') (g':=s.gens) (t':=t') (d':=s.drawn) (ch:=[]) (fun b z=>nomatch z) (fun b ob _ _ _ e _=>k b ob e) (fun b ob _ _ _ e _=>⟨ob.slots,k b ob e⟩) (fun b ob _ e n=>fr b ob e n) (fun b ob _ e=>⟨ob,k b ob e⟩) (fun b xs e=>up b _ e) (fun b o' u e=>up b _ e) (fun b ps e=>⟨#[],by rw [Array.append_empty]; exact up b _ e⟩) (fun m ⟨o,es,ep,g,r⟩=>⟨o,es,ep,k _ _ g,r⟩) hok I.bare
def vwV (r d:Addr):HO:=.ext fun h=>h.IsValuesView r d
theorem jx:MtM X "dict.values" (fun x vs H Q=>∃ (a:Addr) (kvs:List (Key × V)),x = .ref a/\vs = []/\H a = some (.dK kvs)/\∀ r,H r = none->Q (.ref r) (upd H r (vwV r a))):=by
 intro pins s σ H x vs v us Q I rx rv h
 obtain ⟨a,kvs,rfl,rfl,ha,q⟩:=h
 cases rx
 cases rv
 obtain ⟨z,hd,xs,rel,dd⟩:=oE I.hok ha
 refine call_meetsIn PySem.F.slot_dict_values dd.typeIs PySem.F.entry_dict_values (PySem.F.args_dict_values_1 _) (meets_dict_values (aL X.prog X.w) a hd) ⟨⟨xs,dd⟩,?_⟩
 refine ⟨.ref s.heap.objs.size,_,I.laid (t':=s.toks) (fun b o e=>Heap.get?_push_of_some _ e) (Nat.le_refl _) ?_,rfl,q _ (I.hok.fresh (Nat.le_refl _))⟩
 exact ⟨⟨_,Heap.get?_push_size _ rfl,rfl,rfl⟩,⟨_,Heap.get?_push_size _ rfl⟩,fun h1 h2 p k=>let ⟨o,e,x⟩:=p; ⟨o,k o e,x⟩⟩
theorem kv_vals {kvs:List (Key × V)} {vs:List (Key × Value)} (r:KV kvs vs):Vals (kvs.map (·.2)) (vs.map (·.2)):=by
 unfold KV at r
 induction r with
 | nil=>exact .nil
 | cons h _ ih=>exact .cons h.2 ih
theorem vals_get {xs:List V} {us:List Value} (r:Vals xs us) {i:Nat} {u:Value} (h:us[i]? = some u):∃ x,xs[i]? = some x/\RelV x u:=by
 have hl:=r.length
 have hi:=(List.getElem?_eq_some_iff.mp h).1
 obtain ⟨u',e,ru⟩:=r.get (List.getElem?_eq_getElem (show i < xs.length by omega))
 rw [h] at e
 cases e
 exact ⟨_,List.getElem?_eq_getElem _,ru⟩
theorem nJ:∀ {xs:List V} {us:List Value},xs.length = us.length->(∀ (i:Nat) x u,xs[i]? = some x->us[i]? = some u->RelV x u)->Vals xs us
 | [],[],_,_=>.nil
 | _ :: _,_ :: _,hl,h=>.cons (h 0 _ _ rfl rfl) (nJ (by simpa using hl) fun i x u a b=>h (i + 1) x u (by simpa using a) (by simpa using b))
 | [],_ :: _,hl,_=>by simp at hl
 | _ :: _,[],hl,_=>by simp at hl
theorem iM (hc:X.calm = true):fq X (.builtin "sum") (fun xs H Q=>∃ (r a:Addr) (kvs:List (Key × V)) (ns:List Int),xs = [.ref r]/\H r = some (vwV r a)/\H a = some (.dK kvs)/\kvs.map (·.2) = ns.map V.int/\Q (.int ns.sum) H):=by
 intro pins s σ H xs us Q I r h
 obtain ⟨vr,a,kvs,ns,rfl,hv,ha,hn,q⟩:=h
 obtain ⟨u,rfl,ru⟩:=r.one
 cases (show u = Value.ref vr from ru)
 obtain ⟨z,hd,vs,rel,dd⟩:=oE I.hok ha
 obtain ⟨ep,dat⟩:=dd.dictAt
 have vw:s.heap.IsValuesView vr a:=(I.hok vr _ hv).1
 have vl:=(kv_vals rel)
 rw [hn] at vl
 have hl:=vl.length
 rw [List.length_map,List.length_map] at hl
 obtain ⟨oI,St,hit,W,st⟩:=(PySem.W.kdl_values (knd:=aL X.prog X.w) (r:=vr) (d:=a) (kvs:=vs) (ep:=ep)).iter X.A.in1 s (I.ok.hd hc) ⟨vw,dat⟩
 refine call_sum_walkG (hit _ _ ⟨s.heap.objs.size,_,_,_,_,_,fun j=>ns.getD j 0,rfl,W,st,?_,?_,?_⟩)
 ·intro b hb
  show b < (s.heap.push _).objs.size
  rw [Heap.size_push]
  rcases List.mem_cons.mp hb with rfl | hb
  ·exact Nat.lt_succ_self _
  ·rw [List.mem_singleton.mp hb]
   exact Nat.lt_succ_of_lt dat.lt_size
 ·rintro i v ⟨k,hP⟩
  obtain ⟨x,hx,rx⟩:=vals_get vl (u:=v) (i:=i) (by rw [List.getElem?_map,hP]; rfl)
  rw [List.getElem?_map] at hx
  cases e:ns[i]? with
  | none=>rw [e] at hx; cases hx
  | some m =>
   rw [e] at hx
   cases hx
   obtain ⟨t,rfl⟩:=rx
   exact ⟨t,by show Value.int m t = Value.int (ns.getD i 0) t; rw [List.getD_eq_getElem?_getD,e]; rfl⟩
 ·intro h' tk t' hk
  have e0:∀ (l:List Int) (m:Nat),m<=l.length->preSum (fun j=>l.getD j 0) m = (l.take m).sum:=by
   intro l m
   induction m with
   | zero=>intro _; simp [preSum]
   | succ m ih =>
    intro hm
    rw [List.take_add_one,List.sum_append,<- ih (by omega),List.getElem?_eq_getElem (by omega)]
    simp [preSum,List.getD_eq_getElem?_getD,List.getElem?_eq_getElem (show m < l.length by omega)]
  have e1:preSum (fun j=>ns.getD j 0) vs.length = ns.sum:=by rw [<- hl,e0 ns ns.length (Nat.le_refl _),List.take_length]
  rw [e1]
  exact ⟨.int _,H,I.kept (t':=tk) fun b o e=>hk b o (fun z=>by
   have z':b = s.heap.objs.size:=by simpa using z
   exact absurd (Heap.lt_size e) (by rw [z']; exact Nat.lt_irrefl _)) (Heap.get?_push_of_some _ e),⟨t',rfl⟩,q⟩
theorem sP:fq X (.type "dict") (fun xs H Q=>∃ (a:Addr) (kvs:List (Key × V)),xs = [.ref a]/\H a = some (.dK kvs)/\∀ l,H l = none->Q (.ref l) (upd H l (.dK kvs))):=by
 intro pins s σ H xs us Q I r h
 obtain ⟨a,kvs,rfl,ha,q⟩:=h
 obtain ⟨u,rfl,ru⟩:=r.one
 cases (show u = Value.ref a from ru)
 exact d_copyOf I (.inl ha) fun p s' hp I'=>⟨.ref p,_,I',rfl,q p hp⟩
theorem mC (hc:X.calm = true):fq X (.builtin "sorted") (fun xs H Q=>∃ (a:Addr) (kvs:List (Key × V)) (zs:List Str),xs = [.ref a]/\H a = some (.dK kvs)/\kvs.map (·.1) = zs.map Sum.inr/\zs.length < 64/\∀ (l:Addr) (ws:List Str),H l = none->ws.Perm zs->Q (.ref l) (upd H l (.lst (ws.map V.str)))):=by
 intro pins s σ H xs us Q I r h
 obtain ⟨a,kvs,zs,rfl,ha,hk,h64,q⟩:=h
 obtain ⟨u,rfl,ru⟩:=r.one
 cases (show u = Value.ref a from ru)
 obtain ⟨z,hd,vs,rel,dd⟩:=oE I.hok ha
 obtain ⟨ep,dat⟩:=dd.dictAt
 have hl:=rel.length
 have ky:=rel.keys
 rw [hk] at ky
 have ln:vs.length = zs.length:=by
  have:=congrArg List.length ky
  rw [List.length_map,List.length_map] at this
  exact this.symm
 refine Calls.call_function_entry kind_sorted plain_sorted entry_sorted (args_sorted1 _) ?_
 unfold Builtin.«sorted»
 refine wpAny_bind (m:=checkCount "sorted" 1 1 _) (wpAny_pure (wpAny_bind (PySem.W.kdu_collect (A:=X.A.in1) (PySem.W.kdl_dict (knd:=aL X.prog X.w) (kvs:=vs) (ep:=ep) hd) (I.ok.hd hc) dat (by rw [<- hl]; exact z) fun h1 tk acc kp ac=>?_)))
 have al:acc.toList.length = zs.length:=by rw [Array.length_toList,ac.1,ln]
 have sa:StrsAre acc.toList zs:=by
  have all:∀ (i:Nat) (v:Value),acc.toList[i]? = some v->∃ t zz,zs[i]? = some zz/\v = .str zz t:=fun i v hv=>by
   obtain ⟨k,x,hx,kx⟩:=ac.2 i v (by rw [<- Array.getElem?_toList]; exact hv)
   have e:=congrArg (fun l=>l[i]?) ky
   simp only [List.getElem?_map,hx,Option.map_some] at e
   cases ez:zs[i]? with
   | none=>rw [ez] at e; cases e
   | some zz =>
    rw [ez] at e
    cases e
    obtain ⟨t,rfl⟩:=oQ kx
    exact ⟨t,zz,rfl,rfl⟩
  have m:=strsAre_map acc.toList fun v hv=>by
   obtain ⟨i,hi⟩:=List.mem_iff_getElem?.mp hv
   obtain ⟨t,zz,_,rfl⟩:=all i v hi
   exact ⟨zz,t,rfl⟩
  have e:acc.toList.map strOf = zs:=by
   apply List.ext_getElem?
   intro i
   rw [List.getElem?_map]
   cases e:acc.toList[i]? with
   | none=>rw [List.getElem?_eq_none (by have:=List.getElem?_eq_none_iff.mp e; omega)]; rfl
   | some v =>
    obtain ⟨t,zz,ez,rfl⟩:=all i v e
    rw [ez]
    rfl
  rw [e] at m
  exact m
 refine wpAny_bind (wpAny_newList ?_ (by rw [al,sizeLine_eq]; omega))
 have g1:(h1.push (seqObj "list" acc.toList.toArray 0)).get? h1.objs.size = some (seqObj "list" acc.toList.toArray 0):=Heap.get?_push_size _ rfl
 refine wpAny_bind (wpAny_holding (wpAny_call_entry slot_list_sort ⟨_,g1,rfl⟩ entry_list_sort (list_sort_treeK strKind_oneLt g1 sa.keysOf (fun v1 v2 rest e=>keyKind_strs (by rw [<- e]; exact sa)) (by omega) fun st' p1 p2=>⟨_,rfl,?_⟩) (args_list_sort _)))
 obtain ⟨ws,s1,s2,_⟩:=sorted_out_str sa p1 p2
 obtain ⟨e,ge⟩:=sortedHeap_at (out:=(arrOf st').map (·.2)) g1
 have nw:∀ b o,s.heap.get? b = some o->b ≠ h1.objs.size:=fun b o eb=>Nat.ne_of_lt (Heap.lt_size (kp b o eb))
 have hn:H h1.objs.size = none:=by
  cases eh:H h1.objs.size with
  | none=>rfl
  | some u=>obtain ⟨o,ho⟩:=qR (I.hok _ u eh); exact absurd rfl (nw _ o ho)
 have kp2:∀ b o,s.heap.get? b = some o->(sortedHeap (h1.push (seqObj "list" acc.toList.toArray 0)) h1.objs.size acc.toList ((arrOf st').map (·.2))).get? b = some o:=fun b o eb=>by
  rw [sortedHeap_old (nw b o eb) (by rw [Heap.size_push]; exact Nat.lt_succ_of_lt (Heap.lt_size (kp b o eb)))]
  exact Heap.get?_push_of_some _ (kp b o eb)
 have up:∀ b u,H b = some u->upd H h1.objs.size (.lst (ws.map V.str)) b = some u:=fun b u e=>by rw [ao (av e hn)]; exact e
 have wl:ws.length = zs.length:=s2.length_eq
 refine wpAny_pure ⟨_,rfl,.ref h1.objs.size,upd H h1.objs.size (.lst (ws.map V.str)),I.many (t':=tk) kp2 up (fun b o eb n=>by rw [ao (nw b o eb)]; exact n) (fun b u eb=>?_),rfl,q _ ws hn s2⟩
 by_cases cb:b = h1.objs.size
 rotate_left
 ·rw [ao cb] at eb
  exact (I.hok b u eb).stay (fun x v _ z=>kp2 x v z) (fun x z=>up x _ z) fun x ys z=>up x _ z
 ·subst cb
  rw [ae] at eb
  cases eb
  refine ⟨by rw [List.length_map,sizeLine_eq]; omega,_,e,?_,ge⟩
  have:∀ {us:List Value} {zs:List Str},StrsAre us zs->Vals (zs.map V.str) us:=fun {us zs} h=>by
   have e:=h.strs
   subst e
   exact nJ (by rw [List.length_map,List.length_map]) fun i x u hx hu=>by
    rw [List.getElem?_map,List.getElem?_map,hu] at hx
    cases hx
    obtain ⟨y,t,rfl⟩:=h.all _ (List.mem_of_getElem? hu)
    exact ⟨t,rfl⟩
  exact this s1
end
end Ow
namespace Ow
open PySem PySem.Spec PyProof.Rows L2
theorem gx {X:Cx} {x:Str} {v:Int} {pos:Pos} (hg:Gl X x) (hm:∃ t,X.mg x = some (.int v t)) (hd:(x == ("__debug__":Str)) = false:=by decide):PE X (.Name x pos) (tC (.int v)):=by
 obtain ⟨t,h⟩:=hm
 exact nM (v:=.int v) hg h ⟨t,rfl⟩ hd
theorem for_dict {a:Addr} {o:Obj} {kvs:List (Key × V)} {g:TG} {tb:TS} {D:Ends} {σ:L2.St} {H:Hp} (Pv:Nat->L2.St->Hp->Prop) (h0:Pv 0 σ H) (hf:∀ i σ H,i<=kvs.length->Pv i σ H->H a = some (.frz o (.dK kvs)))
  (hs:∀ (i:Nat) (kv:Key × V) σ H,kvs[i]? = some kv->Pv i σ H->g (kV kv.1) σ H fun σ2 H2=>tb { D with nx:=Pv (i + 1),ct:=Pv (i + 1),bk:=D.nx } σ2 H2) (hd:∀ σ H,Pv kvs.length σ H->D.nx σ H) :
  ∃ W:Nat->Nat->L2.St->Hp->Prop,(∃ m,W 0 m σ H)/\∀ i m σ H,W i m σ H ->
   ((Itk a o kvs).stop i H/\D.nx σ H)\/((Itk a o kvs).go i H/\∃ N:L2.St->Hp->Prop,(∀ σ' H',N σ' H'->∃ m',m' < m/\W (i + 1) m' σ' H')/\∀ x H',(Itk a o kvs).yld i H x H'->g x σ H' fun σ2 H2=>tb { D with nx:=N,ct:=N,bk:=D.nx } σ2 H2):=by
 refine ⟨fun i m σ H=>m = kvs.length - i/\i<=kvs.length/\Pv i σ H,⟨kvs.length,by simp,Nat.zero_le _,h0⟩,?_⟩
 rintro i m σ H ⟨rfl,hi,p⟩
 by_cases hlt:i < kvs.length
 ·refine .inr ⟨⟨hf i σ H hi p,hlt⟩,Pv (i + 1),fun σ' H' p'=>⟨kvs.length - (i + 1),by omega,rfl,by omega,p'⟩,?_⟩
  rintro x H' ⟨rfl,kv,hk,rfl⟩
  exact hs i kv σ _ hk p
 ·have e:i = kvs.length:=by omega
  subst e
  exact .inl ⟨⟨hf _ σ H hi p,rfl⟩,hd σ H p⟩
end Ow
namespace Ow
open PySem PySem.Spec PyProof.Rows L2
def gI (kvs:List (Key × V)) (z:Str):Int:=match dG kvs (.inr z) with
 | some (.int i)=>i
 | _=>0
def IntD (kvs:List (Key × V)):Prop:=∀ kv ∈ kvs,∃ i:Int,kv.2 = .int i
theorem fi {kvs:List (Key × V)} {k:Key} {v:V} (h:dG kvs k = some v):(k,v) ∈ kvs:=by
 induction kvs with
 | nil=>cases h
 | cons p t ih =>
  by_cases e:p.1 = k
  ·rw [bv e] at h
   cases h
   rw [<- e]
   exact List.mem_cons_self ..
  ·rw [bw e] at h
   exact List.mem_cons_of_mem _ (ih h)
theorem IntD.get {kvs:List (Key × V)} (h:IntD kvs) (z:Str):(dG kvs (.inr z)).getD (.int 0) = .int (gI kvs z):=by
 unfold gI
 cases e:dG kvs (.inr z) with
 | none=>rfl
 | some v =>
  obtain ⟨i,ei⟩:=h _ (fi e)
  cases (show v = V.int i from ei)
  rfl
def tDGetI (td ty:TE):TE:=fun σ H Q=>td σ H fun x H1=>∃ a,x = .ref a/\(∃ kvs,H1 a = some (.dK kvs))/\ty σ H1 fun y H2=>∃ kvs z,y = .str z/\H2 a = some (.dK kvs)/\IntD kvs/\Q (.int (gI kvs z)) H2
theorem cE {X:Cx} {o e f:Expr} {apos cpos:Pos} {td ty:TE} (hu:X.A.units + 1 < cLine) (ho:PE X o td) (he:PE X e ty) (hf:PE X f (tC (.int 0))) (m:M2 X o "get" apos e f cpos):PE X (.Call (.Attribute o "get" apos) [e,f] [] cpos) (tDGetI td ty):=by
 intro pins s σ H Q I h
 refine wpAny_Call_method m.base m.few m.line PySem.F.plainAttrs_dict PySem.F.slot_dict_get PySem.F.type_dict_get (thn (ho pins s σ H _ I h) fun u s1 ⟨x,H1,I1,rx,a,ex,⟨ks,hk⟩,q1⟩=>?_)
 subst ex
 obtain rfl:u = Value.ref a:=rx
 obtain ⟨t1,t2,_⟩:=isD_at I1 (.inl ⟨ks,.inl hk⟩)
 refine ⟨t1,t2,?_⟩
 rw [m.trees]
 refine Calls.callWith_builtin rfl (Calls.evalArgs_plain (Calls.spliced_cons (thn (he pins s1 σ H1 _ I1 q1) fun iv s2 ⟨y,H2,I2,ry,kvs,z,ey,ha,hi,q2⟩=>Calls.spliced_cons (thn (hf pins s2 σ H2 (fun v G=>v = .int 0/\G = H2) I2 ⟨rfl,rfl⟩) fun fv s3 ⟨v0,H3,I3,rz,e0,eH⟩=>Calls.spliced_nil ?_))))
 subst ey e0 eH
 refine d_get2 hu I3 (DGet.k (k:=.inr z) ha) ry rz fun w' s4 I4 rw'=>⟨_,_,I4,?_,q2⟩
 rw [hi.get z] at rw'
 exact rw'
end Ow
namespace Ow
open PySem PySem.Spec PyProof.Rows L2
section
variable {X:Cx}
theorem mt_find:MtM X "str.find" (fun x vs H Q=>∃ z y:Str,x = .str z/\vs = [.str y]/\Q (.int (Txt.find z y)) H):=by
 intro pins s σ H x vs v us Q I rx rv h
 obtain ⟨z,y,rfl,rfl,q⟩:=h
 obtain ⟨t,rfl⟩:=rx
 obtain ⟨u,rfl,t2,rfl⟩:=rv.one
 exact SC.find ⟨.int _,H,I.tok _,⟨_,rfl⟩,q⟩
end
end Ow
namespace Ow
open PySem PySem.Spec PyProof.Rows L2
section
variable {X:Cx}
end
end Ow
namespace Ow
open PySem PySem.Spec PyProof.Rows L2
def FB (K:Frag) (x q:Str) (st:Stmt) (f:Addr):Prop:=∃ (oc kV dc pm cd ct:Value) (od an:Option Addr) (sl:Array (Option Value)),K.lookup f = some ⟨oc,od,.func (fnOf x q (eX st) (dW st) (aj st) .none kV dc pm an cd ct),sl⟩/\codeIn K cd q = true/\keepIn K (.ref f) = true
theorem FB.of {K:Frag} {x q:Str} {st:Stmt} {f:Addr} {oc kV dc pm cd ct:Value} {od an:Option Addr} {sl:Array (Option Value)} (a:K.lookup f = some ⟨oc,od,.func (fnOf x q (eX st) (dW st) (aj st) .none kV dc pm an cd ct),sl⟩) (b:codeIn K cd q = true) (c:keepIn K (.ref f) = true):FB K x q st f:=⟨oc,kV,dc,pm,cd,ct,od,an,sl,a,b,c⟩
theorem FB.fn {K:Frag} {x q:Str} {st:Stmt} {f:Addr} (h:FB K x q st f):∃ fd,Fun K x q st f fd/\keepIn K (.ref f) = true:=by
 obtain ⟨oc,kV,dc,pm,cd,ct,od,an,sl,l,c,k⟩:=h
 exact ⟨_,fun_mk (st:=st) l c k,k⟩
def BsV:Nat->(List Value->Prop)->Prop
 | 0,p=>p []
 | n+1,p=>∀ u,BsV n fun us=>p (u::us)
theorem bsV:∀ (n:Nat) (p:List Value->Prop),BsV n p->∀ us:List Value,us.length=n->p us
 | 0,_,h,[],_=>h
 | n+1,_,h,u::us,e=>bsV n _ (h u) us (Nat.succ.inj e)
theorem FB.bs {K:Frag}{x q:Str}{st:Stmt}{f:Addr}(l:FB K x q st f) (ps:List Str) (h:∀ (kV doc pm:Value) (an:Option Addr) (cdv ct:Value),BsV ps.length fun us=>bindArgs (fnOf x q (eX st) (dW st) (aj st) .none kV doc pm an cdv ct) ⟨us,[]⟩=pure (ps.zip us)):∃ fd,Fun K x q st f fd/\keepIn K (.ref f)=true/\Binds K fd ps []:=by
 obtain ⟨fd,F,k⟩:=l.fn
 exact ⟨fd,F,k,F.binds fun kV d p an cd ct us hl=>bsV _ _ (h kV d p an cd ct) us hl⟩
end Ow
namespace L2
open PySem PySem.Spec PyProof.Rows
theorem gq:∀ (ys:List Str) (k:Nat),Vals (ys.map V.str) (strsFrom k ys)
 | [],_=>.nil
 | _ :: r,k=>.cons ⟨_,rfl⟩ (gq r (k + 1))
theorem lK {X:Cx}:MtM X "str.split" (fun x vs H Q=>∃ z y:Str,x = .str z/\vs = [.str y]/\y.length ≠ 0/\z.length + 2<=sizeLine/\∀ l,H l = none->Q (.ref l) (upd H l (.lst ((Txt.split z y).map V.str)))):=by
 intro pins s σ H x vs v us Q I rx rv h
 obtain ⟨z,y,rfl,rfl,hy,hz,q⟩:=h
 obtain ⟨t,rfl⟩:=rx
 obtain ⟨u,rfl,ru⟩:=rv.one
 obtain ⟨t',rfl⟩:=ru
 have hy':(y.length == 0) = false:=beq_eq_false_iff_ne.mpr hy
 have lens:(Txt.split z y).length<=z.length + 2:=by
  have:=len_le_of_split (l:=(Txt.split z y).map fun x=>(x,0)) (x:=z) (y:=y) (by rw [List.map_map]; exact List.map_id' _)
  rw [List.length_map] at this
  exact this
 have fin:∀ (ys:List Str) (tk:Nat),ys = Txt.split z y->∀ vals,Vals (ys.map V.str) vals->∃ (x:V) (H':Hp),Inv X pins σ H' { s with heap:=s.heap.push { cls:=Value.type "list",data:=Data.seq vals.toArray },toks:=tk }/\RelV x (.ref s.heap.objs.size)/\Q x H':=by
  intro ys tk e vals rvs
  subst e
  exact ⟨.ref s.heap.objs.size,_,I.laid (t':=tk) (fun b o e=>Heap.get?_push_of_some _ e) (Nat.le_refl _) (show ObjOk X.prog X.w _ _ _ (.lst _) from ⟨by rw [List.length_map]; omega,_,0,rvs,Heap.get?_push_size _ rfl⟩),rfl,q _ (I.hok.fresh (Nat.le_refl _))⟩
 by_cases c1:(decide (z.length < y.length) || decide (Builtin.Str.strKind z < Builtin.Str.strKind y)) = true
 ·refine call_meets F.slot_str_split (typeIs_str s z t) F.entry_str_split (F.args_str_split_2 _ _) (meets_str_split_cannot_occur z y t t' c1) ?_
  exact fin [z] s.toks (by unfold Txt.split; rw [if_pos c1]) [.str z t] (.cons ⟨_,rfl⟩ .nil)
 ·have c1':=Bool.eq_false_iff.mpr c1
  by_cases c2:(Builtin.Str.occurrences z y 0 z.length (z.length + 1)).isEmpty = true
  ·refine call_meets F.slot_str_split (typeIs_str s z t) F.entry_str_split (F.args_str_split_2 _ _) (meets_str_split_not_found z y t t' c1' hy' c2) ?_
   exact fin [z] s.toks (by unfold Txt.split; rw [if_neg c1,if_pos c2]) [.str z t] (.cons ⟨_,rfl⟩ .nil)
  ·have e:Txt.split z y = Builtin.Str.partsBetween z (Builtin.Str.occurrences z y 0 z.length (z.length + 1)) y.length:=by unfold Txt.split; rw [if_neg c1,if_neg c2]
   refine call_meets F.slot_str_split (typeIs_str s z t) F.entry_str_split (F.args_str_split_2 _ _) (meets_str_split_sep z y t t' c1' hy' (Bool.eq_false_iff.mpr c2) (by omega) (by rw [<- e]; omega)) ?_
   exact fin _ _ e.symm _ (gq _ _)
end L2
namespace Ow
open PySem
theorem rh {a b:Str} (h:a.cps.toList = b.cps.toList):a = b:=by
 cases a; cases b
 exact congrArg Str.mk (Array.toList_inj.mp h)
theorem si {c:Nat}:∀ {p q a b:List Nat},c ∉ p->c ∉ q->p ++ c :: a = q ++ c :: b->p = q/\a = b
 | [],[],_,_,_,_,e=>⟨rfl,by injection e⟩
 | [],y :: q,_,_,_,hq,e=>by injection e with e1 _; exact absurd (by rw [e1]; exact List.mem_cons_self ..) hq
 | x :: p,[],_,_,hp,_,e=>by injection e with e1 _; exact absurd (by rw [<- e1]; exact List.mem_cons_self ..) hp
 | x :: p,y :: q,a,b,hp,hq,e=>by
  injection e with e1 e2
  obtain ⟨h1,h2⟩:=si (fun z=>hp (List.mem_cons_of_mem _ z)) (fun z=>hq (List.mem_cons_of_mem _ z)) e2
  exact ⟨by rw [e1,h1],h2⟩
theorem cH (s y z:Str) (r:List Str):(s.join (y :: z :: r)).cps.toList = y.cps.toList ++ (s.cps.toList ++ (s.join (z :: r)).cps.toList):=by
 show ((y.cps ++ s.cps) ++ (s.join (z :: r)).cps).toList = _
 simp
theorem oZ {c:Nat}:∀ {ps qs:List Str},ps ≠ []->qs ≠ []->(∀ p ∈ ps,c ∉ p.cps.toList)->(∀ p ∈ qs,c ∉ p.cps.toList)->(Str.join ⟨#[c]⟩ ps).cps.toList = (Str.join ⟨#[c]⟩ qs).cps.toList->ps = qs
 | [],_,h,_,_,_,_=>absurd rfl h
 | _,[],_,h,_,_,_=>absurd rfl h
 | [p],[q],_,_,_,_,e=>by rw [rh (show p.cps.toList = q.cps.toList from e)]
 | [p],q :: z :: r,_,_,hp,_,e=>by
  rw [cH] at e
  exact absurd (by rw [show p.cps.toList = _ from e]; simp) (hp p (List.mem_cons_self ..))
 | p :: z :: r,[q],_,_,_,hq,e=>by
  rw [cH] at e
  exact absurd (by rw [<- show _ = q.cps.toList from e]; simp) (hq q (List.mem_cons_self ..))
 | p :: y :: r,q :: z :: t,_,_,hp,hq,e=>by
  rw [cH,cH] at e
  obtain ⟨h1,h2⟩:=si (hp p (List.mem_cons_self ..)) (hq q (List.mem_cons_self ..)) (show p.cps.toList ++ c :: _ = q.cps.toList ++ c :: _ from e)
  rw [rh h1,oZ (by simp) (by simp) (fun w hw=>hp w (List.mem_cons_of_mem _ hw)) (fun w hw=>hq w (List.mem_cons_of_mem _ hw)) h2]
theorem gT {c:Nat} {ps:List Str} (hne:ps ≠ []) (hf:∀ p ∈ ps,c ∉ p.cps.toList):Txt.split (Txt.join ⟨#[c]⟩ ps) ⟨#[c]⟩ = ps:=by
 have e:Txt.join ⟨#[c]⟩ ps = Str.join ⟨#[c]⟩ ps:=PySem.StrLaws.glued_eq_join _ _
 have j:=PySem.StrLaws.join_split (Txt.join ⟨#[c]⟩ ps) ⟨#[c]⟩
 refine oZ ?_ hne (fun p hp=>PySem.StrLaws.split_free _ c p hp) hf ?_
 ·have:=PyProof.Rows.split_pos (Txt.join ⟨#[c]⟩ ps) ⟨#[c]⟩
  intro z
  rw [z] at this
  cases this
 ·rw [j,e]
end Ow
namespace L2
open PySem PySem.Spec PyProof.Rows Ow
def rEqLS (K:Frag) (neg:Bool):R2:=fun x y H Q=>∃ (p q:Addr) (as bs:List Str),x = .ref p/\y = .ref q/\SqL K H p (as.map V.str)/\SqL K H q (bs.map V.str)/\Q (.bl (if neg then !decide (as = bs) else decide (as = bs))) H
theorem lY (as:List Str) (j:Nat) (h:j < as.length):fK ((as.map V.str).getD j .non) = true:=by
 rw [List.getD_eq_getElem?_getD,List.getElem?_map,List.getElem?_eq_getElem h]; rfl
theorem eq_strs {as bs:List Str} (h:as.length = bs.length):(List.range (as.map V.str).length).all (fun j=>eqV ((as.map V.str).getD j .non) ((bs.map V.str).getD j .non)) = decide (as = bs):=by
 rw [List.length_map]
 by_cases e:as = bs
 ·subst e
  rw [decide_eq_true rfl,List.all_eq_true]
  intro j hj
  have hj:=List.mem_range.mp hj
  rw [List.getD_eq_getElem?_getD,List.getElem?_map,List.getElem?_eq_getElem hj]
  simp [eqV]
 ·rw [decide_eq_false e]
  refine Bool.eq_false_iff.mpr fun z=>e (List.ext_getElem h fun j h1 h2=>?_)
  have:=List.all_eq_true.mp z j (List.mem_range.mpr h1)
  rw [List.getD_eq_getElem?_getD,List.getD_eq_getElem?_getD,List.getElem?_map,List.getElem?_map,List.getElem?_eq_getElem h1,List.getElem?_eq_getElem h2] at this
  simpa [eqV] using this
theorem op_eqLS {X:Cx} (hu:X.A.units < cLine):OpR X (compareOp .Eq) (rEqLS X.K false):=by
 intro pins s σ H x y v u Q I rx ry h
 obtain ⟨p,q,as,bs,rfl,rfl,hp,hq,k⟩:=h
 cases rx
 cases ry
 obtain ⟨its,r,pl,_⟩:=I.list hp
 obtain ⟨its2,r2,pl2,_⟩:=I.list hq
 have hl:=r.length
 have hl2:=r2.length
 by_cases hle:as.length = bs.length
 ·refine SeqAt.eq_listAt (e:=fun j=>eqV ((as.map V.str).getD j .non) ((bs.map V.str).getD j .non)) pl.isList pl2.isList (by simp only [List.size_toArray]; rw [List.length_map] at hl hl2; omega) hu (fun j h1 h2=>?_) ⟨.bl _,H,I,rfl,?_⟩
  ·have h1':j < its.length:=by simpa using h1
   have h2':j < its2.length:=by simpa using h2
   rw [List.length_map] at hl hl2
   have z:=qH (A:=X.A.in1) (s:=s) (db r h1') (db r2 h2') (lY as j (by omega)) (lY bs j (by omega))
   simpa using z
  ·simp only [List.size_toArray,<- hl]
   rw [eq_strs hle]
   exact k
 ·refine SeqAt.eq_list_lengthsAt pl.isList pl2.isList (by simp only [List.size_toArray]; rw [List.length_map] at hl hl2; exact bne_iff_ne.mpr (by omega)) hu ⟨.bl _,H,I,rfl,?_⟩
  have e:decide (as = bs) = false:=decide_eq_false fun z=>hle (by rw [z])
  rw [if_neg Bool.false_ne_true,e] at k
  exact k
end L2
namespace L2
open PySem PySem.Spec PyProof.Rows
end L2
namespace Ow
open PySem PySem.Spec PyProof.Rows L2
section
variable {P:Program} {w:World} {K:Frag} {mg:Str->Option Value} {base:Heap} {N:List Str} {qual:Str} {scope:Scope} {fa:Addr} {cdv:Value} {A:Around} {outer:List Env} {s₀:Shared} {H₀:Hp} {E:XK}
end
end Ow
namespace L2
open PySem PySem.Spec PyProof.Rows
end L2
namespace L2
open PySem PySem.Spec PyProof.Rows
abbrev bV (h:Heap) (z TI TO:Addr) (f0 f1:Value):Prop:=h.get? z = some { cls:=.type "zip",dict:=none,data:=.fields #[f0,f1,.bool false,.ref TI,.ref TO],slots:=#[] }
section
variable {prog:Program} {w:World} {A:Around} {E:Value->Shared->Prop} {s:Shared}
theorem mq {a:Addr} {h:Heap}:Heap.SameBut a h h:=⟨rfl,fun _ _=>rfl⟩
theorem oT {a:Addr} {Q:Option Obj->Shared->Prop} (h:Q (s.heap.get? a) s):wpAny (model prog w) A (loadIfAlive a) Q E s:=fun _ _ _=>h
theorem gL {z TI TO:Addr} {f0 f1:Value} {Q:Value->Shared->Prop} (hz:bV s.heap z TI TO f0 f1) (h:Q (.ref z) s):wpAny (model prog w) A (pyIter (.ref z)) Q E s:=by
 have hT:s.TypeIs (.ref z) "zip":=⟨_,hz,rfl⟩
 refine wpAny_pyIter_slot hT F.slot_zip_iter (wpAny_call_entry F.slot_zip_iter hT F.entry_zip_iter ?_ (F.args_zip_iter_1 _))
 show wpAny _ _ (ret (.ref z)) _ _ s
 exact wpAny_pure ⟨_,rfl, "zip",_,hT,F.slot_zip_next.lookup,h⟩
theorem j7 {z TI TO:Addr} {f0:Value} {b:Bool} {Q:Bool->Shared->Prop} (hf:f0 = .none\/∃ a:Addr,f0 = rawInt a) (hz:bV s.heap z TI TO f0 (.bool b)) (h1:Q true s)
  (h2:∀ h',bV h' z TI TO f0 (.bool true)->Heap.SameBut z s.heap h'->Q false { s with heap:=h' }):wpAny (model prog w) A (Builtin.SmallTypes.ownedTupleIsFree (.ref z)) Q E s:=by
 unfold Builtin.SmallTypes.ownedTupleIsFree
 refine wpAny_bind (wpAny_field hz rfl (x:=f0) rfl ?_)
 rcases hf with rfl | ⟨a,rfl⟩
 ·exact wpAny_pure h1
 ·show wpAny _ _ (loadIfAlive _ >>= _) _ _ s
  refine wpAny_bind (oT ?_)
  cases e:s.heap.get? (Int.toNat (a:Int)) with
  | none=>exact wpAny_pure h1
  | some o =>
   show wpAny _ _ (field (.ref z) 1 >>= _) _ _ s
   refine wpAny_bind (wpAny_field hz rfl (x:=.bool b) rfl ?_)
   cases b with
   | true=>exact wpAny_pure (h2 s.heap hz mq)
   | false=>exact wpAny_bind (wpAny_setField_rec hz (by simp) fun h' z' sb=>wpAny_pure (h2 h' z' sb))
theorem qW {z TI TO i1 i2 l1 l2:Addr} {k:Nat} {xs ys:Array Value} {x y a b f0:Value} {f1:Bool} {Q:Value->Shared->Prop} (D:ZipApart z TI TO i1 i2 l1 l2) (hf:f0 = .none\/∃ a:Addr,f0 = rawInt a)
  (hz:bV s.heap z TI TO f0 (.bool f1)) (hTI:IsPair s.heap TI (.ref i1) (.ref i2)) (hTO:IsPair s.heap TO a b) (h1:s.heap.IsTupleIter i1 l1 k) (h2:s.heap.IsListIter i2 l2 k) (t1:s.heap.IsTuple l1 xs) (t2:s.heap.IsList l2 ys) (hx:xs[k]? = some x) (hy:ys[k]? = some y)
  (hQ:∀ h' g0 g1,(g0 = .none\/∃ a:Addr,g0 = rawInt a)->bV h' z TI TO g0 (.bool g1)->(∃ u v,IsPair h' TO u v)->h'.IsTupleIter i1 l1 (k + 1)->h'.IsListIter i2 l2 (k + 1)->IsPair h' s.heap.objs.size x y->h'.objs.size = s.heap.objs.size + 1 ->
   (∀ c o,c ≠ z->c ≠ TO->c ≠ i1->c ≠ i2->s.heap.get? c = some o->h'.get? c = some o)->Q (.ref s.heap.objs.size) { s with heap:=h' }) :
  wpAny (model prog w) A (Builtin.«zip.__next__» ⟨[.ref z],[]⟩) (fun fin s'=>∃ v,fin = .done (.ret v)/\Q v s') E s:=by
 show wpAny _ _ (field (.ref z) 2 >>= _) _ _ _
 refine wpAny_bind (wpAny_field hz rfl (x:=.bool false) rfl ?_)
 show wpAny _ _ (field (.ref z) 3 >>= _) _ _ _
 refine wpAny_bind (wpAny_field hz rfl (x:=.ref TI) rfl (wpAny_bind (wpAny_seqItems hTI rfl ?_)))
 show wpAny _ _ (Builtin.SmallTypes.ownedTupleIsFree (.ref z) >>= _) _ _ _
 refine wpAny_bind (j7 hf hz ?_ fun g0 z0 b0=>?_)
 ·simp only [if_true]
  refine wpAny_bind (wpAny_rule (wpAny_bind (wpAny_field hz rfl (x:=.ref TO) rfl (wpAny_bind (wpAny_setField_rec hz (by simp) fun g1 z1 b1=>?_)))))
  replace z1:bV g1 z TI TO .ellipsis (.bool f1):=z1
  refine wpAny_bind ?_
  simp only [List.zipIdx_cons,List.zipIdx_nil,List.forIn_cons,List.forIn_nil]
  have k1:=b1.extBut
  refine wpAny_bind (wpAny_bind (wpAny_onRaise ?_))
  show wpAny _ _ (Builtin.SmallTypes.nextOf (.ref i1) >>= _) _ _ _
  refine wpAny_bind (j9 (h1.extBut k1 D.i1z) (t1.extBut k1 D.l1z) hx fun g2 u2 b2=>wpAny_pure ?_)
  have k2:=b2.extBut
  have o2:IsPair g2 TO a b:=k2 _ _ D.TOi1 (k1 _ _ D.TOz hTO)
  refine wpAny_bind (wpAny_seqItems o2 rfl (wpAny_bind (wpAny_updateSeq_pair o2 fun g3 o3 b3=>wpAny_bind (wpAny_letGo (wpAny_pure ?_)))))
  replace o3:IsPair g3 TO x b:=o3
  have k3:=b3.extBut
  refine wpAny_bind (wpAny_bind (wpAny_onRaise ?_))
  show wpAny _ _ (Builtin.SmallTypes.nextOf (.ref i2) >>= _) _ _ _
  refine wpAny_bind (wpAny_nextOf_list_item (((h2.extBut k1 D.i2z).extBut k2 D.i12.symm).extBut k3 D.TOi2.symm) (((t2.extBut k1 D.l2z).extBut k2 D.l2i1).extBut k3 D.l2TO) hy fun g4 u4 b4=>wpAny_pure ?_)
  have k4:=b4.extBut
  have o4:IsPair g4 TO x b:=k4 _ _ D.TOi2 o3
  refine wpAny_bind (wpAny_seqItems o4 rfl (wpAny_bind (wpAny_updateSeq_pair o4 fun g5 o5 b5=>wpAny_bind (wpAny_letGo (wpAny_pure (wpAny_pure ?_))))))
  replace o5:IsPair g5 TO x y:=o5
  have k5:=b5.extBut
  refine wpAny_bind (wpAny_seqItems o5 rfl (wpAny_bind (wpAny_newTuple ?_)))
  have sz:g5.objs.size = s.heap.objs.size:=by rw [b5.1,b4.1,b3.1,b2.1,b1.1]
  have z5:bV g5 z TI TO .ellipsis (.bool f1):=k5 _ _ D.TOz.symm (k4 _ _ D.i2z.symm (k3 _ _ D.TOz.symm (k2 _ _ D.i1z.symm z1)))
  have all5:∀ c o,c ≠ z->c ≠ TO->c ≠ i1->c ≠ i2->s.heap.get? c = some o->g5.get? c = some o:=fun c o c1 c2 c3 c4 e=>k5 _ _ c2 (k4 _ _ c4 (k3 _ _ c2 (k2 _ _ c3 (k1 _ _ c1 e))))
  have v1:g5.IsTupleIter i1 l1 (k + 1):=((u2.extBut k3 D.TOi1.symm).extBut k4 D.i12).extBut k5 D.TOi1.symm
  have v2:g5.IsListIter i2 l2 (k + 1):=u4.extBut k5 D.TOi2.symm
  have zl:z < g5.objs.size:=Heap.lt_size z5
  show wpAny _ _ (Builtin.SmallTypes.ownedTupleHandOut (.ref z) (.ref g5.objs.size) >>= _) _ _ _
  refine wpAny_bind ?_
  unfold Builtin.SmallTypes.ownedTupleHandOut
  have z6:bV (g5.push { cls:=.type "tuple",data:=.seq #[x,y] }) z TI TO .ellipsis (.bool f1):=Heap.get?_push_of_some _ z5
  refine wpAny_bind (wpAny_setField_rec z6 (by simp) fun g7 z7 b7=>?_)
  replace z7:bV g7 z TI TO (rawInt g5.objs.size) (.bool f1):=z7
  refine wpAny_setField_rec z7 (by simp) fun g8 z8 b8=>?_
  replace z8:bV g8 z TI TO (rawInt g5.objs.size) (.bool false):=z8
  have up:∀ c o,c ≠ z->(g5.push { cls:=.type "tuple",data:=.seq #[x,y] }).get? c = some o->g8.get? c = some o:=fun c o c1 e=>b8.extBut _ _ c1 (b7.extBut _ _ c1 e)
  have p8:IsPair g8 g5.objs.size x y:=up _ _ (Nat.ne_of_gt zl) (Heap.get?_push_size _ rfl)
  have s8:g8.objs.size = g5.objs.size + 1:=by rw [b8.1,b7.1,Heap.size_push]
  rw [sz] at z8 p8 s8
  refine wpAny_pure ⟨_,rfl,?_⟩
  show Q (.ref g5.objs.size) _
  rw [sz]
  exact hQ g8 _ _ (.inr ⟨_,rfl⟩) z8 ⟨_,_,up _ _ D.TOz (Heap.get?_push_of_some _ o5)⟩ (v1.at fun o e=>up _ o D.i1z (Heap.get?_push_of_some _ e)) (v2.at fun o e=>up _ o D.i2z (Heap.get?_push_of_some _ e)) p8 s8 fun c o c1 c2 c3 c4 e=>up c o c1 (Heap.get?_push_of_some _ (all5 c o c1 c2 c3 c4 e))
 ·simp only [Bool.false_eq_true,if_false]
  have k0:=b0.extBut
  refine wpAny_bind ?_
  simp only [List.forIn_toArray,List.forIn_cons,List.forIn_nil]
  refine wpAny_bind (wpAny_bind (wpAny_holding ?_))
  show wpAny _ _ (Builtin.SmallTypes.nextOf (.ref i1) >>= _) _ _ _
  refine wpAny_bind (j9 (h1.extBut k0 D.i1z) (t1.extBut k0 D.l1z) hx fun g2 u2 b2=>wpAny_pure (wpAny_pure ?_))
  have k2:=b2.extBut
  refine wpAny_bind (wpAny_bind (wpAny_holding ?_))
  show wpAny _ _ (Builtin.SmallTypes.nextOf (.ref i2) >>= _) _ _ _
  refine wpAny_bind (wpAny_nextOf_list_item ((h2.extBut k0 D.i2z).extBut k2 D.i12.symm) ((t2.extBut k0 D.l2z).extBut k2 D.l2i1) hy fun g4 u4 b4=>wpAny_pure (wpAny_pure (wpAny_pure ?_)))
  have k4:=b4.extBut
  have sz:g4.objs.size = s.heap.objs.size:=by rw [b4.1,b2.1,b0.1]
  refine wpAny_bind (wpAny_newTuple (hsz:=by show 2<=sizeLine; decide) ?_)
  refine wpAny_pure ⟨_,rfl,?_⟩
  have up:∀ c o,g4.get? c = some o->(g4.push { cls:=.type "tuple",data:=.seq #[x,y] }).get? c = some o:=fun c o e=>Heap.get?_push_of_some _ e
  have p8:IsPair (g4.push { cls:=.type "tuple",data:=.seq #[x,y] }) g4.objs.size x y:=Heap.get?_push_size _ rfl
  show Q (.ref g4.objs.size) _
  rw [sz] at p8 ⊢
  exact hQ _ _ _ hf (up _ _ (k4 _ _ D.i2z.symm (k2 _ _ D.i1z.symm z0))) ⟨_,_,up _ _ (k4 _ _ D.TOi2 (k2 _ _ D.TOi1 (k0 _ _ D.TOz hTO)))⟩ ((u2.extBut k4 D.i12).at fun o e=>up _ o e) (u4.at fun o e=>up _ o e) p8 (by rw [Heap.size_push,sz])
   fun c o c1 c2 c3 c4 e=>up c o (k4 _ _ c4 (k2 _ _ c3 (k0 _ _ c1 e)))
theorem zipN_end {z TI TO i1 i2 l1 l2:Addr} {k:Nat} {xs:Array Value} {a b f0:Value} {f1:Bool} {Q:PySem.Fin->Shared->Prop} (hh:A.handled = none) (D:ZipApart z TI TO i1 i2 l1 l2) (hf:f0 = .none\/∃ a:Addr,f0 = rawInt a)
  (hz:bV s.heap z TI TO f0 (.bool f1)) (hTI:IsPair s.heap TI (.ref i1) (.ref i2)) (hTO:IsPair s.heap TO a b) (h1:s.heap.IsTupleIter i1 l1 k) (t1:s.heap.IsTuple l1 xs) (hx:xs[k]? = none)
  (hE:∀ h' e,(∀ c o,c ≠ z->c ≠ TO->c ≠ i1->c ≠ i2->s.heap.get? c = some o->h'.get? c = some o)->(∃ o,h'.get? e = some o/\o.cls = .type "StopIteration")->E (.ref e) { s with heap:=h' }) :
  wpAny (model prog w) A (Builtin.«zip.__next__» ⟨[.ref z],[]⟩) Q E s:=by
 show wpAny _ _ (field (.ref z) 2 >>= _) _ _ _
 refine wpAny_bind (wpAny_field hz rfl (x:=.bool false) rfl ?_)
 show wpAny _ _ (field (.ref z) 3 >>= _) _ _ _
 refine wpAny_bind (wpAny_field hz rfl (x:=.ref TI) rfl (wpAny_bind (wpAny_seqItems hTI rfl ?_)))
 show wpAny _ _ (Builtin.SmallTypes.ownedTupleIsFree (.ref z) >>= _) _ _ _
 refine wpAny_bind (j7 hf hz ?_ fun g0 z0 b0=>?_)
 ·simp only [if_true]
  refine wpAny_bind (wpAny_rule (wpAny_bind (wpAny_field hz rfl (x:=.ref TO) rfl (wpAny_bind (wpAny_setField_rec hz (by simp) fun g1 z1 b1=>?_)))))
  replace z1:bV g1 z TI TO .ellipsis (.bool f1):=z1
  refine wpAny_bind ?_
  simp only [List.zipIdx_cons,List.zipIdx_nil,List.forIn_cons,List.forIn_nil]
  refine wpAny_bind (wpAny_bind (wpAny_onRaise ?_))
  show wpAny _ _ (Builtin.SmallTypes.nextOf (.ref i1) >>= _) _ _ _
  refine wpAny_bind (gz hh (h1.extBut b1.extBut D.i1z) (t1.extBut b1.extBut D.l1z) hx fun g2 e k2 he=>?_)
  obtain ⟨oe,hoe,hce⟩:=he
  have z2:bV g2 z TI TO .ellipsis (.bool f1):=k2 _ _ D.i1z.symm z1
  have ez:e ≠ z:=fun q=>by subst q; rw [z2] at hoe; cases hoe; simp at hce
  exact wpAny_setField_rec z2 (by simp) fun g3 _ b3=>hE g3 e (fun c o c1 _ c3 _ q=>b3.extBut _ _ c1 (k2 _ _ c3 (b1.extBut _ _ c1 q))) ⟨oe,b3.extBut _ _ ez hoe,hce⟩
 ·simp only [Bool.false_eq_true,if_false]
  refine wpAny_bind ?_
  simp only [List.forIn_toArray,List.forIn_cons,List.forIn_nil]
  refine wpAny_bind (wpAny_bind (wpAny_holding ?_))
  show wpAny _ _ (Builtin.SmallTypes.nextOf (.ref i1) >>= _) _ _ _
  refine wpAny_bind (gz hh (h1.extBut b0.extBut D.i1z) (t1.extBut b0.extBut D.l1z) hx fun g2 e k2 he=>?_)
  exact hE g2 e (fun c o c1 _ c3 _ q=>k2 _ _ c3 (b0.extBut _ _ c1 q)) he
theorem nj {z TI TO i1 i2 l1 l2:Addr} {k:Nat} {xs ys:Array Value} {x y a b f0:Value} {f1:Bool} {Q:Option Value->Shared->Prop} (D:ZipApart z TI TO i1 i2 l1 l2) (hf:f0 = .none\/∃ a:Addr,f0 = rawInt a)
  (hz:bV s.heap z TI TO f0 (.bool f1)) (hTI:IsPair s.heap TI (.ref i1) (.ref i2)) (hTO:IsPair s.heap TO a b) (h1:s.heap.IsTupleIter i1 l1 k) (h2:s.heap.IsListIter i2 l2 k) (t1:s.heap.IsTuple l1 xs) (t2:s.heap.IsList l2 ys) (hx:xs[k]? = some x) (hy:ys[k]? = some y)
  (hQ:∀ h' g0 g1,(g0 = .none\/∃ a:Addr,g0 = rawInt a)->bV h' z TI TO g0 (.bool g1)->(∃ u v,IsPair h' TO u v)->h'.IsTupleIter i1 l1 (k + 1)->h'.IsListIter i2 l2 (k + 1)->IsPair h' s.heap.objs.size x y->h'.objs.size = s.heap.objs.size + 1 ->
   (∀ c o,c ≠ z->c ≠ TO->c ≠ i1->c ≠ i2->s.heap.get? c = some o->h'.get? c = some o)->Q (some (.ref s.heap.objs.size)) { s with heap:=h' }):wpAny (model prog w) A (pyNext (.ref z)) Q E s:=by
 have ty:s.TypeIs (.ref z) "zip":=⟨_,hz,rfl⟩
 unfold pyNext
 exact wpAny_bind (wpAny_attempt (wpAny_callSpecial?_slot (name:=Str.ofString "__next__") ty F.slot_zip_next (wpAny_call_entry F.slot_zip_next ty F.entry_zip_next
  (qW D hf hz hTI hTO h1 h2 t1 t2 hx hy fun h' g0 g1 q0 q1 q2 q3 q4 q5 q6 q7=>wpAny_pure (hQ h' g0 g1 q0 q1 q2 q3 q4 q5 q6 q7)) (F.args_zip_next_1 _))))
theorem jc {z TI TO i1 i2 l1 l2:Addr} {k:Nat} {xs:Array Value} {a b f0:Value} {f1:Bool} {Q:Option Value->Shared->Prop} (hh:A.handled = none) (D:ZipApart z TI TO i1 i2 l1 l2) (hf:f0 = .none\/∃ a:Addr,f0 = rawInt a)
  (hz:bV s.heap z TI TO f0 (.bool f1)) (hTI:IsPair s.heap TI (.ref i1) (.ref i2)) (hTO:IsPair s.heap TO a b) (h1:s.heap.IsTupleIter i1 l1 k) (t1:s.heap.IsTuple l1 xs) (hx:xs[k]? = none)
  (hQ:∀ h',(∀ c o,c ≠ z->c ≠ TO->c ≠ i1->c ≠ i2->s.heap.get? c = some o->h'.get? c = some o)->Q none { s with heap:=h' }):wpAny (model prog w) A (pyNext (.ref z)) Q E s:=by
 have ty:s.TypeIs (.ref z) "zip":=⟨_,hz,rfl⟩
 unfold pyNext
 refine wpAny_bind (wpAny_attempt (wpAny_callSpecial?_slot (name:=Str.ofString "__next__") ty F.slot_zip_next (wpAny_call_entry F.slot_zip_next ty F.entry_zip_next
  (zipN_end hh D hf hz hTI hTO h1 t1 hx fun h' e hk he=>?_) (F.args_zip_next_1 _))))
 obtain ⟨o,ho,hc⟩:=he
 exact wpAny_bind (wpAny_isInstance (T:="StopIteration") (b:=true) ⟨o,ho,hc⟩ isSubtype_stop (wpAny_pure (hQ _ hk)))
abbrev zN (h:Heap) (l1 l2:Addr):Heap :=
 ((((h.push { cls:=.type "tuple_iterator",data:=.fields #[.ref l1,.int 0 0] }).push { cls:=.type "list_iterator",data:=.fields #[.ref l2,.int 0 0] }).push { cls:=.type "tuple",data:=.seq #[.ref h.objs.size,.ref (h.objs.size + 1)] }).push { cls:=.type "tuple",data:=.seq #[.none,.none] }).push { cls:=.type "zip",data:=.fields #[.none,.bool false,.bool false,.ref (h.objs.size + 2),.ref (h.objs.size + 3)] }
theorem qy (l1 l2:Addr) (xs ys:Array Value) :
  Meets (Builtin.«zip.__new__» ⟨[.type "zip",.ref l1,.ref l2],[]⟩) (fun _ R s=>s.heap.IsTuple l1 xs/\s.heap.IsList l2 ys/\R (.ok (.ret (.ref (s.heap.objs.size + 4)))) { s with heap:=zN s.heap l1 l2 }) :=
 .of_wp fun prog w A R s h=>by
  obtain ⟨hp,g,d,tk,os⟩:=s; obtain ⟨hl1,hl2,h⟩:=h
  have hsub:=PySem.sub_zip
  have hL1:Heap.IsTuple (Shared.heap ⟨hp,g,d,tk,os⟩) l1 xs:=hl1
  have hL2:Heap.IsList (Shared.heap ⟨hp.push { cls:=.type "tuple_iterator",data:=.fields #[.ref l1,.int 0 0] },g,d,tk,os⟩) l2 ys:=Heap.IsList.push hl2 _
  wp_walk using wpAny_pyIter_tuple hL1,wpAny_pyIter_list hL2
  simp only [Heap.size_push] at h ⊢
  exact ⟨_,rfl,h⟩
theorem o0 (h:Heap) (a b:Addr):bV (zN h a b) (h.objs.size + 4) (h.objs.size + 2) (h.objs.size + 3) .none (.bool false)/\IsPair (zN h a b) (h.objs.size + 2) (.ref h.objs.size) (.ref (h.objs.size + 1))/\IsPair (zN h a b) (h.objs.size + 3) .none .none /\
  (zN h a b).IsTupleIter h.objs.size a 0/\(zN h a b).IsListIter (h.objs.size + 1) b 0/\∀ c o,h.get? c = some o->(zN h a b).get? c = some o:=by
 have at':∀ (g:Heap) (o:Obj) (n:Nat),g.objs.size = n->o.isFreed = false->(g.push o).get? n = some o:=fun g o n e f=>by subst e; exact Heap.get?_push_size _ f
 have up:∀ (g:Heap) (o o':Obj) (c:Addr),g.get? c = some o'->(g.push o).get? c = some o':=fun g o o' c e=>Heap.get?_push_of_some _ e
 refine ⟨at' _ _ _ (by simp only [Heap.size_push]) rfl,up _ _ _ _ (up _ _ _ _ (at' _ _ _ (by simp only [Heap.size_push]) rfl)),up _ _ _ _ (at' _ _ _ (by simp only [Heap.size_push]) rfl),
  ⟨_,up _ _ _ _ (up _ _ _ _ (up _ _ _ _ (up _ _ _ _ (at' _ _ _ rfl rfl)))),rfl,rfl⟩,⟨_,up _ _ _ _ (up _ _ _ _ (up _ _ _ _ (at' _ _ _ (by simp only [Heap.size_push]) rfl))),rfl,rfl⟩,fun c o e=>up _ _ _ _ (up _ _ _ _ (up _ _ _ _ (up _ _ _ _ (up _ _ _ _ e))))⟩
theorem qE {l1 l2:Addr} {xs ys:Array Value} {Q:Value->Shared->Prop} (t1:s.heap.IsTuple l1 xs) (t2:s.heap.IsList l2 ys) (h:Q (.ref (s.heap.objs.size + 4)) { s with heap:=zN s.heap l1 l2 }) :
  wpAny (model prog w) A (call (.type "zip") [.ref l1,.ref l2]) Q E s:=by
 refine callType_new F.called_zip (by decide) (F.typeCall_zip_2 _ _) (F.newCall_zip_2 _ _) (fun obj=>F.args_object_init_3 obj _ _) F.entry_zip_new (qy l1 l2 xs ys) ⟨t1,t2,?_⟩
 exact ⟨⟨_,(o0 s.heap l1 l2).1,rfl⟩,h⟩
end
section
variable {X:Cx}
def ItzN (K:Frag) (a b:Addr):It :=
 ⟨fun i H=>∃ xs ys x y,SqT K H a xs/\SqL K H b ys/\xs[i]? = some x/\ys[i]? = some y,
  fun i H v H'=>∀ xs ys x y,SqT K H a xs->SqL K H b ys->xs[i]? = some x->ys[i]? = some y->∃ T,v = .ref T/\H T = none/\H' = upd H T (.tup [x,y]),
  fun i H=>∃ xs,SqT K H a xs/\xs.length<=i⟩
theorem rE {P:Program} {w:World} {K:Frag} {nm:Str} {tp:Pos} {z TI TO i1 i2 a b:Addr} (D:ZipApart z TI TO i1 i2 a b) :
  Turn P w K (.Name nm tp) (ItzN K a b) [z,TO,i1,i2,TI] z (fun i h=>(∃ f0 f1,(f0 = .none\/∃ a:Addr,f0 = rawInt a)/\bV h z TI TO f0 (.bool f1))/\IsPair h TI (.ref i1) (.ref i2)/\(∃ u v,IsPair h TO u v)/\h.IsTupleIter i1 a i/\h.IsListIter i2 b i) where
 mem:=by simp
 obj:=fun i h st c hc=>by
  obtain ⟨⟨f0,f1,_,q1⟩,q2,⟨u,v,q3⟩,⟨o1,e1,_,d1⟩,⟨o2,e2,_,d2⟩⟩:=st
  simp only [List.mem_cons,List.not_mem_nil,or_false] at hc
  rcases hc with rfl | rfl | rfl | rfl | rfl
  ·exact ⟨_,q1,fun v z=>by cases z⟩
  ·exact ⟨_,q3,fun v z=>by cases z⟩
  ·exact ⟨_,e1,fun v z=>by rw [d1] at z; cases z⟩
  ·exact ⟨_,e2,fun v z=>by rw [d2] at z; cases z⟩
  ·exact ⟨_,q2,fun v z=>by cases z⟩
 keep:=fun i h h' st k=>by
  obtain ⟨⟨f0,f1,hf,q1⟩,q2,⟨u,v,q3⟩,q4,q5⟩:=st
  exact ⟨⟨f0,f1,hf,k z (by simp) _ q1⟩,k TI (by simp) _ q2,⟨u,v,k TO (by simp) _ q3⟩,q4.at fun o e=>k i1 (by simp) o e,q5.at fun o e=>k i2 (by simp) o e⟩
 item:=by
  intro X hP hw hK hc i pins s σ H E I hf st hg
  subst hP hw hK
  obtain ⟨xs,ys,x,y,ha,hb,hx,hy⟩:=hg
  obtain ⟨⟨f0,f1,hf0,q1⟩,q2,⟨u,v,q3⟩,q4,q5⟩:=st
  obtain ⟨its,rv,p,_⟩:=I.tuple ha
  obtain ⟨jts,rw',p',_⟩:=I.list hb
  obtain ⟨ux,hux,rx⟩:=rv.get hx
  obtain ⟨uy,huy,ry⟩:=rw'.get hy
  refine nj D hf0 q1 q2 q3 q4 q5 (show s.heap.IsTuple a its.toArray from p) (show s.heap.IsList b jts.toArray from p'.isList) (x:=ux) (y:=uy) (by simpa using hux) (by simpa using huy) fun h' g0 g1 hg0 z1 o1 v1 v2 pr sz all=>?_
  refine ⟨_,rfl,wpAny_pure ?_⟩
  have zl:z < s.heap.objs.size:=Heap.lt_size q1
  have hT:H s.heap.objs.size = none:=I.hok.fresh (Nat.le_refl _)
  have kept:∀ c o,c ∉ [z,TO,i1,i2]->s.heap.get? c = some o->h'.get? c = some o:=fun c o n e=>by
   simp only [List.mem_cons,List.not_mem_nil,or_false,not_or] at n
   exact all c o n.1 n.2.1 n.2.2.1 n.2.2.2 e
  have sub:∀ c ∈ [z,TO,i1,i2],c ∈ [z,TO,i1,i2,TI]:=fun c h=>by
   simp only [List.mem_cons,List.not_mem_nil,or_false] at h ⊢
   rcases h with h | h | h | h <;> simp [h]
  have trk:∀ c u,H c = some u->c ∉ [z,TO,i1,i2]:=fun c u e n=>by
   have:=(hf c (sub c n)).1
   rw [e] at this; cases this
  refine ⟨.ref s.heap.objs.size,upd H s.heap.objs.size (.tup [x,y]),?_,rfl,fun xs' ys' x' y' ha' hb' hx' hy'=>?_,⟨⟨_,_,hg0,z1⟩,all _ _ D.TIz D.TITO D.TIi1 D.TIi2 q2,o1,v1,v2⟩,fun c hc=>?_⟩
  ·refine Inv.step (s:=s) (h':=h') (g':=s.gens) (d':=s.drawn) (t':=s.toks) (ch:=[z,TO,i1,i2]) I (fun c n=>let q:=hf c (sub c n); ⟨q.2.2.2.1,q.2.1,q.2.2.2.2.1,q.2.2.2.2.2⟩) (fun c o _ _ n e _=>kept c o n e) (fun c o _ _ n e _=>⟨o.slots,kept c o n e⟩)
    (fun c o _ e n=>by rw [ao (Nat.ne_of_lt (Heap.lt_size e))]; exact n) (fun c o n e=>⟨o,kept c o n e⟩) (fun c zs e=>by rw [ao (av e hT)]; exact e) (fun c o u e=>by rw [ao (av e hT)]; exact e) (fun c ps e=>⟨#[],by rw [ao (av e hT),e]; simp⟩) (fun m hm=>?_) (fun c u e=>?_) I.bare
   ·obtain ⟨o,es,ep,ho,r⟩:=hm
    refine ⟨o,es,ep,kept _ o (fun n=>?_) ho,r⟩
    exact (hf _ (sub _ n)).2.1 rfl
   ·by_cases q:c = s.heap.objs.size
    ·subst q
     rw [ae] at e; cases e
     exact ⟨by show 2<=sizeLine; decide,[ux,uy],.cons rx (.cons ry .nil),⟨_,pr,rfl,_,rfl⟩⟩
    ·rw [ao q] at e
     refine (I.hok c u e).stay (fun c' v hc' e'=>kept c' v ?_ e') (fun c' e'=>by rw [ao (av e' hT)]; exact e') fun c' zs e'=>by rw [ao (av e' hT)]; exact e'
     rcases hc' with z' | z'
     ·rw [z']; exact trk c u e
     ·exact trk c' _ z'
  ·rw [I.tuple_inj ha' ha] at hx'
   rw [I.list_inj hb' hb] at hy'
   rw [hx] at hx'; rw [hy] at hy'
   cases hx'; cases hy'
   exact ⟨_,rfl,hT,rfl⟩
  ·have q:=hf c hc
   have hl:c ≠ s.heap.objs.size:=by
    simp only [List.mem_cons,List.not_mem_nil,or_false] at hc
    obtain ⟨_,e4,_⟩:=q4
    obtain ⟨_,e5,_⟩:=q5
    rcases hc with rfl | rfl | rfl | rfl | rfl
    ·exact Nat.ne_of_lt zl
    ·exact Nat.ne_of_lt (Heap.lt_size q3)
    ·exact Nat.ne_of_lt (Heap.lt_size e4)
    ·exact Nat.ne_of_lt (Heap.lt_size e5)
    ·exact Nat.ne_of_lt (Heap.lt_size q2)
   rw [ao hl]
   exact q.1
 done:=by
  intro X hP hw hK hc i pins s σ H E I hf st hg
  subst hP hw hK
  obtain ⟨xs,ha,hx⟩:=hg
  obtain ⟨⟨f0,f1,hf0,q1⟩,q2,⟨u,v,q3⟩,q4,q5⟩:=st
  obtain ⟨its,rv,p,_⟩:=I.tuple ha
  have hl:=rv.length
  have sub:∀ c ∈ [z,TO,i1,i2],c ∈ [z,TO,i1,i2,TI]:=fun c h=>by
   simp only [List.mem_cons,List.not_mem_nil,or_false] at h ⊢
   rcases h with h | h | h | h <;> simp [h]
  refine jc (I.ok.hd hc) D hf0 q1 q2 q3 q4 (show s.heap.IsTuple a its.toArray from p) (by simp; omega) fun h' all=>⟨rfl,?_⟩
  have kept:∀ c o,c ∉ [z,TO,i1,i2]->s.heap.get? c = some o->h'.get? c = some o:=fun c o n e=>by
   simp only [List.mem_cons,List.not_mem_nil,or_false,not_or] at n
   exact all c o n.1 n.2.1 n.2.2.1 n.2.2.2 e
  have trk:∀ c u,H c = some u->c ∉ [z,TO,i1,i2]:=fun c u e n=>by
   have:=(hf c (sub c n)).1
   rw [e] at this; cases this
  refine Inv.step (s:=s) (h':=h') (g':=s.gens) (d':=s.drawn) (t':=s.toks) (ch:=[z,TO,i1,i2]) I (fun c n=>let q:=hf c (sub c n); ⟨q.2.2.2.1,q.2.1,q.2.2.2.2.1,q.2.2.2.2.2⟩) (fun c o _ _ n e _=>kept c o n e) (fun c o _ _ n e _=>⟨o.slots,kept c o n e⟩)
    (fun c o _ e n=>n) (fun c o n e=>⟨o,kept c o n e⟩) (fun c zs e=>e) (fun c o u e=>e) (fun c ps e=>⟨#[],by rw [e]; simp⟩) (fun m hm=>?_) (fun c u e=>?_) I.bare
  ·obtain ⟨o,es,ep,ho,r⟩:=hm
   exact ⟨o,es,ep,kept _ o (fun n=>(hf _ (sub _ n)).2.1 rfl) ho,r⟩
  ·refine (I.hok c u e).stay (fun c' v hc' e'=>kept c' v ?_ e') (fun c' e'=>e') fun c' zs e'=>e'
   rcases hc' with z' | z'
   ·rw [z']; exact trk c u e
   ·exact trk c' _ z'
 self:=fun _ _ _ _ _ st h=>by
  obtain ⟨⟨f0,f1,_,q1⟩,_⟩:=st
  exact gL q1 h
def iZipN (K:Frag) (ta:TA):TI:=fun σ H R=>ta σ H fun vs H1=>∃ a b xs ys,vs = [.ref a,.ref b]/\SqT K H1 a xs/\SqL K H1 b ys/\R (ItzN K a b) H1
theorem pi_zipN {e1 e2:Expr} {ta:TA} {p pos:Pos} {nm:Str} {tp:Pos} (hg:Gl X "zip") (hm:X.mg "zip" = none) (ha:PA X [e1,e2] ta) (hs:starEach [e1,e2] X.env = (false,eval e1 X.env) :: starEach [e2] X.env:=by rfl) (hpl:(backTo pos (starEach [e2] X.env)).any (·.1) = false:=by rfl) :
  PI X (.Name nm tp) (.Call (.Name "zip" p) [e1,e2] [] pos) (iZipN X.K ta):=by
 intro pins s σ H R I h
 refine Call_ (ka I hg hm PyProof.Rows.boot_zip (PyProof.Rows.callWith_type1 (thn (ha pos pins s σ H _ I h) fun us s1 ⟨vs,H1,I1,r1,q1⟩=>?_) hs hpl))
 obtain ⟨a,b,xs,ys,e,hqa,hqb,q⟩:=q1
 subst e
 cases r1 with
 | cons r rr =>
  cases rr with
  | cons r' rr' =>
   cases rr'
   cases r
   cases r'
   obtain ⟨its,rv,pl,_⟩:=I1.tuple hqa
   obtain ⟨jts,rw',pl',_⟩:=I1.list hqb
   refine qE (show s1.heap.IsTuple a its.toArray from pl) (show s1.heap.IsList b jts.toArray from pl'.isList) ?_
   obtain ⟨z1,z2,z3,z4,z5,z6⟩:=o0 s1.heap a b
   have I2:Inv X pins σ H1 { s1 with heap:=zN s1.heap a b }:=I1.kept (t':=s1.toks) z6
   have la:a < s1.heap.objs.size:=by obtain ⟨o,e,_⟩:=pl; exact Heap.lt_size e
   have lb:b < s1.heap.objs.size:=by obtain ⟨o,e,_⟩:=pl'.isList; exact Heap.lt_size e
   refine wpAny_pyIter_zip z1 ?_
   refine ⟨s1.heap.objs.size + 4,[s1.heap.objs.size + 4,s1.heap.objs.size + 3,s1.heap.objs.size,s1.heap.objs.size + 1,s1.heap.objs.size + 2],_,_,H1,rfl,I2,rE (zipApart_new la lb),⟨⟨_,_,.inl rfl,z1⟩,z2,⟨_,_,z3⟩,z4,z5⟩,fun c hc=>?_,q⟩
   have le:s1.heap.objs.size<=c:=by
    simp only [List.mem_cons,List.not_mem_nil,or_false] at hc
    rcases hc with h | h | h | h | h <;> rw [h]
    ·exact Nat.le_add_right _ _
    ·exact Nat.le_add_right _ _
    ·exact Nat.le_refl _
    ·exact Nat.le_add_right _ _
    ·exact Nat.le_add_right _ _
   exact I1.fpOk le (I1.hok.fresh le)
end
end L2
namespace Ow
open PySem PySem.Spec PyProof.Rows L2
section
variable {X:Cx} {elt iter cc:Expr} {x y:Str} {px py pos tp:Pos} {kk:Nat} {scope:Scope} {wi:TI} {tc:TT} {te:TE} {N:List Str} {cl:List (Str × Addr)} {cap:L2.St->L2.St}
end
section
variable {X:Cx} {elt iter cc:Expr} {x y0:Str} {px py pos tp:Pos} {kk:Nat} {scope:Scope} {wi:TI} {tc:TT} {te:TE} {cl:List (Str × Addr)}
end
theorem sD {K:Frag} {a b D:Addr} {xs ys:List V} {te':TE} {tl:L2.St} {G:Hp->Prop} {H1:Hp} (Pv:Nat->Hp->Prop) (h0:Pv 0 (upd H1 D (.lst []))) (hl:∀ i H,i<=xs.length->Pv i H->SqT K H a xs/\SqL K H b ys) (hle:xs.length = ys.length)
  (hs:∀ i x y H,xs[i]? = some x->ys[i]? = some y->Pv i H->∀ T,H T = none->te' (some (.ref T) :: tl) (upd H T (.tup [x,y])) fun z H2=>∃ zs,H2 D = some (.lst zs)/\zs.length < sizeLine/\∃ m',m' < xs.length - i/\(m' = xs.length - (i + 1)/\i + 1<=xs.length/\Pv (i + 1) (upd H2 D (.lst (zs ++ [z])))))
  (hd:∀ H,Pv xs.length H->G H) :
  ∃ W:Nat->Nat->Hp->Prop,(∃ m,W 0 m (upd H1 D (.lst [])))/\∀ i m H,W i m H ->
   ((ItzN K a b).stop i H/\G H)\/((ItzN K a b).go i H/\∀ x H',(ItzN K a b).yld i H x H'->te' (some x :: tl) H' fun y H2=>∃ ys,H2 D = some (.lst ys)/\ys.length < sizeLine/\∃ m',m' < m/\W (i + 1) m' (upd H2 D (.lst (ys ++ [y])))):=by
 refine ⟨fun i m H=>m = xs.length - i/\i<=xs.length/\Pv i H,⟨xs.length,by simp,Nat.zero_le _,h0⟩,?_⟩
 rintro i m H ⟨rfl,hi,p⟩
 have q:=hl i H hi p
 by_cases hlt:i < xs.length
 ·have ex:xs[i]? = some xs[i]:=List.getElem?_eq_getElem hlt
  have ey:ys[i]? = some (ys[i]'(by omega)):=List.getElem?_eq_getElem (by omega)
  refine .inr ⟨⟨xs,ys,_,_,q.1,q.2,ex,ey⟩,fun x H' y=>?_⟩
  obtain ⟨T,rfl,hT,rfl⟩:=y xs ys _ _ q.1 q.2 ex ey
  exact hs i _ _ H ex ey p T hT
 ·have e:i = xs.length:=by omega
  subst e
  exact .inl ⟨⟨xs,q.1,Nat.le_refl _⟩,hd H p⟩
def tGD2 (a:Addr) (vs:List (Key × Value)) (tO ti tf:TE):TE:=fun σ H Q=>tO σ H fun x H1=>x = .ref a/\ti σ H1 fun y H2=>tf σ H2 fun _ H3=>∃ k b,y = .str k/\valueAt vs (.inr k) = some (.ref b)/\Q (.ref b) H3
theorem rJ {X:Cx} {a:Addr} {vs:List (Key × Value)} {o i f:Expr} {tO ti tf:TE} {apos cpos:Pos} (g:GD X.K X.prog X.w a vs) (nd:(a == sysModules) = false) (ho:PE X o tO) (hi:PE X i ti) (hf:PE X f tf) (m:M2 X o "get" apos i f cpos) :
  PE X (.Call (.Attribute o "get" apos) [i,f] [] cpos) (tGD2 a vs tO ti tf):=by
 intro pins s σ H Q I h
 refine wpAny_Call_method m.base m.few m.line PySem.F.plainAttrs_dict PySem.F.slot_dict_get PySem.F.type_dict_get (thn (ho pins s σ H _ I h) fun u s1 ⟨x,H1,I1,rx,ex,q1⟩=>?_)
 subst ex
 obtain rfl:u = Value.ref a:=rx
 obtain ⟨oo,es,ep,lk,xd,dt,ko,pr,nd'⟩:=g.ex
 have dd1:s1.heap.DictOf (aL X.prog X.w) a vs:=⟨oo,es,ep,I1.kIn _ _ lk,xd,dt,ko,pr,nd'⟩
 refine ⟨dd1.typeIs,fun b q=>?_,?_⟩
 ·cases q
  exact ⟨oo,I1.kIn _ _ lk,xd.2.1⟩
 rw [m.trees]
 refine Calls.callWith_builtin rfl (Calls.evalArgs_plain (Calls.spliced_cons (thn (hi pins s1 σ H1 _ I1 q1) fun iv s2 ⟨y,H2,I2,ry,q2⟩ =>
  Calls.spliced_cons (thn (hf pins s2 σ H2 _ I2 q2) fun fv s3 ⟨z,H3,I3,rz,k,b,ey,hv,q3⟩=>Calls.spliced_nil ?_))))
 subst ey
 have dd:s3.heap.DictOf (aL X.prog X.w) a vs:=⟨oo,es,ep,I3.kIn _ _ lk,xd,dt,ko,pr,nd'⟩
 refine call_meetsIn PySem.F.slot_dict_get dd.typeIs PySem.F.entry_dict_get (PySem.F.args_dict_get_3 _ _ _) (meets_dict_get_default (aL X.prog X.w) a (nc (k:=.inr k) ry) nd fv) ⟨_,dd.mapOf,?_⟩
 refine ⟨.ref b,H3,I3.tok _,?_,q3⟩
 show RelV _ ((valueAt vs (.inr k)).getD fv)
 rw [hv]
 rfl
end Ow
namespace Ow
open PySem PySem.Spec PyProof.Rows L2
end Ow
namespace L2
open PySem PySem.Spec PyProof.Rows
end L2
namespace Ow
open PySem PySem.Spec PyProof.Rows L2
open Builtin.Int (intBits)
def top (i:Nat):Stmt:=PySem.Challenge.pw_overwise_k76_whole_division_by_rows.main.body.getD i (.Pass ⟨0,0,0,0⟩)
abbrev gM:Stmt:=top 9
theorem nK:FnScope ["thing"] ["thing"] (aj gM):=⟨rfl,rfl,rfl,by decide +kernel,rfl,by decide +kernel,by decide +kernel⟩
abbrev eQ:Stmt:=top 10
theorem kT:FnScope ["thing","low","high"] ["thing","low","high"] (aj eQ):=⟨rfl,rfl,rfl,by decide +kernel,rfl,by decide +kernel,by decide +kernel⟩
abbrev fe:Stmt:=top 11
theorem kX:FnScope ["width"] ["width"] (aj fe):=⟨rfl,rfl,rfl,by decide +kernel,rfl,by decide +kernel,by decide +kernel⟩
abbrev jw:Stmt:=top 12
theorem qc:FnScope ["width","thing"] ["width","thing"] (aj jw):=⟨rfl,rfl,rfl,by decide +kernel,rfl,by decide +kernel,by decide +kernel⟩
abbrev kY:Stmt:=top 13
theorem sc_sum_of:FnScope ["width","a","b","total"] ["width","a","b"] (aj kY):=⟨rfl,rfl,rfl,by decide +kernel,rfl,by decide +kernel,by decide +kernel⟩
abbrev lC:Stmt:=top 14
theorem rH:FnScope ["width","a","b"] ["width","a","b"] (aj lC):=⟨rfl,rfl,rfl,by decide +kernel,rfl,by decide +kernel,by decide +kernel⟩
abbrev dM:Stmt:=top 15
theorem jF:FnScope ["width","a","b"] ["width","a","b"] (aj dM):=⟨rfl,rfl,rfl,by decide +kernel,rfl,by decide +kernel,by decide +kernel⟩
abbrev dk:Stmt:=top 16
theorem jg:FnScope ["width","a","b"] ["width","a","b"] (aj dk):=⟨rfl,rfl,rfl,by decide +kernel,rfl,by decide +kernel,by decide +kernel⟩
abbrev qJ:Stmt:=top 17
theorem sc_left:FnScope ["width","a","k"] ["width","a","k"] (aj qJ):=⟨rfl,rfl,rfl,by decide +kernel,rfl,by decide +kernel,by decide +kernel⟩
abbrev oG:Stmt:=top 18
theorem sc_right:FnScope ["width","a","k"] ["width","a","k"] (aj oG):=⟨rfl,rfl,rfl,by decide +kernel,rfl,by decide +kernel,by decide +kernel⟩
abbrev nH:Stmt:=top 19
theorem sc_slide:FnScope ["width","a","k","count"] ["width","a","k"] (aj nH):=⟨rfl,rfl,rfl,by decide +kernel,rfl,by decide +kernel,by decide +kernel⟩
abbrev fE:Stmt:=top 22
theorem mU:FnScope [] [] (aj fE):=⟨rfl,rfl,rfl,by decide +kernel,rfl,by decide +kernel,by decide +kernel⟩
abbrev dP:Stmt:=top 28
theorem jK:FnScope ["thing"] ["thing"] (aj dP):=⟨rfl,rfl,rfl,by decide +kernel,rfl,by decide +kernel,by decide +kernel⟩
abbrev cT:Stmt:=top 29
theorem iw:FnScope ["things"] ["things"] (aj cT):=⟨rfl,rfl,rfl,by decide +kernel,rfl,by decide +kernel,by decide +kernel⟩
abbrev gN:Stmt:=ax (top 31) 1
theorem oz:FnScope ["self"] ["self"] (aj gN):=⟨rfl,rfl,rfl,by decide +kernel,rfl,by decide +kernel,by decide +kernel⟩
abbrev fU:Stmt:=ax (top 32) 1
theorem mz:FnScope ["self"] ["self"] (aj fU):=⟨rfl,rfl,rfl,by decide +kernel,rfl,by decide +kernel,by decide +kernel⟩
abbrev hZ:Stmt:=ax (top 34) 0
theorem n9:FnScope ["self"] ["self"] (aj hZ):=⟨rfl,rfl,rfl,by decide +kernel,rfl,by decide +kernel,by decide +kernel⟩
abbrev gH:Stmt:=ax (top 35) 0
theorem oP:FnScope ["self"] ["self"] (aj gH):=⟨rfl,rfl,rfl,by decide +kernel,rfl,by decide +kernel,by decide +kernel⟩
abbrev gK:Stmt:=ax (top 37) 0
theorem nZ:FnScope ["self"] ["self"] (aj gK):=⟨rfl,rfl,rfl,by decide +kernel,rfl,by decide +kernel,by decide +kernel⟩
abbrev gj:Stmt:=ax (top 38) 0
theorem mn:FnScope ["self"] ["self"] (aj gj):=⟨rfl,rfl,rfl,by decide +kernel,rfl,by decide +kernel,by decide +kernel⟩
abbrev fW:Stmt:=ax (top 40) 0
theorem my:FnScope ["self"] ["self"] (aj fW):=⟨rfl,rfl,rfl,by decide +kernel,rfl,by decide +kernel,by decide +kernel⟩
abbrev eO:Stmt:=ax (top 41) 0
theorem kB:FnScope ["self"] ["self"] (aj eO):=⟨rfl,rfl,rfl,by decide +kernel,rfl,by decide +kernel,by decide +kernel⟩
abbrev eG:Stmt:=ax (top 42) 0
theorem kR:FnScope ["self"] ["self"] (aj eG):=⟨rfl,rfl,rfl,by decide +kernel,rfl,by decide +kernel,by decide +kernel⟩
abbrev g6:Stmt:=ax (top 43) 0
theorem oN:FnScope ["self"] ["self"] (aj g6):=⟨rfl,rfl,rfl,by decide +kernel,rfl,by decide +kernel,by decide +kernel⟩
abbrev jj:Stmt:=ax (top 44) 0
theorem pY:FnScope ["self"] ["self"] (aj jj):=⟨rfl,rfl,rfl,by decide +kernel,rfl,by decide +kernel,by decide +kernel⟩
abbrev dN:Stmt:=ax (top 45) 0
theorem jG:FnScope ["self"] ["self"] (aj dN):=⟨rfl,rfl,rfl,by decide +kernel,rfl,by decide +kernel,by decide +kernel⟩
abbrev eU:Stmt:=ax (top 46) 0
theorem kn:FnScope ["self"] ["self"] (aj eU):=⟨rfl,rfl,rfl,by decide +kernel,rfl,by decide +kernel,by decide +kernel⟩
abbrev fQ:Stmt:=ax (top 47) 1
theorem lI:FnScope ["self"] ["self"] (aj fQ):=⟨rfl,rfl,rfl,by decide +kernel,rfl,by decide +kernel,by decide +kernel⟩
abbrev gg:Stmt:=ax (top 48) 1
theorem mI:FnScope ["self"] ["self"] (aj gg):=⟨rfl,rfl,rfl,by decide +kernel,rfl,by decide +kernel,by decide +kernel⟩
abbrev dC:Stmt:=ax (top 31) 0
theorem iO:FnScope ["self","goal","bits"] ["self","goal","bits"] (aj dC):=⟨rfl,rfl,rfl,by decide +kernel,rfl,by decide +kernel,by decide +kernel⟩
abbrev cJ:Stmt:=ax (top 32) 0
theorem ik:FnScope ["self","goal","one"] ["self","goal","one"] (aj cJ):=⟨rfl,rfl,rfl,by decide +kernel,rfl,by decide +kernel,by decide +kernel⟩
abbrev bL:Stmt:=ax (top 33) 0
theorem fw:FnScope ["self","goal","carry","one","other"] ["self","goal","carry","one","other"] (aj bL):=⟨rfl,rfl,rfl,by decide +kernel,rfl,by decide +kernel,by decide +kernel⟩
abbrev bQ:Stmt:=ax (top 36) 0
theorem fZ:FnScope ["self","goal","one","other"] ["self","goal","one","other"] (aj bQ):=⟨rfl,rfl,rfl,by decide +kernel,rfl,by decide +kernel,by decide +kernel⟩
abbrev bW:Stmt:=ax (top 39) 0
theorem gy:FnScope ["self","goal","one","k"] ["self","goal","one","k"] (aj bW):=⟨rfl,rfl,rfl,by decide +kernel,rfl,by decide +kernel,by decide +kernel⟩
abbrev cV:Stmt:=ax (top 47) 0
theorem ig:FnScope ["self","goal","by","one","other"] ["self","goal","by","one","other"] (aj cV):=⟨rfl,rfl,rfl,by decide +kernel,rfl,by decide +kernel,by decide +kernel⟩
abbrev cN:Stmt:=ax (top 48) 0
theorem iy:FnScope ["self","line","mark","by"] ["self","line","mark","by"] (aj cN):=⟨rfl,rfl,rfl,by decide +kernel,rfl,by decide +kernel,by decide +kernel⟩
abbrev hC:Stmt:=ax (top 31) 2
theorem oS:FnScope ["self"] ["self"] (aj hC):=⟨rfl,rfl,rfl,by decide +kernel,rfl,by decide +kernel,by decide +kernel⟩
abbrev fO:Stmt:=ax (top 32) 2
theorem lG:FnScope ["self"] ["self"] (aj fO):=⟨rfl,rfl,rfl,by decide +kernel,rfl,by decide +kernel,by decide +kernel⟩
abbrev cK:Stmt:=ax (top 33) 1
theorem iu:FnScope ["self"] ["self"] (aj cK):=⟨rfl,rfl,rfl,by decide +kernel,rfl,by decide +kernel,by decide +kernel⟩
abbrev da:Stmt:=ax (top 36) 1
theorem jf:FnScope ["self"] ["self"] (aj da):=⟨rfl,rfl,rfl,by decide +kernel,rfl,by decide +kernel,by decide +kernel⟩
abbrev dQ:Stmt:=ax (top 39) 1
theorem jH:FnScope ["self"] ["self"] (aj dQ):=⟨rfl,rfl,rfl,by decide +kernel,rfl,by decide +kernel,by decide +kernel⟩
abbrev fH:Stmt:=ax (top 47) 2
theorem ma:FnScope ["self"] ["self"] (aj fH):=⟨rfl,rfl,rfl,by decide +kernel,rfl,by decide +kernel,by decide +kernel⟩
abbrev fF:Stmt:=ax (top 48) 2
theorem lH:FnScope ["self"] ["self"] (aj fF):=⟨rfl,rfl,rfl,by decide +kernel,rfl,by decide +kernel,by decide +kernel⟩
abbrev dz:Stmt:=ax (top 34) 1
theorem iS:FnScope ["self","width","a","b"] ["self","width","a","b"] (aj dz):=⟨rfl,rfl,rfl,by decide +kernel,rfl,by decide +kernel,by decide +kernel⟩
abbrev du:Stmt:=ax (top 35) 1
theorem i6:FnScope ["self","width","a","b"] ["self","width","a","b"] (aj du):=⟨rfl,rfl,rfl,by decide +kernel,rfl,by decide +kernel,by decide +kernel⟩
abbrev cZ:Stmt:=ax (top 37) 1
theorem iI:FnScope ["self","width","a","b"] ["self","width","a","b"] (aj cZ):=⟨rfl,rfl,rfl,by decide +kernel,rfl,by decide +kernel,by decide +kernel⟩
abbrev cU:Stmt:=ax (top 38) 1
theorem il:FnScope ["self","width","a","b"] ["self","width","a","b"] (aj cU):=⟨rfl,rfl,rfl,by decide +kernel,rfl,by decide +kernel,by decide +kernel⟩
abbrev dj:Stmt:=ax (top 43) 1
theorem iX:FnScope ["self","width","a","b"] ["self","width","a","b"] (aj dj):=⟨rfl,rfl,rfl,by decide +kernel,rfl,by decide +kernel,by decide +kernel⟩
abbrev d4:Stmt:=ax (top 44) 1
theorem jZ:FnScope ["self","width","a","b"] ["self","width","a","b"] (aj d4):=⟨rfl,rfl,rfl,by decide +kernel,rfl,by decide +kernel,by decide +kernel⟩
abbrev bZ:Stmt:=ax (top 45) 1
theorem gt:FnScope ["self","width","a","b"] ["self","width","a","b"] (aj bZ):=⟨rfl,rfl,rfl,by decide +kernel,rfl,by decide +kernel,by decide +kernel⟩
abbrev cx:Stmt:=ax (top 46) 1
theorem gP:FnScope ["self","width","a","b"] ["self","width","a","b"] (aj cx):=⟨rfl,rfl,rfl,by decide +kernel,rfl,by decide +kernel,by decide +kernel⟩
abbrev fc:Stmt:=ax (top 40) 1
theorem lv:FnScope ["self","width","a"] ["self","width","a"] (aj fc):=⟨rfl,rfl,rfl,by decide +kernel,rfl,by decide +kernel,by decide +kernel⟩
abbrev dY:Stmt:=ax (top 41) 1
theorem jY:FnScope ["self","width","a"] ["self","width","a"] (aj dY):=⟨rfl,rfl,rfl,by decide +kernel,rfl,by decide +kernel,by decide +kernel⟩
abbrev dJ:Stmt:=ax (top 42) 1
theorem jP:FnScope ["self","width","a"] ["self","width","a"] (aj dJ):=⟨rfl,rfl,rfl,by decide +kernel,rfl,by decide +kernel,by decide +kernel⟩
abbrev dU:Stmt:=ax (top 31) 3
theorem j3:FnScope ["self","width"] ["self","width"] (aj dU):=⟨rfl,rfl,rfl,by decide +kernel,rfl,by decide +kernel,by decide +kernel⟩
abbrev de:Stmt:=ax (top 32) 3
theorem iG:FnScope ["self","width"] ["self","width"] (aj de):=⟨rfl,rfl,rfl,by decide +kernel,rfl,by decide +kernel,by decide +kernel⟩
abbrev bM:Stmt:=ax (top 33) 2
theorem fR:FnScope ["self","width"] ["self","width"] (aj bM):=⟨rfl,rfl,rfl,by decide +kernel,rfl,by decide +kernel,by decide +kernel⟩
abbrev ci:Stmt:=ax (top 36) 2
theorem gD:FnScope ["self","width"] ["self","width"] (aj ci):=⟨rfl,rfl,rfl,by decide +kernel,rfl,by decide +kernel,by decide +kernel⟩
abbrev cw:Stmt:=ax (top 39) 2
theorem gX:FnScope ["self","width"] ["self","width"] (aj cw):=⟨rfl,rfl,rfl,by decide +kernel,rfl,by decide +kernel,by decide +kernel⟩
abbrev di:Stmt:=ax (top 47) 3
theorem i5:FnScope ["self","width"] ["self","width"] (aj di):=⟨rfl,rfl,rfl,by decide +kernel,rfl,by decide +kernel,by decide +kernel⟩
abbrev dB:Stmt:=ax (top 48) 3
theorem je:FnScope ["self","width"] ["self","width"] (aj dB):=⟨rfl,rfl,rfl,by decide +kernel,rfl,by decide +kernel,by decide +kernel⟩
abbrev iU:Stmt:=ax (top 31) 4
theorem p9:FnScope ["self","width","words","marks"] ["self","width","words","marks"] (aj iU):=⟨rfl,rfl,rfl,by decide +kernel,rfl,by decide +kernel,by decide +kernel⟩
abbrev gU:Stmt:=ax (top 32) 4
theorem m8:FnScope ["self","width","words","marks"] ["self","width","words","marks"] (aj gU):=⟨rfl,rfl,rfl,by decide +kernel,rfl,by decide +kernel,by decide +kernel⟩
abbrev dh:Stmt:=ax (top 33) 3
theorem sc_Carrying_act:FnScope ["self","width","words","marks","pair"] ["self","width","words","marks"] (aj dh):=⟨rfl,rfl,rfl,by decide +kernel,rfl,by decide +kernel,by decide +kernel⟩
abbrev dI:Stmt:=ax (top 36) 3
theorem jU:FnScope ["self","width","words","marks"] ["self","width","words","marks"] (aj dI):=⟨rfl,rfl,rfl,by decide +kernel,rfl,by decide +kernel,by decide +kernel⟩
abbrev eF:Stmt:=ax (top 39) 3
theorem kQ:FnScope ["self","width","words","marks"] ["self","width","words","marks"] (aj eF):=⟨rfl,rfl,rfl,by decide +kernel,rfl,by decide +kernel,by decide +kernel⟩
abbrev gZ:Stmt:=ax (top 47) 4
theorem m5:FnScope ["self","width","words","marks"] ["self","width","words","marks"] (aj gZ):=⟨rfl,rfl,rfl,by decide +kernel,rfl,by decide +kernel,by decide +kernel⟩
abbrev h7:Stmt:=ax (top 48) 4
theorem nO:FnScope ["self","width","words","marks"] ["self","width","words","marks"] (aj h7):=⟨rfl,rfl,rfl,by decide +kernel,rfl,by decide +kernel,by decide +kernel⟩
abbrev eJ:Stmt:=ax (top 49) 1
theorem li:FnScope ["self"] ["self"] (aj eJ):=⟨rfl,rfl,rfl,by decide +kernel,rfl,by decide +kernel,by decide +kernel⟩
abbrev cz:Stmt:=ax (top 49) 0
theorem gO:FnScope ["self","times","steps"] ["self","times","steps"] (aj cz):=⟨rfl,rfl,rfl,by decide +kernel,rfl,by decide +kernel,by decide +kernel⟩
abbrev cI:Stmt:=ax (top 49) 3
theorem iz:FnScope ["self","width"] ["self","width"] (aj cI):=⟨rfl,rfl,rfl,by decide +kernel,rfl,by decide +kernel,by decide +kernel⟩
abbrev fG:Stmt:=ax (top 49) 4
theorem sc_Turns_act:FnScope ["self","width","words","marks","turn","step"] ["self","width","words","marks"] (aj fG):=⟨rfl,rfl,rfl,by decide +kernel,rfl,by decide +kernel,by decide +kernel⟩
abbrev jd:Stmt:=top 53
theorem p7:FnScope ["width","thing","about"] ["width","thing","about"] (aj jd):=⟨rfl,rfl,rfl,by decide +kernel,rfl,by decide +kernel,by decide +kernel⟩
abbrev dq:Stmt:=top 54
theorem sc_place_behind:FnScope ["width","steps","place","about","step"] ["width","steps","place","about"] (aj dq):=⟨rfl,rfl,rfl,by decide +kernel,rfl,by decide +kernel,by decide +kernel⟩
abbrev dL:Stmt:=top 55
theorem sc_count_words:FnScope ["steps","times","counts","step","many"] ["steps","times","counts"] (aj dL):=⟨rfl,rfl,rfl,by decide +kernel,rfl,by decide +kernel,by decide +kernel⟩
abbrev eK:Stmt:=top 56
theorem sc_need_steps:FnScope ["width","steps","counts","word"] ["width","steps"] (aj eK):=⟨rfl,rfl,rfl,by decide +kernel,rfl,by decide +kernel,by decide +kernel⟩
abbrev d5:Stmt:=top 57
theorem jS:FnScope ["width","steps"] ["width","steps"] (aj d5):=⟨rfl,rfl,rfl,by decide +kernel,rfl,by decide +kernel,by decide +kernel⟩
abbrev cy:Stmt:=top 58
theorem sc_need_registers:FnScope ["width","registers","key","name"] ["width","registers"] (aj cy):=⟨rfl,rfl,rfl,by decide +kernel,rfl,by decide +kernel,by decide +kernel⟩
abbrev fJ:Stmt:=top 59
theorem sc_run_steps:FnScope ["width","steps","registers","counts","words","marks","step"] ["width","steps","registers"] (aj fJ):=⟨rfl,rfl,rfl,by decide +kernel,rfl,by decide +kernel,by decide +kernel⟩
abbrev dZ:Stmt:=top 23
theorem sc_need_prices:FnScope ["prices","table","word","price"] ["prices"] (aj dZ):=⟨rfl,rfl,rfl,by decide +kernel,rfl,by decide +kernel,by decide +kernel⟩
abbrev gE:Stmt:=top 60
theorem sc_cost_of:FnScope ["width","steps","prices","counts","table"] ["width","steps","prices"] (aj gE):=⟨rfl,rfl,rfl,by decide +kernel,rfl,by decide +kernel,by decide +kernel⟩
abbrev gh:Stmt:=top 62
theorem sc_number_in:FnScope ["figures","number","figure","worth"] ["figures"] (aj gh):=⟨rfl,rfl,rfl,by decide +kernel,rfl,by decide +kernel,by decide +kernel⟩
abbrev gY:Stmt:=top 64
theorem oW:FnScope ["word","most"] ["word","most"] (aj gY):=⟨rfl,rfl,rfl,by decide +kernel,rfl,by decide +kernel,by decide +kernel⟩
abbrev dS:Stmt:=top 66
theorem sc_number_told:FnScope ["word","low","high","number"] ["word","low","high"] (aj dS):=⟨rfl,rfl,rfl,by decide +kernel,rfl,by decide +kernel,by decide +kernel⟩
abbrev eP:Stmt:=top 70
theorem kq:FnScope ["field"] ["field"] (aj eP):=⟨rfl,rfl,rfl,by decide +kernel,rfl,by decide +kernel,by decide +kernel⟩
abbrev hV:Stmt:=top 71
theorem sc_lines_of:FnScope ["steps","lines","step"] ["steps"] (aj hV):=⟨rfl,rfl,rfl,by decide +kernel,rfl,by decide +kernel,by decide +kernel⟩
abbrev fg:Stmt:=top 72
theorem kC:FnScope ["steps"] ["steps"] (aj fg):=⟨rfl,rfl,rfl,by decide +kernel,rfl,by decide +kernel,by decide +kernel⟩
abbrev eY:Stmt:=top 73
theorem kU:FnScope ["part","word"] ["part","word"] (aj eY):=⟨rfl,rfl,rfl,by decide +kernel,rfl,by decide +kernel,by decide +kernel⟩
abbrev dD:Stmt:=top 75
theorem iT:FnScope ["word","goal","one","other"] ["word","goal","one","other"] (aj dD):=⟨rfl,rfl,rfl,by decide +kernel,rfl,by decide +kernel,by decide +kernel⟩
abbrev gQ:Stmt:=top 74
theorem sc_row_made:FnScope ["word","fields","one"] ["word","fields"] (aj gQ):=⟨rfl,rfl,rfl,by decide +kernel,rfl,by decide +kernel,by decide +kernel⟩
abbrev gR:Stmt:=top 76
theorem sc_row_read:FnScope ["words","shape","row"] ["words"] (aj gR):=⟨rfl,rfl,rfl,by decide +kernel,rfl,by decide +kernel,by decide +kernel⟩
abbrev bP:Stmt:=ax (top 77) 0
theorem fM:FnScope ["self"] ["self"] (aj bP):=⟨rfl,rfl,rfl,by decide +kernel,rfl,by decide +kernel,by decide +kernel⟩
abbrev bu:Stmt:=ax (top 77) 2
theorem sc_Reading_takes_turns:FnScope ["self","words","times"] ["self","words"] (aj bu):=⟨rfl,rfl,rfl,by decide +kernel,rfl,by decide +kernel,by decide +kernel⟩
abbrev bI:Stmt:=ax (top 77) 3
theorem sc_Reading_takes_end:FnScope ["self","steps"] ["self"] (aj bI):=⟨rfl,rfl,rfl,by decide +kernel,rfl,by decide +kernel,by decide +kernel⟩
abbrev cO:Stmt:=ax (top 77) 1
theorem sc_Reading_takes:FnScope ["self","words","row"] ["self","words"] (aj cO):=⟨rfl,rfl,rfl,by decide +kernel,rfl,by decide +kernel,by decide +kernel⟩
abbrev eW:Stmt:=top 78
theorem sc_read_steps:FnScope ["text","reading","line"] ["text"] (aj eW):=⟨rfl,rfl,rfl,by decide +kernel,rfl,by decide +kernel,by decide +kernel⟩
abbrev gk:Stmt:=top 80
theorem sc__law_cell:FnScope ["_law_script","_law_k","_law_number"] ["_law_script","_law_k"] (aj gk):=⟨rfl,rfl,rfl,by decide +kernel,rfl,by decide +kernel,by decide +kernel⟩
abbrev eS:Stmt:=top 81
theorem sc__law_begun:FnScope ["_law_cell_here","_law_rest"] ["_law_cell_here"] (aj eS):=⟨rfl,rfl,rfl,by decide +kernel,rfl,by decide +kernel,by decide +kernel⟩
abbrev fV:Stmt:=top 82
theorem sc__law_draw:FnScope ["_law_state","_law_many","_law_found","_law_number"] ["_law_state","_law_many"] (aj fV):=⟨rfl,rfl,rfl,by decide +kernel,rfl,by decide +kernel,by decide +kernel⟩
abbrev eR:Stmt:=top 83
theorem ku:FnScope ["_law_found"] ["_law_found"] (aj eR):=⟨rfl,rfl,rfl,by decide +kernel,rfl,by decide +kernel,by decide +kernel⟩
abbrev fT:Stmt:=top 84
theorem sc__law_word:FnScope ["_law_state","_law_width","_law_size","_law_way"] ["_law_state","_law_width"] (aj fT):=⟨rfl,rfl,rfl,by decide +kernel,rfl,by decide +kernel,by decide +kernel⟩
abbrev gW:Stmt:=top 85
theorem sc__law_bit:FnScope ["_law_width","_law_n","_law_rows"] ["_law_width","_law_n"] (aj gW):=⟨rfl,rfl,rfl,by decide +kernel,rfl,by decide +kernel,by decide +kernel⟩
abbrev dr:Stmt:=top 86
theorem sc__law_divided:FnScope ["_law_width","_law_n","_law_rows"] ["_law_width","_law_n"] (aj dr):=⟨rfl,rfl,rfl,by decide +kernel,rfl,by decide +kernel,by decide +kernel⟩
abbrev dm:Stmt:=top 87
theorem sc__law_product:FnScope ["_law_n","_law_rows","_law_one","_law_other"] ["_law_n"] (aj dm):=⟨rfl,rfl,rfl,by decide +kernel,rfl,by decide +kernel,by decide +kernel⟩
abbrev fP:Stmt:=top 88
theorem sc__law_cost:FnScope ["_law_counts","_law_prices","_law_cost_here","_law_at","_law_word_here"] ["_law_counts"] (aj fP):=⟨rfl,rfl,rfl,by decide +kernel,rfl,by decide +kernel,by decide +kernel⟩
abbrev dv:Stmt:=top 89
theorem sc__law_counted:FnScope ["_law_width","_law_steps","_law_counts","_law_due","_law_prices","_law_cost_here"] ["_law_width","_law_steps","_law_counts","_law_due"] (aj dv):=⟨rfl,rfl,rfl,by decide +kernel,rfl,by decide +kernel,by decide +kernel⟩
abbrev cQ:Stmt:=top 90
theorem sc__law_division:FnScope ["_law_state","_law_width","_law_n","_law_size","_law_divisor","_law_high","_law_low","_law_steps","_law_behind","_law_marks","_law_counts","_law_quotient","_law_rest"] ["_law_state","_law_width","_law_n"] (aj cQ):=⟨rfl,rfl,rfl,by decide +kernel,rfl,by decide +kernel,by decide +kernel⟩
abbrev ce:Stmt:=top 91
theorem sc__law_multiplied:FnScope ["_law_state","_law_width","_law_n","_law_size","_law_words","_law_steps","_law_held","_law_behind","_law_marks","_law_counts","_law_told","_law_found","_law_word_here","_law_due"] ["_law_state","_law_width","_law_n"] (aj ce):=⟨rfl,rfl,rfl,by decide +kernel,rfl,by decide +kernel,by decide +kernel⟩
abbrev lj:Stmt:=top 92
theorem sc_law:FnScope ["_law_script","_law_k","_law_state","_law_width","_law_name"] ["_law_script"] (aj lj):=⟨rfl,rfl,rfl,by decide +kernel,rfl,by decide +kernel,by decide +kernel⟩
def fh (K:Frag) (cs:List Addr) (st:Addr):Bool:=isClsIn K st && (typeIn K (.ref st) == some (.type "type")) && (List.range 16).all fun k=>isClsIn K (cs.getD k 0) && (typeIn K (.ref (cs.getD k 0)) == some (.type "type")) && (mroIn K (cs.getD k 0) (.ref st) == some true) && (findIn K (.ref (cs.getD k 0)) "__class__" == some (some (.builtin "object.__class__"))) && (mroIn K (cs.getD k 0) (.type "object") == some true) && (List.range 16).all fun i=>mroIn K (cs.getD k 0) (.ref (cs.getD i 0)) == some (decide (i = k))
structure Ad where
 Set:Addr
 Copy:Addr
 Sum:Addr
 Gap:Addr
 Low:Addr
 High:Addr
 Left:Addr
 Right:Addr
 Slide:Addr
 And:Addr
 Or:Addr
 Unlike:Addr
 Under:Addr
 Pick:Addr
 Mark:Addr
 Turns:Addr
 Step:Addr
 Reading:Addr
 ROW_WORDS:Addr
 MARKS:Addr
 SHAPES:Addr
structure Txt (K:Frag) (mg:Str->Option Value) (c:Ad):Prop where
 n_isinstance:mg "isinstance" = none
 n_int:mg "int" = none
 n_bool:mg "bool" = none
 n_str:mg "str" = none
 n_list:mg "list" = none
 n_tuple:mg "tuple" = none
 n_dict:mg "dict" = none
 n_len:mg "len" = none
 n_max:mg "max" = none
 n_min:mg "min" = none
 n_range:mg "range" = none
 n_all:mg "all" = none
 n_sum:mg "sum" = none
 n_sorted:mg "sorted" = none
 n_zip:mg "zip" = none
 n_enumerate:mg "enumerate" = none
 g_Set:mg "Set" = some (.ref c.Set)
 cl_Set:Cls K c.Set
 na_Set_goal:NoAttr K c.Set "goal"
 na_Set_bits:NoAttr K c.Set "bits"
 g_Copy:mg "Copy" = some (.ref c.Copy)
 cl_Copy:Cls K c.Copy
 na_Copy_goal:NoAttr K c.Copy "goal"
 na_Copy_one:NoAttr K c.Copy "one"
 g_Sum:mg "Sum" = some (.ref c.Sum)
 cl_Sum:Cls K c.Sum
 na_Sum_goal:NoAttr K c.Sum "goal"
 na_Sum_carry:NoAttr K c.Sum "carry"
 na_Sum_one:NoAttr K c.Sum "one"
 na_Sum_other:NoAttr K c.Sum "other"
 g_Gap:mg "Gap" = some (.ref c.Gap)
 cl_Gap:Cls K c.Gap
 na_Gap_goal:NoAttr K c.Gap "goal"
 na_Gap_carry:NoAttr K c.Gap "carry"
 na_Gap_one:NoAttr K c.Gap "one"
 na_Gap_other:NoAttr K c.Gap "other"
 g_Low:mg "Low" = some (.ref c.Low)
 cl_Low:Cls K c.Low
 na_Low_goal:NoAttr K c.Low "goal"
 na_Low_one:NoAttr K c.Low "one"
 na_Low_other:NoAttr K c.Low "other"
 g_High:mg "High" = some (.ref c.High)
 cl_High:Cls K c.High
 na_High_goal:NoAttr K c.High "goal"
 na_High_one:NoAttr K c.High "one"
 na_High_other:NoAttr K c.High "other"
 g_Left:mg "Left" = some (.ref c.Left)
 cl_Left:Cls K c.Left
 na_Left_goal:NoAttr K c.Left "goal"
 na_Left_one:NoAttr K c.Left "one"
 na_Left_k:NoAttr K c.Left "k"
 g_Right:mg "Right" = some (.ref c.Right)
 cl_Right:Cls K c.Right
 na_Right_goal:NoAttr K c.Right "goal"
 na_Right_one:NoAttr K c.Right "one"
 na_Right_k:NoAttr K c.Right "k"
 g_Slide:mg "Slide" = some (.ref c.Slide)
 cl_Slide:Cls K c.Slide
 na_Slide_goal:NoAttr K c.Slide "goal"
 na_Slide_one:NoAttr K c.Slide "one"
 na_Slide_k:NoAttr K c.Slide "k"
 g_And:mg "And" = some (.ref c.And)
 cl_And:Cls K c.And
 na_And_goal:NoAttr K c.And "goal"
 na_And_one:NoAttr K c.And "one"
 na_And_other:NoAttr K c.And "other"
 g_Or:mg "Or" = some (.ref c.Or)
 cl_Or:Cls K c.Or
 na_Or_goal:NoAttr K c.Or "goal"
 na_Or_one:NoAttr K c.Or "one"
 na_Or_other:NoAttr K c.Or "other"
 g_Unlike:mg "Unlike" = some (.ref c.Unlike)
 cl_Unlike:Cls K c.Unlike
 na_Unlike_goal:NoAttr K c.Unlike "goal"
 na_Unlike_one:NoAttr K c.Unlike "one"
 na_Unlike_other:NoAttr K c.Unlike "other"
 g_Under:mg "Under" = some (.ref c.Under)
 cl_Under:Cls K c.Under
 na_Under_goal:NoAttr K c.Under "goal"
 na_Under_one:NoAttr K c.Under "one"
 na_Under_other:NoAttr K c.Under "other"
 g_Pick:mg "Pick" = some (.ref c.Pick)
 cl_Pick:Cls K c.Pick
 na_Pick_goal:NoAttr K c.Pick "goal"
 na_Pick_by:NoAttr K c.Pick "by"
 na_Pick_one:NoAttr K c.Pick "one"
 na_Pick_other:NoAttr K c.Pick "other"
 g_Mark:mg "Mark" = some (.ref c.Mark)
 cl_Mark:Cls K c.Mark
 na_Mark_line:NoAttr K c.Mark "line"
 na_Mark_mark:NoAttr K c.Mark "mark"
 na_Mark_by:NoAttr K c.Mark "by"
 g_Turns:mg "Turns" = some (.ref c.Turns)
 cl_Turns:Cls K c.Turns
 na_Turns_times:NoAttr K c.Turns "times"
 na_Turns_steps:NoAttr K c.Turns "steps"
 g_Step:mg "Step" = some (.ref c.Step)
 cl_Step:Cls K c.Step
 g_Reading:mg "Reading" = some (.ref c.Reading)
 cl_Reading:Cls K c.Reading
 na_Reading_lists:NoAttr K c.Reading "lists"
 na_Reading_turns:NoAttr K c.Reading "turns"
 g_ROW_WORDS:mg "ROW_WORDS" = some (.ref c.ROW_WORDS)
 q_ROW_WORDS:∀ H,SqT K H c.ROW_WORDS [.str "set",.str "copy",.str "sum",.str "gap",.str "low",.str "high",.str "left",.str "right",.str "slide",.str "and",.str "or",.str "unlike",.str "under",.str "pick",.str "mark",.str "turns"]
 g_MARKS:mg "MARKS" = some (.ref c.MARKS)
 q_MARKS:∀ H,SqT K H c.MARKS [.str "round",.str "stop",.str "nothing"]
 g_SHAPES:mg "SHAPES" = some (.ref c.SHAPES)
 g_LETTERS:∃ t,mg "LETTERS" = some (.str "abcdefghijklmnopqrstuvwxyz" t)
 g_LETTERS_AND_FIGURES:∃ t,mg "LETTERS_AND_FIGURES" = some (.str "abcdefghijklmnopqrstuvwxyz0123456789" t)
 g_MOST_DONE:∃ t,mg "MOST_DONE" = some (.int 1000000 t)
 g_MOST_TURNS:∃ t,mg "MOST_TURNS" = some (.int 5 t)
 g_WIDEST:∃ t,mg "WIDEST" = some (.int 32 t)
 kf_og:PySem.W.specialIn K (.builtin "object.__class__") "__get__" = some (some (.builtin "getset_descriptor.__get__"))
 kf_ot:PySem.W.takesIn K (.builtin "object.__class__") = some true
 kf_kr_kinds:fh K [c.Set,c.Copy,c.Sum,c.Gap,c.Low,c.High,c.Left,c.Right,c.Slide,c.And,c.Or,c.Unlike,c.Under,c.Pick,c.Mark,c.Turns] c.Step = true
 kf_kr_SHAPES:(c.SHAPES == PySem.sysModules) = false
theorem aW {w:Int} (h1:4<=w) (h2:w<=32):16<=(2:Int) ^ w.toNat/\(2:Int) ^ w.toNat<=4294967296:=by
 have a:(2:Int) ^ 4<=2 ^ w.toNat:=p_mono (by lia)
 have b:(2:Int) ^ w.toNat<=2 ^ 32:=p_mono (by lia)
 exact ⟨a,b⟩
theorem mt {m:Int} (h0:0 < m) (h:m < 2 ^ 80):m.natAbs.log2 < 9000:=by
 have h1:m.natAbs ≠ 0:=by lia
 have h2:m.natAbs < 2 ^ 80:=by lia
 have:=(Nat.log2_lt h1).mpr h2
 lia
theorem ie {w:Int} (h1:0<=w) (h2:w<=100000):CPow 1 w:=⟨h1,by lia,by decide⟩
theorem lm {x y m:Int} (h0:0 < m) (h:m<=2 ^ 64):CMul (x % m) y:=by
 have a:=Int.emod_nonneg x (show m ≠ 0 by lia)
 have b:=Int.emod_lt_of_pos x h0
 exact .inl ⟨by lia,by lia⟩
theorem cmul_l {x y:Int} (h0:0<=x) (h:x < 2 ^ 64):CMul x y:=.inl ⟨by lia,h⟩
def fD:Sp:=fun vs H Q _=>∃ i:Int,vs = [.int i]/\Q (.bl true) H
def cr:Sp:=fun vs H Q _=>∃ i lo hi:Int,vs = [.int i,.int lo,.int hi]/\lo<=i/\i<=hi/\Q (.bl true) H
def df:Sp:=fun vs H Q _=>∃ i:Int,vs = [.int i]/\4<=i/\i<=32/\Q .non H
def spLaw (K:Frag):Sp:=fun vs H Q _=>∃ (a:Addr) (ns:List Int),vs = [.ref a]/\SqL K H a (ns.map V.int)/\ns.length<=63/\∀ H',Q (.bl true) H'
theorem b200 {x:Int} (h1:-(2 ^ 200) < x) (h2:x < 2 ^ 200):intBits x<=100000:=Nat.le_trans (intBits_le_iff.mpr (show x.natAbs < 2 ^ 200 by lia)) (by decide)
def spBox:Sp:=fun vs H Q _=>∃ c:Int,vs = [.int c]/\∀ p H',H p = none->Box H' p->Same H H'->Q (.ref p) H'
def rS (K:Frag):Sp:=fun vs H Q _=>∃ (a:Addr) (ns:List Int) (k:Int),vs = [.ref a,.int k]/\SqL K H a (ns.map V.int)/\0<=k/\k<=1000/\∀ c:Int,Q (.int c) H
def cnt (w a:Int):Int:=if a < 1 * 2 ^ (w - 1).toNat then a else a - 1 * 2 ^ w.toNat
def spSum:Sp:=fun vs H Q _=>∃ w a b:Int,vs = [.int w,.int a,.int b]/\4<=w/\w<=32/\∀ t,H t = none->Q (.ref t) (upd H t (.tup [.int ((a + b) % (1 * 2 ^ w.toNat)),.int ((a + b) / 2 ^ w.toNat)]))
def spGap:Sp:=fun vs H Q _=>∃ w a b:Int,vs = [.int w,.int a,.int b]/\4<=w/\w<=32/\∀ t,H t = none->Q (.ref t) (upd H t (.tup [.int ((a - b) % (1 * 2 ^ w.toNat)),.int (if a < b then 1 else 0)]))
def spLow:Sp:=fun vs H Q _=>∃ w a b:Int,vs = [.int w,.int a,.int b]/\4<=w/\w<=32/\CMul a b/\Q (.int ((a * b) % (1 * 2 ^ w.toNat))) H
def tz:Sp:=fun vs H Q _=>∃ w a b:Int,vs = [.int w,.int a,.int b]/\4<=w/\w<=32/\CMul a b/\Q (.int ((a * b) / 2 ^ w.toNat)) H
def qY:Sp:=fun vs H Q _=>∃ w a k:Int,vs = [.int w,.int a,.int k]/\4<=w/\w<=32/\CPow a k/\Q (.int ((a * 2 ^ k.toNat) % (1 * 2 ^ w.toNat))) H
def nr:Sp:=fun vs H Q _=>∃ w a k:Int,vs = [.int w,.int a,.int k]/\4<=w/\w<=32/\0<=k/\Q (.int (a / 2 ^ k.toNat)) H
def nE:Sp:=fun vs H Q _=>∃ w a k:Int,vs = [.int w,.int a,.int k]/\4<=w/\w<=32/\0<=k/\Q (.int ((cnt w a / 2 ^ k.toNat) % (1 * 2 ^ w.toNat))) H
theorem iteC {c A B:Prop} [Decidable c] (h1:c->A) (h2:¬ c->B):if decide c = true then A else B:=by
 by_cases h:c
 ·exact dg h (h1 h)
 ·exact be h (h2 h)
theorem iteI {a b:Int} {A B:Prop} (h1:a = b->A) (h2:a ≠ b->B):if decide (V.int a = V.int b) = true then A else B:=iteC (fun z=>h1 (by injection z)) (fun z=>h2 (fun e=>z (congrArg V.int e)))
local macro_rules | `(tactic| walk_at "s")=>`(tactic| first
 | lia | assumption | exact ty_int | exact rfl | (dsimp only; lia) | exact ie (by lia) (by lia) | exact ⟨by decide,by decide⟩ | exact ⟨by lia,mt (by lia) (by lia)⟩
 | exact .inr ⟨by decide,by decide⟩ | exact .inl ⟨by decide,by decide⟩ | exact .inl ⟨by lia,by lia⟩ | exact .inr ⟨by lia,by lia⟩ | exact ⟨b200 (by lia) (by lia),b200 (by lia) (by lia)⟩
 | exact ⟨by decide,by decide,by decide⟩ | exact Nat.le_of_ble_eq_true rfl)
local macro_rules | `(tactic| walk_at "q")=>`(tactic| first | exact SqT.of (by first | assumption | exact ae) | exact SqL.of (by first | assumption | exact ae) | assumption)
local macro_rules | `(tactic| walk_at "o")=>`(tactic| repeat (first
 | refine ⟨_,rfl,?_⟩ | refine ⟨_,_,rfl,rfl,?_⟩ | with_reducible refine eB ?_ | with_reducible refine fN ?_
 | refine ⟨_,_,_,_,rfl,rfl,(by walk_at "q"),rfl,?_⟩
 | refine And.intro (by walk_at "s") ?_
 | refine ⟨_,_,rfl,?_⟩ | refine ⟨_,_,_,rfl,?_⟩
 | refine ⟨_,_,_,_,_,rfl,rfl,TyOf.int _,gc _,?_⟩ | refine ⟨_,_,_,_,_,rfl,rfl,TyOf.int _,eC _,?_⟩
 | refine ⟨_,_,_,_,_,rfl,rfl,TyOf.bl _,rfl,?_⟩
 | refine ⟨_,_,_,_,_,rfl,rfl,TyOf.tup (by assumption),rfl,?_⟩
 | refine ⟨_,_,rfl,.inr (SqT.of (by assumption)),?_⟩ | refine ⟨_,_,rfl,.inl (SqL.of (by assumption)),?_⟩
 | with_reducible refine dg (by lia) ?_ | with_reducible refine be (by lia) ?_ | with_reducible refine iteN (by lia) ?_ | with_reducible refine fz (by lia) ?_
 | with_reducible refine fz rfl ?_))
local macro_rules | `(tactic| walk_at "c")=>`(tactic| first | with_reducible refine iteI ?_ ?_ | with_reducible refine iteIN ?_ ?_ | with_reducible refine iteC ?_ ?_ | with_reducible refine iteCN ?_ ?_ | refine ite2 ?_ ?_)
local macro_rules | `(tactic| walk_at "n")=>`(tactic| (intro z; injection z with z; revert z; decide +kernel))
def fOf (c:Ad):Nat->Addr
 | 0=>c.Set
 | 1=>c.Copy
 | 2=>c.Sum
 | 3=>c.Gap
 | 4=>c.Low
 | 5=>c.High
 | 6=>c.Left
 | 7=>c.Right
 | 8=>c.Slide
 | 9=>c.And
 | 10=>c.Or
 | 11=>c.Unlike
 | 12=>c.Under
 | 13=>c.Pick
 | 14=>c.Mark
 | 15=>c.Turns
 | _=>0
def wOf:Nat->Str
 | 0=>"set"
 | 1=>"copy"
 | 2=>"sum"
 | 3=>"gap"
 | 4=>"low"
 | 5=>"high"
 | 6=>"left"
 | 7=>"right"
 | 8=>"slide"
 | 9=>"and"
 | 10=>"or"
 | 11=>"unlike"
 | 12=>"under"
 | 13=>"pick"
 | 14=>"mark"
 | 15=>"turns"
 | _=>""
def nOf:Nat->List Str
 | 0=>["goal","bits"]
 | 1=>["goal","one"]
 | 2=>["goal","carry","one","other"]
 | 3=>["goal","carry","one","other"]
 | 4=>["goal","one","other"]
 | 5=>["goal","one","other"]
 | 6=>["goal","one","k"]
 | 7=>["goal","one","k"]
 | 8=>["goal","one","k"]
 | 9=>["goal","one","other"]
 | 10=>["goal","one","other"]
 | 11=>["goal","one","other"]
 | 12=>["goal","one","other"]
 | 13=>["goal","by","one","other"]
 | 14=>["line","mark","by"]
 | 15=>["times","steps"]
 | _=>[]
theorem len2 {as:List V} {f g:Str} (h:as.length = [f,g].length):∃ a0 a1,as = [a0,a1]:=by
 match as,h with
 | [a,b],_=>exact ⟨a,b,rfl⟩
theorem qo {as:List V} {f g i:Str} (h:as.length = [f,g,i].length):∃ a0 a1 a2,as = [a0,a1,a2]:=by
 match as,h with
 | [a,b,d],_=>exact ⟨a,b,d,rfl⟩
theorem len4 {as:List V} {f g i j:Str} (h:as.length = [f,g,i,j].length):∃ a0 a1 a2 a3,as = [a0,a1,a2,a3]:=by
 match as,h with
 | [a,b,d,e],_=>exact ⟨a,b,d,e,rfl⟩
def d9 (s:Str):Sp:=fun vs H Q _=>∃ x:Addr,vs = [.ref x]/\Q (.str s) H
def aI (K:Frag) (fs:List Str):Sp:=fun vs H Q _=>∃ (x C dx:Addr) (as:List V),vs = .ref x :: as/\as.length = fs.length/\H x = some (.ins C dx [])/\Cls K C/\(∀ f ∈ fs,NoAttr K C f)/\∀ H',H' x = some (.ins C dx (fs.zip as))->SameX x H H'->Q .non H'
def StepAt (c:Ad) (H:Hp) (x:Addr) (k:Nat) (fs:List V):Prop:=∃ dx,H x = some (.ins (fOf c k) dx ((nOf k).zip fs))/\fs.length = (nOf k).length
def bj (c:Ad) (ks:List Nat):Sp:=fun vs H Q _=>∃ (x:Addr) (k:Nat) (fs:List V),vs = [.ref x]/\k ∈ ks/\StepAt c H x k fs/\∀ r,H r = none->Q (.ref r) (upd H r (.tup (.str (wOf k) :: fs)))
def inS (j i:Str):Bool:=!(Builtin.Str.occurrences j i 0 j.length 1).isEmpty
def LT:Str:="abcdefghijklmnopqrstuvwxyz"
def LF:Str:="abcdefghijklmnopqrstuvwxyz0123456789"
def isReg:V->Bool
 | .str z=>decide (1<=z.length) && decide (z.length<=8) && (match z.cps[0]? with | some n=>inS LT ⟨#[n]⟩ | none=>false) && z.cps.toList.all fun n=>inS LF ⟨#[n]⟩
 | _=>false
def mO:Sp:=fun vs H Q _=>∃ x:V,vs = [x]/\Th H x/\(∀ z,x = .str z->z.length<=sizeLine)/\∀ H',Same H H'->Q (.bl (isReg x)) H'
theorem oK (K:Frag):kitOne K (.type "int") (.type "str") = some false:=by with_unfolding_all rfl
theorem qz (K:Frag):kitOne K (.type "bool") (.type "str") = some false:=by with_unfolding_all rfl
theorem nR (K:Frag):kitOne K (.type "NoneType") (.type "str") = some false:=by with_unfolding_all rfl
theorem nQ (K:Frag):kitOne K (.type "list") (.type "str") = some false:=by with_unfolding_all rfl
theorem oB (K:Frag):kitOne K (.type "tuple") (.type "str") = some false:=by with_unfolding_all rfl
theorem oM (K:Frag):kitOne K (.type "dict") (.type "str") = some false:=by with_unfolding_all rfl
theorem fY (K:Frag):kitOne K (.type "str") (.type "str") = some true:=by with_unfolding_all rfl
def kF (K:Frag):Sp:=fun vs H Q _=>∃ (x C dx l:Addr) (n:V) (xs:List V),vs = [.ref x,n,.ref l]/\H x = some (.ins C dx [])/\H l = some (.lst xs)/\Cls K C/\(∀ f ∈ ["times","steps"],NoAttr K C f)/\∀ l' H',H l' = none->H' x = some (.ins C dx [("times",n),("steps",.ref l')])->H' l' = some (.lst xs)->SameX x H H'->Q .non H'
def d6 (c:Ad) (H:Hp) (x:Addr) (n:V) (xs:List V):Prop:=∃ dx l,H x = some (.ins c.Turns dx [("times",n),("steps",.ref l)])/\H l = some (.lst xs)
theorem StepAt.same {c:Ad} {H H':Hp} {x:Addr} {k:Nat} {fs:List V} (h:StepAt c H x k fs) (s:Same H H'):StepAt c H' x k fs:=let ⟨dx,e,l⟩:=h; ⟨dx,s _ _ e,l⟩
theorem Same.updL {H H':Hp} {l:Addr} {o:HO} (s:Same H H') (hl:H l = none):Same H (upd H' l o):=fun b u e=>by rw [ao (av e hl)]; exact s b u e
theorem Same.none {H H':Hp} (s:Same H H') {l:Addr} (h:H' l = none):H l = none:=by
 cases e:H l with
 | none=>rfl
 | some o=>rw [s _ _ e] at h; cases h
def iW:Sp:=fun vs H Q _=>∃ (p:Addr) (m:Int),vs = [.ref p,.int m]/\Box H p/\0 < m/\m < 2 ^ 80/\∀ (d:Int) H',0<=d->d < m->Box H' p->SameX p H H'->Q (.int d) H'
theorem pickV {xs:List V} {k:Int} (h0:0<=k) (h1:k < xs.length) {Pr:V->Prop} (ha:∀ x ∈ xs,Pr x):∃ v,Pr v/\atI xs k = some v:=by
 have hk:k.toNat < xs.length:=by lia
 refine ⟨xs[k.toNat]'hk,ha _ (List.getElem_mem hk),?_⟩
 have:=fL (List.getElem?_eq_getElem hk)
 rw [show ((k.toNat:Nat):Int) = k by lia] at this
 exact this
def AllV (Pr:V->Prop):List V->Prop
 | []=>True
 | x :: t=>Pr x/\AllV Pr t
theorem allV {Pr:V->Prop}:∀ {xs:List V},AllV Pr xs->∀ x ∈ xs,Pr x
 | [],_,_,h=>nomatch h
 | _ :: _,⟨a,b⟩,x,h=>(List.mem_cons.mp h).elim (fun e=>e ▸ a) (allV b x)
theorem newO {H:Hp} {p:Addr} (h:H p = none) (o:HO):∃ G,upd H p o = G/\Same H G/\G p = some o:=⟨_,rfl,au h _,ae⟩
theorem Box.ne {H:Hp} {p l:Addr} (b:Box H p) (h:H l = none):l ≠ p:=fun z=>by
 obtain ⟨r,s1,c,e⟩:=b
 rw [z,e] at h
 cases h
structure RgA (z:Str):Prop where
 n1:1<=z.length
 fst:∀ n,z.cps[0]? = some n->inS LT ⟨#[n]⟩ = true
 al:∀ n ∈ z.cps.toList,inS LF ⟨#[n]⟩ = true
theorem RgA.reg {z:Str} (h:RgA z) (l:z.length<=8):isReg (.str z) = true:=by
 have lz:z.length = z.cps.size:=rfl
 have n1:=h.n1
 have s1:0 < z.cps.size:=by lia
 have e0:z.cps[0]? = some z.cps[0]:=Array.getElem?_eq_getElem s1
 show (decide (1<=z.length) && decide (z.length<=8) && (match z.cps[0]? with | some n=>inS LT ⟨#[n]⟩ | none=>false) && z.cps.toList.all fun n=>inS LF ⟨#[n]⟩) = true
 rw [decide_eq_true n1,decide_eq_true l,e0,List.all_eq_true.mpr h.al]
 show (true && true && inS LT ⟨#[z.cps[0]]⟩ && true) = true
 rw [h.fst _ e0]
 rfl
def Rg (z:Str):Prop:=RgA z/\z.length<=8
inductive Rw where
 | set (g:Str) (b:Int)
 | copy (g a:Str)
 | car (k:Nat) (g:Str) (c:Option Str) (a b:Str)
 | jn (k:Nat) (g a b:Str)
 | mv (k:Nat) (g a:Str) (j:Int)
 | pick (g y a b:Str)
 | mark (n:Int) (m:Str) (y:Str)
def oV:Option Str->V
 | none=>.non
 | some z=>.str z
def Rw.k:Rw->Nat
 | .set ..=>0
 | .copy ..=>1
 | .car k ..=>k
 | .jn k ..=>k
 | .mv k ..=>k
 | .pick ..=>13
 | .mark ..=>14
def Rw.fs:Rw->List V
 | .set g b=>[.str g,.int b]
 | .copy g a=>[.str g,.str a]
 | .car _ g c a b=>[.str g,oV c,.str a,.str b]
 | .jn _ g a b=>[.str g,.str a,.str b]
 | .mv _ g a j=>[.str g,.str a,.int j]
 | .pick g y a b=>[.str g,.str y,.str a,.str b]
 | .mark n m y=>[.int n,.str m,.str y]
def Rw.ok (w:Int):Rw->Prop
 | .set g b=>Rg g/\0<=b/\b < 2 ^ w.toNat
 | .copy g a=>Rg g/\Rg a
 | .car k g c a b=>(k = 2\/k = 3)/\Rg g/\(∀ z,c = some z->Rg z)/\Rg a/\Rg b
 | .jn k g a b=>(k = 4\/k = 5\/k = 9\/k = 10\/k = 11\/k = 12)/\Rg g/\Rg a/\Rg b
 | .mv k g a j=>(k = 6\/k = 7\/k = 8)/\Rg g/\Rg a/\0<=j/\j < w
 | .pick g y a b=>Rg g/\Rg y/\Rg a/\Rg b
 | .mark n m y=>0<=n/\n<=9999/\(m = "round"\/m = "stop"\/m = "nothing")/\Rg y
theorem Rw.k15 {w:Int} {r:Rw} (h:r.ok w):r.k < 15:=by
 cases r <;> simp only [Rw.ok] at h <;> simp only [Rw.k] <;> lia
theorem pow_mono {a b:Int} (h:a<=b):(2:Int) ^ a.toNat<=2 ^ b.toNat:=by
 have:(2:Nat) ^ a.toNat<=2 ^ b.toNat:=Nat.pow_le_pow_right (by decide) (by lia)
 exact_mod_cast this
structure Wd (w:Int) (kvs:List (Key × V)):Prop where
 it:∀ kv ∈ kvs,∃ (z:Str) (i:Int),kv = (.inr z,.int i)/\Rg z/\0<=i/\i < 2 ^ w.toNat
 ln:kvs.length<=20
theorem Wd.get {w:Int} {kvs:List (Key × V)} (h:Wd w kvs) (z:Str):(dG kvs (.inr z)).getD (.int 0) = .int (gI kvs z)/\0<=gI kvs z/\gI kvs z < 2 ^ w.toNat:=by
 unfold gI
 cases e:dG kvs (.inr z) with
 | none=>exact ⟨rfl,Int.le_refl _,Int.pow_pos (by decide)⟩
 | some v =>
  obtain ⟨z',i,e',_,i0,i1⟩:=h.it _ (fi e)
  cases e'
  exact ⟨rfl,i0,i1⟩
theorem putK_mem {kvs:List (Key × V)} {k:Key} {v:V} {p:Key × V} (h:p ∈ fk kvs k v):p ∈ kvs\/p = (k,v):=by
 unfold fk at h
 split at h
 ·obtain ⟨q,hq,e⟩:=List.mem_map.mp h
  split at e
  ·rename_i c
   exact .inr (by rw [<- e,c])
  ·exact .inl (by rw [<- e]; exact hq)
 ·rcases List.mem_append.mp h with h | h
  ·exact .inl h
  ·exact .inr (List.mem_singleton.mp h)
theorem Wd.ints {w:Int} {kvs:List (Key × V)} (h:Wd w kvs):IntD kvs:=fun kv hk=>let ⟨_,i,e,_⟩:=h.it kv hk; ⟨i,by rw [e]⟩
def jnV (w:Int) (k:Nat) (a b:Int):Int:=if k = 4 then a * b % (1 * 2 ^ w.toNat) else if k = 5 then a * b / 2 ^ w.toNat else if k = 9 then Builtin.bitAnd a b else if k = 10 then Builtin.bitOr a b else if k = 11 then Builtin.bitXor a b else if a < b then 1 else 0
def cr0 (w:Int) (k:Nat) (a b:Int):Int:=if k = 2 then (a + b) % (1 * 2 ^ w.toNat) else (a - b) % (1 * 2 ^ w.toNat)
def cr1 (w:Int) (k:Nat) (a b:Int):Int:=if k = 2 then (a + b) / 2 ^ w.toNat else if a < b then 1 else 0
def mvV (w:Int) (k:Nat) (a j:Int):Int:=if k = 6 then (a * 2 ^ j.toNat) % (1 * 2 ^ w.toNat) else if k = 7 then a / 2 ^ j.toNat else (cnt w a / 2 ^ j.toNat) % (1 * 2 ^ w.toNat)
def stK (kvs:List (Key × V)) (z:Str) (i:Int):List (Key × V):=fk kvs (.inr z) (.int i)
def Rw.act (w:Int) (kvs:List (Key × V)):Rw->List (Key × V)
 | .set g b=>stK kvs g b
 | .copy g a=>stK kvs g (gI kvs a)
 | .car k g c a b=>match c with
  | none=>stK kvs g (cr0 w k (gI kvs a) (gI kvs b))
  | some z=>stK (stK kvs g (cr0 w k (gI kvs a) (gI kvs b))) z (cr1 w k (gI kvs a) (gI kvs b))
 | .jn k g a b=>stK kvs g (jnV w k (gI kvs a) (gI kvs b))
 | .mv k g a j=>stK kvs g (mvV w k (gI kvs a) j)
 | .pick g y a b=>stK kvs g (gI kvs (if gI kvs y ≠ 0 then a else b))
 | .mark ..=>kvs
def Rw.mk (kvs:List (Key × V)):Rw->Option (V × V)
 | .mark n m y=>if gI kvs y ≠ 0 then some (.int n,.str m) else none
 | _=>none
def Mk1 (H':Hp) (m:Addr) (ms:List V):Option (V × V)->Prop
 | none=>H' m = some (.lst ms)
 | some (a,b)=>∃ t,H' m = some (.lst (ms ++ [.ref t]))/\H' t = some (.tup [a,b])
def bT (c:Ad) (ks:List Nat):Sp:=fun vs H Q _=>∃ (x d m:Addr) (w:Int) (r:Rw) (kvs:List (Key × V)) (ms:List V),vs = [.ref x,.int w,.ref d,.ref m]/\r.k ∈ ks/\StepAt c H x r.k r.fs/\r.ok w/\4<=w/\w<=32/\H d = some (.dK kvs)/\Wd w kvs/\H m = some (.lst ms)/\ms.length<=10000 /\
 ∀ H',H' d = some (.dK (r.act w kvs))->Mk1 H' m ms (r.mk kvs)->(∀ b o,b ≠ d->b ≠ m->H b = some o->H' b = some o)->Q .non H'
def bg (c:Ad) (ks:List Nat):Sp:=fun vs H Q _=>∃ (x:Addr) (w:Int) (r:Rw),vs = [.ref x,.int w]/\r.k ∈ ks/\StepAt c H x r.k r.fs/\r.ok w/\4<=w/\w<=32/\∀ H',Same H H'->Q (.bl true) H'
def rO (k:Nat):Sp:=fun vs H Q _=>∃ (x:V) (w a b:Int),vs = [x,.int w,.int a,.int b]/\4<=w/\w<=32/\∀ t,H t = none->Q (.ref t) (upd H t (.tup [.int (cr0 w k a b),.int (cr1 w k a b)]))
def qw (k:Nat):Sp:=fun vs H Q _=>∃ (x:V) (w a b:Int),vs = [x,.int w,.int a,.int b]/\4<=w/\w<=32/\0<=a/\a < 2 ^ w.toNat/\0<=b/\b < 2 ^ w.toNat/\Q (.int (jnV w k a b)) H
def spMv (c:Ad) (k:Nat):Sp:=fun vs H Q _=>∃ (x:Addr) (w a j:Int) (g y:V),vs = [.ref x,.int w,.int a]/\StepAt c H x k [g,y,.int j]/\4<=w/\w<=32/\0<=a/\a < 2 ^ w.toNat/\0<=j/\j < w/\Q (.int (mvV w k a j)) H
def iC:Sp:=fun vs H Q _=>∃ w i:Int,vs = [.int w,.int i]/\4<=w/\w<=32/\0<=i/\i < 2 ^ w.toNat/\Q (.bl true) H
def i7:Sp:=fun vs H Q _=>∃ (l:Addr) (zs:List Str),vs = [.ref l]/\H l = some (.lst (zs.map V.str))/\zs.length<=10/\(∀ z ∈ zs,Rg z)/\∀ H',Same H H'->Q (.bl true) H'
def cAdd (cf:Nat->Int) (k:Nat) (m:Int):Nat->Int:=fun i=>if i = k then cf i + m else cf i
def bX (cf:Nat->Int):List (Key × V):=(List.range 16).map fun i=>(.inr (wOf i),.int (cf i))
def oR:Sp:=fun vs H Q _=>∃ (d:Addr) (w:Int) (kvs:List (Key × V)),vs = [.int w,.ref d]/\H d = some (.dK kvs)/\Wd w kvs/\4<=w/\w<=32/\∀ H',Same H H'->Q .non H'
theorem wInj {k j:Nat} (hk:k < 16) (hj:j < 16) (h:V.str (wOf k) = V.str (wOf j)):k = j:=by
 have a:∀ k ∈ List.range 16,∀ j ∈ List.range 16,decide (wOf k = wOf j) = decide (k = j):=by decide +kernel
 have:=a k (List.mem_range.mpr hk) j (List.mem_range.mpr hj)
 injection h with h
 rw [decide_eq_true h] at this
 exact of_decide_eq_true this.symm
theorem rn {α:Type} [DecidableEq α]:∀ (l m:List α),l.Nodup->(∀ x ∈ l,x ∈ m)->l.length<=m.length
 | [],_,_,_=>Nat.zero_le _
 | x :: t,m,nd,h=>by
  have hx:=h x (List.mem_cons_self ..)
  have e:=List.length_erase_of_mem hx
  have:=rn t (m.erase x) (List.nodup_cons.mp nd).2 fun y hy=>(List.mem_erase_of_ne (fun z:y = x=>(List.nodup_cons.mp nd).1 (z ▸ hy))).mpr (h y (List.mem_cons_of_mem _ hy))
  have:0 < m.length:=List.length_pos_of_mem hx
  rw [List.length_cons]
  lia
def Rw.inZ (zs:List Str):Rw->Prop
 | .set g _=>g ∈ zs
 | .copy g _=>g ∈ zs
 | .car _ g c _ _=>g ∈ zs/\∀ z,c = some z->z ∈ zs
 | .jn _ g _ _=>g ∈ zs
 | .mv _ g _ _=>g ∈ zs
 | .pick g _ _ _=>g ∈ zs
 | .mark ..=>True
structure Wz (w:Int) (zs:List Str) (kvs:List (Key × V)):Prop where
 it:∀ kv ∈ kvs,∃ (z:Str) (i:Int),kv = (.inr z,.int i)/\z ∈ zs/\0<=i/\i < 2 ^ w.toNat
 nd:(kvs.map (·.1)).Nodup
def ZOk (zs:List Str):Prop:=zs.length<=20/\∀ z ∈ zs,Rg z
theorem Wz.wd {w:Int} {zs:List Str} {kvs:List (Key × V)} (h:Wz w zs kvs) (ok:ZOk zs):Wd w kvs:=by
 refine ⟨fun kv hk=>let ⟨z,i,e,m,i0,i1⟩:=h.it kv hk; ⟨z,i,e,ok.2 z m,i0,i1⟩,?_⟩
 have:=rn (kvs.map (·.1)) (zs.map Sum.inr) h.nd fun x hx=>by
  obtain ⟨kv,hk,rfl⟩:=List.mem_map.mp hx
  obtain ⟨z,i,rfl,m,_⟩:=h.it kv hk
  exact List.mem_map_of_mem m
 rw [List.length_map,List.length_map] at this
 exact Nat.le_trans this ok.1
theorem Wz.nil {w:Int} {zs:List Str}:Wz w zs []:=⟨(fun _ h=>nomatch h),List.nodup_nil⟩
theorem Wz.put {w:Int} {zs:List Str} {kvs:List (Key × V)} (h:Wz w zs kvs) {z:Str} {i:Int} (m:z ∈ zs) (i0:0<=i) (i1:i < 2 ^ w.toNat):Wz w zs (stK kvs z i):=by
 refine ⟨fun kv hk=>?_,?_⟩
 ·rcases putK_mem hk with hm | rfl
  ·exact h.it kv hm
  ·exact ⟨z,i,rfl,m,i0,i1⟩
 ·show ((fk kvs (.inr z) (.int i)).map (·.1)).Nodup
  cases e:dG kvs (.inr z) with
  | none=>exact nd_putK _ h.nd e
  | some v =>
   have:(fk kvs (.inr z) (.int i)).map (·.1) = kvs.map (·.1):=by
    unfold fk
    rw [cX,e]
    show (kvs.map _).map _ = _
    rw [List.map_map]
    refine List.map_congr_left fun kv _=>?_
    show (if kv.1 = Sum.inr z then (kv.1,V.int i) else kv).1 = kv.1
    split <;> rfl
   rw [this]
   exact h.nd
theorem and_rg {w a b:Int} (w0:0<=w) (a0:0<=a) (a1:a < 2 ^ w.toNat) (b0:0<=b) (b1:b < 2 ^ w.toNat):∃ x y:Nat,a = (x:Int)/\b = (y:Int)/\x < 2 ^ w.toNat/\y < 2 ^ w.toNat/\Builtin.bitAnd a b = ((x &&& y:Nat):Int):=by
 obtain ⟨x,rfl⟩:=Int.eq_ofNat_of_zero_le a0
 obtain ⟨y,rfl⟩:=Int.eq_ofNat_of_zero_le b0
 refine ⟨x,y,rfl,rfl,by exact_mod_cast a1,by exact_mod_cast b1,?_⟩
 unfold Builtin.bitAnd
 rw [decide_eq_true a0,decide_eq_true b0]
 rfl
theorem kb (x y:Nat):Builtin.bitOr (x:Int) (y:Int) = ((x ||| y:Nat):Int):=by
 have hx:Builtin.bitNot (x:Int) = -(x:Int) - 1:=rfl
 have hy:Builtin.bitNot (y:Int) = -(y:Int) - 1:=rfl
 unfold Builtin.bitOr Builtin.bitAnd
 rw [hx,hy,decide_eq_false (show ¬ (0:Int)<=-(x:Int) - 1 by lia),decide_eq_false (show ¬ (0:Int)<=-(y:Int) - 1 by lia)]
 show Builtin.bitNot (Builtin.bitNot ((((Builtin.bitNot (-(x:Int) - 1)).toNat ||| (Builtin.bitNot (-(y:Int) - 1)).toNat:Nat)):Int)) = _
 have e1:(Builtin.bitNot (-(x:Int) - 1)).toNat = x:=by show (-(-(x:Int) - 1) - 1).toNat = x; lia
 have e2:(Builtin.bitNot (-(y:Int) - 1)).toNat = y:=by show (-(-(y:Int) - 1) - 1).toNat = y; lia
 rw [e1,e2]
 show -(-((x ||| y:Nat):Int) - 1) - 1 = _
 lia
theorem sV (x y:Nat):x &&& y<=x ||| y:=Nat.le_trans Nat.and_le_left Nat.left_le_or
theorem jn_rg {w:Int} {k:Nat} {a b:Int} (w0:4<=w) (w1:w<=32) (a0:0<=a) (a1:a < 2 ^ w.toNat) (b0:0<=b) (b1:b < 2 ^ w.toNat):0<=jnV w k a b/\jnV w k a b < 2 ^ w.toNat:=by
 have P:=aW w0 w1
 obtain ⟨x,y,ex,ey,x1,y1,e⟩:=and_rg (by lia) a0 a1 b0 b1
 have ox:(x ||| y:Nat) < 2 ^ w.toNat:=Nat.or_lt_two_pow x1 y1
 have oi:((x ||| y:Nat):Int) < 2 ^ w.toNat:=by exact_mod_cast ox
 have al:=sV x y
 unfold jnV
 split
 ·rw [Int.one_mul]
  exact ⟨Int.emod_nonneg _ (by lia),Int.emod_lt_of_pos _ (by lia)⟩
 split
 ·refine ⟨Int.ediv_nonneg (Int.mul_nonneg a0 b0) (by lia),Int.ediv_lt_of_lt_mul (by lia) ?_⟩
  by_cases z:a = 0
  ·rw [z,Int.zero_mul]; exact Int.mul_pos (by lia) (by lia)
  ·exact Int.lt_of_lt_of_le (Int.mul_lt_mul_of_pos_left b1 (show 0 < a by lia)) (Int.mul_le_mul_of_nonneg_right (Int.le_of_lt a1) (by lia))
 split
 ·rw [e]; lia
 split
 ·rw [ex,ey,kb]; lia
 split
 ·unfold Builtin.bitXor
  rw [e,ex,ey,kb]; lia
 split <;> lia
theorem mv_rg {w:Int} {k:Nat} {a j:Int} (w0:4<=w) (w1:w<=32) (a0:0<=a) (a1:a < 2 ^ w.toNat):0<=mvV w k a j/\mvV w k a j < 2 ^ w.toNat:=by
 have P:=aW w0 w1
 unfold mvV
 rw [Int.one_mul]
 split
 ·exact ⟨Int.emod_nonneg _ (by lia),Int.emod_lt_of_pos _ (by lia)⟩
 split
 ·have:=p_pos j.toNat
  exact ⟨Int.ediv_nonneg a0 (by lia),Int.lt_of_le_of_lt (Int.ediv_le_self _ a0) a1⟩
 ·exact ⟨Int.emod_nonneg _ (by lia),Int.emod_lt_of_pos _ (by lia)⟩
theorem cr_rg {w:Int} {k:Nat} {a b:Int} (w0:4<=w) (w1:w<=32) (a0:0<=a) (a1:a < 2 ^ w.toNat) (b0:0<=b) (b1:b < 2 ^ w.toNat):(0<=cr0 w k a b/\cr0 w k a b < 2 ^ w.toNat)/\0<=cr1 w k a b/\cr1 w k a b < 2 ^ w.toNat:=by
 have P:=aW w0 w1
 unfold cr0 cr1
 rw [Int.one_mul]
 refine ⟨?_,?_⟩
 ·split <;> exact ⟨Int.emod_nonneg _ (by lia),Int.emod_lt_of_pos _ (by lia)⟩
 ·split
  ·refine ⟨Int.ediv_nonneg (by lia) (by lia),Int.lt_of_lt_of_le (Int.ediv_lt_of_lt_mul (b:=2) (by lia) (by lia)) (by lia)⟩
  ·split <;> lia
theorem Wz.act {w:Int} {zs:List Str} {kvs:List (Key × V)} {r:Rw} (h:Wz w zs kvs) (ok:ZOk zs) (ro:r.ok w) (rz:r.inZ zs) (w0:4<=w) (w1:w<=32):Wz w zs (r.act w kvs):=by
 have wd:=h.wd ok
 cases r with
 | set g b=>exact h.put rz ro.2.1 ro.2.2
 | copy g a=>exact h.put rz (wd.get a).2.1 (wd.get a).2.2
 | car k g c a b =>
  obtain ⟨⟨x0,x1⟩,y0,y1⟩:=cr_rg (k:=k) w0 w1 (wd.get a).2.1 (wd.get a).2.2 (wd.get b).2.1 (wd.get b).2.2
  cases c with
  | none=>exact h.put rz.1 x0 x1
  | some z=>exact (h.put rz.1 x0 x1).put (rz.2 z rfl) y0 y1
 | jn k g a b =>
  obtain ⟨x0,x1⟩:=jn_rg (k:=k) w0 w1 (wd.get a).2.1 (wd.get a).2.2 (wd.get b).2.1 (wd.get b).2.2
  exact h.put rz x0 x1
 | mv k g a j =>
  obtain ⟨x0,x1⟩:=mv_rg (k:=k) (j:=j) w0 w1 (wd.get a).2.1 (wd.get a).2.2
  exact h.put rz x0 x1
 | pick g y a b=>exact h.put rz (wd.get _).2.1 (wd.get _).2.2
 | mark n m y=>exact h
def ba (w:Int) (kvs:List (Key × V)) (rs:List Rw):List (Key × V):=rs.foldl (fun k r=>r.act w k) kvs
def mkL:Option (V × V)->List (V × V)
 | none=>[]
 | some p=>[p]
def bF (w:Int):List (Key × V)->List Rw->List (V × V)
 | _,[]=>[]
 | kvs,r :: t=>mkL (r.mk kvs) ++ bF w (r.act w kvs) t
theorem hI (w:Int) (kvs:List (Key × V)) (a b:List Rw):ba w kvs (a ++ b) = ba w (ba w kvs a) b:=by unfold ba; rw [List.foldl_append]
theorem gG (w:Int):∀ (kvs:List (Key × V)) (a b:List Rw),bF w kvs (a ++ b) = bF w kvs a ++ bF w (ba w kvs a) b
 | _,[],_=>rfl
 | kvs,r :: t,b=>by
  show mkL (r.mk kvs) ++ bF w (r.act w kvs) (t ++ b) = (mkL (r.mk kvs) ++ bF w (r.act w kvs) t) ++ bF w (ba w (r.act w kvs) t) b
  rw [gG w (r.act w kvs) t b,List.append_assoc]
theorem Wz.all {w:Int} {zs:List Str} {rs:List Rw} (ok:ZOk zs) (hr:∀ r ∈ rs,r.ok w/\r.inZ zs) (w0:4<=w) (w1:w<=32):∀ {kvs:List (Key × V)},Wz w zs kvs->Wz w zs (ba w kvs rs):=by
 induction rs with
 | nil=>intro kvs h; exact h
 | cons r t ih =>
  intro kvs h
  have a:=hr r (List.mem_cons_self ..)
  exact ih (fun q hq=>hr q (List.mem_cons_of_mem _ hq)) (h.act ok a.1 a.2 w0 w1)
theorem mkL_len (o:Option (V × V)):(mkL o).length<=1:=by cases o with
 | none=>exact Nat.zero_le _
 | some p=>exact Nat.le_refl _
theorem gw (w:Int):∀ (rs:List Rw) (kvs:List (Key × V)),(bF w kvs rs).length<=rs.length
 | [],_=>Nat.le_refl _
 | r :: t,kvs=>by
  have:=gw w t (r.act w kvs)
  have:=mkL_len (r.mk kvs)
  show (mkL (r.mk kvs) ++ bF w (r.act w kvs) t).length<=t.length + 1
  rw [List.length_append]
  lia
theorem MHas.mono {P:Program} {w:World} {K:Frag} {mg:Str->Option Value} {base:Heap} {j k:Nat} {C:Addr} {m:Str} {ps:List Str} {sp:Sp} (h:MHas P w K mg base j C m ps sp) (i:j<=k):MHas P w K mg base k C m ps sp:=let ⟨f,fd,a,o,b⟩:=h.ex; ⟨h.cl,f,fd,a,o.mono i,b⟩
theorem MHas.imp {P:Program} {w:World} {K:Frag} {mg:Str->Option Value} {base:Heap} {k:Nat} {C:Addr} {m:Str} {ps:List Str} {sp sp':Sp} (h:MHas P w K mg base k C m ps sp) (i:∀ vs H Q E,sp' vs H Q E->sp vs H Q E):MHas P w K mg base k C m ps sp':=let ⟨f,fd,a,o,b⟩:=h.ex; ⟨h.cl,f,fd,a,o.imp i,b⟩
theorem aO {c:Ad} {ks:List Nat} {k:Nat} {vs:List V} {H:Hp} {Q:VK} {E:XK} (hk:k ∈ ks) (h:bj c [k] vs H Q E):bj c ks vs H Q E:=by
 obtain ⟨x,k',fs,e,m,st,q⟩:=h
 rw [List.mem_singleton.mp m] at st q
 exact ⟨x,k,fs,e,hk,st,q⟩
def PrsAt (H:Hp) (xs:List V) (ps:List (V × V)):Prop:=xs.length = ps.length/\∀ (j:Nat) x p,xs[j]? = some x->ps[j]? = some p->∃ a,x = .ref a/\H a = some (.tup [p.1,p.2])
theorem PrsAt.same {H H':Hp} {xs:List V} {ps:List (V × V)} (h:PrsAt H xs ps) (s:∀ a xs,H a = some (.tup xs)->H' a = some (.tup xs)):PrsAt H' xs ps:=⟨h.1,fun j x p e1 e2=>let ⟨a,e,t⟩:=h.2 j x p e1 e2; ⟨a,e,s _ _ t⟩⟩
theorem PrsAt.nil {H:Hp}:PrsAt H [] []:=⟨rfl,fun j x p e=>by simp at e⟩
theorem PrsAt.app {H:Hp} {xs ys:List V} {ps qs:List (V × V)} (h:PrsAt H xs ps) (g:PrsAt H ys qs):PrsAt H (xs ++ ys) (ps ++ qs):=by
 refine ⟨by rw [List.length_append,List.length_append,h.1,g.1],fun i y q e1 e2=>?_⟩
 by_cases hi:i < xs.length
 ·rw [List.getElem?_append_left hi] at e1
  rw [List.getElem?_append_left (by rw [<- h.1]; exact hi)] at e2
  exact h.2 i y q e1 e2
 ·rw [List.getElem?_append_right (by lia)] at e1
  rw [List.getElem?_append_right (by rw [<- h.1]; lia),<- h.1] at e2
  exact g.2 _ y q e1 e2
theorem PrsAt.one {H:Hp} {a:Addr} {p:V × V} (t:H a = some (.tup [p.1,p.2])):PrsAt H [.ref a] [p]:=⟨rfl,fun i y q e1 e2=>by
 match i,e1,e2 with
 | 0,e1,e2=>cases e1; cases e2; exact ⟨a,rfl,t⟩⟩
theorem Mk1.prs {H':Hp} {m:Addr} {ms:List V} {ps:List (V × V)} {o:Option (V × V)} (h:Mk1 H' m ms o) (p:PrsAt H' ms ps):∃ ms',H' m = some (.lst ms')/\PrsAt H' ms' (ps ++ mkL o):=by
 cases o with
 | none=>exact ⟨ms,h,by rw [show mkL none = [] from rfl,List.append_nil]; exact p⟩
 | some q=>obtain ⟨t,h1,h2⟩:=h; exact ⟨_,h1,p.app (PrsAt.one h2)⟩
theorem cp {α:Type} {l:List α} {j:Nat} {x:α} (h:l[j]? = some x):l.take (j + 1) = l.take j ++ [x]:=by rw [List.take_add_one,h]; rfl
inductive TS (α:Type) where
 | row (r:Rw)
 | turns (n:Nat) (ts:List α)
def Tr:Nat->Type
 | 0=>Empty
 | d + 1=>TS (Tr d)
theorem tr0 {ts:List (Tr 0)}:ts = []:=by
 cases ts with
 | nil=>rfl
 | cons t _=>exact Empty.elim t
def TS.ev {α:Type} (f:α->List (Option Rw)):TS α->List (Option Rw)
 | .row r=>[some r]
 | .turns n ts=>(List.replicate n (none :: ts.flatMap f)).flatten
def evs:(d:Nat)->Tr d->List (Option Rw)
 | 0=>fun (e:Empty)=>e.elim
 | d + 1=>TS.ev (evs d)
def evL (d:Nat) (ts:List (Tr d)):List (Option Rw):=ts.flatMap (evs d)
def L2A {α:Type} (f:Addr->α->Prop) (xs:List V) (ts:List α):Prop:=xs.length = ts.length/\∀ (i:Nat) x t,xs[i]? = some x->ts[i]? = some t->∃ a,x = .ref a/\f a t
theorem L2A.mono {α:Type} {f g:Addr->α->Prop} {xs:List V} {ts:List α} (h:L2A f xs ts) (m:∀ a t,t ∈ ts->f a t->g a t):L2A g xs ts:=⟨h.1,fun i x t e1 e2=>let ⟨a,e,k⟩:=h.2 i x t e1 e2; ⟨a,e,m a t (List.mem_of_getElem? e2) k⟩⟩
theorem L2A.nil {α:Type} {f:Addr->α->Prop}:L2A f [] []:=⟨rfl,fun i x t e=>by simp at e⟩
theorem L2A.app {α:Type} {f:Addr->α->Prop} {xs ys:List V} {ts us:List α} (h:L2A f xs ts) (g:L2A f ys us):L2A f (xs ++ ys) (ts ++ us):=by
 refine ⟨by rw [List.length_append,List.length_append,h.1,g.1],fun i y q e1 e2=>?_⟩
 by_cases hi:i < xs.length
 ·rw [List.getElem?_append_left hi] at e1
  rw [List.getElem?_append_left (by rw [<- h.1]; exact hi)] at e2
  exact h.2 i y q e1 e2
 ·rw [List.getElem?_append_right (by lia)] at e1
  rw [List.getElem?_append_right (by rw [<- h.1]; lia),<- h.1] at e2
  exact g.2 _ y q e1 e2
theorem L2A.one {α:Type} {f:Addr->α->Prop} {a:Addr} {t:α} (h:f a t):L2A f [.ref a] [t]:=⟨rfl,fun i y q e1 e2=>by
 match i,e1,e2 with
 | 0,e1,e2=>cases e1; cases e2; exact ⟨a,rfl,h⟩⟩
theorem L2A.get {α:Type} {f:Addr->α->Prop} {xs:List V} {ts:List α} (h:L2A f xs ts) {j:Nat} {v:V} (hv:xs[j]? = some v):∃ (a:Addr) (t:α),v = .ref a/\ts[j]? = some t/\f a t:=by
 have jl:=(List.getElem?_eq_some_iff.mp hv).1
 have er:ts[j]? = some (ts[j]'(by rw [<- h.1]; exact jl)):=List.getElem?_eq_getElem _
 obtain ⟨a,e,k⟩:=h.2 j v _ hv er
 exact ⟨a,_,e,er,k⟩
def TS.st {α:Type} (c:Ad) (H:Hp) (f:Addr->α->Prop) (x:Addr):TS α->Prop
 | .row r=>StepAt c H x r.k r.fs
 | .turns n ts=>∃ xs,d6 c H x (.int (n:Int)) xs/\L2A f xs ts
def StT (c:Ad) (H:Hp):(d:Nat)->Addr->Tr d->Prop
 | 0=>fun _ (e:Empty)=>e.elim
 | d + 1=>TS.st c H (StT c H d)
def TS.okk {α:Type} (w:Int) (zs:List Str) (f:α->Prop):TS α->Prop
 | .row r=>r.ok w/\r.inZ zs
 | .turns n ts=>1<=n/\n<=64/\ts ≠ []/\ts.length<=100/\∀ t ∈ ts,f t
def TOk (w:Int) (zs:List Str):(d:Nat)->Tr d->Prop
 | 0=>fun (e:Empty)=>e.elim
 | d + 1=>TS.okk w zs (TOk w zs d)
theorem StT.same {c:Ad} {H H':Hp} (s:Same H H'):∀ {d:Nat} {x:Addr} {t:Tr d},StT c H d x t->StT c H' d x t
 | 0,_,t,_=>Empty.elim t
 | d + 1,x,t,h=>by
  have h':TS.st c H (StT c H d) x t:=h
  show TS.st c H' (StT c H' d) x t
  revert h'
  cases (show TS (Tr d) from t) with
  | row r=>exact fun h=>StepAt.same h s
  | turns n ts=>exact fun ⟨xs,⟨dx,l,e,f⟩,g⟩=>⟨xs,⟨dx,l,s _ _ e,s _ _ f⟩,g.mono fun _ _ _ k=>StT.same s k⟩
def rws (es:List (Option Rw)):List Rw:=es.filterMap id
theorem dO (a b:List (Option Rw)):rws (a ++ b) = rws a ++ rws b:=List.filterMap_append ..
theorem oJ (es:List (Option Rw)):(rws es).length<=es.length:=List.length_filterMap_le ..
def kOf:Option Rw->Nat
 | none=>15
 | some r=>r.k
def cC (es:List (Option Rw)) (i:Nat):Nat:=es.countP fun e=>kOf e == i
theorem i9 (a b:List (Option Rw)) (i:Nat):cC (a ++ b) i = cC a i + cC b i:=List.countP_append ..
theorem qC (E:List (Option Rw)) (i:Nat):∀ n,cC (List.replicate n E).flatten i = n * cC E i
 | 0=>by rw [Nat.zero_mul]; rfl
 | n + 1=>by rw [List.replicate_succ,List.flatten_cons,i9,qC E i n,Nat.succ_mul,Nat.add_comm]
theorem ph (e:Option Rw) (i:Nat):cC [e] i = if i = kOf e then 1 else 0:=by
 unfold cC
 rw [List.countP_cons,List.countP_nil]
 by_cases h:i = kOf e
 ·rw [if_pos h,h,if_pos (beq_self_eq_true _)]
 ·rw [if_neg h,if_neg (by simpa using fun z=>h z.symm)]
def kc (cf:Nat->Int) (m:Int) (es:List (Option Rw)):Nat->Int:=fun i=>cf i + m * (cC es i:Int)
theorem pB (cf:Nat->Int) (m:Int):kc cf m [] = cf:=funext fun i=>by show cf i + m * ((0:Nat):Int) = cf i; lia
theorem oX (cf:Nat->Int) (m:Int) (a b:List (Option Rw)):kc cf m (a ++ b) = kc (kc cf m a) m b:=funext fun i=>by
 show cf i + m * (cC (a ++ b) i:Int) = cf i + m * (cC a i:Int) + m * (cC b i:Int)
 rw [i9]; push_cast; rw [Int.mul_add]; lia
theorem pC (cf:Nat->Int) (m:Int) (e:Option Rw):kc cf m [e] = cAdd cf (kOf e) m:=funext fun i=>by
 show cf i + m * (cC [e] i:Int) = if i = kOf e then cf i + m else cf i
 rw [ph]
 split
 ·show cf i + m * ((1:Nat):Int) = _; lia
 ·show cf i + m * ((0:Nat):Int) = _; lia
theorem pV (cf:Nat->Int) (m:Int) (n:Nat) (E:List (Option Rw)):kc cf m (List.replicate n (none :: E)).flatten = kc (cAdd cf 15 (m * n)) (m * n) E:=funext fun i=>by
 show cf i + m * (cC (List.replicate n (none :: E)).flatten i:Int) = (if i = 15 then cf i + m * n else cf i) + m * n * (cC E i:Int)
 rw [qC,show none :: E = [none] ++ E from rfl,i9,ph]
 show cf i + m * ((n * ((if i = 15 then 1 else 0) + cC E i):Nat):Int) = _
 push_cast
 by_cases h:i = 15
 ·rw [if_pos h,if_pos h,<- Int.mul_assoc,Int.mul_add]; lia
 ·rw [if_neg h,if_neg h,<- Int.mul_assoc,Int.mul_add]; lia
theorem gs {d:Nat} {ts:List (Tr d)} {j:Nat} {t:Tr d} (h:ts[j]? = some t):evL d (ts.take (j + 1)) = evL d (ts.take j) ++ evs d t:=by
 unfold evL
 rw [cp h,List.flatMap_append]
 show _ ++ (evs d t ++ []) = _
 rw [List.append_nil]
def spN (sp:Nat->Sp):Nat->Sp
 | 0=>fun _ _ _ _=>False
 | d + 1=>sp (d + 1)
theorem FnOk.void {P:Program} {w:World} {K:Frag} {mg:Str->Option Value} {base:Heap} {CX:CXT} {k:Nat} {f:Addr} {fd:FuncData} {ps:List Str}:FnOk P w K mg base CX k f fd ps (fun _ _ _ _=>False):=⟨fun _ _ _ _ h=>h.elim,fun _ _ _ _ _ _ _ _ _ _ _ _ _ h=>h.elim⟩
def kJ (c:Ad):Sp:=fun vs H Q _=>∃ (x:Addr) (w:Int) (n:Nat) (xs:List V),vs = [.ref x,.int w]/\d6 c H x (.int (n:Int)) xs/\1<=n/\n<=64/\xs ≠ []/\∀ H',Same H H'->Q (.bl true) H'
def lh (c:Ad):Sp:=fun vs H Q _=>∃ (d:Nat) (x:Addr) (w a:Int) (zs:List Str) (t:TS (Tr d)),vs = [.int w,.ref x,.int a]/\StT c H (d + 1) x t/\TOk w zs (d + 1) t/\4<=w/\w<=32/\0<=a/\a + d<=5/\∀ H',Same H H'->Q (.bl true) H'
def gr (c:Ad) (d:Nat):Sp:=fun vs H Q _=>∃ (l:Addr) (w p a:Int) (zs:List Str) (xs:List V) (ts:List (Tr d)),vs = [.int w,.ref l,.int p,.int a]/\H l = some (.lst xs)/\L2A (StT c H d) xs ts/\(∀ t ∈ ts,TOk w zs d t)/\4<=w/\w<=32/\0<=a/\a + d<=6/\∀ (i:Int) H',Same H H'->Q (.int i) H'
def gC (c:Ad) (d:Nat):Sp:=fun vs H Q _=>∃ (Hs:Hp) (l dd:Addr) (m w:Int) (zs:List Str) (xs:List V) (ts:List (Tr d)) (cf:Nat->Int),vs = [.ref l,.int m,.ref dd]/\Hs l = some (.lst xs)/\L2A (StT c Hs d) xs ts/\(∀ t ∈ ts,TOk w zs d t)/\Same Hs H/\Hs dd = none/\H dd = some (.dK (bX cf))/\∀ H',H' dd = some (.dK (bX (kc cf m (evL d ts))))->SameX dd H H'->Q .non H'
def iY (c:Ad):Sp:=fun vs H Q _=>∃ (l:Addr) (w:Int) (zs:List Str) (xs:List V) (ts:List (Tr 6)),vs = [.int w,.ref l]/\H l = some (.lst xs)/\L2A (StT c H 6) xs ts/\(∀ t ∈ ts,TOk w zs 6 t)/\(evL 6 ts).length<=10000/\4<=w/\w<=32/\∀ (dd:Addr) H',H dd = none->H' dd = some (.dK (bX (kc (fun _=>0) 1 (evL 6 ts))))->Same H H'->Q (.ref dd) H'
def lF (c:Ad):Sp:=fun vs H Q _=>∃ (l:Addr) (w:Int) (zs:List Str) (xs:List V) (ts:List (Tr 6)),vs = [.int w,.ref l]/\H l = some (.lst xs)/\L2A (StT c H 6) xs ts/\(∀ t ∈ ts,TOk w zs 6 t)/\(evL 6 ts).length<=10000/\4<=w/\w<=32/\∀ H',Same H H'->Q (.int ((evL 6 ts).length:Nat)) H'
def pc (c:Ad):Sp:=fun vs H Q _=>∃ (l d:Addr) (w:Int) (zs:List Str) (xs:List V) (ts:List (Tr 6)) (kvs:List (Key × V)),vs = [.int w,.ref l,.ref d]/\H l = some (.lst xs)/\L2A (StT c H 6) xs ts/\(∀ t ∈ ts,TOk w zs 6 t)/\(evL 6 ts).length<=10000/\ZOk zs/\4<=w/\w<=32/\H d = some (.dK kvs)/\Wz w zs kvs /\
 ∀ (t dw m cn:Addr) (ms:List V) H',H' t = some (.tup [.ref dw,.ref m,.ref cn])->H' dw = some (.dK (ba w kvs (rws (evL 6 ts))))->H' m = some (.lst ms)->PrsAt H' ms (bF w kvs (rws (evL 6 ts)))->H' cn = some (.dK (bX (kc (fun _=>0) 1 (evL 6 ts))))->H dw = none->H m = none->H cn = none->Same H H'->Q (.ref t) H'
def kg (c:Ad) (d:Nat):Sp:=fun vs H Q _=>∃ (Hs:Hp) (x dd m:Addr) (w:Int) (n:Nat) (zs:List Str) (xs:List V) (ts:List (Tr d)) (kvs:List (Key × V)) (ms:List V) (ps:List (V × V)),vs = [.ref x,.int w,.ref dd,.ref m]/\d6 c Hs x (.int (n:Int)) xs/\L2A (StT c Hs d) xs ts/\n<=64/\(∀ t ∈ ts,TOk w zs d t)/\Same Hs H/\Hs dd = none/\Hs m = none/\ZOk zs/\4<=w/\w<=32/\H dd = some (.dK kvs)/\Wz w zs kvs/\H m = some (.lst ms)/\PrsAt H ms ps/\ps.length + n * (evL d ts).length<=10000 /\
 ∀ ms' H',H' dd = some (.dK (ba w kvs (rws (TS.ev (evs d) (.turns n ts)))))->H' m = some (.lst ms')->PrsAt H' ms' (ps ++ bF w kvs (rws (TS.ev (evs d) (.turns n ts))))->(∀ b o,b ≠ dd->b ≠ m->H b = some o->H' b = some o)->Q .non H'
open PySem.NumText (AllDigits digitsVal)
theorem ng:∀ (cs:List Nat) (a:Nat),cs.foldl (fun acc c=>acc * 10 + (c - 48)) a = a * 10 ^ cs.length + digitsVal cs
 | [],a=>by simp [digitsVal]
 | c :: cs,a=>by
  show cs.foldl _ (a * 10 + (c - 48)) = a * 10 ^ (cs.length + 1) + cs.foldl _ (0 * 10 + (c - 48))
  rw [ng cs (a * 10 + (c - 48)),ng cs (0 * 10 + (c - 48)),Nat.zero_mul,Nat.zero_add,Nat.add_mul,Nat.pow_succ,Nat.mul_assoc a 10,Nat.mul_comm 10 (10 ^ cs.length)]
  lia
theorem dv_cons (c:Nat) (cs:List Nat):digitsVal (c :: cs) = (c - 48) * 10 ^ cs.length + digitsVal cs:=by
 show cs.foldl _ (0 * 10 + (c - 48)) = _
 rw [ng,Nat.zero_mul,Nat.zero_add]
theorem dv_lt:∀ {cs:List Nat},AllDigits cs->digitsVal cs < 10 ^ cs.length
 | [],_=>by decide
 | c :: cs,h=>by
  have:=dv_lt h.tail
  have hc:=h.head
  rw [dv_cons,List.length_cons,Nat.pow_succ]
  have:(c - 48) * 10 ^ cs.length<=9 * 10 ^ cs.length:=Nat.mul_le_mul_right _ (by lia)
  lia
def oI:Option Int->V
 | some v=>.int v
 | none=>.non
theorem find_dig (ch:Nat):Txt.find (Str.ofString "0123456789") ⟨#[ch]⟩ = if 48<=ch/\ch<=57 then ((ch - 48:Nat):Int) else -1:=by
 by_cases c:48<=ch/\ch<=57
 ·rw [if_pos c]
  have a:∀ d ∈ List.range 58,48<=d->Txt.find (Str.ofString "0123456789") ⟨#[d]⟩ = ((d - 48:Nat):Int):=by decide +kernel
  exact a ch (List.mem_range.mpr (by lia)) c.1
 ·rw [if_neg c]
  have f:=PySem.StrLaws.found_one (Str.ofString "0123456789") ch
  rw [decide_eq_false (fun m=>c ?_)] at f
  ·unfold Txt.find
   cases e:Builtin.Str.occurrences (Str.ofString "0123456789") ⟨#[ch]⟩ 0 (Str.ofString "0123456789").length 1 with
   | nil=>rfl
   | cons a r=>rw [e] at f; cases f
  ·have a:∀ d ∈ (Str.ofString "0123456789").cps.toList,48<=d/\d<=57:=by decide +kernel
   exact a ch m
theorem jq (z:Str):z.cps.toList.length = z.length:=Array.length_toList
def rF:Sp:=fun vs H Q _=>∃ z:Str,vs = [.str z]/\z.length<=43/\∀ o:Option Int,(PySem.NumText.AllDigits z.cps.toList->o = some ((digitsVal z.cps.toList:Nat):Int))->(∀ n,o = some n->0<=n/\n < 10 ^ 43)->Q (oI o) H
def Num (z:Str):Prop:=PySem.NumText.AllDigits z.cps.toList/\1<=z.length/\z.length<=10/\(z.cps[0]? = some 48->z = "0")
def nV (z:Str):Int:=((digitsVal z.cps.toList:Nat):Int)
def rq:Sp:=fun vs H Q _=>∃ z:Str,vs = [.str z,.int 10]/\Num z/\Q (.int (nV z)) H
def pM:Sp:=fun vs H Q _=>∃ (z:Str) (lo hi:Int),vs = [.str z,.int lo,.int hi]/\Num z/\Q (if lo<=nV z/\nV z<=hi then .int (nV z) else .non) H
def tt (n:Nat):Str:=Str.ofString (toString n)
def TtOk (n:Nat):Bool:=(tt n).cps.toList.all (fun c=>decide (48<=c/\c<=57)) && decide (1<=(tt n).length) && decide ((tt n).length<=3) && (decide ((tt n).cps[0]? ≠ some 48) || decide (tt n = "0")) && decide (digitsVal (tt n).cps.toList = n)
theorem tt_all:(List.range 70).all TtOk = true:=by decide +kernel
theorem tt_of {n:Nat} (h:n < 70):Num (tt n)/\nV (tt n) = n/\(∀ c ∈ (tt n).cps.toList,48<=c/\c<=57)/\(tt n).length<=3:=by
 have a:=List.all_eq_true.mp tt_all n (List.mem_range.mpr h)
 unfold TtOk at a
 simp only [Bool.and_eq_true,Bool.or_eq_true,decide_eq_true_eq,List.all_eq_true] at a
 obtain ⟨⟨⟨⟨a1,a2⟩,a3⟩,a4⟩,a5⟩:=a
 refine ⟨⟨a1,a2,by lia,fun z=>?_⟩,by unfold nV; rw [a5],a1,a3⟩
 rcases a4 with h | h
 ·exact absurd z h
 ·exact h
def fX:V->Str
 | .str z=>z
 | .int n=>tt n.toNat
 | _=>"-"
def Wd1 (z:Str):Prop:=32 ∉ z.cps.toList/\10 ∉ z.cps.toList/\z.length<=8
def FvOk (v:V):Prop:=v = .non\/(∃ n:Nat,v = .int (n:Int)/\n < 70)\/∃ z,v = .str z/\Wd1 z/\z ≠ "-"
theorem fX_wd {v:V} (h:FvOk v):Wd1 (fX v):=by
 rcases h with rfl | ⟨n,rfl,hn⟩ | ⟨z,rfl,w,_⟩
 ·unfold Wd1; decide +kernel
 ·obtain ⟨_,_,d,l⟩:=tt_of hn
  show Wd1 (tt ((n:Int)).toNat)
  rw [Int.toNat_natCast]
  exact ⟨fun m=>by have:=d _ m; lia,fun m=>by have:=d _ m; lia,by lia⟩
 ·exact w
theorem pO:∀ k,k < 16->Wd1 (wOf k)/\wOf k ≠ "end":=by
 have:(List.range 16).all (fun k=>decide (32 ∉ (wOf k).cps.toList) && decide (10 ∉ (wOf k).cps.toList) && decide ((wOf k).length<=8) && decide (wOf k ≠ "end")) = true:=by decide +kernel
 intro k hk
 have a:=List.all_eq_true.mp this k (List.mem_range.mpr hk)
 simp only [Bool.and_eq_true,decide_eq_true_eq] at a
 exact ⟨⟨a.1.1.1,a.1.1.2,a.1.2⟩,a.2⟩
theorem wOf_fv {k:Nat} (h:k < 16):FvOk (.str (wOf k)):=by
 have a:(List.range 16).all (fun k=>decide (wOf k ≠ "-")) = true:=by decide +kernel
 exact .inr (.inr ⟨_,rfl,(pO k h).1,of_decide_eq_true (List.all_eq_true.mp a k (List.mem_range.mpr h))⟩)
def Rw.tx (r:Rw):Prop:=∀ v ∈ r.fs,FvOk v
def rQ (r:Rw):List Str:=wOf r.k :: r.fs.map fX
inductive Ln where
 | row (r:Rw)
 | turns (n:Nat)
 | fin
def Ln.ws:Ln->List Str
 | .row r=>rQ r
 | .turns n=>["turns",tt n]
 | .fin=>["end"]
def SPc:Str:=⟨#[32]⟩
def NLc:Str:=⟨#[10]⟩
def Ln.tx (l:Ln):Str:=Txt.join SPc l.ws
def Ln.ok:Ln->Prop
 | .row r=>r.ok 32/\r.tx
 | .turns n=>1<=n/\n<=64
 | .fin=>True
theorem Ln.wd {l:Ln} (h:l.ok):∀ z ∈ l.ws,Wd1 z:=by
 cases l with
 | row r =>
  intro z hz
  rcases List.mem_cons.mp hz with rfl | hz
  ·exact (pO _ (by have:=Rw.k15 h.1; lia)).1
  ·obtain ⟨v,hv,rfl⟩:=List.mem_map.mp hz
   exact fX_wd (h.2 v hv)
 | turns n =>
  intro z hz
  rcases List.mem_cons.mp hz with rfl | hz
  ·exact (pO 15 (by decide)).1
  ·cases List.mem_singleton.mp hz
   have:=fX_wd (v:=.int (n:Int)) (.inr (.inl ⟨n,rfl,by have:=h.2; lia⟩))
   rwa [show fX (.int (n:Int)) = tt n from rfl] at this
 | fin =>
  intro z hz
  cases List.mem_singleton.mp hz
  unfold Wd1; decide +kernel
theorem Ln.ne {l:Ln}:l.ws ≠ []:=by cases l <;> exact nofun
theorem Ln.len {l:Ln} (h:l.ok):l.ws.length<=5:=by
 cases l with
 | row r =>
  show (r.fs.map fX).length + 1<=5
  rw [List.length_map]
  cases r <;> simp [Rw.fs]
 | turns n=>show 2<=5; decide
 | fin=>show 1<=5; decide
theorem pD {s:Str} {n:Nat}:∀ {ps:List Str},n ∈ (Str.join s ps).cps.toList->n ∈ s.cps.toList\/∃ p ∈ ps,n ∈ p.cps.toList
 | [],h=>absurd h (by show n ∉ (#[]:Array Nat).toList; simp)
 | [p],h=>.inr ⟨p,List.mem_cons_self ..,h⟩
 | y :: z :: r,h=>by
  rw [cH] at h
  rcases List.mem_append.mp h with h | h
  ·exact .inr ⟨y,List.mem_cons_self ..,h⟩
  ·rcases List.mem_append.mp h with h | h
   ·exact .inl h
   ·rcases pD h with h | ⟨p,hp,h⟩
    ·exact .inl h
    ·exact .inr ⟨p,List.mem_cons_of_mem _ hp,h⟩
theorem lD (s:Str) (ps:List Str):Txt.join s ps = Str.join s ps:=PySem.StrLaws.glued_eq_join _ _
theorem ld {s:Str} (hs:s.length = 1):∀ {ps:List Str} {k:Nat},(∀ p ∈ ps,p.length<=k)->(Str.join s ps).length<=ps.length * (k + 1)
 | [],_,_=>Nat.zero_le _
 | [p],k,h=>by have:=h p (List.mem_cons_self ..); show p.length<=1 * (k + 1); lia
 | y :: z :: r,k,h=>by
  have h1:=h y (List.mem_cons_self ..)
  have h2:=ld hs (ps:=z :: r) (k:=k) fun p hp=>h p (List.mem_cons_of_mem _ hp)
  have e:(Str.join s (y :: z :: r)).length = y.length + (1 + (Str.join s (z :: r)).length):=by
   have e:=congrArg List.length (cH s y z r)
   rw [List.length_append,List.length_append,jq,jq,jq,jq,hs] at e
   exact e
  rw [e]
  simp only [List.length_cons] at h2 ⊢
  have:(r.length + 1 + 1) * (k + 1) = (r.length + 1) * (k + 1) + (k + 1):=Nat.succ_mul _ _
  lia
theorem Ln.free {l:Ln} (h:l.ok):10 ∉ l.tx.cps.toList:=fun m=>by
 unfold Ln.tx at m
 rw [lD] at m
 rcases pD m with m | ⟨p,hp,m⟩
 ·exact absurd m (by decide)
 ·exact (Ln.wd h p hp).2.1 m
theorem Ln.len9 {l:Ln} (h:l.ok):l.tx.length<=45:=by
 have:=ld (s:=SPc) rfl (ps:=l.ws) (k:=8) fun p hp=>(Ln.wd h p hp).2.2
 unfold Ln.tx
 rw [lD]
 have:=Ln.len h
 lia
theorem Ln.split {l:Ln} (h:l.ok):Txt.split l.tx SPc = l.ws:=gT Ln.ne fun p hp=>(Ln.wd h p hp).1
def txs (ls:List Ln):Str:=Txt.join NLc (ls.map Ln.tx)
theorem mj {ls:List Ln} (ne:ls ≠ []) (h:∀ l ∈ ls,l.ok):Txt.split (txs ls) NLc = ls.map Ln.tx:=gT (fun z=>ne (List.map_eq_nil_iff.mp z)) fun p hp=>by
 obtain ⟨l,hl,rfl⟩:=List.mem_map.mp hp
 exact Ln.free (h l hl)
theorem txs_len {ls:List Ln} (h:∀ l ∈ ls,l.ok):(txs ls).length<=ls.length * 46:=by
 have:=ld (s:=NLc) rfl (ps:=ls.map Ln.tx) (k:=45) fun p hp=>by
  obtain ⟨l,hl,rfl⟩:=List.mem_map.mp hp
  exact Ln.len9 (h l hl)
 unfold txs
 rw [lD]
 rw [List.length_map] at this
 exact this
theorem kf (c:Nat):Txt.split "" ⟨#[c]⟩ = [Str.ofString ""]:=gT (ps:=[Str.ofString ""]) (fun z=>nomatch z) fun p hp=>by
 cases List.mem_singleton.mp hp
 exact fun m=>nomatch m
theorem wOf_ne:∀ k,k < 16->wOf k ≠ Str.ofString "":=by
 have:(List.range 16).all (fun k=>decide (wOf k ≠ Str.ofString "")) = true:=by decide +kernel
 intro k hk
 exact of_decide_eq_true (List.all_eq_true.mp this k (List.mem_range.mpr hk))
theorem Ln.tx_ne {l:Ln} (h:l.ok):l.tx ≠ Str.ofString "":=fun z=>by
 have s:=Ln.split h
 rw [z] at s
 have s:=(kf 32).symm.trans s
 cases l with
 | row r=>injection s with s _; exact wOf_ne _ (by have:=Rw.k15 h.1; lia) s.symm
 | turns n=>injection s with s _; exact absurd s (by decide)
 | fin=>injection s with s _; exact absurd s (by decide)
theorem txs_ne {ls:List Ln} (ne:ls ≠ []) (h:∀ l ∈ ls,l.ok):txs ls ≠ Str.ofString "":=fun z=>by
 have s:=mj ne h
 rw [z] at s
 have s:=(kf 10).symm.trans s
 cases ls with
 | nil=>exact ne rfl
 | cons l r=>injection s with s _; exact Ln.tx_ne (h l (List.mem_cons_self ..)) s.symm
def TS.lns {α:Type} (f:α->List Ln):TS α->List Ln
 | .row r=>[.row r]
 | .turns n ts=>.turns n :: (ts.flatMap f ++ [.fin])
def lnT:(d:Nat)->Tr d->List Ln
 | 0=>fun (e:Empty)=>e.elim
 | d + 1=>TS.lns (lnT d)
def lnL (d:Nat) (ts:List (Tr d)):List Ln:=ts.flatMap (lnT d)
theorem lnL_snoc {d:Nat} {ts:List (Tr d)} {j:Nat} {t:Tr d} (h:ts[j]? = some t):lnL d (ts.take (j + 1)) = lnL d (ts.take j) ++ lnT d t:=by
 unfold lnL
 rw [cp h,List.flatMap_append]
 show _ ++ (lnT d t ++ []) = _
 rw [List.append_nil]
theorem lnL_take {d:Nat} (ts:List (Tr d)) (j:Nat):(lnL d (ts.take j)).length<=(lnL d ts).length:=by
 have e:lnL d ts = lnL d (ts.take j) ++ lnL d (ts.drop j):=by
  unfold lnL
  rw [<- List.flatMap_append,List.take_append_drop]
 rw [e,List.length_append]
 lia
theorem lnL_mem {d:Nat} {ts:List (Tr d)} {t:Tr d} (h:t ∈ ts) {l:Ln} (m:l ∈ lnT d t):l ∈ lnL d ts:=List.mem_flatMap.mpr ⟨t,h,m⟩
inductive T2 where
 | row (r:Rw)
 | turns (n:Nat) (rs:List Rw)
def r5 (r:Rw):Tr 5:=(TS.row r:TS (Tr 4))
def T2.c:T2->Tr 6
 | .row r=>(TS.row r:TS (Tr 5))
 | .turns n rs=>(TS.turns n (rs.map r5):TS (Tr 5))
def T2.lns:T2->List Ln
 | .row r=>[.row r]
 | .turns n rs=>.turns n :: (rs.map Ln.row ++ [.fin])
theorem pz {α β:Type} (f:α->β) (xs:List α):xs.flatMap (fun x=>[f x]) = xs.map f:=by
 induction xs with
 | nil=>rfl
 | cons x r ih=>rw [List.flatMap_cons,ih]; rfl
theorem T2.lns_c (t:T2):lnT 6 t.c = t.lns:=by
 cases t with
 | row r=>rfl
 | turns n rs =>
  show Ln.turns n :: ((rs.map r5).flatMap (lnT 5) ++ [.fin]) = Ln.turns n :: (rs.map Ln.row ++ [.fin])
  rw [List.flatMap_map]
  rw [show (fun x=>lnT 5 (r5 x)) = fun r=>[Ln.row r] from rfl,pz]
theorem lns_c (ts:List T2):lnL 6 (ts.map T2.c) = ts.flatMap T2.lns:=by
 unfold lnL
 rw [List.flatMap_map]
 exact congrArg (fun f=>ts.flatMap f) (funext T2.lns_c)
abbrev S2:=List T2 × Option (Nat × List Rw)
def S2.step:S2->Ln->S2
 | (o,none),.row r=>(o ++ [.row r],none)
 | (o,some (n,rs)),.row r=>(o,some (n,rs ++ [r]))
 | (o,_),.turns n=>(o,some (n,[]))
 | (o,some (n,rs)),.fin=>(o ++ [.turns n rs],none)
 | (o,none),.fin=>(o,none)
def S2.can:S2->Ln->Prop
 | (_,none),.turns _=>True
 | (_,some _),.turns _=>False
 | (_,none),.fin=>False
 | (_,some (_,rs)),.fin=>rs ≠ []
 | _,.row _=>True
def S2.to (s:S2) (ls:List Ln):S2:=ls.foldl S2.step s
def Walks:S2->List Ln->Prop
 | _,[]=>True
 | s,l :: r=>s.can l/\Walks (s.step l) r
theorem Walks.app:∀ {a b:List Ln} {s:S2},Walks s a->Walks (s.to a) b->Walks s (a ++ b)
 | [],_,_,_,h=>h
 | _ :: _,_,_,h,k=>⟨h.1,Walks.app h.2 k⟩
theorem Walks.at:∀ {ls:List Ln} {s:S2} {j:Nat} {l:Ln},Walks s ls->ls[j]? = some l->(s.to (ls.take j)).can l
 | [],_,_,_,_,e=>by simp at e
 | x :: r,s,0,l,h,e=>by cases e; exact h.1
 | x :: r,s,j + 1,l,h,e=>Walks.at (s:=s.step x) h.2 (by simpa using e)
theorem qT (s:S2) (a b:List Ln):s.to (a ++ b) = (s.to a).to b:=List.foldl_append ..
theorem qB (o:List T2) (n:Nat):∀ (rs qs:List Rw),S2.to (o,some (n,qs)) (rs.map Ln.row) = (o,some (n,qs ++ rs))/\Walks (o,some (n,qs)) (rs.map Ln.row)
 | [],qs=>⟨by rw [List.append_nil]; rfl,trivial⟩
 | r :: rs,qs=>by
  obtain ⟨a,b⟩:=qB o n rs (qs ++ [r])
  rw [List.append_assoc] at a
  exact ⟨a,trivial,b⟩
theorem to_T2 (o:List T2) (t:T2) (h:∀ n rs,t = .turns n rs->rs ≠ []):S2.to (o,none) t.lns = (o ++ [t],none)/\Walks (o,none) t.lns:=by
 cases t with
 | row r=>exact ⟨rfl,trivial,trivial⟩
 | turns n rs =>
  obtain ⟨a,b⟩:=qB o n rs []
  refine ⟨?_,trivial,b.app ?_⟩
  ·show S2.to (o,some (n,[])) (rs.map Ln.row ++ [.fin]) = _
   rw [qT,a]
   rfl
  ·show Walks (S2.to (o,some (n,[])) (rs.map Ln.row)) [.fin]
   rw [a]
   exact ⟨h n rs rfl,trivial⟩
theorem to_all:∀ (ts:List T2) (o:List T2),(∀ t ∈ ts,∀ n rs,t = .turns n rs->rs ≠ [])->S2.to (o,none) (ts.flatMap T2.lns) = (o ++ ts,none)/\Walks (o,none) (ts.flatMap T2.lns)
 | [],o,_=>⟨by rw [List.append_nil]; rfl,trivial⟩
 | t :: ts,o,h=>by
  obtain ⟨a,b⟩:=to_T2 o t (h t (List.mem_cons_self ..))
  obtain ⟨a2,b2⟩:=to_all ts (o ++ [t]) fun q hq=>h q (List.mem_cons_of_mem _ hq)
  rw [List.flatMap_cons]
  rw [List.append_assoc] at a2
  exact ⟨by rw [qT,a,a2]; rfl,b.app (by rw [a]; exact b2)⟩
def fB (ls:List Addr) (H:Hp):Hp:=fun b=>if b ∈ ls then none else H b
theorem hidS_sub {ls:List Addr} {H:Hp}:Same (fB ls H) H:=fun b o e=>by
 unfold fB at e
 split at e
 ·cases e
 ·exact e
theorem hidS_no {ls:List Addr} {H:Hp} {b:Addr} (h:b ∈ ls):fB ls H b = none:=if_pos h
theorem eT {ls:List Addr} {H:Hp} {b:Addr} {o:HO} (h:b ∉ ls) (e:H b = some o):fB ls H b = some o:=by unfold fB; rw [if_neg h]; exact e
theorem eI {ls:List Addr} {H H':Hp} (s:Same H H'):Same (fB ls H) (fB ls H'):=fun b o e=>by
 unfold fB at e
 split at e
 ·cases e
 ·rename_i h; exact eT h (s _ _ e)
theorem kO {ls ms:List Addr} {H H':Hp} (s:∀ b o,b ∉ ls->H b = some o->H' b = some o) (m:∀ b,b ∈ ms->b ∈ ls\/H b = none):Same (fB ls H) (fB ms H'):=fun b o e=>by
 unfold fB at e
 split at e
 ·cases e
 ·rename_i h
  refine eT (fun z=>?_) (s _ _ h e)
  rcases m b z with z | z
  ·exact h z
  ·rw [z] at e; cases e
def RdAt (c:Ad) (Hs H:Hp) (x:Addr):S2->Prop
 | (o,none)=>∃ (dx L U A:Addr) (xs:List V),H x = some (.ins c.Reading dx [("lists",.ref L),("turns",.ref U)])/\H L = some (.lst [.ref A])/\H U = some (.lst [])/\H A = some (.lst xs)/\L ≠ U/\L ≠ A/\U ≠ A/\Same Hs (fB [L,U,A] H)/\L2A (StT c (fB [L,U,A] H) 6) xs (o.map T2.c)
 | (o,some (n,rs))=>∃ (dx L U A B:Addr) (xs ys:List V),H x = some (.ins c.Reading dx [("lists",.ref L),("turns",.ref U)])/\H L = some (.lst [.ref A,.ref B])/\H U = some (.lst [.int (n:Int)])/\H A = some (.lst xs)/\H B = some (.lst ys)/\(L ≠ U/\L ≠ A/\U ≠ A/\B ≠ L/\B ≠ U/\B ≠ A)/\Same Hs (fB [L,U,A,B] H)/\L2A (StT c (fB [L,U,A,B] H) 6) xs (o.map T2.c)/\L2A (StT c (fB [L,U,A,B] H) 5) ys (rs.map r5)
theorem RdAt.hs {c:Ad} {Hs H:Hp} {x:Addr} {s:S2} (h:RdAt c Hs H x s):Same Hs H:=by
 obtain ⟨o,i⟩:=s
 cases i with
 | none=>obtain ⟨dx,L,U,A,xs,_,_,_,_,_,_,_,s,_⟩:=h; exact s.trans hidS_sub
 | some p=>obtain ⟨dx,L,U,A,B,xs,ys,_,_,_,_,_,_,s,_⟩:=h; exact s.trans hidS_sub
theorem RdAt.same {c:Ad} {Hs H H':Hp} {x:Addr} {s:S2} (h:RdAt c Hs H x s) (q:Same H H'):RdAt c Hs H' x s:=by
 obtain ⟨o,i⟩:=s
 cases i with
 | none=>obtain ⟨dx,L,U,A,xs,h1,h2,h3,h4,n1,n2,n3,s,l⟩:=h; exact ⟨dx,L,U,A,xs,q _ _ h1,q _ _ h2,q _ _ h3,q _ _ h4,n1,n2,n3,s.trans (eI q),l.mono fun _ _ _ z=>z.same (eI q)⟩
 | some p=>obtain ⟨dx,L,U,A,B,xs,ys,h1,h2,h3,h4,h5,n,s,l,l'⟩:=h; exact ⟨dx,L,U,A,B,xs,ys,q _ _ h1,q _ _ h2,q _ _ h3,q _ _ h4,q _ _ h5,n,s.trans (eI q),l.mono fun _ _ _ z=>z.same (eI q),l'.mono fun _ _ _ z=>z.same (eI q)⟩
def shp:Nat->List Str
 | 0=>["name","number"]
 | 1=>["name","name"]
 | 2=>["name","carry","name","name"]
 | 3=>["name","carry","name","name"]
 | 6=>["name","name","number"]
 | 7=>["name","name","number"]
 | 8=>["name","name","number"]
 | 13=>["name","name","name","name"]
 | 14=>["number","name","name"]
 | _=>["name","name","name"]
def FTOk (p z:Str) (v:V):Prop:=(p = "name"/\v = .str z)\/(p = "carry"/\((z ≠ "-"/\v = .str z)\/(z = "-"/\v = .non)))\/(p = "number"/\∃ n:Nat,n < 70/\z = tt n/\v = .int (n:Int))
def PairF:List Str->List V->Prop
 | [],[]=>True
 | p :: ps,v :: vs=>FTOk p (fX v) v/\PairF ps vs
 | _,_=>False
theorem PairF.len:∀ {ps:List Str} {vs:List V},PairF ps vs->ps.length = vs.length
 | [],[],_=>rfl
 | _ :: _,_ :: _,h=>congrArg (· + 1) (PairF.len h.2)
 | [],_ :: _,h=>h.elim
 | _ :: _,[],h=>h.elim
theorem PairF.at:∀ {ps:List Str} {vs:List V} {i:Nat} {p:Str} {v:V},PairF ps vs->ps[i]? = some p->vs[i]? = some v->FTOk p (fX v) v
 | [],_,_,_,_,_,e,_=>by simp at e
 | _ :: _,[],_,_,_,h,_,_=>h.elim
 | _ :: _,_ :: _,0,_,_,h,e,f=>by cases e; cases f; exact h.1
 | _ :: _,_ :: _,i + 1,_,_,h,e,f=>PairF.at (i:=i) h.2 (by simpa using e) (by simpa using f)
theorem shp_fs {r:Rw} (ok:r.ok 32) (tx:r.tx):PairF (shp r.k) r.fs:=by
 have nm:∀ {z:Str},FTOk "name" (fX (.str z)) (.str z):=.inl ⟨rfl,rfl⟩
 have nu:∀ {i:Int},FvOk (.int i)->FTOk "number" (fX (.int i)) (.int i):=fun h=>by
  rcases h with h | ⟨n,h,hn⟩ | ⟨z,h,_⟩
  ·cases h
  ·cases h; exact .inr (.inr ⟨rfl,n,hn,rfl,rfl⟩)
  ·cases h
 have ca:∀ {o:Option Str},FvOk (oV o)->FTOk "carry" (fX (oV o)) (oV o):=fun {o} h=>by
  cases o with
  | none=>exact .inr (.inl ⟨rfl,.inr ⟨rfl,rfl⟩⟩)
  | some z =>
   rcases h with h | ⟨n,h,hn⟩ | ⟨z',h,_,ne⟩
   ·cases h
   ·cases h
   ·cases h; exact .inr (.inl ⟨rfl,.inl ⟨ne,rfl⟩⟩)
 unfold Rw.tx at tx
 cases r with
 | set g b=>exact ⟨nm,nu (tx _ (by simp [Rw.fs])),trivial⟩
 | copy g a=>exact ⟨nm,nm,trivial⟩
 | car k g o a b =>
  have c:=ca (tx (oV o) (by simp [Rw.fs]))
  rcases ok.1 with rfl | rfl <;> exact ⟨nm,c,nm,nm,trivial⟩
 | jn k g a b=>rcases ok.1 with rfl | rfl | rfl | rfl | rfl | rfl <;> exact ⟨nm,nm,nm,trivial⟩
 | mv k g a j =>
  have c:=nu (tx (.int j) (by simp [Rw.fs]))
  rcases ok.1 with rfl | rfl | rfl <;> exact ⟨nm,nm,c,trivial⟩
 | pick g y a b=>exact ⟨nm,nm,nm,nm,trivial⟩
 | mark n m y=>exact ⟨nu (tx _ (by simp [Rw.fs])),nm,nm,trivial⟩
theorem nOf_fs {r:Rw} {w:Int} (ok:r.ok w):r.fs.length = (nOf r.k).length:=by
 cases r with
 | car k g o a b=>rcases ok.1 with rfl | rfl <;> rfl
 | jn k g a b=>rcases ok.1 with rfl | rfl | rfl | rfl | rfl | rfl <;> rfl
 | mv k g a j=>rcases ok.1 with rfl | rfl | rfl <;> rfl
 | _=>rfl
def ShpA (K:Frag) (P:Program) (w:World) (a:Addr):Prop:=∃ vs:List (Key × Value),GD K P w a vs/\∀ k,k < 15->∃ b,valueAt vs (.inr (wOf k)) = some (.ref b)/\∀ H,SqT K H b ((shp k).map V.str)
def spFX:Sp:=fun vs H Q _=>∃ v:V,vs = [v]/\FvOk v/\Q (.str (fX v)) H
def iN (c:Ad) (d:Nat):Sp:=fun vs H Q _=>∃ (l:Addr) (xs:List V) (ts:List (Tr d)) (w:Int) (zs:List Str),vs = [.ref l]/\H l = some (.lst xs)/\L2A (StT c H d) xs ts/\(∀ t ∈ ts,TOk w zs d t)/\(∀ q ∈ lnL d ts,q.ok)/\(lnL d ts).length<=1000/\∀ L H',H L = none->H' L = some (.lst ((lnL d ts).map fun q=>V.str q.tx))->Same H H'->Q (.ref L) H'
def lg (c:Ad):Sp:=fun vs H Q _=>∃ (l:Addr) (xs:List V) (ts:List (Tr 6)) (w:Int) (zs:List Str),vs = [.ref l]/\H l = some (.lst xs)/\L2A (StT c H 6) xs ts/\(∀ t ∈ ts,TOk w zs 6 t)/\(∀ q ∈ lnL 6 ts,q.ok)/\(lnL 6 ts).length<=1000/\∀ H',Same H H'->Q (.str (txs (lnL 6 ts))) H'
def spFT:Sp:=fun vs H Q _=>∃ (p z:Str) (v:V),vs = [.str p,.str z]/\FTOk p z v/\Q v H
def spJM (c:Ad):Sp:=fun vs H Q _=>∃ (k:Nat) (a b d:V),vs = [.str (wOf k),a,b,d]/\(k = 4\/k = 5\/k = 9\/k = 10\/k = 11\/k = 12)/\∀ (x:Addr) H',H x = none->StepAt c H' x k [a,b,d]->Same H H'->Q (.ref x) H'
def spRM (c:Ad):Sp:=fun vs H Q _=>∃ (k:Nat) (l:Addr) (fs:List V),vs = [.str (wOf k),.ref l]/\H l = some (.lst fs)/\k < 15/\fs.length = (nOf k).length/\∀ (x:Addr) H',H x = none->StepAt c H' x k fs->Same H H'->Q (.ref x) H'
def spRR (c:Ad):Sp:=fun vs H Q _=>∃ (l:Addr) (r:Rw),vs = [.ref l]/\H l = some (.lst ((rQ r).map V.str))/\r.ok 32/\r.tx/\∀ (x:Addr) H',H x = none->StepAt c H' x r.k r.fs->Same H H'->Q (.ref x) H'
def spRdI (K:Frag):Sp:=fun vs H Q _=>∃ x C dx:Addr,vs = [.ref x]/\H x = some (.ins C dx [])/\Cls K C/\(∀ f ∈ ["lists","turns"],NoAttr K C f)/\∀ (L U A:Addr) H',H L = none->H U = none->H A = none->L ≠ U->L ≠ A->U ≠ A->H' x = some (.ins C dx [("lists",.ref L),("turns",.ref U)])->H' L = some (.lst [.ref A])->H' U = some (.lst [])->H' A = some (.lst [])->SameX x H H'->Q .non H'
def spTkT (c:Ad):Sp:=fun vs H Q _=>∃ (x l:Addr) (n:Nat) (o:List T2) (Hs:Hp),vs = [.ref x,.ref l]/\H l = some (.lst ((Ln.turns n).ws.map V.str))/\1<=n/\n<=64/\RdAt c Hs H x (o,none)/\∀ H',RdAt c Hs H' x (o,some (n,[]))->Q (.bl true) H'
def spTkE (c:Ad):Sp:=fun vs H Q _=>∃ (x:Addr) (n:Nat) (o:List T2) (rs:List Rw) (Hs:Hp),vs = [.ref x]/\rs ≠ []/\o.length<=1000/\rs.length<=1000/\RdAt c Hs H x (o,some (n,rs))/\∀ H',RdAt c Hs H' x (o ++ [.turns n rs],none)->Q (.bl true) H'
def S2.sm:S2->Prop
 | (o,none)=>o.length<=1000
 | (o,some (_,rs))=>o.length<=1000/\rs.length<=1000
def spTks (c:Ad):Sp:=fun vs H Q _=>∃ (x l:Addr) (q:Ln) (s:S2) (Hs:Hp),vs = [.ref x,.ref l]/\H l = some (.lst (q.ws.map V.str))/\q.ok/\s.can q/\s.sm/\RdAt c Hs H x s/\∀ H',RdAt c Hs H' x (s.step q)->Q (.bl true) H'
def qX (c:Ad):Sp:=fun vs H Q _=>∃ ts:List T2,vs = [.str (txs (ts.flatMap T2.lns))]/\ts ≠ []/\ts.length<=100/\(∀ t ∈ ts,∀ n rs,t = .turns n rs->rs ≠ [])/\(∀ q ∈ ts.flatMap T2.lns,q.ok)/\(ts.flatMap T2.lns).length<=1000/\∀ (l:Addr) (xs:List V) H',H l = none->H' l = some (.lst xs)->L2A (StT c H' 6) xs (ts.map T2.c)->Same H H'->Q (.ref l) H'
section
variable {P:Program} {w:World} {K:Frag} {mg:Str->Option Value} {base:Heap} {c:Ad}
theorem nG {f:Addr} {fd:FuncData} (F:Fun K "is_whole" "is_whole" gM f fd) (T:Txt K mg c) :FnOk P w K mg base CX0 1 f fd ["thing"] fD:=by
 refine F.ok nK (fun vs H Q E h=>?_) (fun cdv A outer s H vs Q E hr h=>?_)
 ·obtain ⟨i,rfl,_⟩:=h
  rfl
 obtain ⟨i,rfl,q⟩:=h
 refine ⟨_,(ai (ar (cY (aE aK rfl T.n_isinstance boot_isinstance (aa (pv 0) (aa (iZ rfl T.n_int boot_int) ag))) (cW (rR (aE aK rfl T.n_isinstance boot_isinstance (aa (pv 0) (aa (iZ rfl T.n_bool boot_bool) ag)))))))),?_⟩
 refine ⟨_,rfl,_,_,_,_,_,rfl,rfl,TyOf.int _,gc _,_,rfl,fN ?_⟩
 refine ⟨_,rfl,_,_,_,_,_,rfl,rfl,TyOf.int _,eC _,_,rfl,?_⟩
 exact q
theorem kE {f:Addr} {fd:FuncData} (F:Fun K "is_between" "is_between" eQ f fd) (T:Txt K mg c) (H_is_whole:Has P w K mg base 1 "is_whole" ["thing"] fD):FnOk P w K mg base CX0 2 f fd ["thing","low","high"] cr:=by
 refine F.ok kT (fun vs H Q E h=>?_) (fun cdv A outer s H vs Q E hr h=>?_)
 ·obtain ⟨i,lo,hi,rfl,_⟩:=h
  rfl
 obtain ⟨i,lo,hi,rfl,h1,h2,q⟩:=h
 refine ⟨_,(ai (ar (cY (aG H_is_whole (hr.mono (by lia)) rfl (aa (pv 0) ag)) (cW (pN jv jv (pv 1) (pv 0) (pv 2)))))),?_⟩
 refine ⟨_,rfl,_,rfl,_,rfl,fN ?_⟩
 refine ⟨_,rfl,_,rfl,_,_,rfl,rfl,_,rfl,dg h1 ?_⟩
 refine ⟨_,rfl,_,_,rfl,rfl,?_⟩
 exact ret_true h2 q
theorem kP {f:Addr} {fd:FuncData} (F:Fun K "need_width" "need_width" fe f fd) (T:Txt K mg c) (H_is_between:Has P w K mg base 2 "is_between" ["thing","low","high"] cr):FnOk P w K mg base CX0 3 f fd ["width"] df:=by
 refine F.ok kX (fun vs H Q E h=>?_) (fun cdv A outer s H vs Q E hr h=>?_)
 ·obtain ⟨i,rfl,_⟩:=h
  rfl
 obtain ⟨i,rfl,h1,h2,q⟩:=h
 refine ⟨_,(ai (aR (bz (bt (aG H_is_between (hr.mono (by lia)) rfl (aa (pv 0) (aa ak (aa ak ag))))))
   (ai bR)
   aA)),?_⟩
 refine ⟨_,rfl,_,_,_,rfl,h1,h2,_,rfl,eB ?_⟩
 exact q
theorem qV {f:Addr} {fd:FuncData} (F:Fun K "sum_of" "sum_of" kY f fd) (T:Txt K mg c) (H_need_width:Has P w K mg base 3 "need_width" ["width"] df):FnOk P w K mg base CX0 4 f fd ["width","a","b"] spSum:=by
 refine F.ok sc_sum_of (fun vs H Q E h=>?_) (fun cdv A outer s H vs Q E hr h=>?_)
 ·obtain ⟨i,a,b,rfl,_⟩:=h
  rfl
 obtain ⟨i,a,b,rfl,h1,h2,q⟩:=h
 refine ⟨_,(ah (aX (aG H_need_width (hr.mono (by lia)) rfl (aa (pv 0) ag)))
  (ah (aH (i:=3) sc_sum_of.nd rfl (Or.inl rfl) (aq bx (pv 1) (pv 2)))
  (ai (ar (cD (aa (aq cq (pv 3) (aq ej ak (pv 0))) (aa (aq pA (pv 3) (pv 0)) ag))))))),?_⟩
 refine ⟨_,rfl,_,rfl,h1,h2,?_⟩
 refine ⟨_,rfl,_,rfl,_,_,rfl,rfl,?_⟩
 refine ⟨_,rfl,_,rfl,_,_,rfl,rfl,ie (by lia) (by lia),_,_,rfl,rfl,jb _,?_⟩
 refine ⟨_,rfl,_,rfl,_,_,rfl,rfl,(by lia),?_⟩
 exact ⟨by show 2<=sizeLine; decide,fun t ht=>q t ht⟩
theorem qL {f:Addr} {fd:FuncData} (F:Fun K "gap_of" "gap_of" lC f fd) (T:Txt K mg c) (H_need_width:Has P w K mg base 3 "need_width" ["width"] df):FnOk P w K mg base CX0 4 f fd ["width","a","b"] spGap:=by
 refine F.ok rH (fun vs H Q E h=>?_) (fun cdv A outer s H vs Q E hr h=>?_)
 ·obtain ⟨i,a,b,rfl,_⟩:=h
  rfl
 obtain ⟨i,a,b,rfl,h1,h2,q⟩:=h
 refine ⟨_,(ah (aX (aG H_need_width (hr.mono (by lia)) rfl (aa (pv 0) ag)))
  (ai (ar (cD (aa (aq cq (aq em (pv 1) (pv 2)) (aq ej ak (pv 0))) (aa (cj (ay jO (pv 1) (pv 2) (aD _)) ak ak) ag)))))),?_⟩
 refine ⟨_,rfl,_,rfl,h1,h2,?_⟩
 refine ⟨_,rfl,_,rfl,_,_,rfl,rfl,_,rfl,_,_,rfl,rfl,ie (by lia) (by lia),_,_,rfl,rfl,jb _,?_⟩
 refine ⟨_,rfl,_,rfl,_,_,rfl,rfl,_,rfl,?_⟩
 by_cases hc:a < b
 ·refine dg hc ?_
  refine ⟨by show 2<=sizeLine; decide,fun t ht=>?_⟩
  have:=q t ht
  rw [if_pos hc] at this
  exact this
 ·refine be hc ?_
  refine ⟨by show 2<=sizeLine; decide,fun t ht=>?_⟩
  have:=q t ht
  rw [if_neg hc] at this
  exact this
theorem jI {f:Addr} {fd:FuncData} (F:Fun K "low_product" "low_product" dM f fd) (T:Txt K mg c) (H_need_width:Has P w K mg base 3 "need_width" ["width"] df):FnOk P w K mg base CX0 4 f fd ["width","a","b"] spLow:=by
 refine F.ok jF (fun vs H Q E h=>?_) (fun cdv A outer s H vs Q E hr h=>?_)
 ·obtain ⟨i,a,b,rfl,_⟩:=h
  rfl
 obtain ⟨i,a,b,rfl,h1,h2,hm,q⟩:=h
 refine ⟨_,(ah (aX (aG H_need_width (hr.mono (by lia)) rfl (aa (pv 0) ag)))
  (ai (ar (aq cq (aq bh (pv 1) (pv 2)) (aq ej ak (pv 0)))))),?_⟩
 refine ⟨_,rfl,_,rfl,h1,h2,?_⟩
 refine ⟨_,rfl,_,rfl,_,_,rfl,rfl,hm,_,rfl,_,_,rfl,rfl,ie (by lia) (by lia),_,_,rfl,rfl,jb _,q⟩
theorem jA {f:Addr} {fd:FuncData} (F:Fun K "high_product" "high_product" dk f fd) (T:Txt K mg c) (H_need_width:Has P w K mg base 3 "need_width" ["width"] df):FnOk P w K mg base CX0 4 f fd ["width","a","b"] tz:=by
 refine F.ok jg (fun vs H Q E h=>?_) (fun cdv A outer s H vs Q E hr h=>?_)
 ·obtain ⟨i,a,b,rfl,_⟩:=h
  rfl
 obtain ⟨i,a,b,rfl,h1,h2,hm,q⟩:=h
 refine ⟨_,(ah (aX (aG H_need_width (hr.mono (by lia)) rfl (aa (pv 0) ag)))
  (ai (ar (aq pA (aq bh (pv 1) (pv 2)) (pv 0))))),?_⟩
 refine ⟨_,rfl,_,rfl,h1,h2,?_⟩
 refine ⟨_,rfl,_,rfl,_,_,rfl,rfl,hm,_,rfl,_,_,rfl,rfl,(by lia),q⟩
theorem ok_left {f:Addr} {fd:FuncData} (F:Fun K "left" "left" qJ f fd) (T:Txt K mg c) (H_need_width:Has P w K mg base 3 "need_width" ["width"] df):FnOk P w K mg base CX0 4 f fd ["width","a","k"] qY:=by
 refine F.ok sc_left (fun vs H Q E h=>?_) (fun cdv A outer s H vs Q E hr h=>?_)
 ·obtain ⟨i,a,b,rfl,_⟩:=h
  rfl
 obtain ⟨i,a,b,rfl,h1,h2,hm,q⟩:=h
 refine ⟨_,(ah (aX (aG H_need_width (hr.mono (by lia)) rfl (aa (pv 0) ag)))
  (ai (ar (aq cq (aq ej (pv 1) (pv 2)) (aq ej ak (pv 0)))))),?_⟩
 refine ⟨_,rfl,_,rfl,h1,h2,?_⟩
 refine ⟨_,rfl,_,rfl,_,_,rfl,rfl,hm,_,rfl,_,_,rfl,rfl,ie (by lia) (by lia),_,_,rfl,rfl,jb _,q⟩
theorem ok_right {f:Addr} {fd:FuncData} (F:Fun K "right" "right" oG f fd) (T:Txt K mg c) (H_need_width:Has P w K mg base 3 "need_width" ["width"] df):FnOk P w K mg base CX0 4 f fd ["width","a","k"] nr:=by
 refine F.ok sc_right (fun vs H Q E h=>?_) (fun cdv A outer s H vs Q E hr h=>?_)
 ·obtain ⟨i,a,b,rfl,_⟩:=h
  rfl
 obtain ⟨i,a,b,rfl,h1,h2,hm,q⟩:=h
 refine ⟨_,(ah (aX (aG H_need_width (hr.mono (by lia)) rfl (aa (pv 0) ag)))
  (ai (ar (aq pA (pv 1) (pv 2))))),?_⟩
 refine ⟨_,rfl,_,rfl,h1,h2,?_⟩
 refine ⟨_,rfl,_,rfl,_,_,rfl,rfl,hm,q⟩
theorem ok_slide {f:Addr} {fd:FuncData} (F:Fun K "slide" "slide" nH f fd) (T:Txt K mg c) (H_need_width:Has P w K mg base 3 "need_width" ["width"] df):FnOk P w K mg base CX0 4 f fd ["width","a","k"] nE:=by
 refine F.ok sc_slide (fun vs H Q E h=>?_) (fun cdv A outer s H vs Q E hr h=>?_)
 ·obtain ⟨i,a,b,rfl,_⟩:=h
  rfl
 obtain ⟨i,a,b,rfl,h1,h2,hm,q⟩:=h
 refine ⟨_,(ah (aX (aG H_need_width (hr.mono (by lia)) rfl (aa (pv 0) ag)))
  (ah (aH (i:=3) sc_slide.nd rfl (Or.inl rfl) (cj (ay jO (pv 1) (aq ej ak (aq em (pv 0) ak)) (aD _)) (pv 1) (aq em (pv 1) (aq ej ak (pv 0)))))
  (ai (ar (aq cq (aq pA (pv 3) (pv 2)) (aq ej ak (pv 0))))))),?_⟩
 refine ⟨_,rfl,_,rfl,h1,h2,?_⟩
 refine ⟨_,rfl,_,rfl,_,_,rfl,rfl,_,_,rfl,rfl,ie (by lia) (by lia),_,_,rfl,rfl,_,rfl,?_⟩
 unfold cnt at q
 by_cases hc:a < 1 * 2 ^ (i - 1).toNat
 ·rw [if_pos hc] at q
  refine dg hc ?_
  refine ⟨_,rfl,?_⟩
  refine ⟨_,rfl,_,rfl,_,_,rfl,rfl,hm,_,rfl,_,_,rfl,rfl,ie (by lia) (by lia),_,_,rfl,rfl,jb _,q⟩
 ·rw [if_neg hc] at q
  refine be hc ?_
  refine ⟨_,rfl,_,rfl,_,_,rfl,rfl,ie (by lia) (by lia),_,_,rfl,rfl,?_⟩
  refine ⟨_,rfl,_,rfl,_,_,rfl,rfl,hm,_,rfl,_,_,rfl,rfl,ie (by lia) (by lia),_,_,rfl,rfl,jb _,q⟩
theorem qh {f:Addr} {fd:FuncData} (F:Fun K "is_word" "is_word" jw f fd) (T:Txt K mg c) (H_is_between:Has P w K mg base 2 "is_between" ["thing","low","high"] cr):FnOk P w K mg base CX0 3 f fd ["width","thing"] iC:=by
 refine F.ok qc (fun vs H Q E h=>?_) (fun cdv A outer s H vs Q E hr h=>?_)
 ·obtain ⟨w',i,rfl,_⟩:=h
  rfl
 obtain ⟨w',i,rfl,w0,w1,i0,i1,q⟩:=h
 refine ⟨_,(ai (ar (aG H_is_between (hr.mono (by lia)) rfl (aa (pv 1) (aa ak (aa (aq em (aq ej ak (pv 0)) ak) ag)))))),?_⟩
 exact ⟨_,rfl,_,rfl,_,_,rfl,rfl,ie (by lia) (by lia),_,_,rfl,rfl,_,_,_,rfl,i0,(by rw [Int.one_mul]; lia),q⟩
def rw16:List Str:=["set","copy","sum","gap","low","high","left","right","slide","and","or","unlike","under","pick","mark","turns"]
def spRW:Sp:=fun vs H Q _=>vs = []/\∀ l,H l = none->Q (.ref l) (upd H l (.lst (rw16.map V.str)))
theorem mh {f:Addr} {fd:FuncData} (F:Fun K "row_words" "row_words" fE f fd) (T:Txt K mg c) :FnOk P w K mg base CX0 1 f fd [] spRW:=by
 refine F.ok mU (fun vs H Q E h=>?_) (fun cdv A outer s H vs Q E hr h=>?_)
 ·obtain ⟨rfl,_⟩:=h
  rfl
 obtain ⟨rfl,q⟩:=h
 refine ⟨_,(ai (ar (cS ia rfl T.n_list boot_list (aa (fA rfl T.g_ROW_WORDS) ag)))),?_⟩
 exact ⟨_,_,rfl,.inr (T.q_ROW_WORDS _),fun l hl=>q l hl⟩
theorem oF {f:Addr} {fd:FuncData} (F:Fun K "word" "Set.word" gN f fd) (T:Txt K mg c) :FnOk P w K mg base CX0 1 f fd ["self"] (d9 "set"):=by
 refine F.ok oz (fun vs H Q E h=>?_) (fun cdv A outer s H vs Q E hr h=>?_)
 ·obtain ⟨x,rfl,_⟩:=h
  rfl
 obtain ⟨x,rfl,q⟩:=h
 exact ⟨_,(ai (ar am)),q⟩
theorem me {f:Addr} {fd:FuncData} (F:Fun K "word" "Copy.word" fU f fd) (T:Txt K mg c) :FnOk P w K mg base CX0 1 f fd ["self"] (d9 "copy"):=by
 refine F.ok mz (fun vs H Q E h=>?_) (fun cdv A outer s H vs Q E hr h=>?_)
 ·obtain ⟨x,rfl,_⟩:=h
  rfl
 obtain ⟨x,rfl,q⟩:=h
 exact ⟨_,(ai (ar am)),q⟩
theorem ow {f:Addr} {fd:FuncData} (F:Fun K "word" "Sum.word" hZ f fd) (T:Txt K mg c) :FnOk P w K mg base CX0 1 f fd ["self"] (d9 "sum"):=by
 refine F.ok n9 (fun vs H Q E h=>?_) (fun cdv A outer s H vs Q E hr h=>?_)
 ·obtain ⟨x,rfl,_⟩:=h
  rfl
 obtain ⟨x,rfl,q⟩:=h
 exact ⟨_,(ai (ar am)),q⟩
theorem oq {f:Addr} {fd:FuncData} (F:Fun K "word" "Gap.word" gH f fd) (T:Txt K mg c) :FnOk P w K mg base CX0 1 f fd ["self"] (d9 "gap"):=by
 refine F.ok oP (fun vs H Q E h=>?_) (fun cdv A outer s H vs Q E hr h=>?_)
 ·obtain ⟨x,rfl,_⟩:=h
  rfl
 obtain ⟨x,rfl,q⟩:=h
 exact ⟨_,(ai (ar am)),q⟩
theorem n8 {f:Addr} {fd:FuncData} (F:Fun K "word" "Low.word" gK f fd) (T:Txt K mg c) :FnOk P w K mg base CX0 1 f fd ["self"] (d9 "low"):=by
 refine F.ok nZ (fun vs H Q E h=>?_) (fun cdv A outer s H vs Q E hr h=>?_)
 ·obtain ⟨x,rfl,_⟩:=h
  rfl
 obtain ⟨x,rfl,q⟩:=h
 exact ⟨_,(ai (ar am)),q⟩
theorem mH {f:Addr} {fd:FuncData} (F:Fun K "word" "High.word" gj f fd) (T:Txt K mg c) :FnOk P w K mg base CX0 1 f fd ["self"] (d9 "high"):=by
 refine F.ok mn (fun vs H Q E h=>?_) (fun cdv A outer s H vs Q E hr h=>?_)
 ·obtain ⟨x,rfl,_⟩:=h
  rfl
 obtain ⟨x,rfl,q⟩:=h
 exact ⟨_,(ai (ar am)),q⟩
theorem mR {f:Addr} {fd:FuncData} (F:Fun K "word" "Left.word" fW f fd) (T:Txt K mg c) :FnOk P w K mg base CX0 1 f fd ["self"] (d9 "left"):=by
 refine F.ok my (fun vs H Q E h=>?_) (fun cdv A outer s H vs Q E hr h=>?_)
 ·obtain ⟨x,rfl,_⟩:=h
  rfl
 obtain ⟨x,rfl,q⟩:=h
 exact ⟨_,(ai (ar am)),q⟩
theorem kZ {f:Addr} {fd:FuncData} (F:Fun K "word" "Right.word" eO f fd) (T:Txt K mg c) :FnOk P w K mg base CX0 1 f fd ["self"] (d9 "right"):=by
 refine F.ok kB (fun vs H Q E h=>?_) (fun cdv A outer s H vs Q E hr h=>?_)
 ·obtain ⟨x,rfl,_⟩:=h
  rfl
 obtain ⟨x,rfl,q⟩:=h
 exact ⟨_,(ai (ar am)),q⟩
theorem lE {f:Addr} {fd:FuncData} (F:Fun K "word" "Slide.word" eG f fd) (T:Txt K mg c) :FnOk P w K mg base CX0 1 f fd ["self"] (d9 "slide"):=by
 refine F.ok kR (fun vs H Q E h=>?_) (fun cdv A outer s H vs Q E hr h=>?_)
 ·obtain ⟨x,rfl,_⟩:=h
  rfl
 obtain ⟨x,rfl,q⟩:=h
 exact ⟨_,(ai (ar am)),q⟩
theorem nY {f:Addr} {fd:FuncData} (F:Fun K "word" "And.word" g6 f fd) (T:Txt K mg c) :FnOk P w K mg base CX0 1 f fd ["self"] (d9 "and"):=by
 refine F.ok oN (fun vs H Q E h=>?_) (fun cdv A outer s H vs Q E hr h=>?_)
 ·obtain ⟨x,rfl,_⟩:=h
  rfl
 obtain ⟨x,rfl,q⟩:=h
 exact ⟨_,(ai (ar am)),q⟩
theorem p6 {f:Addr} {fd:FuncData} (F:Fun K "word" "Or.word" jj f fd) (T:Txt K mg c) :FnOk P w K mg base CX0 1 f fd ["self"] (d9 "or"):=by
 refine F.ok pY (fun vs H Q E h=>?_) (fun cdv A outer s H vs Q E hr h=>?_)
 ·obtain ⟨x,rfl,_⟩:=h
  rfl
 obtain ⟨x,rfl,q⟩:=h
 exact ⟨_,(ai (ar am)),q⟩
theorem jX {f:Addr} {fd:FuncData} (F:Fun K "word" "Unlike.word" dN f fd) (T:Txt K mg c) :FnOk P w K mg base CX0 1 f fd ["self"] (d9 "unlike"):=by
 refine F.ok jG (fun vs H Q E h=>?_) (fun cdv A outer s H vs Q E hr h=>?_)
 ·obtain ⟨x,rfl,_⟩:=h
  rfl
 obtain ⟨x,rfl,q⟩:=h
 exact ⟨_,(ai (ar am)),q⟩
theorem lB {f:Addr} {fd:FuncData} (F:Fun K "word" "Under.word" eU f fd) (T:Txt K mg c) :FnOk P w K mg base CX0 1 f fd ["self"] (d9 "under"):=by
 refine F.ok kn (fun vs H Q E h=>?_) (fun cdv A outer s H vs Q E hr h=>?_)
 ·obtain ⟨x,rfl,_⟩:=h
  rfl
 obtain ⟨x,rfl,q⟩:=h
 exact ⟨_,(ai (ar am)),q⟩
theorem mW {f:Addr} {fd:FuncData} (F:Fun K "word" "Pick.word" fQ f fd) (T:Txt K mg c) :FnOk P w K mg base CX0 1 f fd ["self"] (d9 "pick"):=by
 refine F.ok lI (fun vs H Q E h=>?_) (fun cdv A outer s H vs Q E hr h=>?_)
 ·obtain ⟨x,rfl,_⟩:=h
  rfl
 obtain ⟨x,rfl,q⟩:=h
 exact ⟨_,(ai (ar am)),q⟩
theorem mm {f:Addr} {fd:FuncData} (F:Fun K "word" "Mark.word" gg f fd) (T:Txt K mg c) :FnOk P w K mg base CX0 1 f fd ["self"] (d9 "mark"):=by
 refine F.ok mI (fun vs H Q E h=>?_) (fun cdv A outer s H vs Q E hr h=>?_)
 ·obtain ⟨x,rfl,_⟩:=h
  rfl
 obtain ⟨x,rfl,q⟩:=h
 exact ⟨_,(ai (ar am)),q⟩
theorem lu {f:Addr} {fd:FuncData} (F:Fun K "word" "Turns.word" eJ f fd) (T:Txt K mg c) :FnOk P w K mg base CX0 1 f fd ["self"] (d9 "turns"):=by
 refine F.ok li (fun vs H Q E h=>?_) (fun cdv A outer s H vs Q E hr h=>?_)
 ·obtain ⟨x,rfl,_⟩:=h
  rfl
 obtain ⟨x,rfl,q⟩:=h
 exact ⟨_,(ai (ar am)),q⟩
theorem iV {f:Addr} {fd:FuncData} (F:Fun K "__init__" "Set.__init__" dC f fd) (T:Txt K mg c) :FnOk P w K mg base CX0 1 f fd ["self","goal","bits"] (aI K ["goal","bits"]):=by
 refine F.ok iO (fun vs H Q E h=>?_) (fun cdv A outer s H vs Q E hr h=>?_)
 ·obtain ⟨x,C,dx,as,rfl,ln,_⟩:=h
  rw [List.length_cons,ln]
  rfl
 obtain ⟨x,C,dx,as,rfl,ln,hx,cl,na,q⟩:=h
 obtain ⟨a0,a1,rfl⟩:=len2 ln
 refine ⟨_,(ah (bo (pv 0) (pv 1) rfl)
  (ai (bo (pv 0) (pv 2) rfl))),?_⟩
 refine ⟨_,rfl,_,rfl,x,C,dx,_,rfl,hx,cl,na _ (by simp),(by show 0 < 1000; decide),?_⟩
 refine ⟨_,rfl,_,rfl,x,C,dx,_,rfl,ae,cl,na _ (by simp),(by show 1 < 1000; decide),?_⟩
 exact q _ ae (SameX.upd.trans (SameX.upd))
theorem ii {f:Addr} {fd:FuncData} (F:Fun K "__init__" "Copy.__init__" cJ f fd) (T:Txt K mg c) :FnOk P w K mg base CX0 1 f fd ["self","goal","one"] (aI K ["goal","one"]):=by
 refine F.ok ik (fun vs H Q E h=>?_) (fun cdv A outer s H vs Q E hr h=>?_)
 ·obtain ⟨x,C,dx,as,rfl,ln,_⟩:=h
  rw [List.length_cons,ln]
  rfl
 obtain ⟨x,C,dx,as,rfl,ln,hx,cl,na,q⟩:=h
 obtain ⟨a0,a1,rfl⟩:=len2 ln
 refine ⟨_,(ah (bo (pv 0) (pv 1) rfl)
  (ai (bo (pv 0) (pv 2) rfl))),?_⟩
 refine ⟨_,rfl,_,rfl,x,C,dx,_,rfl,hx,cl,na _ (by simp),(by show 0 < 1000; decide),?_⟩
 refine ⟨_,rfl,_,rfl,x,C,dx,_,rfl,ae,cl,na _ (by simp),(by show 1 < 1000; decide),?_⟩
 exact q _ ae (SameX.upd.trans (SameX.upd))
theorem cB {f:Addr} {fd:FuncData} (F:Fun K "__init__" "Carrying.__init__" bL f fd) (T:Txt K mg c) :FnOk P w K mg base CX0 1 f fd ["self","goal","carry","one","other"] (aI K ["goal","carry","one","other"]):=by
 refine F.ok fw (fun vs H Q E h=>?_) (fun cdv A outer s H vs Q E hr h=>?_)
 ·obtain ⟨x,C,dx,as,rfl,ln,_⟩:=h
  rw [List.length_cons,ln]
  rfl
 obtain ⟨x,C,dx,as,rfl,ln,hx,cl,na,q⟩:=h
 obtain ⟨a0,a1,a2,a3,rfl⟩:=len4 ln
 refine ⟨_,(ah (bo (pv 0) (pv 1) rfl)
  (ah (bo (pv 0) (pv 2) rfl)
  (ah (bo (pv 0) (pv 3) rfl)
  (ai (bo (pv 0) (pv 4) rfl))))),?_⟩
 refine ⟨_,rfl,_,rfl,x,C,dx,_,rfl,hx,cl,na _ (by simp),(by show 0 < 1000; decide),?_⟩
 refine ⟨_,rfl,_,rfl,x,C,dx,_,rfl,ae,cl,na _ (by simp),(by show 1 < 1000; decide),?_⟩
 refine ⟨_,rfl,_,rfl,x,C,dx,_,rfl,ae,cl,na _ (by simp),(by show 2 < 1000; decide),?_⟩
 refine ⟨_,rfl,_,rfl,x,C,dx,_,rfl,ae,cl,na _ (by simp),(by show 3 < 1000; decide),?_⟩
 exact q _ ae (SameX.upd.trans (SameX.upd.trans (SameX.upd.trans (SameX.upd))))
theorem aP {f:Addr} {fd:FuncData} (F:Fun K "__init__" "Joining.__init__" bQ f fd) (T:Txt K mg c) :FnOk P w K mg base CX0 1 f fd ["self","goal","one","other"] (aI K ["goal","one","other"]):=by
 refine F.ok fZ (fun vs H Q E h=>?_) (fun cdv A outer s H vs Q E hr h=>?_)
 ·obtain ⟨x,C,dx,as,rfl,ln,_⟩:=h
  rw [List.length_cons,ln]
  rfl
 obtain ⟨x,C,dx,as,rfl,ln,hx,cl,na,q⟩:=h
 obtain ⟨a0,a1,a2,rfl⟩:=qo ln
 refine ⟨_,(ah (bo (pv 0) (pv 1) rfl)
  (ah (bo (pv 0) (pv 2) rfl)
  (ai (bo (pv 0) (pv 3) rfl)))),?_⟩
 refine ⟨_,rfl,_,rfl,x,C,dx,_,rfl,hx,cl,na _ (by simp),(by show 0 < 1000; decide),?_⟩
 refine ⟨_,rfl,_,rfl,x,C,dx,_,rfl,ae,cl,na _ (by simp),(by show 1 < 1000; decide),?_⟩
 refine ⟨_,rfl,_,rfl,x,C,dx,_,rfl,ae,cl,na _ (by simp),(by show 2 < 1000; decide),?_⟩
 exact q _ ae (SameX.upd.trans (SameX.upd.trans (SameX.upd)))
theorem bN {f:Addr} {fd:FuncData} (F:Fun K "__init__" "Moving.__init__" bW f fd) (T:Txt K mg c) :FnOk P w K mg base CX0 1 f fd ["self","goal","one","k"] (aI K ["goal","one","k"]):=by
 refine F.ok gy (fun vs H Q E h=>?_) (fun cdv A outer s H vs Q E hr h=>?_)
 ·obtain ⟨x,C,dx,as,rfl,ln,_⟩:=h
  rw [List.length_cons,ln]
  rfl
 obtain ⟨x,C,dx,as,rfl,ln,hx,cl,na,q⟩:=h
 obtain ⟨a0,a1,a2,rfl⟩:=qo ln
 refine ⟨_,(ah (bo (pv 0) (pv 1) rfl)
  (ah (bo (pv 0) (pv 2) rfl)
  (ai (bo (pv 0) (pv 3) rfl)))),?_⟩
 refine ⟨_,rfl,_,rfl,x,C,dx,_,rfl,hx,cl,na _ (by simp),(by show 0 < 1000; decide),?_⟩
 refine ⟨_,rfl,_,rfl,x,C,dx,_,rfl,ae,cl,na _ (by simp),(by show 1 < 1000; decide),?_⟩
 refine ⟨_,rfl,_,rfl,x,C,dx,_,rfl,ae,cl,na _ (by simp),(by show 2 < 1000; decide),?_⟩
 exact q _ ae (SameX.upd.trans (SameX.upd.trans (SameX.upd)))
theorem ir {f:Addr} {fd:FuncData} (F:Fun K "__init__" "Pick.__init__" cV f fd) (T:Txt K mg c) :FnOk P w K mg base CX0 1 f fd ["self","goal","by","one","other"] (aI K ["goal","by","one","other"]):=by
 refine F.ok ig (fun vs H Q E h=>?_) (fun cdv A outer s H vs Q E hr h=>?_)
 ·obtain ⟨x,C,dx,as,rfl,ln,_⟩:=h
  rw [List.length_cons,ln]
  rfl
 obtain ⟨x,C,dx,as,rfl,ln,hx,cl,na,q⟩:=h
 obtain ⟨a0,a1,a2,a3,rfl⟩:=len4 ln
 refine ⟨_,(ah (bo (pv 0) (pv 1) rfl)
  (ah (bo (pv 0) (pv 2) rfl)
  (ah (bo (pv 0) (pv 3) rfl)
  (ai (bo (pv 0) (pv 4) rfl))))),?_⟩
 refine ⟨_,rfl,_,rfl,x,C,dx,_,rfl,hx,cl,na _ (by simp),(by show 0 < 1000; decide),?_⟩
 refine ⟨_,rfl,_,rfl,x,C,dx,_,rfl,ae,cl,na _ (by simp),(by show 1 < 1000; decide),?_⟩
 refine ⟨_,rfl,_,rfl,x,C,dx,_,rfl,ae,cl,na _ (by simp),(by show 2 < 1000; decide),?_⟩
 refine ⟨_,rfl,_,rfl,x,C,dx,_,rfl,ae,cl,na _ (by simp),(by show 3 < 1000; decide),?_⟩
 exact q _ ae (SameX.upd.trans (SameX.upd.trans (SameX.upd.trans (SameX.upd))))
theorem im {f:Addr} {fd:FuncData} (F:Fun K "__init__" "Mark.__init__" cN f fd) (T:Txt K mg c) :FnOk P w K mg base CX0 1 f fd ["self","line","mark","by"] (aI K ["line","mark","by"]):=by
 refine F.ok iy (fun vs H Q E h=>?_) (fun cdv A outer s H vs Q E hr h=>?_)
 ·obtain ⟨x,C,dx,as,rfl,ln,_⟩:=h
  rw [List.length_cons,ln]
  rfl
 obtain ⟨x,C,dx,as,rfl,ln,hx,cl,na,q⟩:=h
 obtain ⟨a0,a1,a2,rfl⟩:=qo ln
 refine ⟨_,(ah (bo (pv 0) (pv 1) rfl)
  (ah (bo (pv 0) (pv 2) rfl)
  (ai (bo (pv 0) (pv 3) rfl)))),?_⟩
 refine ⟨_,rfl,_,rfl,x,C,dx,_,rfl,hx,cl,na _ (by simp),(by show 0 < 1000; decide),?_⟩
 refine ⟨_,rfl,_,rfl,x,C,dx,_,rfl,ae,cl,na _ (by simp),(by show 1 < 1000; decide),?_⟩
 refine ⟨_,rfl,_,rfl,x,C,dx,_,rfl,ae,cl,na _ (by simp),(by show 2 < 1000; decide),?_⟩
 exact q _ ae (SameX.upd.trans (SameX.upd.trans (SameX.upd)))
theorem gS {f:Addr} {fd:FuncData} (F:Fun K "__init__" "Turns.__init__" cz f fd) (T:Txt K mg c) :FnOk P w K mg base CX0 1 f fd ["self","times","steps"] (kF K):=by
 refine F.ok gO (fun vs H Q E h=>?_) (fun cdv A outer s H vs Q E hr h=>?_)
 ·obtain ⟨x,C,dx,l,n,xs,rfl,_⟩:=h
  rfl
 obtain ⟨x,C,dx,l,n,xs,rfl,hx,hl,cl,na,q⟩:=h
 refine ⟨_,(ah (bo (pv 0) (pv 1) rfl)
  (ai (bo (pv 0) (cj (bt (aE aK rfl T.n_isinstance boot_isinstance (aa (pv 2) (aa (iZ rfl T.n_list boot_list) ag)))) (cS ia rfl T.n_list boot_list (aa (pv 2) ag)) (pv 2)) rfl))),?_⟩
 refine ⟨_,rfl,_,rfl,x,C,dx,_,rfl,hx,cl,na _ (by simp),(by show 0 < 1000; decide),?_⟩
 have nl:l ≠ x:=fun z=>by rw [z,hx] at hl; cases hl
 have hl1:upd H x (.ins C dx [("times",n)]) l = some (.lst xs):=by rw [ao nl]; exact hl
 refine ⟨_,rfl,_,_,_,_,_,rfl,rfl,TyOf.lst hl1,rfl,_,rfl,fN ⟨_,rfl,l,_,rfl,.inl (SqL.of hl1),fun l' h'=>?_⟩⟩
 have nx:x ≠ l':=fun z=>by rw [<- z,ae] at h'; cases h'
 have h0:H l' = none:=by rw [ao (Ne.symm nx)] at h'; exact h'
 refine ⟨_,rfl,x,C,dx,_,rfl,(by rw [ao nx]; exact ae),cl,na _ (by simp),(by show 1 < 1000; decide),?_⟩
 refine q l' _ h0 ae (by rw [ao (Ne.symm nx)]; exact ae) fun b o hb e=>?_
 rw [ao hb,ao (av e h0),ao hb]
 exact e
theorem Txt.clF {K:Frag} {mg:Str->Option Value} {c:Ad} (T:Txt K mg c) {k:Nat} (h:k < 15):Cls K (fOf c k)/\∀ f ∈ nOf k,NoAttr K (fOf c k) f:=by
 rcases (by lia:k = 0\/k = 1\/k = 2\/k = 3\/k = 4\/k = 5\/k = 6\/k = 7\/k = 8\/k = 9\/k = 10\/k = 11\/k = 12\/k = 13\/k = 14) with rfl | rfl | rfl | rfl | rfl | rfl | rfl | rfl | rfl | rfl | rfl | rfl | rfl | rfl | rfl
 ·exact ⟨T.cl_Set,List.forall_mem_cons.mpr ⟨T.na_Set_goal,List.forall_mem_cons.mpr ⟨T.na_Set_bits,fun _ h=>nomatch h⟩⟩⟩
 ·exact ⟨T.cl_Copy,List.forall_mem_cons.mpr ⟨T.na_Copy_goal,List.forall_mem_cons.mpr ⟨T.na_Copy_one,fun _ h=>nomatch h⟩⟩⟩
 ·exact ⟨T.cl_Sum,List.forall_mem_cons.mpr ⟨T.na_Sum_goal,List.forall_mem_cons.mpr ⟨T.na_Sum_carry,List.forall_mem_cons.mpr ⟨T.na_Sum_one,List.forall_mem_cons.mpr ⟨T.na_Sum_other,fun _ h=>nomatch h⟩⟩⟩⟩⟩
 ·exact ⟨T.cl_Gap,List.forall_mem_cons.mpr ⟨T.na_Gap_goal,List.forall_mem_cons.mpr ⟨T.na_Gap_carry,List.forall_mem_cons.mpr ⟨T.na_Gap_one,List.forall_mem_cons.mpr ⟨T.na_Gap_other,fun _ h=>nomatch h⟩⟩⟩⟩⟩
 ·exact ⟨T.cl_Low,List.forall_mem_cons.mpr ⟨T.na_Low_goal,List.forall_mem_cons.mpr ⟨T.na_Low_one,List.forall_mem_cons.mpr ⟨T.na_Low_other,fun _ h=>nomatch h⟩⟩⟩⟩
 ·exact ⟨T.cl_High,List.forall_mem_cons.mpr ⟨T.na_High_goal,List.forall_mem_cons.mpr ⟨T.na_High_one,List.forall_mem_cons.mpr ⟨T.na_High_other,fun _ h=>nomatch h⟩⟩⟩⟩
 ·exact ⟨T.cl_Left,List.forall_mem_cons.mpr ⟨T.na_Left_goal,List.forall_mem_cons.mpr ⟨T.na_Left_one,List.forall_mem_cons.mpr ⟨T.na_Left_k,fun _ h=>nomatch h⟩⟩⟩⟩
 ·exact ⟨T.cl_Right,List.forall_mem_cons.mpr ⟨T.na_Right_goal,List.forall_mem_cons.mpr ⟨T.na_Right_one,List.forall_mem_cons.mpr ⟨T.na_Right_k,fun _ h=>nomatch h⟩⟩⟩⟩
 ·exact ⟨T.cl_Slide,List.forall_mem_cons.mpr ⟨T.na_Slide_goal,List.forall_mem_cons.mpr ⟨T.na_Slide_one,List.forall_mem_cons.mpr ⟨T.na_Slide_k,fun _ h=>nomatch h⟩⟩⟩⟩
 ·exact ⟨T.cl_And,List.forall_mem_cons.mpr ⟨T.na_And_goal,List.forall_mem_cons.mpr ⟨T.na_And_one,List.forall_mem_cons.mpr ⟨T.na_And_other,fun _ h=>nomatch h⟩⟩⟩⟩
 ·exact ⟨T.cl_Or,List.forall_mem_cons.mpr ⟨T.na_Or_goal,List.forall_mem_cons.mpr ⟨T.na_Or_one,List.forall_mem_cons.mpr ⟨T.na_Or_other,fun _ h=>nomatch h⟩⟩⟩⟩
 ·exact ⟨T.cl_Unlike,List.forall_mem_cons.mpr ⟨T.na_Unlike_goal,List.forall_mem_cons.mpr ⟨T.na_Unlike_one,List.forall_mem_cons.mpr ⟨T.na_Unlike_other,fun _ h=>nomatch h⟩⟩⟩⟩
 ·exact ⟨T.cl_Under,List.forall_mem_cons.mpr ⟨T.na_Under_goal,List.forall_mem_cons.mpr ⟨T.na_Under_one,List.forall_mem_cons.mpr ⟨T.na_Under_other,fun _ h=>nomatch h⟩⟩⟩⟩
 ·exact ⟨T.cl_Pick,List.forall_mem_cons.mpr ⟨T.na_Pick_goal,List.forall_mem_cons.mpr ⟨T.na_Pick_by,List.forall_mem_cons.mpr ⟨T.na_Pick_one,List.forall_mem_cons.mpr ⟨T.na_Pick_other,fun _ h=>nomatch h⟩⟩⟩⟩⟩
 ·exact ⟨T.cl_Mark,List.forall_mem_cons.mpr ⟨T.na_Mark_line,List.forall_mem_cons.mpr ⟨T.na_Mark_mark,List.forall_mem_cons.mpr ⟨T.na_Mark_by,fun _ h=>nomatch h⟩⟩⟩⟩
theorem nq {f:Addr} {fd:FuncData} (F:Fun K "told" "Set.told" hC f fd) (T:Txt K mg c) :FnOk P w K mg base CX0 1 f fd ["self"] (bj c [0]):=by
 refine F.ok oS (fun vs H Q E h=>?_) (fun cdv A outer s H vs Q E hr h=>?_)
 ·obtain ⟨x,k,fs,rfl,_⟩:=h
  rfl
 obtain ⟨x,k,fs,rfl,hk,⟨dx,hx,ln⟩,q⟩:=h
 refine ⟨_,(ai (ar (cD (aa am (aa (aw (pv 0) rfl) (aa (aw (pv 0) rfl) ag)))))),?_⟩
 simp only [List.mem_cons,List.not_mem_nil,or_false] at hk
 subst hk
 obtain ⟨a0,a1,rfl⟩:=len2 ln
 obtain ⟨cl,na⟩:=T.clF (k:=0) (by decide)
 refine ⟨_,rfl,x,_,dx,_,_,rfl,hx,cl,na _ (by simp [nOf]),rfl,_,rfl,x,_,dx,_,_,rfl,hx,cl,na _ (by simp [nOf]),rfl,(by show 3<=sizeLine; decide),fun r hr'=>q r hr'⟩
theorem mV {f:Addr} {fd:FuncData} (F:Fun K "told" "Copy.told" fO f fd) (T:Txt K mg c) :FnOk P w K mg base CX0 1 f fd ["self"] (bj c [1]):=by
 refine F.ok lG (fun vs H Q E h=>?_) (fun cdv A outer s H vs Q E hr h=>?_)
 ·obtain ⟨x,k,fs,rfl,_⟩:=h
  rfl
 obtain ⟨x,k,fs,rfl,hk,⟨dx,hx,ln⟩,q⟩:=h
 refine ⟨_,(ai (ar (cD (aa am (aa (aw (pv 0) rfl) (aa (aw (pv 0) rfl) ag)))))),?_⟩
 simp only [List.mem_cons,List.not_mem_nil,or_false] at hk
 subst hk
 obtain ⟨a0,a1,rfl⟩:=len2 ln
 obtain ⟨cl,na⟩:=T.clF (k:=1) (by decide)
 refine ⟨_,rfl,x,_,dx,_,_,rfl,hx,cl,na _ (by simp [nOf]),rfl,_,rfl,x,_,dx,_,_,rfl,hx,cl,na _ (by simp [nOf]),rfl,(by show 3<=sizeLine; decide),fun r hr'=>q r hr'⟩
theorem ee {f:Addr} {fd:FuncData} (F:Fun K "told" "Carrying.told" cK f fd) (T:Txt K mg c)  (MW:∀ i ∈ [2,3],MHas P w K mg base 1 (fOf c i) "word" ["self"] (d9 (wOf i))):FnOk P w K mg base CX0 2 f fd ["self"] (bj c [2,3]):=by
 refine F.ok iu (fun vs H Q E h=>?_) (fun cdv A outer s H vs Q E hr h=>?_)
 ·obtain ⟨x,k,fs,rfl,_⟩:=h
  rfl
 obtain ⟨x,k,fs,rfl,hk,⟨dx,hx,ln⟩,q⟩:=h
 refine ⟨_,(ai (ar (cD (aa (cL (k:=1) (pv 0) (hr.mono (by lia))) (aa (aw (pv 0) rfl) (aa (aw (pv 0) rfl) (aa (aw (pv 0) rfl) (aa (aw (pv 0) rfl) ag)))))))),?_⟩
 have mw:=MW k hk
 simp only [List.mem_cons,List.not_mem_nil,or_false] at hk
 rcases hk with rfl | rfl
 ·obtain ⟨a0,a1,a2,a3,rfl⟩:=len4 ln
  obtain ⟨cl,na⟩:=T.clF (k:=2) (by decide)
  refine ⟨_,rfl,x,_,dx,_,_,_,rfl,hx,rfl,mw,x,rfl,_,rfl,x,_,dx,_,_,rfl,hx,cl,na _ (by simp [nOf]),rfl,_,rfl,x,_,dx,_,_,rfl,hx,cl,na _ (by simp [nOf]),rfl,_,rfl,x,_,dx,_,_,rfl,hx,cl,na _ (by simp [nOf]),rfl,_,rfl,x,_,dx,_,_,rfl,hx,cl,na _ (by simp [nOf]),rfl,(by show 5<=sizeLine; decide),fun r hr'=>q r hr'⟩
 ·obtain ⟨a0,a1,a2,a3,rfl⟩:=len4 ln
  obtain ⟨cl,na⟩:=T.clF (k:=3) (by decide)
  refine ⟨_,rfl,x,_,dx,_,_,_,rfl,hx,rfl,mw,x,rfl,_,rfl,x,_,dx,_,_,rfl,hx,cl,na _ (by simp [nOf]),rfl,_,rfl,x,_,dx,_,_,rfl,hx,cl,na _ (by simp [nOf]),rfl,_,rfl,x,_,dx,_,_,rfl,hx,cl,na _ (by simp [nOf]),rfl,_,rfl,x,_,dx,_,_,rfl,hx,cl,na _ (by simp [nOf]),rfl,(by show 5<=sizeLine; decide),fun r hr'=>q r hr'⟩
theorem bi {f:Addr} {fd:FuncData} (F:Fun K "told" "Joining.told" da f fd) (T:Txt K mg c)  (MW:∀ i ∈ [4,5,9,10,11,12],MHas P w K mg base 1 (fOf c i) "word" ["self"] (d9 (wOf i))):FnOk P w K mg base CX0 2 f fd ["self"] (bj c [4,5,9,10,11,12]):=by
 refine F.ok jf (fun vs H Q E h=>?_) (fun cdv A outer s H vs Q E hr h=>?_)
 ·obtain ⟨x,k,fs,rfl,_⟩:=h
  rfl
 obtain ⟨x,k,fs,rfl,hk,⟨dx,hx,ln⟩,q⟩:=h
 refine ⟨_,(ai (ar (cD (aa (cL (k:=1) (pv 0) (hr.mono (by lia))) (aa (aw (pv 0) rfl) (aa (aw (pv 0) rfl) (aa (aw (pv 0) rfl) ag))))))),?_⟩
 have mw:=MW k hk
 simp only [List.mem_cons,List.not_mem_nil,or_false] at hk
 rcases hk with rfl | rfl | rfl | rfl | rfl | rfl
 ·obtain ⟨a0,a1,a2,rfl⟩:=qo ln
  obtain ⟨cl,na⟩:=T.clF (k:=4) (by decide)
  refine ⟨_,rfl,x,_,dx,_,_,_,rfl,hx,rfl,mw,x,rfl,_,rfl,x,_,dx,_,_,rfl,hx,cl,na _ (by simp [nOf]),rfl,_,rfl,x,_,dx,_,_,rfl,hx,cl,na _ (by simp [nOf]),rfl,_,rfl,x,_,dx,_,_,rfl,hx,cl,na _ (by simp [nOf]),rfl,(by show 4<=sizeLine; decide),fun r hr'=>q r hr'⟩
 ·obtain ⟨a0,a1,a2,rfl⟩:=qo ln
  obtain ⟨cl,na⟩:=T.clF (k:=5) (by decide)
  refine ⟨_,rfl,x,_,dx,_,_,_,rfl,hx,rfl,mw,x,rfl,_,rfl,x,_,dx,_,_,rfl,hx,cl,na _ (by simp [nOf]),rfl,_,rfl,x,_,dx,_,_,rfl,hx,cl,na _ (by simp [nOf]),rfl,_,rfl,x,_,dx,_,_,rfl,hx,cl,na _ (by simp [nOf]),rfl,(by show 4<=sizeLine; decide),fun r hr'=>q r hr'⟩
 ·obtain ⟨a0,a1,a2,rfl⟩:=qo ln
  obtain ⟨cl,na⟩:=T.clF (k:=9) (by decide)
  refine ⟨_,rfl,x,_,dx,_,_,_,rfl,hx,rfl,mw,x,rfl,_,rfl,x,_,dx,_,_,rfl,hx,cl,na _ (by simp [nOf]),rfl,_,rfl,x,_,dx,_,_,rfl,hx,cl,na _ (by simp [nOf]),rfl,_,rfl,x,_,dx,_,_,rfl,hx,cl,na _ (by simp [nOf]),rfl,(by show 4<=sizeLine; decide),fun r hr'=>q r hr'⟩
 ·obtain ⟨a0,a1,a2,rfl⟩:=qo ln
  obtain ⟨cl,na⟩:=T.clF (k:=10) (by decide)
  refine ⟨_,rfl,x,_,dx,_,_,_,rfl,hx,rfl,mw,x,rfl,_,rfl,x,_,dx,_,_,rfl,hx,cl,na _ (by simp [nOf]),rfl,_,rfl,x,_,dx,_,_,rfl,hx,cl,na _ (by simp [nOf]),rfl,_,rfl,x,_,dx,_,_,rfl,hx,cl,na _ (by simp [nOf]),rfl,(by show 4<=sizeLine; decide),fun r hr'=>q r hr'⟩
 ·obtain ⟨a0,a1,a2,rfl⟩:=qo ln
  obtain ⟨cl,na⟩:=T.clF (k:=11) (by decide)
  refine ⟨_,rfl,x,_,dx,_,_,_,rfl,hx,rfl,mw,x,rfl,_,rfl,x,_,dx,_,_,rfl,hx,cl,na _ (by simp [nOf]),rfl,_,rfl,x,_,dx,_,_,rfl,hx,cl,na _ (by simp [nOf]),rfl,_,rfl,x,_,dx,_,_,rfl,hx,cl,na _ (by simp [nOf]),rfl,(by show 4<=sizeLine; decide),fun r hr'=>q r hr'⟩
 ·obtain ⟨a0,a1,a2,rfl⟩:=qo ln
  obtain ⟨cl,na⟩:=T.clF (k:=12) (by decide)
  refine ⟨_,rfl,x,_,dx,_,_,_,rfl,hx,rfl,mw,x,rfl,_,rfl,x,_,dx,_,_,rfl,hx,cl,na _ (by simp [nOf]),rfl,_,rfl,x,_,dx,_,_,rfl,hx,cl,na _ (by simp [nOf]),rfl,_,rfl,x,_,dx,_,_,rfl,hx,cl,na _ (by simp [nOf]),rfl,(by show 4<=sizeLine; decide),fun r hr'=>q r hr'⟩
theorem dn {f:Addr} {fd:FuncData} (F:Fun K "told" "Moving.told" dQ f fd) (T:Txt K mg c)  (MW:∀ i ∈ [6,7,8],MHas P w K mg base 1 (fOf c i) "word" ["self"] (d9 (wOf i))):FnOk P w K mg base CX0 2 f fd ["self"] (bj c [6,7,8]):=by
 refine F.ok jH (fun vs H Q E h=>?_) (fun cdv A outer s H vs Q E hr h=>?_)
 ·obtain ⟨x,k,fs,rfl,_⟩:=h
  rfl
 obtain ⟨x,k,fs,rfl,hk,⟨dx,hx,ln⟩,q⟩:=h
 refine ⟨_,(ai (ar (cD (aa (cL (k:=1) (pv 0) (hr.mono (by lia))) (aa (aw (pv 0) rfl) (aa (aw (pv 0) rfl) (aa (aw (pv 0) rfl) ag))))))),?_⟩
 have mw:=MW k hk
 simp only [List.mem_cons,List.not_mem_nil,or_false] at hk
 rcases hk with rfl | rfl | rfl
 ·obtain ⟨a0,a1,a2,rfl⟩:=qo ln
  obtain ⟨cl,na⟩:=T.clF (k:=6) (by decide)
  refine ⟨_,rfl,x,_,dx,_,_,_,rfl,hx,rfl,mw,x,rfl,_,rfl,x,_,dx,_,_,rfl,hx,cl,na _ (by simp [nOf]),rfl,_,rfl,x,_,dx,_,_,rfl,hx,cl,na _ (by simp [nOf]),rfl,_,rfl,x,_,dx,_,_,rfl,hx,cl,na _ (by simp [nOf]),rfl,(by show 4<=sizeLine; decide),fun r hr'=>q r hr'⟩
 ·obtain ⟨a0,a1,a2,rfl⟩:=qo ln
  obtain ⟨cl,na⟩:=T.clF (k:=7) (by decide)
  refine ⟨_,rfl,x,_,dx,_,_,_,rfl,hx,rfl,mw,x,rfl,_,rfl,x,_,dx,_,_,rfl,hx,cl,na _ (by simp [nOf]),rfl,_,rfl,x,_,dx,_,_,rfl,hx,cl,na _ (by simp [nOf]),rfl,_,rfl,x,_,dx,_,_,rfl,hx,cl,na _ (by simp [nOf]),rfl,(by show 4<=sizeLine; decide),fun r hr'=>q r hr'⟩
 ·obtain ⟨a0,a1,a2,rfl⟩:=qo ln
  obtain ⟨cl,na⟩:=T.clF (k:=8) (by decide)
  refine ⟨_,rfl,x,_,dx,_,_,_,rfl,hx,rfl,mw,x,rfl,_,rfl,x,_,dx,_,_,rfl,hx,cl,na _ (by simp [nOf]),rfl,_,rfl,x,_,dx,_,_,rfl,hx,cl,na _ (by simp [nOf]),rfl,_,rfl,x,_,dx,_,_,rfl,hx,cl,na _ (by simp [nOf]),rfl,(by show 4<=sizeLine; decide),fun r hr'=>q r hr'⟩
theorem lV {f:Addr} {fd:FuncData} (F:Fun K "told" "Pick.told" fH f fd) (T:Txt K mg c) :FnOk P w K mg base CX0 1 f fd ["self"] (bj c [13]):=by
 refine F.ok ma (fun vs H Q E h=>?_) (fun cdv A outer s H vs Q E hr h=>?_)
 ·obtain ⟨x,k,fs,rfl,_⟩:=h
  rfl
 obtain ⟨x,k,fs,rfl,hk,⟨dx,hx,ln⟩,q⟩:=h
 refine ⟨_,(ai (ar (cD (aa am (aa (aw (pv 0) rfl) (aa (aw (pv 0) rfl) (aa (aw (pv 0) rfl) (aa (aw (pv 0) rfl) ag)))))))),?_⟩
 simp only [List.mem_cons,List.not_mem_nil,or_false] at hk
 subst hk
 obtain ⟨a0,a1,a2,a3,rfl⟩:=len4 ln
 obtain ⟨cl,na⟩:=T.clF (k:=13) (by decide)
 refine ⟨_,rfl,x,_,dx,_,_,rfl,hx,cl,na _ (by simp [nOf]),rfl,_,rfl,x,_,dx,_,_,rfl,hx,cl,na _ (by simp [nOf]),rfl,_,rfl,x,_,dx,_,_,rfl,hx,cl,na _ (by simp [nOf]),rfl,_,rfl,x,_,dx,_,_,rfl,hx,cl,na _ (by simp [nOf]),rfl,(by show 5<=sizeLine; decide),fun r hr'=>q r hr'⟩
theorem lT {f:Addr} {fd:FuncData} (F:Fun K "told" "Mark.told" fF f fd) (T:Txt K mg c) :FnOk P w K mg base CX0 1 f fd ["self"] (bj c [14]):=by
 refine F.ok lH (fun vs H Q E h=>?_) (fun cdv A outer s H vs Q E hr h=>?_)
 ·obtain ⟨x,k,fs,rfl,_⟩:=h
  rfl
 obtain ⟨x,k,fs,rfl,hk,⟨dx,hx,ln⟩,q⟩:=h
 refine ⟨_,(ai (ar (cD (aa am (aa (aw (pv 0) rfl) (aa (aw (pv 0) rfl) (aa (aw (pv 0) rfl) ag))))))),?_⟩
 simp only [List.mem_cons,List.not_mem_nil,or_false] at hk
 subst hk
 obtain ⟨a0,a1,a2,rfl⟩:=qo ln
 obtain ⟨cl,na⟩:=T.clF (k:=14) (by decide)
 refine ⟨_,rfl,x,_,dx,_,_,rfl,hx,cl,na _ (by simp [nOf]),rfl,_,rfl,x,_,dx,_,_,rfl,hx,cl,na _ (by simp [nOf]),rfl,_,rfl,x,_,dx,_,_,rfl,hx,cl,na _ (by simp [nOf]),rfl,(by show 4<=sizeLine; decide),fun r hr'=>q r hr'⟩
def csOf (c:Ad):List Addr:=[c.Set,c.Copy,c.Sum,c.Gap,c.Low,c.High,c.Left,c.Right,c.Slide,c.And,c.Or,c.Unlike,c.Under,c.Pick,c.Mark,c.Turns]
theorem cs_at {c:Ad} {k:Nat} (h:k < 16):(csOf c).getD k 0 = fOf c k:=by
 rcases (by lia:k = 0\/k = 1\/k = 2\/k = 3\/k = 4\/k = 5\/k = 6\/k = 7\/k = 8\/k = 9\/k = 10\/k = 11\/k = 12\/k = 13\/k = 14\/k = 15) with rfl | rfl | rfl | rfl | rfl | rfl | rfl | rfl | rfl | rfl | rfl | rfl | rfl | rfl | rfl | rfl <;> rfl
theorem Txt.kd {K:Frag} {mg:Str->Option Value} {c:Ad} (T:Txt K mg c) {k:Nat} (h:k < 16):isClsIn K (fOf c k) = true/\typeIn K (.ref (fOf c k)) = some (.type "type")/\mroIn K (fOf c k) (.ref c.Step) = some true/\findIn K (.ref (fOf c k)) "__class__" = some (some (.builtin "object.__class__"))/\mroIn K (fOf c k) (.type "object") = some true/\∀ i,i < 16->mroIn K (fOf c k) (.ref (fOf c i)) = some (decide (i = k)):=by
 have a:=T.kf_kr_kinds
 have a:fh K (csOf c) c.Step = true:=a
 unfold fh at a
 simp only [Bool.and_eq_true] at a
 have b:=List.all_eq_true.mp a.2 k (List.mem_range.mpr h)
 simp only [Bool.and_eq_true,beq_iff_eq] at b
 rw [cs_at h] at b
 obtain ⟨⟨⟨⟨⟨b1,b2⟩,b3⟩,b4⟩,b5⟩,b6⟩:=b
 refine ⟨b1,b2,b3,b4,b5,fun i hi=>?_⟩
 have:=List.all_eq_true.mp b6 i (List.mem_range.mpr hi)
 rw [beq_iff_eq,cs_at hi] at this
 exact this
theorem Txt.st {K:Frag} {mg:Str->Option Value} {c:Ad} (T:Txt K mg c):isClsIn K c.Step = true/\typeIn K (.ref c.Step) = some (.type "type"):=by
 have a:fh K (csOf c) c.Step = true:=T.kf_kr_kinds
 unfold fh at a
 simp only [Bool.and_eq_true,beq_iff_eq] at a
 exact a.1
theorem Txt.ty {K:Frag} {mg:Str->Option Value} {c:Ad} (T:Txt K mg c) {k:Nat} (h:k < 15) {H:Hp} {x dx:Addr} {fs:List (Str × V)} (e:H x = some (.ins (fOf c k) dx fs)):TyOf K H (.ref x) (.ref (fOf c k)):=TyOf.ins e (T.clF h).1 (T.kd (by lia)).2.2.2.1 T.kf_og T.kf_ot (T.kd (by lia)).2.2.2.2.1
theorem Txt.kit {K:Frag} {mg:Str->Option Value} {c:Ad} (T:Txt K mg c) {k i:Nat} (h:k < 16) (hi:i < 16):kitOne K (.ref (fOf c k)) (.ref (fOf c i)) = some (decide (i = k)):=by
 by_cases e:i = k
 ·subst e
  rw [decide_eq_true rfl]
  have:=(T.kd h).2.2.2.2.2 i h
  rw [decide_eq_true rfl] at this
  exact qU (T.kd h).1 (T.kd h).2.1 this
 ·rw [decide_eq_false e]
  have a:=(T.kd h).2.2.2.2.2 i hi
  have b:=(T.kd hi).2.2.2.2.2 i hi
  rw [decide_eq_false e] at a
  rw [decide_eq_true rfl] at b
  exact sK (T.kd hi).1 (T.kd hi).2.1 a b
theorem jT {f:Addr} {fd:FuncData} (F:Fun K "is_register" "is_register" dP f fd) (T:Txt K mg c) :FnOk P w K mg base CX0 1 f fd ["thing"] mO:=by
 refine F.ok jK (fun vs H Q E h=>?_) (fun cdv A outer s H vs Q E hr h=>?_)
 ·obtain ⟨x,rfl,_⟩:=h
  rfl
 obtain ⟨x,rfl,th,hz,q⟩:=h
 refine ⟨_,(ah (aR (PW.pt (eE (bz (bt (aE aK rfl T.n_isinstance boot_isinstance (aa (pv 0) (aa (iZ rfl T.n_str boot_str) ag))))) (eE (bz (gF jv jv ak (aE h8 rfl T.n_len boot_len (aa (pv 0) ag)) ak)) (dE (ay mL (aN ix_str (pv 0) ak (fun _ _=>rfl)) (pK rfl T.g_LETTERS) (by with_unfolding_all rfl))))))
   (ai (ar fS))
   aA)
  (ai (ar (aE (gf rfl) rfl T.n_all boot_all (aa (iE rfl (by first | rfl | with_unfolding_all rfl) (by decide +kernel) rfl (by decide +kernel) rfl (pi_str (pv 0)) (fun C s2 H2 fp=>(dl sk (pv 0) (pK rfl T.g_LETTERS_AND_FIGURES) (by with_unfolding_all rfl)))) ag))))),?_⟩
 cases th with
 | int i=>exact ⟨_,rfl,_,_,_,_,_,rfl,rfl,TyOf.int _,oK _,_,rfl,fN (q H (Same.refl _))⟩
 | bl b=>exact ⟨_,rfl,_,_,_,_,_,rfl,rfl,TyOf.bl _,qz _,_,rfl,fN (q H (Same.refl _))⟩
 | non=>exact ⟨_,rfl,_,_,_,_,_,rfl,rfl,TyOf.non,nR _,_,rfl,fN (q H (Same.refl _))⟩
 | lst h=>exact ⟨_,rfl,_,_,_,_,_,rfl,rfl,TyOf.lst h,nQ _,_,rfl,fN (q H (Same.refl _))⟩
 | tup h=>exact ⟨_,rfl,_,_,_,_,_,rfl,rfl,TyOf.tup h,oB _,_,rfl,fN (q H (Same.refl _))⟩
 | dct h=>exact ⟨_,rfl,_,_,_,_,_,rfl,rfl,TyOf.dK h,oM _,_,rfl,fN (q H (Same.refl _))⟩
 | str z =>
 have hz:=hz z rfl
 refine ⟨_,rfl,_,_,_,_,_,rfl,rfl,TyOf.str _,fY _,_,rfl,eB ?_⟩
 have no:isReg (.str z) = false->Q (.bl false) H:=fun e=>by have:=q H (Same.refl _); rw [e] at this; exact this
 have lz:z.length = z.cps.size:=rfl
 have L1000:(1000:Nat)<=sizeLine:=by decide
 refine ⟨_,rfl,z,rfl,hz,_,_,rfl,rfl,_,rfl,?_⟩
 by_cases c1:(1:Int)<=(z.length:Int)
 rotate_left
 ·refine be c1 ⟨_,rfl,fN (no ?_)⟩
  show (decide (1<=z.length) && _ && _ && _) = false
  rw [decide_eq_false (by lia)]
  rfl
 refine dg c1 ⟨_,_,rfl,rfl,_,rfl,?_⟩
 by_cases c2:(z.length:Int)<=8
 rotate_left
 ·refine iteN c2 (no ?_)
  show (_ && decide (z.length<=8) && _ && _) = false
  rw [decide_eq_false (show ¬ z.length<=8 by lia),Bool.and_false]
  rfl
 refine fz c2 ?_
 have s1:0 < z.cps.size:=by lia
 have e0:z.cps[0]? = some z.cps[0]:=Array.getElem?_eq_getElem s1
 have a0:atI z.cps.toList 0 = some z.cps[0]:=fL (j:=0) (by rw [Array.getElem?_toList]; exact e0)
 refine ⟨_,rfl,z,0,_,rfl,rfl,hz,a0,_,_,rfl,rfl,_,rfl,?_⟩
 have reg:isReg (.str z) = (inS LT ⟨#[z.cps[0]]⟩ && z.cps.toList.all fun n=>inS LF ⟨#[n]⟩):=by
  show (decide (1<=z.length) && decide (z.length<=8) && (match z.cps[0]? with | some n=>inS LT ⟨#[n]⟩ | none=>false) && _) = _
  rw [decide_eq_true (show 1<=z.length by lia),decide_eq_true (show z.length<=8 by lia),e0]
  rfl
 show if (!inS LT ⟨#[z.cps[0]]⟩) = true then _ else _
 cases e3:inS LT ⟨#[z.cps[0]]⟩ with
 | false =>
  refine fN (no ?_)
  rw [reg,e3]
  rfl
 | true =>
 refine eB ?_
 refine ⟨_,rfl,z,rfl,fun D hD=>?_⟩
 refine comp_str (z:=z) (fun j HJ=>HJ D = some (.lst (((z.cps.toList.take j).map fun n=>inS LF ⟨#[n]⟩).map V.bl))/\Same H HJ) ⟨ae,au hD _⟩ ?_ ?_
 ·rintro j n HJ hn ⟨hy,sJ⟩
  have jl:=(Array.getElem?_eq_some_iff.mp hn).1
  refine ⟨_,rfl,_,_,rfl,rfl,_,hy,(by rw [List.length_map,List.length_map,List.length_take]; lia),_,(show z.cps.size - (j + 1) < _ by lia),rfl,(by lia),?_,Same.updL sJ hD⟩
  rw [ae,List.take_add_one,show z.cps.toList[j]? = some n by rw [Array.getElem?_toList]; exact hn,Option.toList_some,List.map_append,List.map_append]
  rfl
 ·rintro HJ ⟨hy,sJ⟩
  refine ⟨D,_,rfl,SqL.of hy,?_⟩
  have:=q HJ sJ
  rw [reg,e3,Bool.true_and] at this
  rw [show z.cps.toList.take z.cps.size = z.cps.toList by rw [<- Array.length_toList,List.take_length],List.all_map]
  exact this
theorem nil_ {σ:L2.St} {H:Hp} {k:List V->Hp->Prop} (h:k [] H):tNil σ H k:=h
theorem mG {z:Str} (h:Rg z) {H:Hp} {Q:VK} {E:XK} (q:∀ H',Same H H'->Q (.bl true) H'):mO [.str z] H Q E:=by
 refine ⟨_,rfl,Th.str z,fun z' e=>?_,fun H' s'=>?_⟩
 ·cases e
  exact Nat.le_trans h.2 (by decide)
 ·rw [h.1.reg h.2]
  exact q H' s'
theorem ix {f:Addr} {fd:FuncData} (F:Fun K "are_registers" "are_registers" cT f fd) (T:Txt K mg c) (H_is_register:Has P w K mg base 1 "is_register" ["thing"] mO):FnOk P w K mg base CX0 2 f fd ["things"] i7:=by
 refine F.ok iw (fun vs H Q E h=>?_) (fun cdv A outer s H vs Q E hr h=>?_)
 ·obtain ⟨l,zs,rfl,_⟩:=h
  rfl
 obtain ⟨l,zs,rfl,hl,ln,ok,q⟩:=h
 refine ⟨_,(ai (ar (aE (gf rfl) rfl T.n_all boot_all (aa (iE rfl (by first | rfl | with_unfolding_all rfl) (by decide +kernel) rfl (by decide +kernel) rfl (cu (pv 0)) (fun C s2 H2 fp=>(aG H_is_register (hr.mono (by lia)) rfl (aa (pv 0) ag)))) ag)))),?_⟩
 have L1000:(1000:Nat)<=sizeLine:=by decide
 refine ⟨_,rfl,l,rfl,⟨_,SqL.of hl⟩,fun D hD=>?_⟩
 refine mS (xs:=zs.map V.str) (fun j HJ=>HJ D = some (.lst ((List.replicate j true).map V.bl))/\Same H HJ) ⟨ae,au hD _⟩ ?_ ?_ ?_
 ·rintro j HJ hj ⟨hy,sJ⟩
  exact SqL.of (sJ _ _ hl)
 ·rintro j v HJ hv ⟨hy,sJ⟩
  have jl:=(List.getElem?_eq_some_iff.mp hv).1
  have jl2:=jl
  rw [List.length_map] at jl2
  rw [List.getElem?_map] at hv
  cases ez:zs[j]? with
  | none=>rw [ez] at hv; cases hv
  | some z =>
   rw [ez] at hv
   cases hv
   refine ⟨_,rfl,nil_ <| mG (ok z (List.mem_of_getElem? ez)) fun H2 s2=>⟨_,s2 _ _ hy,(by rw [List.length_map,List.length_replicate]; lia),_,(show (zs.map V.str).length - (j + 1) < _ by lia),rfl,(by lia),?_,Same.updL (sJ.trans s2) hD⟩⟩
   rw [ae,List.replicate_succ',List.map_append]
   rfl
 ·rintro HJ ⟨hy,sJ⟩
  refine ⟨D,_,rfl,SqL.of hy,?_⟩
  rw [show (List.replicate (zs.map V.str).length true).all id = true by rw [List.all_eq_true]; exact fun b hb=>(List.mem_replicate.mp hb).2]
  exact q HJ sJ
theorem ji {f:Addr} {fd:FuncData} (F:Fun K "reckoned" "Sum.reckoned" dz f fd) (T:Txt K mg c) (H_sum_of:Has P w K mg base 4 "sum_of" ["width","a","b"] spSum):FnOk P w K mg base CX0 5 f fd ["self","width","a","b"] (rO 2):=by
 refine F.ok iS (fun vs H Q E h=>?_) (fun cdv A outer s H vs Q E hr h=>?_)
 ·obtain ⟨x,w',a,b,rfl,_⟩:=h
  rfl
 obtain ⟨x,w',a,b,rfl,w0,w1,q⟩:=h
 refine ⟨_,(ai (ar (aG H_sum_of (hr.mono (by lia)) rfl (aa (pv 1) (aa (pv 2) (aa (pv 3) ag)))))),?_⟩
 exact ⟨_,rfl,_,rfl,_,rfl,w',a,b,rfl,w0,w1,fun t ht=>q t ht⟩
theorem jz {f:Addr} {fd:FuncData} (F:Fun K "reckoned" "Gap.reckoned" du f fd) (T:Txt K mg c) (H_gap_of:Has P w K mg base 4 "gap_of" ["width","a","b"] spGap):FnOk P w K mg base CX0 5 f fd ["self","width","a","b"] (rO 3):=by
 refine F.ok i6 (fun vs H Q E h=>?_) (fun cdv A outer s H vs Q E hr h=>?_)
 ·obtain ⟨x,w',a,b,rfl,_⟩:=h
  rfl
 obtain ⟨x,w',a,b,rfl,w0,w1,q⟩:=h
 refine ⟨_,(ai (ar (aG H_gap_of (hr.mono (by lia)) rfl (aa (pv 1) (aa (pv 2) (aa (pv 3) ag)))))),?_⟩
 exact ⟨_,rfl,_,rfl,_,rfl,w',a,b,rfl,w0,w1,fun t ht=>q t ht⟩
theorem jh {f:Addr} {fd:FuncData} (F:Fun K "reckoned" "Low.reckoned" cZ f fd) (T:Txt K mg c) (H_low_product:Has P w K mg base 4 "low_product" ["width","a","b"] spLow):FnOk P w K mg base CX0 5 f fd ["self","width","a","b"] (qw 4):=by
 refine F.ok iI (fun vs H Q E h=>?_) (fun cdv A outer s H vs Q E hr h=>?_)
 ·obtain ⟨x,w',a,b,rfl,_⟩:=h
  rfl
 obtain ⟨x,w',a,b,rfl,w0,w1,a0,a1,b0,b1,q⟩:=h
 refine ⟨_,(ai (ar (aG H_low_product (hr.mono (by lia)) rfl (aa (pv 1) (aa (pv 2) (aa (pv 3) ag)))))),?_⟩
 have P:=aW w0 w1
 exact ⟨_,rfl,_,rfl,_,rfl,w',a,b,rfl,w0,w1,cmul_l a0 (by lia),q⟩
theorem ic {f:Addr} {fd:FuncData} (F:Fun K "reckoned" "High.reckoned" cU f fd) (T:Txt K mg c) (H_high_product:Has P w K mg base 4 "high_product" ["width","a","b"] tz):FnOk P w K mg base CX0 5 f fd ["self","width","a","b"] (qw 5):=by
 refine F.ok il (fun vs H Q E h=>?_) (fun cdv A outer s H vs Q E hr h=>?_)
 ·obtain ⟨x,w',a,b,rfl,_⟩:=h
  rfl
 obtain ⟨x,w',a,b,rfl,w0,w1,a0,a1,b0,b1,q⟩:=h
 refine ⟨_,(ai (ar (aG H_high_product (hr.mono (by lia)) rfl (aa (pv 1) (aa (pv 2) (aa (pv 3) ag)))))),?_⟩
 have P:=aW w0 w1
 exact ⟨_,rfl,_,rfl,_,rfl,w',a,b,rfl,w0,w1,cmul_l a0 (by lia),q⟩
theorem ja {f:Addr} {fd:FuncData} (F:Fun K "reckoned" "And.reckoned" dj f fd) (T:Txt K mg c) :FnOk P w K mg base CX0 1 f fd ["self","width","a","b"] (qw 9):=by
 refine F.ok iX (fun vs H Q E h=>?_) (fun cdv A outer s H vs Q E hr h=>?_)
 ·obtain ⟨x,w',a,b,rfl,_⟩:=h
  rfl
 obtain ⟨x,w',a,b,rfl,w0,w1,a0,a1,b0,b1,q⟩:=h
 refine ⟨_,(ai (ar (aq op_and (pv 2) (pv 3)))),?_⟩
 have P:=aW w0 w1
 exact ⟨_,rfl,_,rfl,_,_,rfl,rfl,q⟩
theorem jQ {f:Addr} {fd:FuncData} (F:Fun K "reckoned" "Or.reckoned" d4 f fd) (T:Txt K mg c) :FnOk P w K mg base CX0 1 f fd ["self","width","a","b"] (qw 10):=by
 refine F.ok jZ (fun vs H Q E h=>?_) (fun cdv A outer s H vs Q E hr h=>?_)
 ·obtain ⟨x,w',a,b,rfl,_⟩:=h
  rfl
 obtain ⟨x,w',a,b,rfl,w0,w1,a0,a1,b0,b1,q⟩:=h
 refine ⟨_,(ai (ar (aq op_or (pv 2) (pv 3)))),?_⟩
 have P:=aW w0 w1
 exact ⟨_,rfl,_,rfl,_,_,rfl,rfl,q⟩
theorem gu {f:Addr} {fd:FuncData} (F:Fun K "reckoned" "Unlike.reckoned" bZ f fd) (T:Txt K mg c) :FnOk P w K mg base CX0 1 f fd ["self","width","a","b"] (qw 11):=by
 refine F.ok gt (fun vs H Q E h=>?_) (fun cdv A outer s H vs Q E hr h=>?_)
 ·obtain ⟨x,w',a,b,rfl,_⟩:=h
  rfl
 obtain ⟨x,w',a,b,rfl,w0,w1,a0,a1,b0,b1,q⟩:=h
 refine ⟨_,(ai (ar (aq op_xor (pv 2) (pv 3)))),?_⟩
 have P:=aW w0 w1
 exact ⟨_,rfl,_,rfl,_,_,rfl,rfl,q⟩
theorem g9 {f:Addr} {fd:FuncData} (F:Fun K "reckoned" "Under.reckoned" cx f fd) (T:Txt K mg c) :FnOk P w K mg base CX0 1 f fd ["self","width","a","b"] (qw 12):=by
 refine F.ok gP (fun vs H Q E h=>?_) (fun cdv A outer s H vs Q E hr h=>?_)
 ·obtain ⟨x,w',a,b,rfl,_⟩:=h
  rfl
 obtain ⟨x,w',a,b,rfl,w0,w1,a0,a1,b0,b1,q⟩:=h
 refine ⟨_,(ai (ar (cj (ay jO (pv 2) (pv 3) (aD _)) ak ak))),?_⟩
 have P:=aW w0 w1
 refine ⟨_,rfl,_,rfl,_,_,rfl,rfl,_,rfl,?_⟩
 have q:Q (.int (if a < b then 1 else 0)) H:=q
 by_cases hc:a < b
 ·rw [if_pos hc] at q
  exact dg hc q
 ·rw [if_neg hc] at q
  exact be hc q
theorem lx {f:Addr} {fd:FuncData} (F:Fun K "moved" "Left.moved" fc f fd) (T:Txt K mg c) (H_left:Has P w K mg base 4 "left" ["width","a","k"] qY):FnOk P w K mg base CX0 5 f fd ["self","width","a"] (spMv c 6):=by
 refine F.ok lv (fun vs H Q E h=>?_) (fun cdv A outer s H vs Q E hr h=>?_)
 ·obtain ⟨x,w',a,j,g,y,rfl,_⟩:=h
  rfl
 obtain ⟨x,w',a,j,g,y,rfl,⟨dx,hx,ln⟩,w0,w1,a0,a1,j0,j1,q⟩:=h
 refine ⟨_,(ai (ar (aG H_left (hr.mono (by lia)) rfl (aa (pv 1) (aa (pv 2) (aa (aw (pv 0) rfl) ag)))))),?_⟩
 have P:=aW w0 w1
 obtain ⟨cl,na⟩:=T.clF (k:=6) (by decide)
 exact ⟨_,rfl,_,rfl,_,rfl,x,_,dx,_,_,rfl,hx,cl,na _ (by simp [nOf]),rfl,w',a,j,rfl,w0,w1,⟨by lia,by lia,by have:(2:Nat) ^ 64 = 18446744073709551616:=(by decide); lia⟩,q⟩
theorem jJ {f:Addr} {fd:FuncData} (F:Fun K "moved" "Right.moved" dY f fd) (T:Txt K mg c) (H_right:Has P w K mg base 4 "right" ["width","a","k"] nr):FnOk P w K mg base CX0 5 f fd ["self","width","a"] (spMv c 7):=by
 refine F.ok jY (fun vs H Q E h=>?_) (fun cdv A outer s H vs Q E hr h=>?_)
 ·obtain ⟨x,w',a,j,g,y,rfl,_⟩:=h
  rfl
 obtain ⟨x,w',a,j,g,y,rfl,⟨dx,hx,ln⟩,w0,w1,a0,a1,j0,j1,q⟩:=h
 refine ⟨_,(ai (ar (aG H_right (hr.mono (by lia)) rfl (aa (pv 1) (aa (pv 2) (aa (aw (pv 0) rfl) ag)))))),?_⟩
 have P:=aW w0 w1
 obtain ⟨cl,na⟩:=T.clF (k:=7) (by decide)
 exact ⟨_,rfl,_,rfl,_,rfl,x,_,dx,_,_,rfl,hx,cl,na _ (by simp [nOf]),rfl,w',a,j,rfl,w0,w1,j0,q⟩
theorem jW {f:Addr} {fd:FuncData} (F:Fun K "moved" "Slide.moved" dJ f fd) (T:Txt K mg c) (H_slide:Has P w K mg base 4 "slide" ["width","a","k"] nE):FnOk P w K mg base CX0 5 f fd ["self","width","a"] (spMv c 8):=by
 refine F.ok jP (fun vs H Q E h=>?_) (fun cdv A outer s H vs Q E hr h=>?_)
 ·obtain ⟨x,w',a,j,g,y,rfl,_⟩:=h
  rfl
 obtain ⟨x,w',a,j,g,y,rfl,⟨dx,hx,ln⟩,w0,w1,a0,a1,j0,j1,q⟩:=h
 refine ⟨_,(ai (ar (aG H_slide (hr.mono (by lia)) rfl (aa (pv 1) (aa (pv 2) (aa (aw (pv 0) rfl) ag)))))),?_⟩
 have P:=aW w0 w1
 obtain ⟨cl,na⟩:=T.clF (k:=8) (by decide)
 exact ⟨_,rfl,_,rfl,_,rfl,x,_,dx,_,_,rfl,hx,cl,na _ (by simp [nOf]),rfl,w',a,j,rfl,w0,w1,j0,q⟩
theorem az {c:Ad} {ks:List Nat} {k:Nat} {vs:List V} {H:Hp} {Q:VK} {E:XK} (hk:k ∈ ks) (h:bg c [k] vs H Q E):bg c ks vs H Q E:=by
 obtain ⟨x,w',r,e,m,t⟩:=h
 exact ⟨x,w',r,e,(List.mem_singleton.mp m).symm ▸ hk,t⟩
theorem aV {c:Ad} {ks:List Nat} {k:Nat} {vs:List V} {H:Hp} {Q:VK} {E:XK} (hk:k ∈ ks) (h:bT c [k] vs H Q E):bT c ks vs H Q E:=by
 obtain ⟨x,d,m',w',r,kvs,ms,e,m,t⟩:=h
 exact ⟨x,d,m',w',r,kvs,ms,e,(List.mem_singleton.mp m).symm ▸ hk,t⟩
theorem mk_in {m:Str} (h:m = "round"\/m = "stop"\/m = "nothing"):inV (.str m) [.str "round",.str "stop",.str "nothing"] = true:=by
 rcases h with rfl | rfl | rfl <;> decide +kernel
theorem jL {f:Addr} {fd:FuncData} (F:Fun K "good_at" "Set.good_at" dU f fd) (T:Txt K mg c) (H_is_register:Has P w K mg base 1 "is_register" ["thing"] mO) (H_is_word:Has P w K mg base 3 "is_word" ["width","thing"] iC):FnOk P w K mg base CX0 4 f fd ["self","width"] (bg c [0]):=by
 refine F.ok j3 (fun vs H Q E h=>?_) (fun cdv A outer s H vs Q E hr h=>?_)
 ·obtain ⟨x,w',r,rfl,_⟩:=h
  rfl
 obtain ⟨x,w',r,rfl,hk,⟨dx,hx,ln⟩,rk,w0,w1,q⟩:=h
 refine slE ⟨_,(aM (eg (ar (cY (aG H_is_register (hr.mono (by lia)) rfl (aa (aw (pv 0) rfl) ag)) (cW (aG H_is_word (hr.mono (by lia)) rfl (aa (pv 1) (aa (aw (pv 0) rfl) ag)))))))),?_⟩
 cases r with
 | copy _ _=>simp only [Rw.k,List.mem_cons,List.not_mem_nil,or_false] at hk; simp only [Rw.ok] at rk; lia
 | car _ _ _ _ _=>simp only [Rw.k,List.mem_cons,List.not_mem_nil,or_false] at hk; simp only [Rw.ok] at rk; lia
 | jn _ _ _ _=>simp only [Rw.k,List.mem_cons,List.not_mem_nil,or_false] at hk; simp only [Rw.ok] at rk; lia
 | mv _ _ _ _=>simp only [Rw.k,List.mem_cons,List.not_mem_nil,or_false] at hk; simp only [Rw.ok] at rk; lia
 | pick _ _ _ _=>simp only [Rw.k,List.mem_cons,List.not_mem_nil,or_false] at hk; simp only [Rw.ok] at rk; lia
 | mark _ _ _=>simp only [Rw.k,List.mem_cons,List.not_mem_nil,or_false] at hk; simp only [Rw.ok] at rk; lia
 | set g b =>
 obtain ⟨og,b0,b1⟩:=rk
 obtain ⟨cl,na⟩:=T.clF (k:=0) (by decide)
 exact ⟨_,rfl,x,_,dx,_,_,rfl,hx,cl,na _ (by simp [nOf]),rfl,nil_ <| mG og fun H2 s2=>⟨_,rfl,fN ⟨_,rfl,_,rfl,x,_,dx,_,_,rfl,(s2 _ _ hx),cl,na _ (by simp [nOf]),rfl,w',b,rfl,w0,w1,b0,b1,q H2 s2⟩⟩⟩
theorem iR {f:Addr} {fd:FuncData} (F:Fun K "good_at" "Copy.good_at" de f fd) (T:Txt K mg c) (H_are_registers:Has P w K mg base 2 "are_registers" ["things"] i7):FnOk P w K mg base CX0 3 f fd ["self","width"] (bg c [1]):=by
 refine F.ok iG (fun vs H Q E h=>?_) (fun cdv A outer s H vs Q E hr h=>?_)
 ·obtain ⟨x,w',r,rfl,_⟩:=h
  rfl
 obtain ⟨x,w',r,rfl,hk,⟨dx,hx,ln⟩,rk,w0,w1,q⟩:=h
 refine slE ⟨_,(aM (eg (ar (aG H_are_registers (hr.mono (by lia)) rfl (aa (aY (aa (aw (pv 0) rfl) (aa (aw (pv 0) rfl) ag))) ag))))),?_⟩
 cases r with
 | set _ _=>simp only [Rw.k,List.mem_cons,List.not_mem_nil,or_false] at hk; simp only [Rw.ok] at rk; lia
 | car _ _ _ _ _=>simp only [Rw.k,List.mem_cons,List.not_mem_nil,or_false] at hk; simp only [Rw.ok] at rk; lia
 | jn _ _ _ _=>simp only [Rw.k,List.mem_cons,List.not_mem_nil,or_false] at hk; simp only [Rw.ok] at rk; lia
 | mv _ _ _ _=>simp only [Rw.k,List.mem_cons,List.not_mem_nil,or_false] at hk; simp only [Rw.ok] at rk; lia
 | pick _ _ _ _=>simp only [Rw.k,List.mem_cons,List.not_mem_nil,or_false] at hk; simp only [Rw.ok] at rk; lia
 | mark _ _ _=>simp only [Rw.k,List.mem_cons,List.not_mem_nil,or_false] at hk; simp only [Rw.ok] at rk; lia
 | copy g a =>
 obtain ⟨og,oa⟩:=rk
 obtain ⟨cl,na⟩:=T.clF (k:=1) (by decide)
 refine ⟨_,rfl,x,_,dx,_,_,rfl,hx,cl,na _ (by simp [nOf]),rfl,_,rfl,x,_,dx,_,_,rfl,hx,cl,na _ (by simp [nOf]),rfl,(by show 2<=sizeLine; decide),fun l hl=>?_⟩
 have s1:=au hl (.lst [.str g,.str a])
 refine ⟨l,[g,a],rfl,ae,by show 2<=10; decide,List.forall_mem_cons.mpr ⟨og,List.forall_mem_cons.mpr ⟨oa,fun _ h=>nomatch h⟩⟩,fun H2 s2=>?_⟩
 have S2:=s1.trans s2
 exact q H2 S2
theorem cP {f:Addr} {fd:FuncData} (F:Fun K "good_at" "Carrying.good_at" bM f fd) (T:Txt K mg c) (H_are_registers:Has P w K mg base 2 "are_registers" ["things"] i7) (H_is_register:Has P w K mg base 1 "is_register" ["thing"] mO):FnOk P w K mg base CX0 3 f fd ["self","width"] (bg c [2,3]):=by
 refine F.ok fR (fun vs H Q E h=>?_) (fun cdv A outer s H vs Q E hr h=>?_)
 ·obtain ⟨x,w',r,rfl,_⟩:=h
  rfl
 obtain ⟨x,w',r,rfl,hk,⟨dx,hx,ln⟩,rk,w0,w1,q⟩:=h
 refine slE ⟨_,(aM (eg (ar (cY (aG H_are_registers (hr.mono (by lia)) rfl (aa (aY (aa (aw (pv 0) rfl) (aa (aw (pv 0) rfl) (aa (aw (pv 0) rfl) ag)))) ag)) (cW (pe_or (dl pP (aw (pv 0) rfl) bU (aD _)) (cW (aG H_is_register (hr.mono (by lia)) rfl (aa (aw (pv 0) rfl) ag))))))))),?_⟩
 cases r with
 | set _ _=>simp only [Rw.k,List.mem_cons,List.not_mem_nil,or_false] at hk; simp only [Rw.ok] at rk; lia
 | copy _ _=>simp only [Rw.k,List.mem_cons,List.not_mem_nil,or_false] at hk; simp only [Rw.ok] at rk; lia
 | jn _ _ _ _=>simp only [Rw.k,List.mem_cons,List.not_mem_nil,or_false] at hk; simp only [Rw.ok] at rk; lia
 | mv _ _ _ _=>simp only [Rw.k,List.mem_cons,List.not_mem_nil,or_false] at hk; simp only [Rw.ok] at rk; lia
 | pick _ _ _ _=>simp only [Rw.k,List.mem_cons,List.not_mem_nil,or_false] at hk; simp only [Rw.ok] at rk; lia
 | mark _ _ _=>simp only [Rw.k,List.mem_cons,List.not_mem_nil,or_false] at hk; simp only [Rw.ok] at rk; lia
 | car k g cv a b =>
 obtain ⟨ok,og,oc,oa,ob⟩:=rk
 have k15:k < 15:=by lia
 obtain ⟨cl,na⟩:=T.clF k15
 have nk:nOf k = (["goal","carry","one","other"]:List Str):=by rcases ok with rfl | rfl <;> rfl
 have hx:H x = some (.ins (fOf c k) dx ((["goal","carry","one","other"]:List Str).zip [.str g,oV cv,.str a,.str b])):=by rw [<- nk]; exact hx
 rw [nk] at na
 refine ⟨_,rfl,x,_,dx,_,_,rfl,hx,cl,na _ (by simp),rfl,_,rfl,x,_,dx,_,_,rfl,hx,cl,na _ (by simp),rfl,_,rfl,x,_,dx,_,_,rfl,hx,cl,na _ (by simp),rfl,(by show 3<=sizeLine; decide),fun l hl=>?_⟩
 have s1:=au hl (.lst [.str g,.str a,.str b])
 refine ⟨l,[g,a,b],rfl,ae,by show 3<=10; decide,List.forall_mem_cons.mpr ⟨og,List.forall_mem_cons.mpr ⟨oa,List.forall_mem_cons.mpr ⟨ob,fun _ h=>nomatch h⟩⟩⟩,fun H2 s2=>?_⟩
 have S2:=s1.trans s2
 have hx2:=S2 _ _ hx
 refine ⟨_,rfl,fN ?_⟩
 cases cv with
 | none=>exact ⟨_,rfl,x,_,dx,_,_,rfl,hx2,cl,na _ (by simp),rfl,rfl,_,rfl,fN (q H2 S2)⟩
 | some z=>exact ⟨_,rfl,x,_,dx,_,_,rfl,hx2,cl,na _ (by simp),rfl,rfl,_,rfl,eB ⟨_,rfl,x,_,dx,_,_,rfl,hx2,cl,na _ (by simp),rfl,nil_ <| mG (oc z rfl) fun H3 s3=>q H3 (S2.trans s3)⟩⟩
theorem aS {f:Addr} {fd:FuncData} (F:Fun K "good_at" "Joining.good_at" ci f fd) (T:Txt K mg c) (H_are_registers:Has P w K mg base 2 "are_registers" ["things"] i7):FnOk P w K mg base CX0 3 f fd ["self","width"] (bg c [4,5,9,10,11,12]):=by
 refine F.ok gD (fun vs H Q E h=>?_) (fun cdv A outer s H vs Q E hr h=>?_)
 ·obtain ⟨x,w',r,rfl,_⟩:=h
  rfl
 obtain ⟨x,w',r,rfl,hk,⟨dx,hx,ln⟩,rk,w0,w1,q⟩:=h
 refine slE ⟨_,(aM (eg (ar (aG H_are_registers (hr.mono (by lia)) rfl (aa (aY (aa (aw (pv 0) rfl) (aa (aw (pv 0) rfl) (aa (aw (pv 0) rfl) ag)))) ag))))),?_⟩
 cases r with
 | set _ _=>simp only [Rw.k,List.mem_cons,List.not_mem_nil,or_false] at hk; simp only [Rw.ok] at rk; lia
 | copy _ _=>simp only [Rw.k,List.mem_cons,List.not_mem_nil,or_false] at hk; simp only [Rw.ok] at rk; lia
 | car _ _ _ _ _=>simp only [Rw.k,List.mem_cons,List.not_mem_nil,or_false] at hk; simp only [Rw.ok] at rk; lia
 | mv _ _ _ _=>simp only [Rw.k,List.mem_cons,List.not_mem_nil,or_false] at hk; simp only [Rw.ok] at rk; lia
 | pick _ _ _ _=>simp only [Rw.k,List.mem_cons,List.not_mem_nil,or_false] at hk; simp only [Rw.ok] at rk; lia
 | mark _ _ _=>simp only [Rw.k,List.mem_cons,List.not_mem_nil,or_false] at hk; simp only [Rw.ok] at rk; lia
 | jn k g a b =>
 obtain ⟨ok,og,oa,ob⟩:=rk
 have k15:k < 15:=by lia
 obtain ⟨cl,na⟩:=T.clF k15
 have nk:nOf k = (["goal","one","other"]:List Str):=by rcases ok with rfl | rfl | rfl | rfl | rfl | rfl <;> rfl
 have hx:H x = some (.ins (fOf c k) dx ((["goal","one","other"]:List Str).zip [.str g,.str a,.str b])):=by rw [<- nk]; exact hx
 rw [nk] at na
 refine ⟨_,rfl,x,_,dx,_,_,rfl,hx,cl,na _ (by simp),rfl,_,rfl,x,_,dx,_,_,rfl,hx,cl,na _ (by simp),rfl,_,rfl,x,_,dx,_,_,rfl,hx,cl,na _ (by simp),rfl,(by show 3<=sizeLine; decide),fun l hl=>?_⟩
 have s1:=au hl (.lst [.str g,.str a,.str b])
 refine ⟨l,[g,a,b],rfl,ae,by show 3<=10; decide,List.forall_mem_cons.mpr ⟨og,List.forall_mem_cons.mpr ⟨oa,List.forall_mem_cons.mpr ⟨ob,fun _ h=>nomatch h⟩⟩⟩,fun H2 s2=>?_⟩
 have S2:=s1.trans s2
 exact q H2 S2
theorem bY {f:Addr} {fd:FuncData} (F:Fun K "good_at" "Moving.good_at" cw f fd) (T:Txt K mg c) (H_are_registers:Has P w K mg base 2 "are_registers" ["things"] i7) (H_is_between:Has P w K mg base 2 "is_between" ["thing","low","high"] cr):FnOk P w K mg base CX0 3 f fd ["self","width"] (bg c [6,7,8]):=by
 refine F.ok gX (fun vs H Q E h=>?_) (fun cdv A outer s H vs Q E hr h=>?_)
 ·obtain ⟨x,w',r,rfl,_⟩:=h
  rfl
 obtain ⟨x,w',r,rfl,hk,⟨dx,hx,ln⟩,rk,w0,w1,q⟩:=h
 refine slE ⟨_,(aM (eg (ar (cY (aG H_are_registers (hr.mono (by lia)) rfl (aa (aY (aa (aw (pv 0) rfl) (aa (aw (pv 0) rfl) ag))) ag)) (cW (aG H_is_between (hr.mono (by lia)) rfl (aa (aw (pv 0) rfl) (aa ak (aa (aq em (pv 1) ak) ag))))))))),?_⟩
 cases r with
 | set _ _=>simp only [Rw.k,List.mem_cons,List.not_mem_nil,or_false] at hk; simp only [Rw.ok] at rk; lia
 | copy _ _=>simp only [Rw.k,List.mem_cons,List.not_mem_nil,or_false] at hk; simp only [Rw.ok] at rk; lia
 | car _ _ _ _ _=>simp only [Rw.k,List.mem_cons,List.not_mem_nil,or_false] at hk; simp only [Rw.ok] at rk; lia
 | jn _ _ _ _=>simp only [Rw.k,List.mem_cons,List.not_mem_nil,or_false] at hk; simp only [Rw.ok] at rk; lia
 | pick _ _ _ _=>simp only [Rw.k,List.mem_cons,List.not_mem_nil,or_false] at hk; simp only [Rw.ok] at rk; lia
 | mark _ _ _=>simp only [Rw.k,List.mem_cons,List.not_mem_nil,or_false] at hk; simp only [Rw.ok] at rk; lia
 | mv k g a j =>
 obtain ⟨ok,og,oa,j0,j1⟩:=rk
 have k15:k < 15:=by lia
 obtain ⟨cl,na⟩:=T.clF k15
 have nk:nOf k = (["goal","one","k"]:List Str):=by rcases ok with rfl | rfl | rfl <;> rfl
 have hx:H x = some (.ins (fOf c k) dx ((["goal","one","k"]:List Str).zip [.str g,.str a,.int j])):=by rw [<- nk]; exact hx
 rw [nk] at na
 refine ⟨_,rfl,x,_,dx,_,_,rfl,hx,cl,na _ (by simp),rfl,_,rfl,x,_,dx,_,_,rfl,hx,cl,na _ (by simp),rfl,(by show 2<=sizeLine; decide),fun l hl=>?_⟩
 have s1:=au hl (.lst [.str g,.str a])
 refine ⟨l,[g,a],rfl,ae,by show 2<=10; decide,List.forall_mem_cons.mpr ⟨og,List.forall_mem_cons.mpr ⟨oa,fun _ h=>nomatch h⟩⟩,fun H2 s2=>?_⟩
 have S2:=s1.trans s2
 have hx2:=S2 _ _ hx
 exact ⟨_,rfl,fN ⟨_,rfl,x,_,dx,_,_,rfl,hx2,cl,na _ (by simp),rfl,_,rfl,_,_,rfl,rfl,j,_,_,rfl,j0,by lia,q H2 S2⟩⟩
theorem jC {f:Addr} {fd:FuncData} (F:Fun K "good_at" "Pick.good_at" di f fd) (T:Txt K mg c) (H_are_registers:Has P w K mg base 2 "are_registers" ["things"] i7):FnOk P w K mg base CX0 3 f fd ["self","width"] (bg c [13]):=by
 refine F.ok i5 (fun vs H Q E h=>?_) (fun cdv A outer s H vs Q E hr h=>?_)
 ·obtain ⟨x,w',r,rfl,_⟩:=h
  rfl
 obtain ⟨x,w',r,rfl,hk,⟨dx,hx,ln⟩,rk,w0,w1,q⟩:=h
 refine slE ⟨_,(aM (eg (ar (aG H_are_registers (hr.mono (by lia)) rfl (aa (aY (aa (aw (pv 0) rfl) (aa (aw (pv 0) rfl) (aa (aw (pv 0) rfl) (aa (aw (pv 0) rfl) ag))))) ag))))),?_⟩
 cases r with
 | set _ _=>simp only [Rw.k,List.mem_cons,List.not_mem_nil,or_false] at hk; simp only [Rw.ok] at rk; lia
 | copy _ _=>simp only [Rw.k,List.mem_cons,List.not_mem_nil,or_false] at hk; simp only [Rw.ok] at rk; lia
 | car _ _ _ _ _=>simp only [Rw.k,List.mem_cons,List.not_mem_nil,or_false] at hk; simp only [Rw.ok] at rk; lia
 | jn _ _ _ _=>simp only [Rw.k,List.mem_cons,List.not_mem_nil,or_false] at hk; simp only [Rw.ok] at rk; lia
 | mv _ _ _ _=>simp only [Rw.k,List.mem_cons,List.not_mem_nil,or_false] at hk; simp only [Rw.ok] at rk; lia
 | mark _ _ _=>simp only [Rw.k,List.mem_cons,List.not_mem_nil,or_false] at hk; simp only [Rw.ok] at rk; lia
 | pick g y a b =>
 obtain ⟨og,oy,oa,ob⟩:=rk
 obtain ⟨cl,na⟩:=T.clF (k:=13) (by decide)
 refine ⟨_,rfl,x,_,dx,_,_,rfl,hx,cl,na _ (by simp [nOf]),rfl,_,rfl,x,_,dx,_,_,rfl,hx,cl,na _ (by simp [nOf]),rfl,_,rfl,x,_,dx,_,_,rfl,hx,cl,na _ (by simp [nOf]),rfl,_,rfl,x,_,dx,_,_,rfl,hx,cl,na _ (by simp [nOf]),rfl,(by show 4<=sizeLine; decide),fun l hl=>?_⟩
 have s1:=au hl (.lst [.str g,.str y,.str a,.str b])
 refine ⟨l,[g,y,a,b],rfl,ae,by show 4<=10; decide,List.forall_mem_cons.mpr ⟨og,List.forall_mem_cons.mpr ⟨oy,List.forall_mem_cons.mpr ⟨oa,List.forall_mem_cons.mpr ⟨ob,fun _ h=>nomatch h⟩⟩⟩⟩,fun H2 s2=>?_⟩
 have S2:=s1.trans s2
 exact q H2 S2
theorem iJ {f:Addr} {fd:FuncData} (F:Fun K "good_at" "Mark.good_at" dB f fd) (T:Txt K mg c) (H_is_between:Has P w K mg base 2 "is_between" ["thing","low","high"] cr) (H_is_register:Has P w K mg base 1 "is_register" ["thing"] mO):FnOk P w K mg base CX0 3 f fd ["self","width"] (bg c [14]):=by
 refine F.ok je (fun vs H Q E h=>?_) (fun cdv A outer s H vs Q E hr h=>?_)
 ·obtain ⟨x,w',r,rfl,_⟩:=h
  rfl
 obtain ⟨x,w',r,rfl,hk,⟨dx,hx,ln⟩,rk,w0,w1,q⟩:=h
 refine slE ⟨_,(aM (eg (ar (cY (aG H_is_between (hr.mono (by lia)) rfl (aa (aw (pv 0) rfl) (aa ak (aa ak ag)))) (cY (dl lU (aw (pv 0) rfl) (fA rfl T.g_MARKS) (by with_unfolding_all rfl)) (cW (aG H_is_register (hr.mono (by lia)) rfl (aa (aw (pv 0) rfl) ag)))))))),?_⟩
 cases r with
 | set _ _=>simp only [Rw.k,List.mem_cons,List.not_mem_nil,or_false] at hk; simp only [Rw.ok] at rk; lia
 | copy _ _=>simp only [Rw.k,List.mem_cons,List.not_mem_nil,or_false] at hk; simp only [Rw.ok] at rk; lia
 | car _ _ _ _ _=>simp only [Rw.k,List.mem_cons,List.not_mem_nil,or_false] at hk; simp only [Rw.ok] at rk; lia
 | jn _ _ _ _=>simp only [Rw.k,List.mem_cons,List.not_mem_nil,or_false] at hk; simp only [Rw.ok] at rk; lia
 | mv _ _ _ _=>simp only [Rw.k,List.mem_cons,List.not_mem_nil,or_false] at hk; simp only [Rw.ok] at rk; lia
 | pick _ _ _ _=>simp only [Rw.k,List.mem_cons,List.not_mem_nil,or_false] at hk; simp only [Rw.ok] at rk; lia
 | mark n m y =>
 obtain ⟨n0,n1,om,oy⟩:=rk
 obtain ⟨cl,na⟩:=T.clF (k:=14) (by decide)
 refine ⟨_,rfl,x,_,dx,_,_,rfl,hx,cl,na _ (by simp [nOf]),rfl,n,_,_,rfl,n0,n1,_,rfl,fN ⟨_,rfl,x,_,dx,_,_,rfl,hx,cl,na _ (by simp [nOf]),rfl,_,_,rfl,.inr (T.q_MARKS _),rfl,rfl,?_⟩⟩
 rw [if_neg (by decide),mk_in om]
 exact ⟨_,rfl,fN ⟨_,rfl,x,_,dx,_,_,rfl,hx,cl,na _ (by simp [nOf]),rfl,nil_ <| mG oy fun H2 s2=>q H2 s2⟩⟩
theorem qe {f:Addr} {fd:FuncData} (F:Fun K "act" "Set.act" iU f fd) (T:Txt K mg c) :FnOk P w K mg base CX0 1 f fd ["self","width","words","marks"] (bT c [0]):=by
 refine F.ok p9 (fun vs H Q E h=>?_) (fun cdv A outer s H vs Q E hr h=>?_)
 ·obtain ⟨x,d,m',w',r,kvs,ms,rfl,_⟩:=h
  rfl
 obtain ⟨x,d,m',w',r,kvs,ms,rfl,hk,⟨dx,hx,ln⟩,rk,w0,w1,hd',wd,hm,ml,q⟩:=h
 refine slE ⟨_,(aM (eg (cR (aZ hr) (pv 2) (aw (pv 0) rfl) (aw (pv 0) rfl) rfl))),?_⟩
 have hk0:=hk
 cases r with
 | copy _ _=>simp only [Rw.k,List.mem_cons,List.not_mem_nil,or_false] at hk; simp only [Rw.ok] at rk; lia
 | car _ _ _ _ _=>simp only [Rw.k,List.mem_cons,List.not_mem_nil,or_false] at hk; simp only [Rw.ok] at rk; lia
 | jn _ _ _ _=>simp only [Rw.k,List.mem_cons,List.not_mem_nil,or_false] at hk; simp only [Rw.ok] at rk; lia
 | mv _ _ _ _=>simp only [Rw.k,List.mem_cons,List.not_mem_nil,or_false] at hk; simp only [Rw.ok] at rk; lia
 | pick _ _ _ _=>simp only [Rw.k,List.mem_cons,List.not_mem_nil,or_false] at hk; simp only [Rw.ok] at rk; lia
 | mark _ _ _=>simp only [Rw.k,List.mem_cons,List.not_mem_nil,or_false] at hk; simp only [Rw.ok] at rk; lia
 | set g b =>
 obtain ⟨og,b0,b1⟩:=rk
 have L1000:(20000:Nat)<=sizeLine:=by decide
 have l5:=wd.ln
 have nxd:x ≠ d:=fun z=>by rw [z,hd'] at hx; cases hx
 have ndm:d ≠ m':=fun z=>by rw [z,hm] at hd'; cases hd'
 have wi:=wd.ints
 obtain ⟨cl,na⟩:=T.clF (k:=0) (by decide)
 exact ⟨_,rfl,x,_,dx,_,_,rfl,hx,cl,na _ (by simp [nOf]),rfl,_,rfl,_,rfl,x,_,dx,_,_,rfl,hx,cl,na _ (by simp [nOf]),rfl,d,_,rfl,DPut.k (k:=.inr g) hd' (by lia),q _ (by rw [ae]; rfl) (by show upd _ d _ m' = _; rw [ao (Ne.symm ndm)]; exact hm) (fun b' o' n1 n2 e=>by rw [ao n1]; exact e)⟩
theorem m6 {f:Addr} {fd:FuncData} (F:Fun K "act" "Copy.act" gU f fd) (T:Txt K mg c) :FnOk P w K mg base CX0 1 f fd ["self","width","words","marks"] (bT c [1]):=by
 refine F.ok m8 (fun vs H Q E h=>?_) (fun cdv A outer s H vs Q E hr h=>?_)
 ·obtain ⟨x,d,m',w',r,kvs,ms,rfl,_⟩:=h
  rfl
 obtain ⟨x,d,m',w',r,kvs,ms,rfl,hk,⟨dx,hx,ln⟩,rk,w0,w1,hd',wd,hm,ml,q⟩:=h
 refine slE ⟨_,(aM (eg (cR (aZ hr) (pv 2) (aw (pv 0) rfl) (cE (aZ hr) (pv 2) (aw (pv 0) rfl) ak ⟨rfl,rfl,rfl,rfl⟩) rfl))),?_⟩
 have hk0:=hk
 cases r with
 | set _ _=>simp only [Rw.k,List.mem_cons,List.not_mem_nil,or_false] at hk; simp only [Rw.ok] at rk; lia
 | car _ _ _ _ _=>simp only [Rw.k,List.mem_cons,List.not_mem_nil,or_false] at hk; simp only [Rw.ok] at rk; lia
 | jn _ _ _ _=>simp only [Rw.k,List.mem_cons,List.not_mem_nil,or_false] at hk; simp only [Rw.ok] at rk; lia
 | mv _ _ _ _=>simp only [Rw.k,List.mem_cons,List.not_mem_nil,or_false] at hk; simp only [Rw.ok] at rk; lia
 | pick _ _ _ _=>simp only [Rw.k,List.mem_cons,List.not_mem_nil,or_false] at hk; simp only [Rw.ok] at rk; lia
 | mark _ _ _=>simp only [Rw.k,List.mem_cons,List.not_mem_nil,or_false] at hk; simp only [Rw.ok] at rk; lia
 | copy g a =>
 obtain ⟨og,oa⟩:=rk
 have L1000:(20000:Nat)<=sizeLine:=by decide
 have l5:=wd.ln
 have nxd:x ≠ d:=fun z=>by rw [z,hd'] at hx; cases hx
 have ndm:d ≠ m':=fun z=>by rw [z,hm] at hd'; cases hd'
 have wi:=wd.ints
 obtain ⟨cl,na⟩:=T.clF (k:=1) (by decide)
 exact ⟨_,rfl,d,rfl,⟨_,hd'⟩,_,rfl,x,_,dx,_,_,rfl,hx,cl,na _ (by simp [nOf]),rfl,_,_,rfl,hd',wi,_,rfl,_,rfl,x,_,dx,_,_,rfl,hx,cl,na _ (by simp [nOf]),rfl,d,_,rfl,DPut.k (k:=.inr g) hd' (by lia),q _ (by rw [ae]; rfl) (by show upd _ d _ m' = _; rw [ao (Ne.symm ndm)]; exact hm) (fun b' o' n1 n2 e=>by rw [ao n1]; exact e)⟩
theorem eV {f:Addr} {fd:FuncData} (F:Fun K "act" "Carrying.act" dh f fd) (T:Txt K mg c)  (MR:∀ i ∈ [2,3],MHas P w K mg base 5 (fOf c i) "reckoned" ["self","width","a","b"] (rO i)):FnOk P w K mg base CX0 6 f fd ["self","width","words","marks"] (bT c [2,3]):=by
 refine F.ok sc_Carrying_act (fun vs H Q E h=>?_) (fun cdv A outer s H vs Q E hr h=>?_)
 ·obtain ⟨x,d,m',w',r,kvs,ms,rfl,_⟩:=h
  rfl
 obtain ⟨x,d,m',w',r,kvs,ms,rfl,hk,⟨dx,hx,ln⟩,rk,w0,w1,hd',wd,hm,ml,q⟩:=h
 refine slE ⟨_,(aJ (eg (aH (i:=4) sc_Carrying_act.nd rfl (Or.inl rfl) (cF (k:=5) (pv 0) (hr.mono (by lia)) (aa (pv 1) (aa (cE (aZ hr) (pv 2) (aw (pv 0) rfl) ak ⟨rfl,rfl,rfl,rfl⟩) (aa (cE (aZ hr) (pv 2) (aw (pv 0) rfl) ak ⟨rfl,rfl,rfl,rfl⟩) ag))))))
  (aJ (eg (cR (aZ hr) (pv 2) (aw (pv 0) rfl) (aN qS (pv 4) ak (fun _ _=>rfl)) rfl))
  (aM (kj (ay tj (aw (pv 0) rfl) bU (aD _))
   (aM (eg (cR (aZ hr) (pv 2) (aw (pv 0) rfl) (aN qS (pv 4) ak (fun _ _=>rfl)) rfl)))
   fj)))),?_⟩
 have hk0:=hk
 cases r with
 | set _ _=>simp only [Rw.k,List.mem_cons,List.not_mem_nil,or_false] at hk; simp only [Rw.ok] at rk; lia
 | copy _ _=>simp only [Rw.k,List.mem_cons,List.not_mem_nil,or_false] at hk; simp only [Rw.ok] at rk; lia
 | jn _ _ _ _=>simp only [Rw.k,List.mem_cons,List.not_mem_nil,or_false] at hk; simp only [Rw.ok] at rk; lia
 | mv _ _ _ _=>simp only [Rw.k,List.mem_cons,List.not_mem_nil,or_false] at hk; simp only [Rw.ok] at rk; lia
 | pick _ _ _ _=>simp only [Rw.k,List.mem_cons,List.not_mem_nil,or_false] at hk; simp only [Rw.ok] at rk; lia
 | mark _ _ _=>simp only [Rw.k,List.mem_cons,List.not_mem_nil,or_false] at hk; simp only [Rw.ok] at rk; lia
 | car k g cv a b =>
 obtain ⟨ok,og,oc,oa,ob⟩:=rk
 have L1000:(20000:Nat)<=sizeLine:=by decide
 have l5:=wd.ln
 have nxd:x ≠ d:=fun z=>by rw [z,hd'] at hx; cases hx
 have ndm:d ≠ m':=fun z=>by rw [z,hm] at hd'; cases hd'
 have wi:=wd.ints
 have k15:k < 15:=by lia
 obtain ⟨cl,na⟩:=T.clF k15
 have nk:nOf k = (["goal","carry","one","other"]:List Str):=by rcases ok with rfl | rfl <;> rfl
 have hx0:H x = some (.ins (fOf c k) dx ((["goal","carry","one","other"]:List Str).zip [.str g,oV cv,.str a,.str b])):=by rw [<- nk]; exact hx
 rw [nk] at na
 have mr:=MR k hk0
 refine ⟨_,rfl,x,_,dx,_,_,_,rfl,hx0,rfl,mr,_,rfl,_,rfl,d,rfl,⟨_,hd'⟩,_,rfl,x,_,dx,_,_,rfl,hx0,cl,na _ (by simp),rfl,_,_,rfl,hd',wi,_,rfl,d,rfl,⟨_,hd'⟩,_,rfl,x,_,dx,_,_,rfl,hx0,cl,na _ (by simp),rfl,_,_,rfl,hd',wi,.ref x,w',_,_,rfl,w0,w1,fun t ht=>?_⟩
 obtain ⟨G1,e1,s1,f1⟩:=newO ht (.tup [.int (cr0 w' k (gI kvs a) (gI kvs b)),.int (cr1 w' k (gI kvs a) (gI kvs b))])
 rw [e1]
 have hx1:=s1 _ _ hx0
 have hd1:=s1 _ _ hd'
 refine ⟨_,rfl,t,_,_,_,rfl,rfl,SqT.of f1,rfl,_,rfl,_,rfl,x,_,dx,_,_,rfl,hx1,cl,na _ (by simp),rfl,d,_,rfl,DPut.k (k:=.inr g) hd1 (by lia),?_⟩
 have hx2:upd G1 d (.dK (fk kvs (.inr g) (.int (cr0 w' k (gI kvs a) (gI kvs b))))) x = some (.ins (fOf c k) dx ((["goal","carry","one","other"]:List Str).zip [.str g,oV cv,.str a,.str b])):=by rw [ao nxd]; exact hx1
 have l6:=d8 kvs (.inr g) (.int (cr0 w' k (gI kvs a) (gI kvs b)))
 have ntd:t ≠ d:=fun z=>by rw [z,hd1] at f1; cases f1
 cases cv with
 | none =>
  refine ⟨_,rfl,x,_,dx,_,_,rfl,hx2,cl,na _ (by simp),rfl,rfl,_,rfl,eB ?_⟩
  exact q _ (by rw [ae]; rfl) (by show upd _ d _ m' = _; rw [ao (Ne.symm ndm)]; exact s1 _ _ hm) (fun b' o' n1 n2 e=>by rw [ao n1]; exact s1 _ _ e)
 | some z =>
  refine ⟨_,rfl,x,_,dx,_,_,rfl,hx2,cl,na _ (by simp),rfl,rfl,_,rfl,fN ?_⟩
  refine ⟨_,rfl,t,_,_,_,rfl,rfl,SqT.of (by rw [ao ntd]; exact f1),rfl,_,rfl,_,rfl,x,_,dx,_,_,rfl,hx2,cl,na _ (by simp),rfl,d,_,rfl,DPut.k (k:=.inr z) ae (by lia),?_⟩
  exact q _ (by rw [ae]; rfl) (by show upd _ d _ m' = _; rw [ao (Ne.symm ndm),ao (Ne.symm ndm)]; exact s1 _ _ hm) (fun b' o' n1 n2 e=>by rw [ao n1,ao n1]; exact s1 _ _ e)
theorem bq {f:Addr} {fd:FuncData} (F:Fun K "act" "Joining.act" dI f fd) (T:Txt K mg c)  (MR:∀ i ∈ [4,5,9,10,11,12],MHas P w K mg base 5 (fOf c i) "reckoned" ["self","width","a","b"] (qw i)):FnOk P w K mg base CX0 6 f fd ["self","width","words","marks"] (bT c [4,5,9,10,11,12]):=by
 refine F.ok jU (fun vs H Q E h=>?_) (fun cdv A outer s H vs Q E hr h=>?_)
 ·obtain ⟨x,d,m',w',r,kvs,ms,rfl,_⟩:=h
  rfl
 obtain ⟨x,d,m',w',r,kvs,ms,rfl,hk,⟨dx,hx,ln⟩,rk,w0,w1,hd',wd,hm,ml,q⟩:=h
 refine slE ⟨_,(aM (eg (cR (aZ hr) (pv 2) (aw (pv 0) rfl) (cF (k:=5) (pv 0) (hr.mono (by lia)) (aa (pv 1) (aa (cE (aZ hr) (pv 2) (aw (pv 0) rfl) ak ⟨rfl,rfl,rfl,rfl⟩) (aa (cE (aZ hr) (pv 2) (aw (pv 0) rfl) ak ⟨rfl,rfl,rfl,rfl⟩) ag)))) rfl))),?_⟩
 have hk0:=hk
 cases r with
 | set _ _=>simp only [Rw.k,List.mem_cons,List.not_mem_nil,or_false] at hk; simp only [Rw.ok] at rk; lia
 | copy _ _=>simp only [Rw.k,List.mem_cons,List.not_mem_nil,or_false] at hk; simp only [Rw.ok] at rk; lia
 | car _ _ _ _ _=>simp only [Rw.k,List.mem_cons,List.not_mem_nil,or_false] at hk; simp only [Rw.ok] at rk; lia
 | mv _ _ _ _=>simp only [Rw.k,List.mem_cons,List.not_mem_nil,or_false] at hk; simp only [Rw.ok] at rk; lia
 | pick _ _ _ _=>simp only [Rw.k,List.mem_cons,List.not_mem_nil,or_false] at hk; simp only [Rw.ok] at rk; lia
 | mark _ _ _=>simp only [Rw.k,List.mem_cons,List.not_mem_nil,or_false] at hk; simp only [Rw.ok] at rk; lia
 | jn k g a b =>
 obtain ⟨ok,og,oa,ob⟩:=rk
 have L1000:(20000:Nat)<=sizeLine:=by decide
 have l5:=wd.ln
 have nxd:x ≠ d:=fun z=>by rw [z,hd'] at hx; cases hx
 have ndm:d ≠ m':=fun z=>by rw [z,hm] at hd'; cases hd'
 have wi:=wd.ints
 have k15:k < 15:=by lia
 obtain ⟨cl,na⟩:=T.clF k15
 have nk:nOf k = (["goal","one","other"]:List Str):=by rcases ok with rfl | rfl | rfl | rfl | rfl | rfl <;> rfl
 have hx0:H x = some (.ins (fOf c k) dx ((["goal","one","other"]:List Str).zip [.str g,.str a,.str b])):=by rw [<- nk]; exact hx
 rw [nk] at na
 obtain ⟨ga,a0,a1⟩:=wd.get a
 obtain ⟨gb,b0,b1⟩:=wd.get b
 have mr:=MR k hk0
 refine ⟨_,rfl,x,_,dx,_,_,_,rfl,hx0,rfl,mr,_,rfl,_,rfl,d,rfl,⟨_,hd'⟩,_,rfl,x,_,dx,_,_,rfl,hx0,cl,na _ (by simp),rfl,_,_,rfl,hd',wi,_,rfl,d,rfl,⟨_,hd'⟩,_,rfl,x,_,dx,_,_,rfl,hx0,cl,na _ (by simp),rfl,_,_,rfl,hd',wi,.ref x,w',_,_,rfl,w0,w1,a0,a1,b0,b1,?_⟩
 exact ⟨_,rfl,_,rfl,x,_,dx,_,_,rfl,hx0,cl,na _ (by simp),rfl,d,_,rfl,DPut.k (k:=.inr g) hd' (by lia),q _ (by rw [ae]; rfl) (by show upd _ d _ m' = _; rw [ao (Ne.symm ndm)]; exact hm) (fun b' o' n1 n2 e=>by rw [ao n1]; exact e)⟩
theorem dX {f:Addr} {fd:FuncData} (F:Fun K "act" "Moving.act" eF f fd) (T:Txt K mg c)  (MR:∀ i ∈ [6,7,8],MHas P w K mg base 5 (fOf c i) "moved" ["self","width","a"] (spMv c i)):FnOk P w K mg base CX0 6 f fd ["self","width","words","marks"] (bT c [6,7,8]):=by
 refine F.ok kQ (fun vs H Q E h=>?_) (fun cdv A outer s H vs Q E hr h=>?_)
 ·obtain ⟨x,d,m',w',r,kvs,ms,rfl,_⟩:=h
  rfl
 obtain ⟨x,d,m',w',r,kvs,ms,rfl,hk,⟨dx,hx,ln⟩,rk,w0,w1,hd',wd,hm,ml,q⟩:=h
 refine slE ⟨_,(aM (eg (cR (aZ hr) (pv 2) (aw (pv 0) rfl) (cF (k:=5) (pv 0) (hr.mono (by lia)) (aa (pv 1) (aa (cE (aZ hr) (pv 2) (aw (pv 0) rfl) ak ⟨rfl,rfl,rfl,rfl⟩) ag))) rfl))),?_⟩
 have hk0:=hk
 cases r with
 | set _ _=>simp only [Rw.k,List.mem_cons,List.not_mem_nil,or_false] at hk; simp only [Rw.ok] at rk; lia
 | copy _ _=>simp only [Rw.k,List.mem_cons,List.not_mem_nil,or_false] at hk; simp only [Rw.ok] at rk; lia
 | car _ _ _ _ _=>simp only [Rw.k,List.mem_cons,List.not_mem_nil,or_false] at hk; simp only [Rw.ok] at rk; lia
 | jn _ _ _ _=>simp only [Rw.k,List.mem_cons,List.not_mem_nil,or_false] at hk; simp only [Rw.ok] at rk; lia
 | pick _ _ _ _=>simp only [Rw.k,List.mem_cons,List.not_mem_nil,or_false] at hk; simp only [Rw.ok] at rk; lia
 | mark _ _ _=>simp only [Rw.k,List.mem_cons,List.not_mem_nil,or_false] at hk; simp only [Rw.ok] at rk; lia
 | mv k g a j =>
 obtain ⟨ok,og,oa,j0,j1⟩:=rk
 have L1000:(20000:Nat)<=sizeLine:=by decide
 have l5:=wd.ln
 have nxd:x ≠ d:=fun z=>by rw [z,hd'] at hx; cases hx
 have ndm:d ≠ m':=fun z=>by rw [z,hm] at hd'; cases hd'
 have wi:=wd.ints
 have k15:k < 15:=by lia
 obtain ⟨cl,na⟩:=T.clF k15
 have nk:nOf k = (["goal","one","k"]:List Str):=by rcases ok with rfl | rfl | rfl <;> rfl
 have hx0:H x = some (.ins (fOf c k) dx ((["goal","one","k"]:List Str).zip [.str g,.str a,.int j])):=by rw [<- nk]; exact hx
 rw [nk] at na
 obtain ⟨ga,a0,a1⟩:=wd.get a
 have mr:=MR k hk0
 refine ⟨_,rfl,x,_,dx,_,_,_,rfl,hx0,rfl,mr,_,rfl,_,rfl,d,rfl,⟨_,hd'⟩,_,rfl,x,_,dx,_,_,rfl,hx0,cl,na _ (by simp),rfl,_,_,rfl,hd',wi,x,w',_,j,_,_,rfl,⟨dx,hx,ln⟩,w0,w1,a0,a1,j0,j1,?_⟩
 exact ⟨_,rfl,_,rfl,x,_,dx,_,_,rfl,hx0,cl,na _ (by simp),rfl,d,_,rfl,DPut.k (k:=.inr g) hd' (by lia),q _ (by rw [ae]; rfl) (by show upd _ d _ m' = _; rw [ao (Ne.symm ndm)]; exact hm) (fun b' o' n1 n2 e=>by rw [ao n1]; exact e)⟩
theorem nW {f:Addr} {fd:FuncData} (F:Fun K "act" "Pick.act" gZ f fd) (T:Txt K mg c) :FnOk P w K mg base CX0 1 f fd ["self","width","words","marks"] (bT c [13]):=by
 refine F.ok m5 (fun vs H Q E h=>?_) (fun cdv A outer s H vs Q E hr h=>?_)
 ·obtain ⟨x,d,m',w',r,kvs,ms,rfl,_⟩:=h
  rfl
 obtain ⟨x,d,m',w',r,kvs,ms,rfl,hk,⟨dx,hx,ln⟩,rk,w0,w1,hd',wd,hm,ml,q⟩:=h
 refine slE ⟨_,(aM (eg (cR (aZ hr) (pv 2) (aw (pv 0) rfl) (cE (aZ hr) (pv 2) (cj (ay jD (cE (aZ hr) (pv 2) (aw (pv 0) rfl) ak ⟨rfl,rfl,rfl,rfl⟩) ak (aD _)) (aw (pv 0) rfl) (aw (pv 0) rfl)) ak ⟨rfl,rfl,rfl,rfl⟩) rfl))),?_⟩
 have hk0:=hk
 cases r with
 | set _ _=>simp only [Rw.k,List.mem_cons,List.not_mem_nil,or_false] at hk; simp only [Rw.ok] at rk; lia
 | copy _ _=>simp only [Rw.k,List.mem_cons,List.not_mem_nil,or_false] at hk; simp only [Rw.ok] at rk; lia
 | car _ _ _ _ _=>simp only [Rw.k,List.mem_cons,List.not_mem_nil,or_false] at hk; simp only [Rw.ok] at rk; lia
 | jn _ _ _ _=>simp only [Rw.k,List.mem_cons,List.not_mem_nil,or_false] at hk; simp only [Rw.ok] at rk; lia
 | mv _ _ _ _=>simp only [Rw.k,List.mem_cons,List.not_mem_nil,or_false] at hk; simp only [Rw.ok] at rk; lia
 | mark _ _ _=>simp only [Rw.k,List.mem_cons,List.not_mem_nil,or_false] at hk; simp only [Rw.ok] at rk; lia
 | pick g y a b =>
 obtain ⟨og,oy,oa,ob⟩:=rk
 have L1000:(20000:Nat)<=sizeLine:=by decide
 have l5:=wd.ln
 have nxd:x ≠ d:=fun z=>by rw [z,hd'] at hx; cases hx
 have ndm:d ≠ m':=fun z=>by rw [z,hm] at hd'; cases hd'
 have wi:=wd.ints
 obtain ⟨cl,na⟩:=T.clF (k:=13) (by decide)
 refine ⟨_,rfl,d,rfl,⟨_,hd'⟩,_,rfl,d,rfl,⟨_,hd'⟩,_,rfl,x,_,dx,_,_,rfl,hx,cl,na _ (by simp [nOf]),rfl,_,_,rfl,hd',wi,rfl,_,rfl,?_⟩
 by_cases c0:gI kvs y = 0
 ·refine fz (congrArg V.int c0) ⟨_,rfl,x,_,dx,_,_,rfl,hx,cl,na _ (by simp [nOf]),rfl,_,_,rfl,hd',wi,_,rfl,_,rfl,x,_,dx,_,_,rfl,hx,cl,na _ (by simp [nOf]),rfl,d,_,rfl,DPut.k (k:=.inr g) hd' (by lia),?_⟩
  refine q _ (by rw [ae]; show _ = some (HO.dK (stK kvs g (gI kvs (if gI kvs y ≠ 0 then a else b)))); rw [if_neg (fun h=>h c0)]; rfl) (by show upd _ d _ m' = _; rw [ao (Ne.symm ndm)]; exact hm) (fun b' o' n1 n2 e=>by rw [ao n1]; exact e)
 ·refine iteN (fun z=>c0 (by injection z)) ⟨_,rfl,x,_,dx,_,_,rfl,hx,cl,na _ (by simp [nOf]),rfl,_,_,rfl,hd',wi,_,rfl,_,rfl,x,_,dx,_,_,rfl,hx,cl,na _ (by simp [nOf]),rfl,d,_,rfl,DPut.k (k:=.inr g) hd' (by lia),?_⟩
  refine q _ (by rw [ae]; show _ = some (HO.dK (stK kvs g (gI kvs (if gI kvs y ≠ 0 then a else b)))); rw [if_pos c0]; rfl) (by show upd _ d _ m' = _; rw [ao (Ne.symm ndm)]; exact hm) (fun b' o' n1 n2 e=>by rw [ao n1]; exact e)
theorem oC {f:Addr} {fd:FuncData} (F:Fun K "act" "Mark.act" h7 f fd) (T:Txt K mg c) :FnOk P w K mg base CX0 1 f fd ["self","width","words","marks"] (bT c [14]):=by
 refine F.ok nO (fun vs H Q E h=>?_) (fun cdv A outer s H vs Q E hr h=>?_)
 ·obtain ⟨x,d,m',w',r,kvs,ms,rfl,_⟩:=h
  rfl
 obtain ⟨x,d,m',w',r,kvs,ms,rfl,hk,⟨dx,hx,ln⟩,rk,w0,w1,hd',wd,hm,ml,q⟩:=h
 refine slE ⟨_,(aM (kj (ay jD (cE (aZ hr) (pv 2) (aw (pv 0) rfl) ak ⟨rfl,rfl,rfl,rfl⟩) ak (aD _))
   (aM (ps_exprZ (pe_bmZ PySem.F.plainAttrs_list PySem.F.slot_list_append PySem.F.type_list_append bE (pv 3) (pa_consZ (pe_tupZ (aB (aw (pv 0) rfl) (aB (aw (pv 0) rfl) br))) br))))
   fj)),?_⟩
 have hk0:=hk
 cases r with
 | set _ _=>simp only [Rw.k,List.mem_cons,List.not_mem_nil,or_false] at hk; simp only [Rw.ok] at rk; lia
 | copy _ _=>simp only [Rw.k,List.mem_cons,List.not_mem_nil,or_false] at hk; simp only [Rw.ok] at rk; lia
 | car _ _ _ _ _=>simp only [Rw.k,List.mem_cons,List.not_mem_nil,or_false] at hk; simp only [Rw.ok] at rk; lia
 | jn _ _ _ _=>simp only [Rw.k,List.mem_cons,List.not_mem_nil,or_false] at hk; simp only [Rw.ok] at rk; lia
 | mv _ _ _ _=>simp only [Rw.k,List.mem_cons,List.not_mem_nil,or_false] at hk; simp only [Rw.ok] at rk; lia
 | pick _ _ _ _=>simp only [Rw.k,List.mem_cons,List.not_mem_nil,or_false] at hk; simp only [Rw.ok] at rk; lia
 | mark n m y =>
 obtain ⟨n0,n1,om,oy⟩:=rk
 have L1000:(20000:Nat)<=sizeLine:=by decide
 have l5:=wd.ln
 have nxd:x ≠ d:=fun z=>by rw [z,hd'] at hx; cases hx
 have ndm:d ≠ m':=fun z=>by rw [z,hm] at hd'; cases hd'
 have wi:=wd.ints
 obtain ⟨cl,na⟩:=T.clF (k:=14) (by decide)
 refine ⟨_,rfl,d,rfl,⟨_,hd'⟩,_,rfl,x,_,dx,_,_,rfl,hx,cl,na _ (by simp [nOf]),rfl,_,_,rfl,hd',wi,rfl,_,rfl,?_⟩
 by_cases c0:gI kvs y = 0
 ·refine fz (congrArg V.int c0) ?_
  exact q H hd' (by show Mk1 H m' ms (if gI kvs y ≠ 0 then _ else _); rw [if_neg (fun h=>h c0)]; exact hm) (fun b' o' n1 n2 e=>e)
 ·refine iteN (fun z=>c0 (by injection z)) ?_
  refine ⟨_,rfl,.inl ⟨rfl,_,SqL.of hm⟩,_,rfl,x,_,dx,_,_,rfl,hx,cl,na _ (by simp [nOf]),rfl,_,rfl,x,_,dx,_,_,rfl,hx,cl,na _ (by simp [nOf]),rfl,(by show 2<=sizeLine; decide),fun t ht=>?_⟩
  have s1:=au ht (.tup [.int n,.str m])
  have hm1:=s1 _ _ hm
  have ntm:t ≠ m':=fun z=>by rw [z,hm] at ht; cases ht
  refine ⟨m',_,_,rfl,rfl,hm1,(by lia),?_⟩
  refine q _ (by show upd _ m' _ d = _; rw [ao ndm]; exact s1 _ _ hd') ?_ (fun b' o' n1 n2 e=>by rw [ao n2]; exact s1 _ _ e)
  show Mk1 _ m' ms (if gI kvs y ≠ 0 then _ else _)
  rw [if_pos c0]
  exact ⟨t,ae,by rw [ao ntm]; exact ae⟩
theorem j8 {k:Nat} {fs:List V} {m:Str} (hm:∀ k ∈ List.range 15,m ∉ nOf k) (h:k < 15):((nOf k).zip fs).lookup m = none:=by
 have e:∀ (ns:List Str) (fs:List V),m ∉ ns->(ns.zip fs).lookup m = none:=fun ns=>by
  induction ns with
  | nil=>intro fs _; rfl
  | cons a t ih =>
   intro fs hn
   cases fs with
   | nil=>rfl
   | cons b u =>
    show (match m == a with | true=>some b | false=>(t.zip u).lookup m) = none
    rw [show (m == a) = false from beq_eq_false_iff_ne.mpr fun z=>hn (by rw [z]; exact List.mem_cons_self ..)]
    exact ih u fun z=>hn (List.mem_cons_of_mem _ z)
 exact e _ _ (hm k (List.mem_range.mpr h))
theorem Txt.kitS {K:Frag} {mg:Str->Option Value} {c:Ad} (T:Txt K mg c) {k:Nat} (h:k < 15):kitOne K (.ref (fOf c k)) (.ref c.Step) = some true:=qU T.st.1 T.st.2 (T.kd (k:=k) (by lia)).2.2.1
theorem Txt.kitT {K:Frag} {mg:Str->Option Value} {c:Ad} (T:Txt K mg c) {k:Nat} (h:k < 15):kitOne K (.ref (fOf c k)) (.ref c.Turns) = some false:=by
 have:=T.kit (k:=k) (i:=15) (by lia) (by decide)
 rw [decide_eq_false (by lia)] at this
 exact this
theorem d7 {cf:Nat->Int} {k:Nat} (h:k < 16):dG (bX cf) (.inr (wOf k)) = some (.int (cf k)):=by
 unfold bX
 have e:∀ (l:List Nat),(∀ i ∈ l,i < 16)->k ∈ l->dG (l.map fun i=>((Sum.inr (wOf i),V.int (cf i)):Key × V)) (.inr (wOf k)) = some (.int (cf k)):=fun l=>by
  induction l with
  | nil=>intro _ m; cases m
  | cons a t ih =>
   intro hl m
   by_cases c:a = k
   ·subst c
    exact bv rfl
   ·rw [List.map_cons,bw (fun z=>c (wInj (hl a (List.mem_cons_self ..)) h (by injection z with z; rw [z])))]
    exact ih (fun i hi=>hl i (List.mem_cons_of_mem _ hi)) ((List.mem_cons.mp m).resolve_left (fun z=>c z.symm))
 exact e _ (fun i hi=>List.mem_range.mp hi) (List.mem_range.mpr h)
theorem sL {cf:Nat->Int} {k:Nat} {m:Int} (h:k < 16):fk (bX cf) (.inr (wOf k)) (.int (cf k + m)) = bX (cAdd cf k m):=by
 unfold fk
 rw [cX,d7 h]
 show (bX cf).map (fun kv=>if kv.1 = Sum.inr (wOf k) then (kv.1,V.int (cf k + m)) else kv) = _
 unfold bX
 rw [List.map_map]
 refine List.map_congr_left fun i hi=>?_
 have hi:=List.mem_range.mp hi
 show (if (Sum.inr (wOf i):Key) = Sum.inr (wOf k) then ((Sum.inr (wOf i):Key),V.int (cf k + m)) else (Sum.inr (wOf i),V.int (cf i))) = (Sum.inr (wOf i),V.int (cAdd cf k m i))
 unfold cAdd
 by_cases c:i = k
 ·subst c
  rw [if_pos rfl,if_pos rfl]
 ·rw [if_neg c,if_neg (fun z=>c (wInj hi h (by injection z with z; rw [z])))]
theorem dA (cf:Nat->Int):(bX cf).length = 16:=by unfold bX; rw [List.length_map,List.length_range]
theorem wOf_ok {k:Nat} (h:k < 15):k < 16:=by lia
theorem qM (cf:Nat->Int):((List.range 16).map cf).sum = cf 0 + (cf 1 + (cf 2 + (cf 3 + (cf 4 + (cf 5 + (cf 6 + (cf 7 + (cf 8 + (cf 9 + (cf 10 + (cf 11 + (cf 12 + (cf 13 + (cf 14 + (cf 15 + 0))))))))))))))):=rfl
theorem sum_add (cf:Nat->Int) {k:Nat} (m:Int) (h:k < 16):((List.range 16).map (cAdd cf k m)).sum = ((List.range 16).map cf).sum + m:=by
 rw [qM,qM]
 unfold cAdd
 rcases (by lia:k = 0\/k = 1\/k = 2\/k = 3\/k = 4\/k = 5\/k = 6\/k = 7\/k = 8\/k = 9\/k = 10\/k = 11\/k = 12\/k = 13\/k = 14\/k = 15) with rfl | rfl | rfl | rfl | rfl | rfl | rfl | rfl | rfl | rfl | rfl | rfl | rfl | rfl | rfl | rfl <;> simp <;> lia
theorem ly (cf:Nat->Int):(bX cf).map (·.2) = ((List.range 16).map cf).map V.int:=by
 unfold bX
 rw [List.map_map,List.map_map]
 rfl
theorem take_cnt {j:Nat} (h:j < 16):fk ((bX fun _=>0).take j) (.inr (wOf j)) (.int 0) = (bX fun _=>0).take (j + 1):=by
 rw [km]
 ·rw [List.take_add_one]
  unfold bX
  rw [List.getElem?_map,List.getElem?_range h]
  rfl
 ·cases e:dG ((bX fun _=>0).take j) (.inr (wOf j)) with
  | none=>rfl
  | some v =>
   have m:=fi e
   obtain ⟨i,hi⟩:=List.mem_iff_getElem?.mp m
   rw [List.getElem?_take] at hi
   split at hi
   ·rename_i c
    unfold bX at hi
    rw [List.getElem?_map,List.getElem?_range (by lia)] at hi
    have hi:(some (Sum.inr (wOf i),V.int 0):Option (Key × V)) = some (Sum.inr (wOf j),v):=hi
    injection hi with hi
    have h1:=congrArg Prod.fst hi
    have:=wInj (show i < 16 by lia) h (by injection h1 with h1; rw [h1])
    lia
   ·cases hi
theorem rw_at {j:Nat} {v:V} (h:(rw16.map V.str)[j]? = some v):v = .str (wOf j)/\j < 16:=by
 have hj:j < 16:=(List.getElem?_eq_some_iff.mp h).1
 have a:∀ i ∈ List.range 16,rw16[i]? = some (wOf i):=by decide +kernel
 rw [List.getElem?_map,a j (List.mem_range.mpr hj)] at h
 cases h
 exact ⟨rfl,hj⟩
theorem gJ {f:Addr} {fd:FuncData} (F:Fun K "need_registers" "need_registers" cy f fd) (T:Txt K mg c) (H_is_register:Has P w K mg base 1 "is_register" ["thing"] mO) (H_is_word:Has P w K mg base 3 "is_word" ["width","thing"] iC):FnOk P w K mg base CX0 4 f fd ["width","registers"] oR:=by
 refine F.ok sc_need_registers (fun vs H Q E h=>?_) (fun cdv A outer s H vs Q E hr h=>?_)
 ·obtain ⟨d,w',kvs,rfl,_⟩:=h
  rfl
 obtain ⟨d,w',kvs,rfl,hd,wd,w0,w1,q⟩:=h
 refine ⟨_,(ah (ps_thaw (cA PassesOwn.never rfl (rZ (pv 1)) (aQ (i:=2) sc_need_registers.nd rfl (Or.inl rfl))
   (ai (aR (bz (bt (aE aK rfl T.n_isinstance boot_isinstance (aa (pv 2) (aa (iZ rfl T.n_str boot_str) ag)))))
    (ai bR)
    aA))))
  (ai (cA PassesOwn.never rfl (cu (aE (mC rfl) rfl T.n_sorted boot_sorted (aa (pv 1) ag))) (aQ (i:=3) sc_need_registers.nd rfl (Or.inl rfl))
   (ai (aR (PW.pt (eE (bz (bt (aG H_is_register (hr.mono (by lia)) rfl (aa (pv 3) ag)))) (dE (bz (bt (aG H_is_word (hr.mono (by lia)) rfl (aa (pv 0) (aa (bA (aZ hr) (pv 1) (pv 3) (fun _ _=>rfl)) ag))))))))
    (ai bR)
    aA))))),?_⟩
 have L1000:(1000:Nat)<=sizeLine:=by decide
 have l5:=wd.ln
 refine ⟨_,rfl,d,kvs,rfl,hd,fun o=>?_⟩
 refine for_dict (kvs:=kvs) (o:=o) (a:=d) (fun j σ H2=>∃ y z:Option V,σ = [some (.int w'),some (.ref d),y,z]/\H2 = upd H d (.frz o (.dK kvs))) ⟨_,_,rfl,rfl⟩ ?_ ?_ ?_
 ·rintro j σ H2 hj ⟨y,z,rfl,rfl⟩
  exact ae
 ·rintro j kv σ H2 hkv ⟨y,z,rfl,rfl⟩
  obtain ⟨zz,i,rfl,_⟩:=wd.it kv (List.mem_of_getElem? hkv)
  exact ⟨_,rfl,_,_,_,_,_,rfl,rfl,TyOf.str _,fY _,_,rfl,eB ⟨_,_,rfl,rfl⟩⟩
 ·rintro σ H2 ⟨y,z,rfl,rfl⟩
  refine ⟨d,o,kvs,ae,(fun o' u e=>nomatch hd.symm.trans e),?_⟩
  have e0:upd (upd H d (.frz o (.dK kvs))) d (.dK kvs) = H:=by
   funext b
   by_cases cb:b = d
   ·rw [cb,ae,hd]
   ·rw [ao cb,ao cb]
  rw [e0]
  have kz:kvs.map (·.1) = (kvs.map fun kv=>match kv.1 with | .inr z=>z | .inl _=>"").map Sum.inr:=by
   rw [List.map_map]
   refine List.map_congr_left fun kv hkv=>?_
   obtain ⟨zz,i,rfl,_⟩:=wd.it kv hkv
   rfl
  refine ⟨_,rfl,d,kvs,_,rfl,hd,kz,by rw [List.length_map]; lia,fun l ws hl pm=>?_⟩
  have s1:=au hl (.lst (ws.map V.str))
  have mem:∀ z ∈ ws,∃ i:Int,dG kvs (.inr z) = some (.int i)/\Rg z/\0<=i/\i < 2 ^ w'.toNat:=fun z hz=>by
   have h1:=pm.mem_iff.mp hz
   obtain ⟨kv,hkv,e⟩:=List.mem_map.mp h1
   obtain ⟨zz,i,rfl,_⟩:=wd.it kv hkv
   obtain rfl:zz = z:=e
   cases ev:dG kvs (.inr zz) with
   | none=>exact absurd (List.mem_map_of_mem (f:=Prod.fst) hkv) (pE ev)
   | some v =>
    obtain ⟨z2,i2,e2,r2,a2,b2⟩:=wd.it _ (fi ev)
    cases e2
    exact ⟨i2,rfl,r2,a2,b2⟩
  refine ⟨l,rfl,⟨_,SqL.of ae⟩,ck (xs:=ws.map V.str) (fun j σ H2=>∃ y z:Option V,σ = [some (.int w'),some (.ref d),y,z]/\H2 l = some (.lst (ws.map V.str))/\Same H H2) ⟨_,_,rfl,ae,s1⟩ ?_ ?_ ?_⟩
  ·rintro j σ H2 hj ⟨y,z,rfl,h2,s2⟩
   exact SqL.of h2
  ·rintro j v σ H2 hv ⟨y,z,rfl,h2,s2⟩
   rw [List.getElem?_map] at hv
   cases ez:ws[j]? with
   | none=>rw [ez] at hv; cases hv
   | some zz =>
    rw [ez] at hv
    cases hv
    obtain ⟨i,ev,rz,i0,i1⟩:=mem zz (List.mem_of_getElem? ez)
    refine ⟨_,rfl,nil_ <| mG rz fun H3 s3=>⟨_,rfl,eB ?_⟩⟩
    refine ⟨_,rfl,_,rfl,_,rfl,d,.int i,rfl,.inl ⟨kvs,.inr zz,.inl (s3 _ _ (s2 _ _ hd)),rfl,ev.symm⟩,w',i,rfl,w0,w1,i0,i1,_,rfl,eB ?_⟩
    exact ⟨_,_,rfl,s3 _ _ h2,s2.trans s3⟩
  ·rintro σ H2 ⟨y,z,rfl,h2,s2⟩
   exact q H2 s2
theorem Txt.tyT {K:Frag} {mg:Str->Option Value} {c:Ad} (T:Txt K mg c) {H:Hp} {x dx:Addr} {fs:List (Str × V)} (e:H x = some (.ins c.Turns dx fs)):TyOf K H (.ref x) (.ref c.Turns):=TyOf.ins e T.cl_Turns (T.kd (k:=15) (by decide)).2.2.2.1 T.kf_og T.kf_ot (T.kd (k:=15) (by decide)).2.2.2.2.1
theorem Txt.kitU {K:Frag} {mg:Str->Option Value} {c:Ad} (T:Txt K mg c):kitOne K (.ref c.Turns) (.ref c.Turns) = some true:=T.kit (k:=15) (i:=15) (by decide) (by decide)
theorem iq {f:Addr} {fd:FuncData} (F:Fun K "good_at" "Turns.good_at" cI f fd) (T:Txt K mg c) (H_is_between:Has P w K mg base 2 "is_between" ["thing","low","high"] cr):FnOk P w K mg base CX0 3 f fd ["self","width"] (kJ c):=by
 refine F.ok iz (fun vs H Q E h=>?_) (fun cdv A outer s H vs Q E hr h=>?_)
 ·obtain ⟨x,w',n,xs,rfl,_⟩:=h
  rfl
 obtain ⟨x,w',n,xs,rfl,⟨dx,l,hx,hl⟩,n1,n2,ne,q⟩:=h
 refine ⟨_,(ai (ar (cY (aG H_is_between (hr.mono (by lia)) rfl (aa (aw (pv 0) rfl) (aa ak (aa ak ag)))) (cY (aE aK rfl T.n_isinstance boot_isinstance (aa (aw (pv 0) rfl) (aa (iZ rfl T.n_list boot_list) ag))) (cW (dl (qG (Nat.lt_of_succ_lt (aZ hr))) (aw (pv 0) rfl) (aY ag) (aD _))))))),?_⟩
 refine ⟨_,rfl,x,_,dx,_,_,rfl,hx,T.cl_Turns,T.na_Turns_times,rfl,_,_,_,rfl,by lia,by lia,_,rfl,fN ?_⟩
 refine ⟨_,rfl,x,_,dx,_,_,rfl,hx,T.cl_Turns,T.na_Turns_steps,rfl,_,_,_,_,_,rfl,rfl,TyOf.lst hl,rfl,_,rfl,fN ?_⟩
 refine ⟨_,rfl,x,_,dx,_,_,rfl,hx,T.cl_Turns,T.na_Turns_steps,rfl,(by show 0<=sizeLine; decide),fun l2 h2=>?_⟩
 have s2:=au h2 (.lst [])
 refine ⟨l,l2,xs,rfl,rfl,SqL.of (s2 _ _ hl),SqL.of ae,?_⟩
 cases xs with
 | nil=>exact absurd rfl ne
 | cons a t=>exact q _ s2
theorem qd {f:Addr} {fd:FuncData} (F:Fun K "is_good" "is_good" jd f fd) (T:Txt K mg c)  (MG:∀ k,k < 15->MHas P w K mg base 4 (fOf c k) "good_at" ["self","width"] (bg c [k])) (MGU:MHas P w K mg base 4 c.Turns "good_at" ["self","width"] (kJ c)):FnOk P w K mg base CX0 5 f fd ["width","thing","about"] (lh c):=by
 refine F.ok p7 (fun vs H Q E h=>?_) (fun cdv A outer s H vs Q E hr h=>?_)
 ·obtain ⟨d,x,w',a,zs,t,rfl,_⟩:=h
  rfl
 obtain ⟨d,x,w',a,zs,t,rfl,st,ok,w0,w1,a0,ad,q⟩:=h
 refine ⟨_,(ah (aR (PW.pt (eE (bz (bt (aE aK rfl T.n_isinstance boot_isinstance (aa (pv 1) (aa (fA rfl T.g_Step) ag))))) (dE (bz (bt (cF (k:=4) (pv 1) (hr.mono (by lia)) (aa (pv 0) ag)))))))
   (ai (ar fS))
   aA)
  (ai (ar (pe_or (rR (aE aK rfl T.n_isinstance boot_isinstance (aa (pv 1) (aa (fA rfl T.g_Turns) ag)))) (cW (dl jO (pv 2) (gx rfl T.g_MOST_TURNS) (aD _))))))),?_⟩
 cases t with
 | row r =>
  obtain ⟨dx,hx,ln⟩:StepAt c H x r.k r.fs:=st
  have rk:r.ok w':=ok.1
  have k15:=Rw.k15 rk
  refine ⟨_,rfl,_,_,_,_,_,rfl,rfl,T.ty k15 hx,T.kitS k15,_,rfl,eB ?_⟩
  refine ⟨_,rfl,x,_,dx,_,_,_,rfl,hx,j8 (by decide +kernel) k15,MG _ k15,_,rfl,x,w',r,rfl,List.mem_singleton.mpr rfl,⟨dx,hx,ln⟩,rk,w0,w1,fun H2 s2=>⟨_,rfl,eB ?_⟩⟩
  exact ⟨_,rfl,_,_,_,_,_,rfl,rfl,T.ty k15 (s2 _ _ hx),T.kitT k15,_,rfl,_,rfl,fN (q H2 s2)⟩
 | turns n ts =>
  obtain ⟨xs,⟨dx,l,hx,hl⟩,la⟩:∃ xs,d6 c H x (.int (n:Int)) xs/\L2A (StT c H d) xs ts:=st
  obtain ⟨n1,n2,ne,t100,tok⟩:1<=n/\n<=64/\ts ≠ []/\ts.length<=100/\∀ t ∈ ts,TOk w' zs d t:=ok
  have d1:1<=d:=by
   cases d with
   | zero=>exact absurd tr0 ne
   | succ d=>lia
  have xne:xs ≠ []:=fun z=>ne (List.length_eq_zero_iff.mp (by rw [<- la.1,z]; rfl))
  refine ⟨_,rfl,_,_,_,_,_,rfl,rfl,T.tyT hx,qU T.st.1 T.st.2 (T.kd (k:=15) (by decide)).2.2.1,_,rfl,eB ?_⟩
  refine ⟨_,rfl,x,_,dx,_,_,_,rfl,hx,rfl,MGU,_,rfl,x,w',n,xs,rfl,⟨dx,l,hx,hl⟩,n1,n2,xne,fun H2 s2=>⟨_,rfl,eB ?_⟩⟩
  refine ⟨_,rfl,_,_,_,_,_,rfl,rfl,T.tyT (s2 _ _ hx),T.kitU,_,rfl,_,rfl,eB ?_⟩
  refine ⟨_,rfl,_,_,rfl,rfl,?_⟩
  have e5:decide (a < 5) = true:=decide_eq_true (by lia)
  show Q (.bl (decide (a < 5))) H2
  rw [e5]
  exact q H2 s2
theorem jo {f:Addr} {fd:FuncData} (F:Fun K "place_behind" "place_behind" dq f fd) (T:Txt K mg c) (H_is_good:Has P w K mg base 5 "is_good" ["width","thing","about"] (lh c)) {d:Nat} (H_place_behind:Has P w K mg base (d + 5) "place_behind" ["width","steps","place","about"] (spN (gr c) d)):FnOk P w K mg base CX0 (d + 6) f fd ["width","steps","place","about"] (gr c (d + 1)):=by
 refine F.ok sc_place_behind (fun vs H Q E h=>?_) (fun cdv A outer s H vs Q E hr h=>?_)
 ·obtain ⟨l,w',p,a,zs,xs,ts,rfl,_⟩:=h
  rfl
 obtain ⟨l,w',p,a,zs,xs,ts,rfl,hl,la,tok,w0,w1,a0,ad,q⟩:=h
 refine ⟨_,(ah (cA PassesOwn.never rfl (cu (pv 1)) (aQ (i:=4) sc_place_behind.nd rfl (Or.inl rfl))
   (ah (aR (bz (bt (aG H_is_good (hr.mono (by lia)) rfl (aa (pv 0) (aa (pv 4) (aa (pv 3) ag))))))
    (ai bR)
    aA)
   (ah (aH (i:=2) sc_place_behind.nd rfl (Or.inl rfl) (aq bx (pv 2) ak))
   (ai (aR (bt (aE aK rfl T.n_isinstance boot_isinstance (aa (pv 4) (aa (fA rfl T.g_Turns) ag))))
    (ai (aH (i:=2) sc_place_behind.nd rfl (Or.inl rfl) (aG H_place_behind (hr.mono (by lia)) rfl (aa (pv 0) (aa (aw (pv 4) rfl) (aa (pv 2) (aa (aq bx (pv 3) ak) ag)))))))
    aA)))))
  (ai (ar (pv 2)))),?_⟩
 refine ⟨_,rfl,l,rfl,⟨_,SqL.of hl⟩,ck (xs:=xs) (fun j σ H2=>∃ (y:Option V) (i:Int),σ = [some (.int w'),some (.ref l),some (.int i),some (.int a),y]/\Same H H2) ⟨_,_,rfl,Same.refl _⟩ ?_ ?_ ?_⟩
 ·rintro j σ H2 hj ⟨y,i,rfl,s2⟩
  exact SqL.of (s2 _ _ hl)
 ·rintro j v σ H2 hv ⟨y,i,rfl,s2⟩
  obtain ⟨x,t,rfl,et,st⟩:=la.get hv
  have ok:=tok t (List.mem_of_getElem? et)
  have st2:StT c H2 (d + 1) x t:=st.same s2
  refine ⟨_,rfl,_,rfl,_,rfl,d,x,w',a,zs,t,rfl,st2,ok,w0,w1,a0,by lia,fun H3 s3=>⟨_,rfl,eB ?_⟩⟩
  have st3:StT c H3 (d + 1) x t:=st2.same s3
  refine ⟨_,rfl,_,_,rfl,rfl,?_⟩
  cases t with
  | row r =>
   obtain ⟨dx,hx,ln⟩:StepAt c H3 x r.k r.fs:=st3
   have k15:=Rw.k15 ok.1
   exact ⟨_,rfl,_,_,_,_,_,rfl,rfl,T.ty k15 hx,T.kitT k15,_,rfl,eB ⟨_,_,rfl,s2.trans s3⟩⟩
  | turns n us =>
   obtain ⟨ys,⟨dx,l2,hx,hl2⟩,lb⟩:∃ xs,d6 c H3 x (.int (n:Int)) xs/\L2A (StT c H3 d) xs us:=st3
   obtain ⟨n1,n2,ne,t100,uok⟩:1<=n/\n<=64/\us ≠ []/\us.length<=100/\∀ t ∈ us,TOk w' zs d t:=ok
   refine ⟨_,rfl,_,_,_,_,_,rfl,rfl,T.tyT hx,T.kitU,_,rfl,fN ?_⟩
   refine ⟨_,rfl,_,rfl,x,_,dx,_,_,rfl,hx,T.cl_Turns,T.na_Turns_steps,rfl,_,rfl,_,rfl,_,_,rfl,rfl,?_⟩
   cases d with
   | zero=>exact absurd tr0 ne
   | succ d=>exact ⟨l2,w',_,_,zs,ys,us,rfl,hl2,lb,uok,w0,w1,by lia,by lia,fun i' H4 s4=>⟨_,_,rfl,(s2.trans s3).trans s4⟩⟩
 ·rintro σ H2 ⟨y,i,rfl,s2⟩
  exact ⟨_,rfl,q i H2 s2⟩
theorem jV {f:Addr} {fd:FuncData} (F:Fun K "count_words" "count_words" dL f fd) (T:Txt K mg c) (MW:∀ k,k < 15->MHas P w K mg base 1 (fOf c k) "word" ["self"] (d9 (wOf k))) (MWU:MHas P w K mg base 1 c.Turns "word" ["self"] (d9 "turns")) {d:Nat} (H_count_words:Has P w K mg base (d + 5) "count_words" ["steps","times","counts"] (spN (gC c) d)):FnOk P w K mg base CX0 (d + 6) f fd ["steps","times","counts"] (gC c (d + 1)):=by
 refine F.ok sc_count_words (fun vs H Q E h=>?_) (fun cdv A outer s H vs Q E hr h=>?_)
 ·obtain ⟨Hs,l,dd,m,w',zs,xs,ts,cf,rfl,_⟩:=h
  rfl
 obtain ⟨Hs,l,dd,m,w',zs,xs,ts,cf,rfl,hl,la,tok,ss,hdd,hd,q⟩:=h
 refine ⟨_,(ai (cA PassesOwn.never rfl (cu (pv 0)) (aQ (i:=3) sc_count_words.nd rfl (Or.inl rfl))
   (ah (aH (i:=4) sc_count_words.nd rfl (Or.inl rfl) (cj (bt (aE aK rfl T.n_isinstance boot_isinstance (aa (pv 3) (aa (fA rfl T.g_Turns) ag)))) (aq bh (pv 1) (aw (pv 3) rfl)) (pv 1)))
   (ah (cR (aZ hr) (pv 2) (cL (k:=1) (pv 3) (hr.mono (by lia))) (aq bx (bA (aZ hr) (pv 2) (cL (k:=1) (pv 3) (hr.mono (by lia))) (fun _ _=>rfl)) (pv 4)) rfl)
   (ai (aR (bt (aE aK rfl T.n_isinstance boot_isinstance (aa (pv 3) (aa (fA rfl T.g_Turns) ag))))
    (ai (aX (aG H_count_words (hr.mono (by lia)) rfl (aa (aw (pv 3) rfl) (aa (pv 4) (aa (pv 2) ag))))))
    aA)))))),?_⟩
 have L1000:(1000:Nat)<=sizeLine:=by decide
 have nd:∀ {b o},Hs b = some o->b ≠ dd:=fun {b o} e z=>by rw [z,hdd] at e; cases e
 refine ⟨_,rfl,l,rfl,⟨_,SqL.of (ss _ _ hl)⟩,ck (xs:=xs) (fun j σ H2=>∃ y z:Option V,σ = [some (.ref l),some (.int m),some (.ref dd),y,z]/\H2 dd = some (.dK (bX (kc cf m (evL (d + 1) (ts.take j)))))/\SameX dd H H2) ⟨_,_,rfl,(by rw [show evL (d + 1) (ts.take 0) = [] from rfl,pB]; exact hd),SameX.refl _ _⟩ ?_ ?_ ?_⟩
 ·rintro j σ H2 hj ⟨y,z,rfl,h2,s2⟩
  exact SqL.of (s2 _ _ (nd hl) (ss _ _ hl))
 ·rintro j v σ H2 hv ⟨y,z,rfl,h2,s2⟩
  obtain ⟨x,t,rfl,et,st⟩:=la.get hv
  have ok:=tok t (List.mem_of_getElem? et)
  have S2:Same Hs H2:=fun b o e=>s2 _ _ (nd e) (ss _ _ e)
  rw [gs et]
  rw [oX]
  generalize kc cf m (evL (d + 1) (ts.take j)) = cg at h2 ⊢
  cases t with
  | row r =>
   obtain ⟨dx,hx,ln⟩:StepAt c Hs x r.k r.fs:=st
   have k15:=Rw.k15 ok.1
   have nad:=nd hx
   have hx2:=S2 _ _ hx
   refine ⟨_,rfl,_,_,_,_,_,rfl,rfl,T.ty k15 hx2,T.kitT k15,_,rfl,eB ⟨_,rfl,?_⟩⟩
   refine ⟨_,rfl,_,rfl,x,_,dx,_,_,_,rfl,hx2,j8 (by decide +kernel) k15,MW _ k15,x,rfl,dd,_,rfl,.inl ⟨_,.inr (wOf r.k),.inl h2,rfl,(d7 (wOf_ok k15)).symm⟩,?_⟩
   refine ⟨_,rfl,_,_,rfl,rfl,_,rfl,_,rfl,x,_,dx,_,_,_,rfl,hx2,j8 (by decide +kernel) k15,MW _ k15,x,rfl,dd,_,rfl,DPut.k (k:=.inr (wOf r.k)) h2 (by rw [dA]; lia),?_⟩
   rw [sL (wOf_ok k15)]
   refine ⟨_,rfl,_,_,_,_,_,rfl,rfl,T.ty k15 (by rw [ao nad]; exact hx2),T.kitT k15,_,rfl,eB ?_⟩
   exact ⟨_,_,rfl,(by rw [ae,show evs (d + 1) (.row r) = [some r] from rfl,pC]; rfl),fun b o n e=>by rw [ao n]; exact s2 _ _ n e⟩
  | turns n us =>
   obtain ⟨ys,⟨dx,l2,hx,hl2⟩,lb⟩:∃ xs,d6 c Hs x (.int (n:Int)) xs/\L2A (StT c Hs d) xs us:=st
   obtain ⟨n1,n2,ne,t100,uok⟩:1<=n/\n<=64/\us ≠ []/\us.length<=100/\∀ t ∈ us,TOk w' zs d t:=ok
   have nad:=nd hx
   have hx2:=S2 _ _ hx
   refine ⟨_,rfl,_,_,_,_,_,rfl,rfl,T.tyT hx2,T.kitU,_,rfl,fN ⟨_,rfl,_,rfl,x,_,dx,_,_,rfl,hx2,T.cl_Turns,T.na_Turns_times,rfl,_,_,rfl,rfl,.inr ⟨by lia,by lia⟩,?_⟩⟩
   have w15:wOf 15 = "turns":=rfl
   refine ⟨_,rfl,_,rfl,x,_,dx,_,_,_,rfl,hx2,rfl,MWU,x,rfl,dd,_,rfl,.inl ⟨_,.inr (wOf 15),.inl h2,rfl,(d7 (by decide)).symm⟩,?_⟩
   refine ⟨_,rfl,_,_,rfl,rfl,_,rfl,_,rfl,x,_,dx,_,_,_,rfl,hx2,rfl,MWU,x,rfl,dd,_,rfl,DPut.k (k:=.inr (wOf 15)) h2 (by rw [dA]; lia),?_⟩
   rw [sL (cf:=cg) (k:=15) (m:=m * n) (by decide)]
   have hx3:upd H2 dd (.dK (bX (cAdd cg 15 (m * n)))) x = some (.ins c.Turns dx [("times",.int (n:Int)),("steps",.ref l2)]):=by rw [ao nad]; exact hx2
   refine ⟨_,rfl,_,_,_,_,_,rfl,rfl,T.tyT hx3,T.kitU,_,rfl,fN ?_⟩
   refine ⟨_,rfl,x,_,dx,_,_,rfl,hx3,T.cl_Turns,T.na_Turns_steps,rfl,_,rfl,_,rfl,?_⟩
   cases d with
   | zero=>exact absurd tr0 ne
   | succ d =>
    refine ⟨Hs,l2,dd,m * n,w',zs,ys,us,cAdd cg 15 (m * n),rfl,hl2,lb,uok,fun b o e=>by rw [ao (nd e)]; exact S2 _ _ e,hdd,ae,fun H4 h4 s4=>?_⟩
    refine ⟨_,_,rfl,?_,fun b o n e=>s4 _ _ n (by rw [ao n]; exact s2 _ _ n e)⟩
    rw [show evs (d + 1 + 1) (TS.turns n us) = (List.replicate n (none :: evL (d + 1) us)).flatten from rfl,pV]
    exact h4
 ·rintro σ H2 ⟨y,z,rfl,h2,s2⟩
  rw [la.1,List.take_length] at h2
  exact q H2 h2 s2
theorem sW (es:List (Option Rw)) (h:∀ e ∈ es,kOf e < 16):∀ (cf:Nat->Int) (m:Int),((List.range 16).map (kc cf m es)).sum = ((List.range 16).map cf).sum + m * es.length:=by
 induction es with
 | nil=>intro cf m; rw [pB]; show _ = _ + m * 0; lia
 | cons e t ih =>
  intro cf m
  rw [show e :: t = [e] ++ t from rfl,oX,ih (fun q hq=>h q (List.mem_cons_of_mem _ hq)),pC,sum_add cf m (h e (List.mem_cons_self ..))]
  show _ + m + m * (t.length:Int) = _ + m * ((t.length + 1:Nat):Int)
  push_cast
  rw [Int.mul_add,Int.mul_one]
  lia
theorem TOk.rows {w:Int} {zs:List Str}:∀ {d:Nat} {t:Tr d},TOk w zs d t->∀ r,some r ∈ evs d t->r.ok w/\r.inZ zs
 | 0,t,_,_,_=>Empty.elim t
 | d + 1,t,h,r,hr=>by
  have h':TS.okk w zs (TOk w zs d) t:=h
  have hr':some r ∈ TS.ev (evs d) t:=hr
  revert h' hr'
  cases (show TS (Tr d) from t) with
  | row q =>
   intro h' hr'
   have:=List.mem_singleton.mp hr'
   cases this
   exact h'
  | turns n ts =>
   intro h' hr'
   obtain ⟨l,hl,m⟩:=List.mem_flatten.mp hr'
   rw [(List.mem_replicate.mp hl).2] at m
   rcases List.mem_cons.mp m with z | m
   ·cases z
   ·obtain ⟨t',ht',m⟩:=List.mem_flatMap.mp m
    exact TOk.rows (h'.2.2.2.2 t' ht') r m
theorem rws_mem {r:Rw} {es:List (Option Rw)}:r ∈ rws es ↔ some r ∈ es:=by
 unfold rws
 rw [List.mem_filterMap]
 exact ⟨fun ⟨a,h,e⟩=>by rw [show a = some r from e] at h; exact h,fun h=>⟨_,h,rfl⟩⟩
theorem oY {w:Int} {zs:List Str} {d:Nat} {ts:List (Tr d)} (h:∀ t ∈ ts,TOk w zs d t):∀ r ∈ rws (evL d ts),r.ok w/\r.inZ zs:=fun r hr=>by
 obtain ⟨t,ht,m⟩:=List.mem_flatMap.mp (rws_mem.mp hr)
 exact (h t ht).rows r m
theorem evL_k {w:Int} {zs:List Str} {d:Nat} {ts:List (Tr d)} (h:∀ t ∈ ts,TOk w zs d t):∀ e ∈ evL d ts,kOf e < 16:=fun e he=>by
 cases e with
 | none=>show 15 < 16; decide
 | some r=>have:=Rw.k15 (oY h r (rws_mem.mpr he)).1; show r.k < 16; lia
theorem lA {f:Addr} {fd:FuncData} (F:Fun K "need_steps" "need_steps" eK f fd) (T:Txt K mg c) (H_need_width:Has P w K mg base 3 "need_width" ["width"] df) (H_place_behind:Has P w K mg base 12 "place_behind" ["width","steps","place","about"] (gr c 6)) (H_row_words:Has P w K mg base 1 "row_words" [] spRW) (H_count_words:Has P w K mg base 12 "count_words" ["steps","times","counts"] (gC c 6)):FnOk P w K mg base CX0 13 f fd ["width","steps"] (iY c):=by
 refine F.ok sc_need_steps (fun vs H Q E h=>?_) (fun cdv A outer s H vs Q E hr h=>?_)
 ·obtain ⟨l,w',zs,xs,ts,rfl,_⟩:=h
  rfl
 obtain ⟨l,w',zs,xs,ts,rfl,hl,la,tok,ln,w0,w1,q⟩:=h
 refine ⟨_,(ah (aX (aG H_need_width (hr.mono (by lia)) rfl (aa (pv 0) ag)))
  (ah (aR (bz (bt (aE aK rfl T.n_isinstance boot_isinstance (aa (pv 1) (aa (iZ rfl T.n_list boot_list) ag)))))
   (ai bR)
   aA)
  (ah (aX (aG H_place_behind (hr.mono (by lia)) rfl (aa (pv 0) (aa (pv 1) (aa ak (aa ak ag))))))
  (ah (aH (i:=2) sc_need_steps.nd rfl (Or.inl rfl) kS)
  (ah (cA PassesOwn.never rfl (cu (pe_fn0 H_row_words (hr.mono (by lia)) rfl)) (aQ (i:=3) sc_need_steps.nd rfl (Or.inl rfl))
   (ai (cR (aZ hr) (pv 2) (pv 3) ak rfl)))
  (ah (aX (aG H_count_words (hr.mono (by lia)) rfl (aa (pv 1) (aa ak (aa (pv 2) ag)))))
  (ah (aR (ay op_gt (aE (iM rfl) rfl T.n_sum boot_sum (aa (j6 PySem.F.plainAttrs_dict PySem.F.slot_dict_values PySem.F.type_dict_values jx (pv 2)) ag)) (gx rfl T.g_MOST_DONE) (aD _))
   (ai bR)
   aA)
  (ai (ar (pv 2)))))))))),?_⟩
 have L1000:(1000:Nat)<=sizeLine:=by decide
 refine ⟨_,rfl,w',rfl,w0,w1,?_⟩
 refine ⟨_,rfl,_,_,_,_,_,rfl,rfl,TyOf.lst hl,rfl,_,rfl,eB ?_⟩
 refine ⟨_,rfl,_,rfl,l,w',0,0,zs,xs,ts,rfl,hl,la,tok,w0,w1,by decide,by decide,fun i H1 s1=>?_⟩
 intro d hd
 have s2:=au hd (.dK [])
 refine ⟨rfl,fun lw hw=>?_⟩
 have g1:upd H1 d (.dK []) d = some (.dK ((bX fun _=>0).take 0)):=ae
 have s3:=au hw (.lst (rw16.map V.str))
 refine ⟨lw,rfl,⟨_,SqL.of ae⟩,ck (xs:=rw16.map V.str) (fun j σ H2=>∃ y:Option V,σ = [some (.int w'),some (.ref l),some (.ref d),y]/\H2 d = some (.dK ((bX fun _=>0).take j))/\H2 lw = some (.lst (rw16.map V.str))/\Same H H2) ⟨_,rfl,s3 _ _ g1,ae,s1.trans (s2.trans s3)⟩ ?_ ?_ ?_⟩
 ·rintro j σ H2 hj ⟨y,rfl,h2,hw2,ss⟩
  exact SqL.of hw2
 ·rintro j v σ H2 hv ⟨y,rfl,h2,hw2,ss⟩
  obtain ⟨rfl,j16⟩:=rw_at hv
  have ndl:lw ≠ d:=fun z=>by rw [z,h2] at hw2; cases hw2
  refine ⟨_,rfl,_,rfl,d,_,rfl,DPut.k (k:=.inr (wOf j)) h2 (by rw [List.length_take,dA]; lia),?_⟩
  rw [take_cnt j16]
  exact ⟨_,rfl,ae,by rw [ao ndl]; exact hw2,Same.updL ss (Same.none s1 hd)⟩
 ·rintro σ H2 ⟨y,rfl,h2,hw2,ss⟩
  have h2:H2 d = some (.dK (bX fun _=>0)):=by
   rw [h2,show (rw16.map V.str).length = 16 from rfl,List.take_of_length_le (by rw [dA]; exact Nat.le_refl _)]
  have fd:H d = none:=Same.none s1 hd
  refine ⟨_,rfl,_,rfl,H,l,d,1,w',zs,xs,ts,_,rfl,hl,la,tok,ss,fd,h2,fun H3 h3 s3'=>?_⟩
  have sm:=sW (evL 6 ts) (evL_k tok) (fun _=>0) 1
  have SS:Same H H3:=fun b o e=>s3' _ _ (av e fd) (ss _ _ e)
  refine ⟨_,rfl,.inr (.inr (.inl ⟨rfl,.inl ⟨_,h3⟩⟩)),d,_,rfl,rfl,h3,fun rv hrv=>?_⟩
  have s4:=au hrv (vwV rv d)
  refine ⟨rv,d,_,_,rfl,ae,s4 _ _ h3,ly _,_,_,rfl,rfl,_,rfl,be ?_ ?_⟩
  ·rw [sm,qM]
   lia
  ·exact ⟨_,rfl,q d _ fd (s4 _ _ h3) (SS.trans s4)⟩
theorem jN {f:Addr} {fd:FuncData} (F:Fun K "check_steps" "check_steps" d5 f fd) (T:Txt K mg c) (H_need_steps:Has P w K mg base 13 "need_steps" ["width","steps"] (iY c)):FnOk P w K mg base CX0 14 f fd ["width","steps"] (lF c):=by
 refine F.ok jS (fun vs H Q E h=>?_) (fun cdv A outer s H vs Q E hr h=>?_)
 ·obtain ⟨l,w',zs,xs,ts,rfl,_⟩:=h
  rfl
 obtain ⟨l,w',zs,xs,ts,rfl,hl,la,tok,ln,w0,w1,q⟩:=h
 refine ⟨_,(ai (ar (aE (iM rfl) rfl T.n_sum boot_sum (aa (j6 PySem.F.plainAttrs_dict PySem.F.slot_dict_values PySem.F.type_dict_values jx (aG H_need_steps (hr.mono (by lia)) rfl (aa (pv 0) (aa (pv 1) ag)))) ag)))),?_⟩
 refine ⟨_,rfl,_,rfl,l,w',zs,xs,ts,rfl,hl,la,tok,ln,w0,w1,fun d H1 hd h1 s1=>?_⟩
 refine ⟨.inr (.inr (.inl ⟨rfl,.inl ⟨_,h1⟩⟩)),d,_,rfl,rfl,h1,fun rv hrv=>?_⟩
 have s4:=au hrv (vwV rv d)
 refine ⟨rv,d,_,_,rfl,ae,s4 _ _ h1,ly _,?_⟩
 have sm:=sW (evL 6 ts) (evL_k tok) (fun _=>0) 1
 rw [sm,qM,show (0:Int) + (0 + (0 + (0 + (0 + (0 + (0 + (0 + (0 + (0 + (0 + (0 + (0 + (0 + (0 + (0 + 0))))))))))))))) + 1 * ((evL 6 ts).length:Int) = (evL 6 ts).length by lia]
 exact q _ (s1.trans s4)
theorem ev_len {α:Type} (f:α->List (Option Rw)) (n:Nat) (ts:List α):(TS.ev f (.turns n ts)).length = n * (1 + (ts.flatMap f).length):=by
 show (List.replicate n (none :: ts.flatMap f)).flatten.length = _
 rw [List.length_flatten,List.map_replicate,List.sum_replicate_nat,List.length_cons,Nat.add_comm]
theorem act_go {k d:Nat} (MA:∀ i,i < 15->MHas P w K mg base k (fOf c i) "act" ["self","width","words","marks"] (bT c [i])) (MT:MHas P w K mg base k c.Turns "act" ["self","width","words","marks"] (spN (kg c) d)) {Hs G:Hp} {x dd m:Addr} {w':Int} {zs:List Str} {t:TS (Tr d)} {kvs:List (Key × V)} {ms:List V} {ps:List (V × V)} {Q:VK} {E:XK}
  (st:StT c Hs (d + 1) x t) (ok:TOk w' zs (d + 1) t) (S:Same Hs G) (hdd:Hs dd = none) (hm:Hs m = none) (zo:ZOk zs) (w0:4<=w') (w1:w'<=32) (gd:G dd = some (.dK kvs)) (wz:Wz w' zs kvs) (gm:G m = some (.lst ms)) (pm:PrsAt G ms ps) (ln:ps.length + (evs (d + 1) t).length<=10000)
  (q:∀ ms' G',G' dd = some (.dK (ba w' kvs (rws (evs (d + 1) t))))->G' m = some (.lst ms')->PrsAt G' ms' (ps ++ bF w' kvs (rws (evs (d + 1) t)))->(∀ b o,b ≠ dd->b ≠ m->G b = some o->G' b = some o)->Q .non G') :
  ∃ (a C dx:Addr) (fs:List (Str × V)) (qs:List Str) (sp:Sp),V.ref x = .ref a/\G a = some (.ins C dx fs)/\fs.lookup ("act":Str) = none/\MHas P w K mg base k C "act" qs sp/\sp [.ref x,.int w',.ref dd,.ref m] G Q E:=by
 cases t with
 | row r =>
  have sa:StepAt c Hs x r.k r.fs:=st
  have rok:r.ok w'/\r.inZ zs:=ok
  have k15:=Rw.k15 rok.1
  have sG:=sa.same S
  obtain ⟨dx,hx,lnn⟩:=id sG
  refine ⟨x,_,dx,_,_,_,rfl,hx,j8 (by decide +kernel) k15,MA _ k15,x,dd,m,w',r,kvs,ms,rfl,List.mem_singleton.mpr rfl,sG,rok.1,w0,w1,gd,wz.wd zo,gm,(by rw [pm.1]; lia),fun G' gd' gm' sG'=>?_⟩
  have pm':PrsAt G' ms ps:=pm.same fun b ys e=>sG' _ _ (fun z=>by rw [z,gd] at e; cases e) (fun z=>by rw [z,gm] at e; cases e) e
  obtain ⟨ms',gm2,pm2⟩:=gm'.prs pm'
  refine q ms' G' gd' gm2 ?_ sG'
  rw [show bF w' kvs (rws (evs (d + 1) (.row r))) = mkL (r.mk kvs) ++ [] from rfl,List.append_nil]
  exact pm2
 | turns n us =>
  obtain ⟨ys,ta,lb⟩:∃ xs,d6 c Hs x (.int (n:Int)) xs/\L2A (StT c Hs d) xs us:=st
  obtain ⟨n1,n2,ne,t100,uok⟩:1<=n/\n<=64/\us ≠ []/\us.length<=100/\∀ t ∈ us,TOk w' zs d t:=ok
  have ln':ps.length + n * (1 + (evL d us).length)<=10000:=by
   have:=ev_len (evs d) n us
   have ln:ps.length + (TS.ev (evs d) (.turns n us)).length<=10000:=ln
   rw [this] at ln
   exact ln
  rw [Nat.mul_add] at ln'
  obtain ⟨dx,l,hx,hl⟩:=id ta
  refine ⟨x,_,dx,_,_,_,rfl,S _ _ hx,rfl,MT,?_⟩
  cases d with
  | zero=>exact absurd tr0 ne
  | succ d=>exact ⟨Hs,x,dd,m,w',n,zs,ys,us,kvs,ms,ps,rfl,ta,lb,n2,uok,S,hdd,hm,zo,w0,w1,gd,wz,gm,pm,by lia,q⟩
theorem kI (E:List (Option Rw)) (i:Nat):(List.replicate (i + 1) E).flatten = (List.replicate i E).flatten ++ E:=by
 rw [List.replicate_succ',List.flatten_append]
 show _ ++ (E ++ []) = _
 rw [List.append_nil]
theorem ib {d:Nat} (ts:List (Tr d)) (j:Nat):(evL d (ts.take j)).length<=(evL d ts).length:=by
 have e:evL d ts = evL d (ts.take j) ++ evL d (ts.drop j):=by
  unfold evL
  rw [<- List.flatMap_append,List.take_append_drop]
 rw [e,List.length_append]
 lia
theorem mD {f:Addr} {fd:FuncData} (F:Fun K "act" "Turns.act" fG f fd) (T:Txt K mg c) (MA:∀ k,k < 15->MHas P w K mg base 6 (fOf c k) "act" ["self","width","words","marks"] (bT c [k])) {d:Nat} (MT:MHas P w K mg base (d + 6) c.Turns "act" ["self","width","words","marks"] (spN (kg c) d)):FnOk P w K mg base CX0 (d + 7) f fd ["self","width","words","marks"] (kg c (d + 1)):=by
 refine F.ok sc_Turns_act (fun vs H Q E h=>?_) (fun cdv A outer s H vs Q E hr h=>?_)
 ·obtain ⟨Hs,x,dd,m,w',n,zs,xs,ts,kvs,ms,ps,rfl,_⟩:=h
  rfl
 obtain ⟨Hs,x,dd,m,w',n,zs,xs,ts,kvs,ms,ps,rfl,⟨dx,l,hx,hl⟩,la,n64,tok,S,hdd,hm,zo,w0,w1,gd,wz,gm,pm,ln,q⟩:=h
 refine ⟨_,(ai (cA PassesOwn.never rfl (iL rfl T.n_range (aa (aw (pv 0) rfl) ag)) (aQ (i:=4) sc_Turns_act.nd rfl (Or.inl rfl))
   (ai (cA PassesOwn.never rfl (cu (aw (pv 0) rfl)) (aQ (i:=5) sc_Turns_act.nd rfl (Or.inl rfl))
    (ai (aX (cF (k:=d+6) (pv 5) (hr.mono (by lia)) (aa (pv 1) (aa (pv 2) (aa (pv 3) ag)))))))))),?_⟩
 have nd:∀ {b o},Hs b = some o->b ≠ dd/\b ≠ m:=fun {b o} e=>⟨fun z=>(by rw [z,hdd] at e; cases e),fun z=>(by rw [z,hm] at e; cases e)⟩
 have rk:=oY tok
 generalize hE:(none :: evL (d + 1) ts:List (Option Rw)) = EE at *
 refine ⟨_,rfl,x,_,dx,_,_,rfl,S _ _ hx,T.cl_Turns,T.na_Turns_times,rfl,_,rfl,by lia,by lia,mQ (n:=n) (fun i σ G=>∃ (y z:Option V) (ms:List V),σ = [some (.ref x),some (.int w'),some (.ref dd),some (.ref m),y,z]/\G dd = some (.dK (ba w' kvs (rws (List.replicate i EE).flatten)))/\G m = some (.lst ms)/\PrsAt G ms (ps ++ bF w' kvs (rws (List.replicate i EE).flatten))/\(∀ b o,b ≠ dd->b ≠ m->H b = some o->G b = some o)) ⟨_,_,ms,rfl,gd,gm,(by rw [show bF w' kvs (rws (List.replicate 0 EE).flatten) = [] from rfl,List.append_nil]; exact pm),fun b o _ _ e=>e⟩ ?_ ?_⟩
 ·rintro i σ G hi ⟨y,z,ms1,rfl,gd1,gm1,pm1,kp1⟩
  have S1:Same Hs G:=fun b o e=>kp1 _ _ (nd e).1 (nd e).2 (S _ _ e)
  have wz1:Wz w' zs (ba w' kvs (rws (List.replicate i EE).flatten)):=Wz.all zo (fun r hr'=>by
   have hr':=rws_mem.mp hr'
   obtain ⟨l',hl',m'⟩:=List.mem_flatten.mp hr'
   rw [(List.mem_replicate.mp hl').2,<- hE] at m'
   rcases List.mem_cons.mp m' with z | m'
   ·cases z
   ·exact rk r (rws_mem.mpr m')) w0 w1 wz
  have pl1:(ps ++ bF w' kvs (rws (List.replicate i EE).flatten)).length + (evL (d + 1) ts).length<=10000:=by
   have a1:=gw w' (rws (List.replicate i EE).flatten) kvs
   have a2:(rws (List.replicate i EE).flatten).length<=i * (evL (d + 1) ts).length:=by
    have:rws (List.replicate i EE).flatten = (List.replicate i (rws (evL (d + 1) ts))).flatten:=by
     clear gd1 gm1 pm1 kp1 wz1 a1 hi
     induction i with
     | zero=>rfl
     | succ i ih =>
      rw [kI,dO,ih,<- hE,List.replicate_succ',List.flatten_append]
      show _ ++ rws (evL (d + 1) ts) = _ ++ (rws (evL (d + 1) ts) ++ [])
      rw [List.append_nil]
    rw [this,List.length_flatten,List.map_replicate,List.sum_replicate_nat]
    exact Nat.mul_le_mul_left _ (oJ _)
   have a3:i * (evL (d + 1) ts).length + (evL (d + 1) ts).length<=n * (evL (d + 1) ts).length:=by
    rw [<- Nat.succ_mul]
    exact Nat.mul_le_mul_right _ hi
   rw [List.length_append]
   lia
  have tk:∀ es,rws (es ++ [none]) = rws es:=fun es=>by rw [dO]; exact List.append_nil _
  have act1:ba w' kvs (rws (List.replicate (i + 1) EE).flatten) = ba w' (ba w' kvs (rws (List.replicate i EE).flatten)) (rws (evL (d + 1) ts)):=by
   rw [kI,dO,hI,<- hE]
   rfl
  have mk1:bF w' kvs (rws (List.replicate (i + 1) EE).flatten) = bF w' kvs (rws (List.replicate i EE).flatten) ++ bF w' (ba w' kvs (rws (List.replicate i EE).flatten)) (rws (evL (d + 1) ts)):=by
   rw [kI,dO,gG,<- hE]
   rfl
  rw [act1,mk1,<- List.append_assoc]
  generalize ba w' kvs (rws (List.replicate i EE).flatten) = k1 at gd1 wz1 ⊢
  generalize ps ++ bF w' kvs (rws (List.replicate i EE).flatten) = p1 at pm1 pl1 ⊢
  refine ⟨_,rfl,x,_,dx,_,_,rfl,S1 _ _ hx,T.cl_Turns,T.na_Turns_steps,rfl,l,rfl,⟨_,SqL.of (S1 _ _ hl)⟩,ck (xs:=xs) (fun j σ G'=>∃ (y z:Option V) (ms:List V),σ = [some (.ref x),some (.int w'),some (.ref dd),some (.ref m),y,z]/\G' dd = some (.dK (ba w' k1 (rws (evL (d + 1) (ts.take j)))))/\G' m = some (.lst ms)/\PrsAt G' ms (p1 ++ bF w' k1 (rws (evL (d + 1) (ts.take j))))/\(∀ b o,b ≠ dd->b ≠ m->H b = some o->G' b = some o)) ⟨_,_,ms1,rfl,gd1,gm1,(by rw [show bF w' k1 (rws (evL (d + 1) (ts.take 0))) = [] from rfl,List.append_nil]; exact pm1),kp1⟩ ?_ ?_ ?_⟩
  ·rintro j σ G' hj ⟨y,z,ms,rfl,gd2,gm2,pm2,kp2⟩
   exact SqL.of (kp2 _ _ (nd hl).1 (nd hl).2 (S _ _ hl))
  ·rintro j v σ G' hv ⟨y,z,ms2,rfl,gd2,gm2,pm2,kp2⟩
   obtain ⟨x',t,rfl,et,st⟩:=la.get hv
   have S2:Same Hs G':=fun b o e=>kp2 _ _ (nd e).1 (nd e).2 (S _ _ e)
   have wz2:Wz w' zs (ba w' k1 (rws (evL (d + 1) (ts.take j)))):=Wz.all zo (oY fun t ht=>tok t (List.mem_of_mem_take ht)) w0 w1 wz1
   have pl2:(p1 ++ bF w' k1 (rws (evL (d + 1) (ts.take j)))).length + (evs (d + 1) t).length<=10000:=by
    have a1:=gw w' (rws (evL (d + 1) (ts.take j))) k1
    have a2:=oJ (evL (d + 1) (ts.take j))
    have a3:=ib ts (j + 1)
    rw [gs et,List.length_append] at a3
    rw [List.length_append]
    lia
   rw [gs et,dO,hI,gG,<- List.append_assoc]
   generalize ba w' k1 (rws (evL (d + 1) (ts.take j))) = k2 at gd2 wz2 ⊢
   generalize p1 ++ bF w' k1 (rws (evL (d + 1) (ts.take j))) = p2 at pm2 pl2 ⊢
   obtain ⟨a',C',dx',fs',qs',sp',e1,e2,e3,e4,e5⟩:=act_go (E:=E0) (fun i hi=>(MA i hi).mono (show 6<=d + 6 by lia)) MT st (tok t (List.mem_of_getElem? et)) S2 hdd hm zo w0 w1 gd2 wz2 gm2 pm2 pl2 (Q:=fun _ G3=>∃ (y' z':Option V) (ms:List V),[some (V.ref x),some (.int w'),some (.ref dd),some (.ref m),y,some (.ref x')] = [some (V.ref x),some (.int w'),some (.ref dd),some (.ref m),y',z']/\G3 dd = some (.dK (ba w' k2 (rws (evs (d + 1) t))))/\G3 m = some (.lst ms)/\PrsAt G3 ms (p2 ++ bF w' k2 (rws (evs (d + 1) t)))/\(∀ b o,b ≠ dd->b ≠ m->H b = some o->G3 b = some o)) (fun ms' G3 g1 g2 g3 g4=>⟨y,_,ms',rfl,g1,g2,g3,fun b o n1 n2 e=>g4 b o n1 n2 (kp2 b o n1 n2 e)⟩)
   exact ⟨_,rfl,a',C',dx',fs',qs',sp',e1,e2,e3,e4,_,rfl,_,rfl,_,rfl,e5⟩
  ·rintro σ G' ⟨y,z,ms,rfl,gd2,gm2,pm2,kp2⟩
   rw [la.1,List.take_length] at gd2 pm2
   exact ⟨_,_,ms,rfl,gd2,gm2,pm2,kp2⟩
 ·rintro σ G ⟨y,z,ms1,rfl,gd1,gm1,pm1,kp1⟩
  rw [<- hE] at gd1 pm1
  exact q ms1 G gd1 gm1 pm1 kp1
theorem mZ {f:Addr} {fd:FuncData} (F:Fun K "run_steps" "run_steps" fJ f fd) (T:Txt K mg c) (H_need_steps:Has P w K mg base 13 "need_steps" ["width","steps"] (iY c)) (H_need_registers:Has P w K mg base 4 "need_registers" ["width","registers"] oR) (MA:∀ k,k < 15->MHas P w K mg base 6 (fOf c k) "act" ["self","width","words","marks"] (bT c [k])) (MT:MHas P w K mg base 12 c.Turns "act" ["self","width","words","marks"] (spN (kg c) 5)):FnOk P w K mg base CX0 14 f fd ["width","steps","registers"] (pc c):=by
 refine F.ok sc_run_steps (fun vs H Q E h=>?_) (fun cdv A outer s H vs Q E hr h=>?_)
 ·obtain ⟨l,d,w',zs,xs,ts,kvs,rfl,_⟩:=h
  rfl
 obtain ⟨l,d,w',zs,xs,ts,kvs,rfl,hl,la,tok,ln,zo,w0,w1,hd,wz,q⟩:=h
 refine ⟨_,(ah (aH (i:=3) sc_run_steps.nd rfl (Or.inl rfl) (aG H_need_steps (hr.mono (by lia)) rfl (aa (pv 0) (aa (pv 1) ag))))
  (ah (aX (aG H_need_registers (hr.mono (by lia)) rfl (aa (pv 0) (aa (pv 2) ag))))
  (ah (aH (i:=4) sc_run_steps.nd rfl (Or.inl rfl) (cS sP rfl T.n_dict boot_dict (aa (pv 2) ag)))
  (ah (aH (i:=5) sc_run_steps.nd rfl (Or.inl rfl) (aY ag))
  (ah (cA PassesOwn.never rfl (cu (pv 1)) (aQ (i:=6) sc_run_steps.nd rfl (Or.inl rfl))
   (ai (aX (cF (k:=12) (pv 6) (hr.mono (by lia)) (aa (pv 0) (aa (pv 4) (aa (pv 5) ag)))))))
  (ai (ar (cD (aa (pv 4) (aa (pv 5) (aa (pv 3) ag))))))))))),?_⟩
 refine ⟨_,rfl,_,rfl,l,w',zs,xs,ts,rfl,hl,la,tok,ln,w0,w1,fun cn H1 hcn h1 s1=>?_⟩
 refine ⟨_,rfl,_,rfl,d,w',kvs,rfl,s1 _ _ hd,wz.wd zo,w0,w1,fun H2 s2=>?_⟩
 have S2:=s1.trans s2
 refine ⟨_,rfl,d,kvs,rfl,S2 _ _ hd,fun dw hdw=>?_⟩
 obtain ⟨G3,e3,s3,f3⟩:=newO hdw (.dK kvs)
 rw [e3]
 refine ⟨(by show 0<=sizeLine; decide),fun m hm=>?_⟩
 obtain ⟨G4,e4,s4,f4⟩:=newO hm (.lst [])
 rw [e4]
 have S4:=(S2.trans s3).trans s4
 have ncd:cn ≠ dw:=fun z=>by rw [<- z,s2 _ _ h1] at hdw; cases hdw
 have ncm:cn ≠ m:=fun z=>by rw [<- z,s3 _ _ (s2 _ _ h1)] at hm; cases hm
 have fdw:H dw = none:=Same.none S2 hdw
 have fm:H m = none:=Same.none (S2.trans s3) hm
 refine ⟨_,rfl,l,rfl,⟨_,SqL.of (S4 _ _ hl)⟩,ck (xs:=xs) (fun j σ G=>∃ (y:Option V) (ms:List V),σ = [some (.int w'),some (.ref l),some (.ref d),some (.ref cn),some (.ref dw),some (.ref m),y]/\Same H G/\G cn = some (.dK (bX (kc (fun _=>0) 1 (evL 6 ts))))/\G dw = some (.dK (ba w' kvs (rws (evL 6 (ts.take j)))))/\G m = some (.lst ms)/\PrsAt G ms (bF w' kvs (rws (evL 6 (ts.take j))))) ⟨_,[],rfl,S4,s4 _ _ (s3 _ _ (s2 _ _ h1)),s4 _ _ f3,f4,PrsAt.nil⟩ ?_ ?_ ?_⟩
 ·rintro j σ G hj ⟨y,ms,rfl,SG,hc,_⟩
  exact SqL.of (SG _ _ hl)
 ·rintro j v σ G hv ⟨y,ms,rfl,SG,hc,gd,gm,pm⟩
  obtain ⟨x',t,rfl,et,st⟩:=la.get hv
  have wz2:Wz w' zs (ba w' kvs (rws (evL 6 (ts.take j)))):=Wz.all zo (oY fun t ht=>tok t (List.mem_of_mem_take ht)) w0 w1 wz
  have pl2:(bF w' kvs (rws (evL 6 (ts.take j)))).length + (evs 6 t).length<=10000:=by
   have a1:=gw w' (rws (evL 6 (ts.take j))) kvs
   have a2:=oJ (evL 6 (ts.take j))
   have a3:=ib ts (j + 1)
   rw [gs et,List.length_append] at a3
   lia
  rw [gs et,dO,hI,gG]
  generalize ba w' kvs (rws (evL 6 (ts.take j))) = k2 at gd wz2 ⊢
  generalize bF w' kvs (rws (evL 6 (ts.take j))) = p2 at pm pl2 ⊢
  obtain ⟨a',C',dx',fs',qs',sp',e1,e2,e3,e4,e5⟩:=act_go (E:=E0) (fun i hi=>(MA i hi).mono (show 6<=12 by decide)) MT st (tok t (List.mem_of_getElem? et)) SG fdw fm zo w0 w1 gd wz2 gm pm pl2 (Q:=fun _ G3=>∃ (y:Option V) (ms:List V),[some (V.int w'),some (.ref l),some (.ref d),some (.ref cn),some (.ref dw),some (.ref m),some (.ref x')] = [some (V.int w'),some (.ref l),some (.ref d),some (.ref cn),some (.ref dw),some (.ref m),y]/\Same H G3/\G3 cn = some (.dK (bX (kc (fun _=>0) 1 (evL 6 ts))))/\G3 dw = some (.dK (ba w' k2 (rws (evs 6 t))))/\G3 m = some (.lst ms)/\PrsAt G3 ms (p2 ++ bF w' k2 (rws (evs 6 t)))) (fun ms' G3 g1 g2 g3 g4=>⟨_,ms',rfl,fun b o e=>g4 b o (av e fdw) (av e fm) (SG _ _ e),g4 _ _ ncd ncm hc,g1,g2,g3⟩)
  exact ⟨_,rfl,a',C',dx',fs',qs',sp',e1,e2,e3,e4,_,rfl,_,rfl,_,rfl,e5⟩
 ·rintro σ G ⟨y,ms,rfl,SG,hc,gd,gm,pm⟩
  rw [la.1,List.take_length] at gd pm
  refine ⟨_,rfl,_,rfl,_,rfl,(by show 3<=sizeLine; decide),fun t ht=>?_⟩
  have s5:=au ht (.tup [.ref dw,.ref m,.ref cn])
  exact q t dw m cn ms _ ae (s5 _ _ gd) (s5 _ _ gm) (pm.same fun b ys e=>s5 _ _ e) (s5 _ _ hc) fdw fm hcn (SG.trans s5)
theorem cnt_at {cf:Nat->Int} {j:Nat} {kv:Key × V} (h:(bX cf)[j]? = some kv):j < 16/\kv = (.inr (wOf j),.int (cf j)):=by
 unfold bX at h
 rw [List.getElem?_map] at h
 by_cases c:j < 16
 ·rw [List.getElem?_range c] at h
  cases h
  exact ⟨c,rfl⟩
 ·rw [List.getElem?_eq_none (by rw [List.length_range]; lia)] at h
  cases h
def prV (kvs:List (Key × V)) (i:Nat):V:=(dG kvs (.inr (wOf i))).getD .non
def prI (kvs:List (Key × V)) (i:Nat):Int:=match prV kvs i with
 | .int n=>n
 | _=>0
theorem prI_of {kvs:List (Key × V)} {i:Nat} {a b:Int} (h:btw (prV kvs i) a b = true):prV kvs i = .int (prI kvs i):=by
 unfold prI
 cases e:prV kvs i with
 | int n=>rfl
 | _=>rw [e] at h; cases h
theorem prI_rg {kvs:List (Key × V)} {i:Nat} {a b:Int} (h:btw (prV kvs i) a b = true):a<=prI kvs i/\prI kvs i<=b:=by
 rw [prI_of h] at h
 have h:(decide (a<=prI kvs i) && decide (prI kvs i<=b)) = true:=h
 rw [Bool.and_eq_true] at h
 exact ⟨of_decide_eq_true h.1,of_decide_eq_true h.2⟩
theorem lQ {f:Nat->Int} {j:Nat} (h:j < 16):fk ((bX f).take j) (.inr (wOf j)) (.int (f j)) = (bX f).take (j + 1):=by
 rw [km]
 ·rw [List.take_add_one]
  unfold bX
  rw [List.getElem?_map,List.getElem?_range h]
  rfl
 ·cases e:dG ((bX f).take j) (.inr (wOf j)) with
  | none=>rfl
  | some v =>
   have m:=fi e
   obtain ⟨i,hi⟩:=List.mem_iff_getElem?.mp m
   rw [List.getElem?_take] at hi
   split at hi
   ·rename_i c
    unfold bX at hi
    rw [List.getElem?_map,List.getElem?_range (by lia)] at hi
    have hi:(some (Sum.inr (wOf i),V.int (f i)):Option (Key × V)) = some (Sum.inr (wOf j),v):=hi
    injection hi with hi
    have h1:=congrArg Prod.fst hi
    have:=wInj (show i < 16 by lia) h (by injection h1 with h1; rw [h1])
    lia
   ·cases hi
def sZ (kvs:List (Key × V)):Prop:=∀ i,i < 16->btw (prV kvs i) 0 1000 = true
def spNP0:Sp:=fun vs H Q _=>∃ (a:Addr) (kvs:List (Key × V)),vs = [.ref a]/\H a = some (.dK kvs)/\sZ kvs/\∀ t H',H t = none->H' t = some (.dK (bX (prI kvs)))->Same H H'->Q (.ref t) H'
theorem nT (K:Frag):kitOne K (.type "dict") (.type "dict") = some true:=by with_unfolding_all rfl
theorem jM {f:Addr} {fd:FuncData} (F:Fun K "need_prices" "need_prices" dZ f fd) (T:Txt K mg c) (H_is_between:Has P w K mg base 2 "is_between" ["thing","low","high"] cr):FnOk P w K mg base CX0 3 f fd ["prices"] spNP0:=by
 refine F.ok sc_need_prices (fun vs H Q E h=>?_) (fun cdv A outer s H vs Q E hr h=>?_)
 ·obtain ⟨a,kvs,rfl,_⟩:=h
  rfl
 obtain ⟨a,kvs,rfl,h,g,qv⟩:=h
 refine ⟨_,(ah (aR (bz (bt (aE aK rfl T.n_isinstance boot_isinstance (aa (pv 0) (aa (iZ rfl T.n_dict boot_dict) ag)))))
   (ai bR)
   aA)
  (ah (aH (i:=1) sc_need_prices.nd rfl (Or.inl rfl) kS)
  (ah (cA PassesOwn.never rfl (pi_tup (fA rfl T.g_ROW_WORDS)) (aQ (i:=2) sc_need_prices.nd rfl (Or.inl rfl))
   (ah (aH (i:=3) sc_need_prices.nd rfl (Or.inl rfl) (pe_dget1 (aZ hr) (pv 0) (pv 2) ⟨rfl,rfl,rfl,rfl⟩))
   (ah (aR (bz (bt (aG H_is_between (hr.mono (by lia)) rfl (aa (pv 3) (aa ak (aa ak ag))))))
    (ai bR)
    aA)
   (ai (cR (aZ hr) (pv 1) (pv 2) (pv 3) rfl)))))
  (ai (ar (pv 1)))))),?_⟩
 refine ⟨_,rfl,_,_,_,_,_,rfl,rfl,TyOf.dK h,nT _,_,rfl,eB ?_⟩
 refine fun t ht=>⟨_,rfl,⟨_,T.q_ROW_WORDS _⟩,for_tup (xs:=rw16.map V.str) (fun i σ H2=>∃ x2 x3,σ = [some (.ref a),some (.ref t),x2,x3]/\H2 t = some (.dK ((bX (prI kvs)).take i))/\Same H H2) ⟨_,_,rfl,ae,au ht _⟩ (fun i σ H2 _ _=>T.q_ROW_WORDS _) ?_ ?_⟩
 ·rintro i y σ H2 hy ⟨x2,x3,rfl,t2,s2⟩
  obtain ⟨rfl,hi⟩:=rw_at hy
  have h2:=s2 _ _ h
  have hb:=g i hi
  have pg:=prI_rg hb
  have en:=prI_of hb
  refine ⟨_,rfl,a,rfl,.inl ⟨kvs,.inl h2⟩,_,rfl,_,DGet.k (k:=.inr (wOf i)) h2,?_⟩
  unfold prV at en
  rw [en]
  refine ⟨_,rfl,_,_,_,rfl,pg.1,pg.2,_,rfl,eB ?_⟩
  refine ⟨_,rfl,_,rfl,_,rfl,t,_,rfl,DPut.k (k:=.inr (wOf i)) t2 (by rw [List.length_take,dA]; exact Nat.lt_of_le_of_lt (Nat.min_le_right _ _) (by decide)),?_⟩
  rw [lQ hi]
  exact ⟨_,_,rfl,ae,Same.updL s2 ht⟩
 ·rintro σ H2 ⟨x2,x3,rfl,t2,s2⟩
  rw [show (rw16.map V.str).length = 16 from rfl,List.take_of_length_le (by rw [dA]; exact Nat.le_refl _)] at t2
  exact ⟨_,rfl,qv t H2 ht t2 s2⟩
def lL (es:List (Option Rw)) (pf:Nat->Int):Int:=((List.range 16).map fun i=>(cC es i:Int) * pf i).sum
def nh (c:Ad):Sp:=fun vs H Q _=>∃ (l a:Addr) (w:Int) (zs:List Str) (xs:List V) (ts:List (Tr 6)) (kvs:List (Key × V)),vs = [.int w,.ref l,.ref a]/\H l = some (.lst xs)/\L2A (StT c H 6) xs ts/\(∀ t ∈ ts,TOk w zs 6 t)/\(evL 6 ts).length<=10000/\4<=w/\w<=32/\H a = some (.dK kvs)/\sZ kvs/\∀ H',Same H H'->Q (.int (lL (evL 6 ts) (prI kvs))) H'
theorem qx {f:Addr} {fd:FuncData} (F:Fun K "cost_of" "cost_of" gE f fd) (T:Txt K mg c) (H_need_steps:Has P w K mg base 13 "need_steps" ["width","steps"] (iY c)) (H_need_prices:Has P w K mg base 3 "need_prices" ["prices"] spNP0):FnOk P w K mg base CX0 14 f fd ["width","steps","prices"] (nh c):=by
 refine F.ok sc_cost_of (fun vs H Q E h=>?_) (fun cdv A outer s H vs Q E hr h=>?_)
 ·obtain ⟨l,a,w',zs,xs,ts,kvs,rfl,_⟩:=h
  rfl
 obtain ⟨l,a,w',zs,xs,ts,kvs,rfl,hl,la,tok,ln,w0,w1,ha,g,qv⟩:=h
 refine ⟨_,(ah (aH (i:=3) sc_cost_of.nd rfl (Or.inr rfl) (aG H_need_steps (hr.mono (by lia)) rfl (aa (pv 0) (aa (pv 1) ag))))
  (ah (aH (i:=4) sc_cost_of.nd rfl (Or.inr rfl) (aG H_need_prices (hr.mono (by lia)) rfl (aa (pv 2) ag)))
  (ai (ar (aE (call_sum rfl) rfl T.n_sum boot_sum (aa (pe_thaw (pR [4,3] ["table","counts"] rfl (by first | rfl | with_unfolding_all rfl) (by rfl) (by exact (List.forall_mem_cons.mpr ⟨rfl,(List.forall_mem_cons.mpr ⟨rfl,(fun _ h=>nomatch h)⟩)⟩)) (by decide +kernel) rfl (by decide +kernel) rfl (by decide +kernel) (by exact (List.forall_mem_cons.mpr ⟨⟨by first | exact Or.inl rfl | exact Or.inr rfl,rfl⟩,(List.forall_mem_cons.mpr ⟨⟨by first | exact Or.inl rfl | exact Or.inr rfl,rfl⟩,(fun _ h=>nomatch h)⟩)⟩)) rfl (by rfl) (rZ (pv 3)) (fun C s2 H2 fp=>(aq bh (bA (aZ hr) (pv 2) (pv 0) (fun _ _=>rfl)) (bA (aZ hr) (pv 1) (pv 0) (fun _ _=>rfl)))))) ag)))))),?_⟩
 refine ⟨_,rfl,_,rfl,l,w',zs,xs,ts,rfl,hl,la,tok,ln,w0,w1,fun cn H1 hcn h1 s1=>?_⟩
 refine ⟨_,rfl,a,kvs,rfl,s1 _ _ ha,g,fun t H2 ht h2 s2=>?_⟩
 have hcn2:=s2 _ _ h1
 generalize hcf:kc (fun _=>0) 1 (evL 6 ts) = cf at *
 refine ⟨_,rfl,cn,_,rfl,hcn2,fun o D hD=>?_⟩
 have nD:D ≠ cn:=fun e=>by rw [e,ae] at hD; cases hD
 have nt:t ≠ cn:=fun e=>by rw [e,h1] at ht; cases ht
 refine rC (fun i HI=>HI D = some (.lst (((List.range i).map fun i=>cf i * prI kvs i).map V.int))/\HI cn = some (.frz o (.dK (bX cf)))/\HI t = some (.dK (bX (prI kvs)))/\Same (upd H2 cn (.frz o (.dK (bX cf)))) HI) ⟨ae,(by rw [ao (Ne.symm nD),ae]),(by rw [ao (fun z=>by rw [<- z,ao nt,h2] at hD; cases hD),ao nt]; exact h2),au hD _⟩ (fun i HI _ ⟨_,h,_⟩=>h) ?_ ?_
 ·rintro i kv HI hi hk ⟨hA,hc,ht2,sI⟩
  obtain ⟨i16,rfl⟩:=cnt_at hk
  have ntD:t ≠ D:=fun z=>by rw [z,hA] at ht2; cases ht2
  refine ⟨_,rfl,_,rfl,cn,_,rfl,.inl ⟨_,.inr (wOf i),.inr ⟨o,hc⟩,rfl,(d7 i16).symm⟩,?_⟩
  have pg:=prI_rg (g i i16)
  refine ⟨_,rfl,_,rfl,t,_,rfl,.inl ⟨_,.inr (wOf i),.inl ht2,rfl,(d7 i16).symm⟩,_,_,rfl,rfl,.inr ⟨by lia,by lia⟩,?_⟩
  refine ⟨_,hA,(by rw [List.length_map,List.length_map,List.length_range]; exact Nat.lt_trans i16 (by decide)),_,(show (bX cf).length - (i + 1) < (bX cf).length - i by rw [dA]; lia),rfl,hi,?_,?_,?_,Same.updL sI hD⟩
  ·rw [ae,List.range_succ,List.map_append,List.map_append]
   rfl
  ·rw [ao (Ne.symm nD)]; exact hc
  ·rw [ao ntD]; exact ht2
 rintro H5 ⟨hA,hc,ht5,s5⟩
 refine ⟨cn,o,_,hc,(fun o u z=>by rw [show (cxOf CX0 P w K mg base ["width","steps","prices","counts","table"] "cost_of" (aj gE) f cdv A outer s H E).H₀ = H from rfl,hcn] at z; cases z),?_⟩
 rw [dA] at hA
 refine ⟨D,_,rfl,SqL.of (by rw [ao nD]; exact hA),?_⟩
 have ec:((List.range 16).map fun i=>cf i * prI kvs i).sum = lL (evL 6 ts) (prI kvs):=by
  unfold lL
  rw [<- hcf]
  refine congrArg List.sum (List.map_congr_left fun i _=>?_)
  show ((0:Int) + 1 * _) * _ = _
  rw [Int.zero_add,Int.one_mul]
 rw [ec]
 refine qv _ fun b o' e=>?_
 have nb:b ≠ cn:=fun z=>by rw [z,hcn] at e; cases e
 rw [ao nb]
 exact s5 _ _ (by rw [ao nb]; exact s2 _ _ (s1 _ _ e))
theorem lJ {f:Addr} {fd:FuncData} (F:Fun K "number_in" "number_in" gh f fd) (T:Txt K mg c) :FnOk P w K mg base CX0 1 f fd ["figures"] rF:=by
 refine F.ok sc_number_in (fun vs H Q E h=>?_) (fun cdv A outer s H vs Q E hr h=>?_)
 ·obtain ⟨z,rfl,_⟩:=h
  rfl
 obtain ⟨z,rfl,hz,q⟩:=h
 refine ⟨_,(ah (aH (i:=1) sc_number_in.nd rfl (Or.inl rfl) ak)
  (ah (cA PassesOwn.never rfl (pi_str (pv 0)) (aQ (i:=2) sc_number_in.nd rfl (Or.inl rfl))
   (ah (aH (i:=3) sc_number_in.nd rfl (Or.inl rfl) (gv PySem.F.plainAttrs_str PySem.F.slot_str_find PySem.F.type_str_find mt_find am (aa (pv 2) ag)))
   (ah (aR (ay jO (pv 3) ak (aD _))
    (ai (ar bU))
    aA)
   (ai (aH (i:=1) sc_number_in.nd rfl (Or.inl rfl) (aq bx (aq bh (pv 1) ak) (pv 3)))))))
  (ai (ar (pv 1))))),?_⟩
 have L1000:(1000:Nat)<=sizeLine:=by decide
 refine ⟨_,rfl,z,rfl,for_str (z:=z) (fun i σ G=>∃ (n:Nat) (y1 y2:Option V),σ = [some (.str z),some (.int (n:Int)),y1,y2]/\G = H/\PySem.NumText.AllDigits (z.cps.toList.take i)/\n = PySem.NumText.digitsVal (z.cps.toList.take i)) ⟨0,_,_,rfl,rfl,(fun _ h=>nomatch h),rfl⟩ ?_ ?_⟩
 ·rintro i ch σ G hc ⟨n,y1,y2,rfl,rfl,ad,en⟩
  have hc':z.cps.toList[i]? = some ch:=by rw [Array.getElem?_toList]; exact hc
  have tk:=cp hc'
  refine ⟨mP,_,rfl,_,_,rfl,rfl,?_⟩
  have fd:=find_dig ch
  have mem:ch ∈ z.cps.toList:=List.mem_of_getElem? hc'
  by_cases c1:48<=ch/\ch<=57
  ·rw [if_pos c1] at fd
   rw [fd]
   refine ⟨_,rfl,_,_,rfl,rfl,_,rfl,be (by lia) ?_⟩
   refine ⟨_,rfl,_,_,rfl,rfl,.inr ⟨by decide,by decide⟩,_,rfl,_,_,rfl,rfl,?_⟩
   refine ⟨n * 10 + (ch - 48),some (.str ⟨#[ch]⟩),some (.int ((ch - 48:Nat):Int)),?_,rfl,?_,?_⟩
   ·show [some (V.str z),some (V.int ((n:Int) * 10 + ((ch - 48:Nat):Int))),some (V.str ⟨#[ch]⟩),some (V.int ((ch - 48:Nat):Int))] = _
    rw [show (n:Int) * 10 + ((ch - 48:Nat):Int) = ((n * 10 + (ch - 48):Nat):Int) by lia]
   ·rw [tk]
    intro d hd
    rcases List.mem_append.mp hd with hd | hd
    ·exact ad d hd
    ·rw [List.mem_singleton.mp hd]; exact c1
   ·rw [tk,PySem.NumText.digitsVal_snoc,en]
  ·rw [if_neg c1] at fd
   rw [fd]
   refine ⟨_,rfl,_,_,rfl,rfl,_,rfl,dg (by decide) ?_⟩
   exact q none (fun a=>absurd (a ch mem) c1) (fun n e=>nomatch e)
 ·rintro σ G ⟨n,y1,y2,rfl,rfl,ad,en⟩
  rw [show z.cps.toList.take z.cps.size = z.cps.toList by rw [<- Array.length_toList,List.take_length]] at ad en
  refine ⟨_,rfl,q (some (n:Int)) (fun _=>by rw [en]) fun m e=>?_⟩
  injection e with e
  subst e
  have:=dv_lt ad
  have l:z.cps.toList.length<=43:=by rw [jq]; exact hz
  have:(10:Nat) ^ z.cps.toList.length<=10 ^ 43:=Nat.pow_le_pow_right (by decide) l
  rw [<- en] at *
  refine ⟨by lia,?_⟩
  have h2:n < 10 ^ 43:=by lia
  exact_mod_cast h2
theorem nN {f:Addr} {fd:FuncData} (F:Fun K "whole_in" "whole_in" gY f fd) (T:Txt K mg c) (H_number_in:Has P w K mg base 1 "number_in" ["figures"] rF):FnOk P w K mg base CX0 2 f fd ["word","most"] rq:=by
 refine F.ok oW (fun vs H Q E h=>?_) (fun cdv A outer s H vs Q E hr h=>?_)
 ·obtain ⟨z,rfl,_⟩:=h
  rfl
 obtain ⟨z,rfl,⟨ad,l1,l2,n0⟩,q⟩:=h
 refine ⟨_,(ah (aR (PW.pt (eE (bz (gF jv jv ak (aE h8 rfl T.n_len boot_len (aa (pv 0) ag)) (pv 1))) (dE (PW.pt (r6 (ay bS (aN ix_str (pv 0) ak (fun _ _=>rfl)) am (aD _)) (oj (ay jD (pv 0) am (aD _))))))))
   (ai (ar bU))
   aA)
  (ai (ar (aG H_number_in (hr.mono (by lia)) rfl (aa (pv 0) ag))))),?_⟩
 have L1000:(1000:Nat)<=sizeLine:=by decide
 have hz:z.length<=sizeLine:=by lia
 refine ⟨_,rfl,z,rfl,hz,_,_,rfl,rfl,_,rfl,dg (show (1:Int)<=(z.length:Int) by lia) ⟨_,rfl,_,_,rfl,rfl,_,rfl,fz (show (z.length:Int)<=10 by lia) ?_⟩⟩
 have lz:z.length = z.cps.size:=rfl
 have e0:z.cps[0]? = some z.cps[0]:=Array.getElem?_eq_getElem (by lia)
 have a0:atI z.cps.toList 0 = some z.cps[0]:=fL (j:=0) (by rw [Array.getElem?_toList]; exact e0)
 have fin:∀ o:Option Int,(PySem.NumText.AllDigits z.cps.toList->o = some ((PySem.NumText.digitsVal z.cps.toList:Nat):Int))->(∀ n,o = some n->0<=n/\n < 10 ^ 43)->Q (oI o) H:=fun o h1 _=>by rw [h1 ad]; exact q
 refine ⟨_,rfl,z,0,_,rfl,rfl,hz,a0,rfl,_,rfl,?_⟩
 by_cases c0:z.cps[0] = 48
 ·have ez:z = "0":=n0 (by rw [e0,c0])
  refine dg (congrArg V.str (show (⟨#[z.cps[0]]⟩:Str) = "0" by rw [c0]; rfl)) ⟨_,rfl,rfl,_,rfl,fz (congrArg V.str ez) ?_⟩
  exact ⟨_,rfl,z,rfl,by lia,fin⟩
 ·refine be (fun e=>c0 ?_) ?_
  ·injection e with e
   have e':(⟨#[z.cps[0]]⟩:Str).cps = ("0":Str).cps:=congrArg Str.cps e
   exact congrArg (fun a:Array Nat=>a.getD 0 0) e'
  ·exact ⟨_,rfl,z,rfl,by lia,fin⟩
theorem jR {f:Addr} {fd:FuncData} (F:Fun K "number_told" "number_told" dS f fd) (T:Txt K mg c) (H_whole_in:Has P w K mg base 2 "whole_in" ["word","most"] rq):FnOk P w K mg base CX0 3 f fd ["word","low","high"] pM:=by
 refine F.ok sc_number_told (fun vs H Q E h=>?_) (fun cdv A outer s H vs Q E hr h=>?_)
 ·obtain ⟨z,lo,hi,rfl,_⟩:=h
  rfl
 obtain ⟨z,lo,hi,rfl,nm,q⟩:=h
 refine ⟨_,(ah (aH (i:=3) sc_number_told.nd rfl (Or.inl rfl) (aG H_whole_in (hr.mono (by lia)) rfl (aa (pv 0) (aa ak ag))))
  (ai (ar (cj (PW.pt (r6 (ay tj (pv 3) bU (aD _)) (oj (gF jv jv (pv 1) (pv 3) (pv 2))))) (pv 3) bU)))),?_⟩
 refine ⟨_,rfl,z,rfl,nm,?_⟩
 refine ⟨_,rfl,rfl,_,rfl,fN ?_⟩
 refine ⟨_,rfl,_,rfl,_,_,rfl,rfl,_,rfl,?_⟩
 by_cases c1:lo<=nV z
 ·refine dg c1 ⟨_,rfl,_,_,rfl,rfl,_,rfl,?_⟩
  by_cases c2:nV z<=hi
  ·rw [if_pos ⟨c1,c2⟩] at q
   exact dg c2 ⟨_,rfl,q⟩
  ·rw [if_neg (fun z=>c2 z.2)] at q
   exact be c2 q
 ·rw [if_neg (fun z=>c1 z.1)] at q
  exact be c1 ⟨_,rfl,eB q⟩
theorem lX {X:Cx}:fq X (.type "str") (fun xs H Q=>∃ v:V,xs = [v]/\FvOk v/\v ≠ .non/\Q (.str (fX v)) H):=by
 intro pins s σ H xs us Q I r h
 obtain ⟨v,rfl,ok,nn,q⟩:=h
 obtain ⟨u,rfl,rv⟩:=mT r
 rcases ok with rfl | ⟨n,rfl,hn⟩ | ⟨z,rfl,_⟩
 ·exact absurd rfl nn
 ·obtain ⟨t,rfl⟩:=rv
  have e:fX (.int (n:Int)) = Str.ofString (toString (n:Int)):=by
   show tt ((n:Int)).toNat = _
   rw [Int.toNat_natCast]
   rfl
  rw [e] at q
  exact str_of_int_fit (N:=4611686018427387904) (by split <;> lia) (by lia) fun _=>⟨.str _,H,I.tok _,⟨_,rfl⟩,q⟩
 ·obtain ⟨t,rfl⟩:=rv
  exact PySem.P.str_of_str ⟨.str _,H,I,⟨_,rfl⟩,q⟩
theorem kr {f:Addr} {fd:FuncData} (F:Fun K "field_text" "field_text" eP f fd) (T:Txt K mg c) :FnOk P w K mg base CX0 1 f fd ["field"] spFX:=by
 refine F.ok kq (fun vs H Q E h=>?_) (fun cdv A outer s H vs Q E hr h=>?_)
 ·obtain ⟨v,rfl,_⟩:=h
  rfl
 obtain ⟨v,rfl,ok,q⟩:=h
 refine ⟨_,(ai (ar (cj (ay pP (pv 0) bU (aD _)) am (cS lX rfl T.n_str boot_str (aa (pv 0) ag))))),?_⟩
 by_cases n:v = .non
 ·subst n
  exact ⟨_,rfl,rfl,_,rfl,dg rfl q⟩
 ·exact ⟨_,rfl,rfl,_,rfl,be n ⟨_,rfl,v,rfl,ok,n,q⟩⟩
theorem kW {f:Addr} {fd:FuncData} (F:Fun K "field_told" "field_told" eY f fd) (T:Txt K mg c) (H_number_told:Has P w K mg base 3 "number_told" ["word","low","high"] pM):FnOk P w K mg base CX0 4 f fd ["part","word"] spFT:=by
 refine F.ok kU (fun vs H Q E h=>?_) (fun cdv A outer s H vs Q E hr h=>?_)
 ·obtain ⟨p,z,v,rfl,_⟩:=h
  rfl
 obtain ⟨p,z,v,rfl,ft,q⟩:=h
 refine ⟨_,(ah (aR (ay bS (pv 0) am (aD _))
   (ai (ar (aG H_number_told (hr.mono (by lia)) rfl (aa (pv 1) (aa ak (aa (aq em (aq ej ak (gx rfl T.g_WIDEST)) ak) ag))))))
   aA)
  (ah (aR (PW.pt (r6 (ay bS (pv 0) am (aD _)) (oj (ay bS (pv 1) am (aD _)))))
   (ai (ar bU))
   aA)
  (ai (ar (pv 1))))),?_⟩
 rcases ft with ⟨rfl,rfl⟩ | ⟨rfl,ft⟩ | ⟨rfl,n,hn,rfl,rfl⟩
 ·exact ⟨_,rfl,rfl,_,rfl,be (by walk_at "n") ⟨_,rfl,rfl,_,rfl,be (by walk_at "n") ⟨_,rfl,q⟩⟩⟩
 ·refine ⟨_,rfl,rfl,_,rfl,be (by walk_at "n") ⟨_,rfl,rfl,_,rfl,dg rfl ⟨_,rfl,rfl,_,rfl,?_⟩⟩⟩
  rcases ft with ⟨ne,rfl⟩ | ⟨rfl,rfl⟩
  ·exact be (fun e=>ne (by injection e)) ⟨_,rfl,q⟩
  ·exact dg rfl q
 ·obtain ⟨nm,nv,_⟩:=tt_of hn
  have h70:(n:Int)<=1 * 2 ^ Int.toNat 32 - 1:=by
   have h:(70:Int)<=1 * 2 ^ Int.toNat 32 - 1:=by decide
   lia
  refine ⟨_,rfl,rfl,_,rfl,dg rfl ⟨_,rfl,_,_,rfl,rfl,⟨by decide,by decide,by decide⟩,_,_,rfl,rfl,tt n,0,_,rfl,nm,?_⟩⟩
  rw [nv,if_pos ⟨by lia,h70⟩]
  exact q
theorem ap {x dx C:Addr} {H H':Hp} (hx:H x = none) (hd:H dx = none) (s:SameX x (upd (upd H dx (.own x)) x (.ins C dx [])) H'):Same H H':=fun b o h=>s b o (av h hx) (by rw [ao (av h hx),ao (av h hd)]; exact h)
theorem iK {f:Addr} {fd:FuncData} (F:Fun K "joining_made" "joining_made" dD f fd) (T:Txt K mg c)  (C_Under:CHas P w K mg base 1 c.Under "Under" ["self","goal","one","other"] (aI K ["goal","one","other"])) (C_Low:CHas P w K mg base 1 c.Low "Low" ["self","goal","one","other"] (aI K ["goal","one","other"])) (C_High:CHas P w K mg base 1 c.High "High" ["self","goal","one","other"] (aI K ["goal","one","other"])) (C_And:CHas P w K mg base 1 c.And "And" ["self","goal","one","other"] (aI K ["goal","one","other"])) (C_Or:CHas P w K mg base 1 c.Or "Or" ["self","goal","one","other"] (aI K ["goal","one","other"])) (C_Unlike:CHas P w K mg base 1 c.Unlike "Unlike" ["self","goal","one","other"] (aI K ["goal","one","other"])):FnOk P w K mg base CX0 3 f fd ["word","goal","one","other"] (spJM c):=by
 refine F.ok iT (fun vs H Q E h=>?_) (fun cdv A outer s H vs Q E hr h=>?_)
 ·obtain ⟨k,a,b,d,rfl,_⟩:=h
  rfl
 obtain ⟨k,a,b,d,rfl,hk,q⟩:=h
 refine ⟨_,(ah (aR (ay bS (pv 0) am (aD _))
   (ai (ar (aF C_Low (hr.mono (by lia)) rfl (aa (pv 1) (aa (pv 2) (aa (pv 3) ag))))))
   aA)
  (ah (aR (ay bS (pv 0) am (aD _))
   (ai (ar (aF C_High (hr.mono (by lia)) rfl (aa (pv 1) (aa (pv 2) (aa (pv 3) ag))))))
   aA)
  (ah (aR (ay bS (pv 0) am (aD _))
   (ai (ar (aF C_And (hr.mono (by lia)) rfl (aa (pv 1) (aa (pv 2) (aa (pv 3) ag))))))
   aA)
  (ah (aR (ay bS (pv 0) am (aD _))
   (ai (ar (aF C_Or (hr.mono (by lia)) rfl (aa (pv 1) (aa (pv 2) (aa (pv 3) ag))))))
   aA)
  (ah (aR (ay bS (pv 0) am (aD _))
   (ai (ar (aF C_Unlike (hr.mono (by lia)) rfl (aa (pv 1) (aa (pv 2) (aa (pv 3) ag))))))
   aA)
  (ai (ar (aF C_Under (hr.mono (by lia)) rfl (aa (pv 1) (aa (pv 2) (aa (pv 3) ag))))))))))),?_⟩
 have ne:∀ j,j < 16->k ≠ j->¬ V.str (wOf k) = V.str (wOf j):=fun j hj h z=>h (wInj (by lia) hj z)
 refine ⟨_,rfl,rfl,_,rfl,?_⟩
 by_cases c4:k = 4
 ·subst c4
  obtain ⟨cl,na⟩:=T.clF (k:=4) (by decide)
  exact dg rfl ⟨_,rfl,_,rfl,_,rfl,fun x dx hx hdx hne=>⟨x,_,dx,_,rfl,rfl,ae,cl,na,fun H' hx' sx=>⟨rfl,q x H' hx ⟨dx,hx',rfl⟩ (ap hx hdx sx)⟩⟩⟩
 refine be (ne 4 (by decide) c4) ?_
 refine ⟨_,rfl,rfl,_,rfl,?_⟩
 by_cases c5:k = 5
 ·subst c5
  obtain ⟨cl,na⟩:=T.clF (k:=5) (by decide)
  exact dg rfl ⟨_,rfl,_,rfl,_,rfl,fun x dx hx hdx hne=>⟨x,_,dx,_,rfl,rfl,ae,cl,na,fun H' hx' sx=>⟨rfl,q x H' hx ⟨dx,hx',rfl⟩ (ap hx hdx sx)⟩⟩⟩
 refine be (ne 5 (by decide) c5) ?_
 refine ⟨_,rfl,rfl,_,rfl,?_⟩
 by_cases c9:k = 9
 ·subst c9
  obtain ⟨cl,na⟩:=T.clF (k:=9) (by decide)
  exact dg rfl ⟨_,rfl,_,rfl,_,rfl,fun x dx hx hdx hne=>⟨x,_,dx,_,rfl,rfl,ae,cl,na,fun H' hx' sx=>⟨rfl,q x H' hx ⟨dx,hx',rfl⟩ (ap hx hdx sx)⟩⟩⟩
 refine be (ne 9 (by decide) c9) ?_
 refine ⟨_,rfl,rfl,_,rfl,?_⟩
 by_cases c10:k = 10
 ·subst c10
  obtain ⟨cl,na⟩:=T.clF (k:=10) (by decide)
  exact dg rfl ⟨_,rfl,_,rfl,_,rfl,fun x dx hx hdx hne=>⟨x,_,dx,_,rfl,rfl,ae,cl,na,fun H' hx' sx=>⟨rfl,q x H' hx ⟨dx,hx',rfl⟩ (ap hx hdx sx)⟩⟩⟩
 refine be (ne 10 (by decide) c10) ?_
 refine ⟨_,rfl,rfl,_,rfl,?_⟩
 by_cases c11:k = 11
 ·subst c11
  obtain ⟨cl,na⟩:=T.clF (k:=11) (by decide)
  exact dg rfl ⟨_,rfl,_,rfl,_,rfl,fun x dx hx hdx hne=>⟨x,_,dx,_,rfl,rfl,ae,cl,na,fun H' hx' sx=>⟨rfl,q x H' hx ⟨dx,hx',rfl⟩ (ap hx hdx sx)⟩⟩⟩
 refine be (ne 11 (by decide) c11) ?_
 have e12:k = 12:=by lia
 subst e12
 obtain ⟨cl,na⟩:=T.clF (k:=12) (by decide)
 exact ⟨_,rfl,_,rfl,_,rfl,fun x dx hx hdx hne=>⟨x,_,dx,_,rfl,rfl,ae,cl,na,fun H' hx' sx=>⟨rfl,q x H' hx ⟨dx,hx',rfl⟩ (ap hx hdx sx)⟩⟩⟩
theorem oU {f:Addr} {fd:FuncData} (F:Fun K "row_made" "row_made" gQ f fd) (T:Txt K mg c) (H_joining_made:Has P w K mg base 3 "joining_made" ["word","goal","one","other"] (spJM c)) (C_Set:CHas P w K mg base 1 c.Set "Set" ["self","goal","bits"] (aI K ["goal","bits"])) (C_Copy:CHas P w K mg base 1 c.Copy "Copy" ["self","goal","one"] (aI K ["goal","one"])) (C_Left:CHas P w K mg base 1 c.Left "Left" ["self","goal","one","k"] (aI K ["goal","one","k"])) (C_Right:CHas P w K mg base 1 c.Right "Right" ["self","goal","one","k"] (aI K ["goal","one","k"])) (C_Slide:CHas P w K mg base 1 c.Slide "Slide" ["self","goal","one","k"] (aI K ["goal","one","k"])) (C_Mark:CHas P w K mg base 1 c.Mark "Mark" ["self","line","mark","by"] (aI K ["line","mark","by"])) (C_Sum:CHas P w K mg base 1 c.Sum "Sum" ["self","goal","carry","one","other"] (aI K ["goal","carry","one","other"])) (C_Gap:CHas P w K mg base 1 c.Gap "Gap" ["self","goal","carry","one","other"] (aI K ["goal","carry","one","other"])) (C_Pick:CHas P w K mg base 1 c.Pick "Pick" ["self","goal","by","one","other"] (aI K ["goal","by","one","other"])):FnOk P w K mg base CX0 4 f fd ["word","fields"] (spRM c):=by
 refine F.ok sc_row_made (fun vs H Q E h=>?_) (fun cdv A outer s H vs Q E hr h=>?_)
 ·obtain ⟨k,l,fs,rfl,_⟩:=h
  rfl
 obtain ⟨k,l,fs,rfl,hl,k15,ln,q⟩:=h
 refine ⟨_,(ah (aH (i:=2) sc_row_made.nd rfl (Or.inl rfl) (aN aC (pv 1) ak (fun _ _=>rfl)))
  (ah (aR (ay bS (pv 0) am (aD _))
   (ai (ar (aF C_Set (hr.mono (by lia)) rfl (aa (pv 2) (aa (aN aC (pv 1) ak (fun _ _=>rfl)) ag)))))
   aA)
  (ah (aR (ay bS (pv 0) am (aD _))
   (ai (ar (aF C_Copy (hr.mono (by lia)) rfl (aa (pv 2) (aa (aN aC (pv 1) ak (fun _ _=>rfl)) ag)))))
   aA)
  (ah (aR (ay bS (pv 0) am (aD _))
   (ai (ar (aF C_Left (hr.mono (by lia)) rfl (aa (pv 2) (aa (aN aC (pv 1) ak (fun _ _=>rfl)) (aa (aN aC (pv 1) ak (fun _ _=>rfl)) ag))))))
   aA)
  (ah (aR (ay bS (pv 0) am (aD _))
   (ai (ar (aF C_Right (hr.mono (by lia)) rfl (aa (pv 2) (aa (aN aC (pv 1) ak (fun _ _=>rfl)) (aa (aN aC (pv 1) ak (fun _ _=>rfl)) ag))))))
   aA)
  (ah (aR (ay bS (pv 0) am (aD _))
   (ai (ar (aF C_Slide (hr.mono (by lia)) rfl (aa (pv 2) (aa (aN aC (pv 1) ak (fun _ _=>rfl)) (aa (aN aC (pv 1) ak (fun _ _=>rfl)) ag))))))
   aA)
  (ah (aR (ay bS (pv 0) am (aD _))
   (ai (ar (aF C_Mark (hr.mono (by lia)) rfl (aa (pv 2) (aa (aN aC (pv 1) ak (fun _ _=>rfl)) (aa (aN aC (pv 1) ak (fun _ _=>rfl)) ag))))))
   aA)
  (ah (aR (ay bS (pv 0) am (aD _))
   (ai (ar (aF C_Sum (hr.mono (by lia)) rfl (aa (pv 2) (aa (aN aC (pv 1) ak (fun _ _=>rfl)) (aa (aN aC (pv 1) ak (fun _ _=>rfl)) (aa (aN aC (pv 1) ak (fun _ _=>rfl)) ag)))))))
   aA)
  (ah (aR (ay bS (pv 0) am (aD _))
   (ai (ar (aF C_Gap (hr.mono (by lia)) rfl (aa (pv 2) (aa (aN aC (pv 1) ak (fun _ _=>rfl)) (aa (aN aC (pv 1) ak (fun _ _=>rfl)) (aa (aN aC (pv 1) ak (fun _ _=>rfl)) ag)))))))
   aA)
  (ah (aR (ay bS (pv 0) am (aD _))
   (ai (ar (aF C_Pick (hr.mono (by lia)) rfl (aa (pv 2) (aa (aN aC (pv 1) ak (fun _ _=>rfl)) (aa (aN aC (pv 1) ak (fun _ _=>rfl)) (aa (aN aC (pv 1) ak (fun _ _=>rfl)) ag)))))))
   aA)
  (ai (ar (aG H_joining_made (hr.mono (by lia)) rfl (aa (pv 0) (aa (pv 2) (aa (aN aC (pv 1) ak (fun _ _=>rfl)) (aa (aN aC (pv 1) ak (fun _ _=>rfl)) ag))))))))))))))))),?_⟩
 have ne:∀ j,j < 16->k ≠ j->¬ V.str (wOf k) = V.str (wOf j):=fun j hj h z=>h (wInj (by lia) hj z)
 have f0:∃ a t,fs = a :: t:=by
  cases fs with
  | nil =>
   have l1:0 < (nOf k).length:=by (rcases (by lia:k = 0\/k = 1\/k = 2\/k = 3\/k = 4\/k = 5\/k = 6\/k = 7\/k = 8\/k = 9\/k = 10\/k = 11\/k = 12\/k = 13\/k = 14) with rfl | rfl | rfl | rfl | rfl | rfl | rfl | rfl | rfl | rfl | rfl | rfl | rfl | rfl | rfl) <;> decide
   have l0:0 = (nOf k).length:=ln
   lia
  | cons a t=>exact ⟨a,t,rfl⟩
 obtain ⟨a0,t0,ef⟩:=f0
 refine ⟨_,rfl,l,_,_,_,rfl,rfl,SqL.of hl,(by rw [ef]; exact fL (j:=0) rfl),?_⟩
 subst ef
 refine ⟨_,rfl,rfl,_,rfl,?_⟩
 by_cases c0:k = 0
 ·subst c0
  obtain ⟨a1,rfl⟩:∃ a1,t0 = [a1]:=by
   have ln:t0.length + 1 = 2:=ln
   match t0,ln with
   | [a1],_=>exact ⟨a1,rfl⟩
  obtain ⟨cl,na⟩:=T.clF (k:=0) (by decide)
  exact dg rfl ⟨_,rfl,_,rfl,l,_,_,_,rfl,rfl,SqL.of hl,rfl,fun x dx hx hdx hne=>⟨x,_,dx,_,rfl,rfl,ae,cl,na,fun H' hx' sx=>⟨rfl,q x H' hx ⟨dx,hx',rfl⟩ (ap hx hdx sx)⟩⟩⟩
 refine be (ne 0 (by decide) c0) ?_
 refine ⟨_,rfl,rfl,_,rfl,?_⟩
 by_cases c1:k = 1
 ·subst c1
  obtain ⟨a1,rfl⟩:∃ a1,t0 = [a1]:=by
   have ln:t0.length + 1 = 2:=ln
   match t0,ln with
   | [a1],_=>exact ⟨a1,rfl⟩
  obtain ⟨cl,na⟩:=T.clF (k:=1) (by decide)
  exact dg rfl ⟨_,rfl,_,rfl,l,_,_,_,rfl,rfl,SqL.of hl,rfl,fun x dx hx hdx hne=>⟨x,_,dx,_,rfl,rfl,ae,cl,na,fun H' hx' sx=>⟨rfl,q x H' hx ⟨dx,hx',rfl⟩ (ap hx hdx sx)⟩⟩⟩
 refine be (ne 1 (by decide) c1) ?_
 refine ⟨_,rfl,rfl,_,rfl,?_⟩
 by_cases c6:k = 6
 ·subst c6
  obtain ⟨a1,a2,rfl⟩:∃ a1 a2,t0 = [a1,a2]:=by
   have ln:t0.length + 1 = 3:=ln
   match t0,ln with
   | [a1,a2],_=>exact ⟨a1,a2,rfl⟩
  obtain ⟨cl,na⟩:=T.clF (k:=6) (by decide)
  exact dg rfl ⟨_,rfl,_,rfl,l,_,_,_,rfl,rfl,SqL.of hl,rfl,_,rfl,l,_,_,_,rfl,rfl,SqL.of hl,rfl,fun x dx hx hdx hne=>⟨x,_,dx,_,rfl,rfl,ae,cl,na,fun H' hx' sx=>⟨rfl,q x H' hx ⟨dx,hx',rfl⟩ (ap hx hdx sx)⟩⟩⟩
 refine be (ne 6 (by decide) c6) ?_
 refine ⟨_,rfl,rfl,_,rfl,?_⟩
 by_cases c7:k = 7
 ·subst c7
  obtain ⟨a1,a2,rfl⟩:∃ a1 a2,t0 = [a1,a2]:=by
   have ln:t0.length + 1 = 3:=ln
   match t0,ln with
   | [a1,a2],_=>exact ⟨a1,a2,rfl⟩
  obtain ⟨cl,na⟩:=T.clF (k:=7) (by decide)
  exact dg rfl ⟨_,rfl,_,rfl,l,_,_,_,rfl,rfl,SqL.of hl,rfl,_,rfl,l,_,_,_,rfl,rfl,SqL.of hl,rfl,fun x dx hx hdx hne=>⟨x,_,dx,_,rfl,rfl,ae,cl,na,fun H' hx' sx=>⟨rfl,q x H' hx ⟨dx,hx',rfl⟩ (ap hx hdx sx)⟩⟩⟩
 refine be (ne 7 (by decide) c7) ?_
 refine ⟨_,rfl,rfl,_,rfl,?_⟩
 by_cases c8:k = 8
 ·subst c8
  obtain ⟨a1,a2,rfl⟩:∃ a1 a2,t0 = [a1,a2]:=by
   have ln:t0.length + 1 = 3:=ln
   match t0,ln with
   | [a1,a2],_=>exact ⟨a1,a2,rfl⟩
  obtain ⟨cl,na⟩:=T.clF (k:=8) (by decide)
  exact dg rfl ⟨_,rfl,_,rfl,l,_,_,_,rfl,rfl,SqL.of hl,rfl,_,rfl,l,_,_,_,rfl,rfl,SqL.of hl,rfl,fun x dx hx hdx hne=>⟨x,_,dx,_,rfl,rfl,ae,cl,na,fun H' hx' sx=>⟨rfl,q x H' hx ⟨dx,hx',rfl⟩ (ap hx hdx sx)⟩⟩⟩
 refine be (ne 8 (by decide) c8) ?_
 refine ⟨_,rfl,rfl,_,rfl,?_⟩
 by_cases c14:k = 14
 ·subst c14
  obtain ⟨a1,a2,rfl⟩:∃ a1 a2,t0 = [a1,a2]:=by
   have ln:t0.length + 1 = 3:=ln
   match t0,ln with
   | [a1,a2],_=>exact ⟨a1,a2,rfl⟩
  obtain ⟨cl,na⟩:=T.clF (k:=14) (by decide)
  exact dg rfl ⟨_,rfl,_,rfl,l,_,_,_,rfl,rfl,SqL.of hl,rfl,_,rfl,l,_,_,_,rfl,rfl,SqL.of hl,rfl,fun x dx hx hdx hne=>⟨x,_,dx,_,rfl,rfl,ae,cl,na,fun H' hx' sx=>⟨rfl,q x H' hx ⟨dx,hx',rfl⟩ (ap hx hdx sx)⟩⟩⟩
 refine be (ne 14 (by decide) c14) ?_
 refine ⟨_,rfl,rfl,_,rfl,?_⟩
 by_cases c2:k = 2
 ·subst c2
  obtain ⟨a1,a2,a3,rfl⟩:∃ a1 a2 a3,t0 = [a1,a2,a3]:=by
   have ln:t0.length + 1 = 4:=ln
   match t0,ln with
   | [a1,a2,a3],_=>exact ⟨a1,a2,a3,rfl⟩
  obtain ⟨cl,na⟩:=T.clF (k:=2) (by decide)
  exact dg rfl ⟨_,rfl,_,rfl,l,_,_,_,rfl,rfl,SqL.of hl,rfl,_,rfl,l,_,_,_,rfl,rfl,SqL.of hl,rfl,_,rfl,l,_,_,_,rfl,rfl,SqL.of hl,rfl,fun x dx hx hdx hne=>⟨x,_,dx,_,rfl,rfl,ae,cl,na,fun H' hx' sx=>⟨rfl,q x H' hx ⟨dx,hx',rfl⟩ (ap hx hdx sx)⟩⟩⟩
 refine be (ne 2 (by decide) c2) ?_
 refine ⟨_,rfl,rfl,_,rfl,?_⟩
 by_cases c3:k = 3
 ·subst c3
  obtain ⟨a1,a2,a3,rfl⟩:∃ a1 a2 a3,t0 = [a1,a2,a3]:=by
   have ln:t0.length + 1 = 4:=ln
   match t0,ln with
   | [a1,a2,a3],_=>exact ⟨a1,a2,a3,rfl⟩
  obtain ⟨cl,na⟩:=T.clF (k:=3) (by decide)
  exact dg rfl ⟨_,rfl,_,rfl,l,_,_,_,rfl,rfl,SqL.of hl,rfl,_,rfl,l,_,_,_,rfl,rfl,SqL.of hl,rfl,_,rfl,l,_,_,_,rfl,rfl,SqL.of hl,rfl,fun x dx hx hdx hne=>⟨x,_,dx,_,rfl,rfl,ae,cl,na,fun H' hx' sx=>⟨rfl,q x H' hx ⟨dx,hx',rfl⟩ (ap hx hdx sx)⟩⟩⟩
 refine be (ne 3 (by decide) c3) ?_
 refine ⟨_,rfl,rfl,_,rfl,?_⟩
 by_cases c13:k = 13
 ·subst c13
  obtain ⟨a1,a2,a3,rfl⟩:∃ a1 a2 a3,t0 = [a1,a2,a3]:=by
   have ln:t0.length + 1 = 4:=ln
   match t0,ln with
   | [a1,a2,a3],_=>exact ⟨a1,a2,a3,rfl⟩
  obtain ⟨cl,na⟩:=T.clF (k:=13) (by decide)
  exact dg rfl ⟨_,rfl,_,rfl,l,_,_,_,rfl,rfl,SqL.of hl,rfl,_,rfl,l,_,_,_,rfl,rfl,SqL.of hl,rfl,_,rfl,l,_,_,_,rfl,rfl,SqL.of hl,rfl,fun x dx hx hdx hne=>⟨x,_,dx,_,rfl,rfl,ae,cl,na,fun H' hx' sx=>⟨rfl,q x H' hx ⟨dx,hx',rfl⟩ (ap hx hdx sx)⟩⟩⟩
 refine be (ne 13 (by decide) c13) ?_
 obtain ⟨a1,a2,rfl⟩:∃ a1 a2,t0 = [a1,a2]:=by
  have e3:(nOf k).length = 3:=by
   rcases (by lia:k = 4\/k = 5\/k = 9\/k = 10\/k = 11\/k = 12) with rfl | rfl | rfl | rfl | rfl | rfl <;> rfl
  have ln:t0.length + 1 = (nOf k).length:=ln
  rw [e3] at ln
  match t0,ln with
  | [a,b],_=>exact ⟨a,b,rfl⟩
 exact ⟨_,rfl,_,rfl,_,rfl,l,_,_,_,rfl,rfl,SqL.of hl,rfl,_,rfl,l,_,_,_,rfl,rfl,SqL.of hl,rfl,k,_,_,_,rfl,(by lia),q⟩
theorem rL {K:Frag} {a D:Addr} {xs:List V} {te':TE} {tl:L2.St} {G:Hp->Prop} {H1:Hp} (Pv:Nat->Hp->Prop) (h0:Pv 0 (upd H1 D (.lst []))) (hl:∀ i H,i<=xs.length->Pv i H->SqT K H a xs)
  (hs:∀ i x H,xs[i]? = some x->Pv i H->te' (some x :: tl) H fun y H2=>∃ ys,H2 D = some (.lst ys)/\ys.length < sizeLine/\∃ m',m' < xs.length - i/\(m' = xs.length - (i + 1)/\i + 1<=xs.length/\Pv (i + 1) (upd H2 D (.lst (ys ++ [y])))))
  (hd:∀ H,Pv xs.length H->G H) :
  ∃ W:Nat->Nat->Hp->Prop,(∃ m,W 0 m (upd H1 D (.lst [])))/\∀ i m H,W i m H ->
   ((Itt K a).stop i H/\G H)\/((Itt K a).go i H/\∀ x H',(Itt K a).yld i H x H'->te' (some x :: tl) H' fun y H2=>∃ ys,H2 D = some (.lst ys)/\ys.length < sizeLine/\∃ m',m' < m/\W (i + 1) m' (upd H2 D (.lst (ys ++ [y])))):=by
 refine ⟨fun i m H=>m = xs.length - i/\i<=xs.length/\Pv i H,⟨xs.length,by simp,Nat.zero_le _,h0⟩,?_⟩
 rintro i m H ⟨rfl,hi,p⟩
 have q:=hl i H hi p
 by_cases hlt:i < xs.length
 ·refine .inr ⟨⟨xs,xs[i],q,by simp [hlt]⟩,fun x H' y=>?_⟩
  obtain ⟨e,y⟩:=y
  subst e
  exact hs i x _ (y xs q) p
 ·have e:i = xs.length:=by lia
  subst e
  exact .inl ⟨⟨xs,q,Nat.le_refl _⟩,hd H p⟩
theorem rV {α:Type} {f:α->Nat} {m:Nat}:∀ {xs:List α},(∀ x ∈ xs,f x<=m)->(xs.map f).sum<=xs.length * m
 | [],_=>Nat.zero_le _
 | x :: r,h=>by
  have a:=h x (List.mem_cons_self ..)
  have b:=rV (xs:=r) fun y hy=>h y (List.mem_cons_of_mem _ hy)
  rw [List.map_cons,List.sum_cons,List.length_cons,Nat.succ_mul]
  lia
theorem oO {f:Addr} {fd:FuncData} (F:Fun K "lines_of" "lines_of" hV f fd) (T:Txt K mg c) (H_field_text:Has P w K mg base 1 "field_text" ["field"] spFX) (MT:∀ k,k < 15->MHas P w K mg base 2 (fOf c k) "told" ["self"] (bj c [k])) {d:Nat} (H_lines_of:Has P w K mg base (d + 5) "lines_of" ["steps"] (spN (iN c) d)):FnOk P w K mg base CX0 (d + 6) f fd ["steps"] (iN c (d + 1)):=by
 refine F.ok sc_lines_of (fun vs H Q E h=>?_) (fun cdv A outer s H vs Q E hr h=>?_)
 ·obtain ⟨l,xs,ts,w',zs,rfl,_⟩:=h
  rfl
 obtain ⟨l,xs,ts,w',zs,rfl,hl,la,tok,lok,ln,q⟩:=h
 refine ⟨_,(ah (aH (i:=1) sc_lines_of.nd rfl (Or.inl rfl) (aY ag))
  (ah (cA PassesOwn.never rfl (cu (pv 0)) (aQ (i:=2) sc_lines_of.nd rfl (Or.inl rfl))
   (ai (aR (bt (aE aK rfl T.n_isinstance boot_isinstance (aa (pv 2) (aa (fA rfl T.g_Turns) ag))))
    (ah (aX (gv PySem.F.plainAttrs_list PySem.F.slot_list_append PySem.F.type_list_append bE (pv 1) (aa (aq af am (cS lX rfl T.n_str boot_str (aa (aw (pv 2) rfl) ag))) ag)))
    (ah (aX (gv PySem.F.plainAttrs_list PySem.F.slot_list_extend PySem.F.type_list_extend sQ (pv 1) (aa (aG H_lines_of (hr.mono (by lia)) rfl (aa (aw (pv 2) rfl) ag)) ag)))
    (ai (aX (gv PySem.F.plainAttrs_list PySem.F.slot_list_append PySem.F.type_list_append bE (pv 1) (aa am ag))))))
    (ai (aX (gv PySem.F.plainAttrs_list PySem.F.slot_list_append PySem.F.type_list_append bE (pv 1) (aa (gv PySem.F.plainAttrs_str PySem.F.slot_str_join PySem.F.type_str_join qA am (aa (iE rfl (by first | rfl | with_unfolding_all rfl) (by decide +kernel) rfl (by decide +kernel) rfl (pi_tup (cL (k:=2) (pv 2) (hr.mono (by lia)))) (fun C s2 H2 fp=>(aG H_field_text (hr.mono (by lia)) rfl (aa (pv 0) ag)))) ag)) ag)))))))
  (ai (ar (pv 1))))),?_⟩
 have L1000:(2000:Nat)<=sizeLine:=by decide
 refine ⟨by decide,fun D hD=>?_⟩
 refine ⟨_,rfl,l,rfl,⟨_,SqL.of (au hD _ _ _ hl)⟩,ck (xs:=xs) (fun j σ G=>∃ y:Option V,σ = [some (.ref l),some (.ref D),y]/\G D = some (.lst ((lnL (d + 1) (ts.take j)).map fun q=>V.str q.tx))/\Same H G) ⟨_,rfl,ae,au hD _⟩ ?_ ?_ ?_⟩
 ·rintro j σ G hj ⟨y,rfl,hG,sG⟩
  exact SqL.of (sG _ _ hl)
 ·rintro j v σ G hv ⟨y,rfl,hG,sG⟩
  obtain ⟨x,t,rfl,et,st⟩:=la.get hv
  have ok:=tok t (List.mem_of_getElem? et)
  have st2:StT c G (d + 1) x t:=st.same sG
  have lt:(lnL (d + 1) (ts.take (j + 1))).length<=1000:=Nat.le_trans (lnL_take ts (j + 1)) ln
  have lq:∀ q ∈ lnT (d + 1) t,q.ok:=fun q m=>lok q (lnL_mem (List.mem_of_getElem? et) m)
  rw [lnL_snoc et] at lt ⊢
  rw [List.length_append] at lt
  rw [List.map_append]
  generalize hLL:(lnL (d + 1) (ts.take j)).map (fun q=>V.str q.tx) = LL at hG ⊢
  have LLl:LL.length = (lnL (d + 1) (ts.take j)).length:=by rw [<- hLL,List.length_map]
  have nD:∀ {b o},H b = some o->b ≠ D:=fun e z=>by rw [z,hD] at e; cases e
  cases t with
  | row r =>
   obtain ⟨dx,hx,lnn⟩:StepAt c G x r.k r.fs:=st2
   have k15:=Rw.k15 ok.1
   obtain ⟨r32,rtx⟩:r.ok 32/\r.tx:=lq (.row r) (List.mem_singleton.mpr rfl)
   refine ⟨_,rfl,_,_,_,_,_,rfl,rfl,T.ty k15 hx,T.kitT k15,_,rfl,eB ?_⟩
   refine ⟨_,rfl,.inl ⟨rfl,_,SqL.of hG⟩,mP,_,rfl,x,_,dx,_,_,_,rfl,hx,j8 (by decide +kernel) k15,MT _ k15,x,r.k,r.fs,rfl,List.mem_singleton.mpr rfl,⟨dx,hx,lnn⟩,fun R hR=>?_⟩
   have sR:=au hR (.tup (.str (wOf r.k) :: r.fs))
   have hRR:upd G R (.tup (.str (wOf r.k) :: r.fs)) R = some (.tup (.str (wOf r.k) :: r.fs)):=ae
   generalize upd G R (.tup (.str (wOf r.k) :: r.fs)) = G1 at sR hRR ⊢
   refine ⟨R,rfl,⟨_,SqT.of hRR⟩,fun D2 hD2=>?_⟩
   have vl:(V.str (wOf r.k) :: r.fs).length<=5:=by
    have:=Ln.len (l:=.row r) ⟨r32,rtx⟩
    show r.fs.length + 1<=5
    have e:(Ln.row r).ws.length = r.fs.length + 1:=by show (r.fs.map fX).length + 1 = _; rw [List.length_map]
    lia
   refine rL (xs:=V.str (wOf r.k) :: r.fs) (fun i HI=>HI D2 = some (.lst (((V.str (wOf r.k) :: r.fs).take i).map fun v=>V.str (fX v)))/\Same G1 HI) ⟨ae,au hD2 _⟩ (fun i HI _ ⟨_,sI⟩=>SqT.of (sI _ _ hRR)) ?_ ?_
   ·rintro i v HI hy ⟨hA,sI⟩
    have hi:=(List.getElem?_eq_some_iff.mp hy).1
    have fv:FvOk v:=by
     rcases List.mem_cons.mp (List.mem_of_getElem? hy) with rfl | m
     ·exact wOf_fv (by lia)
     ·exact rtx v m
    refine ⟨_,rfl,v,rfl,fv,_,hA,(by rw [List.length_map,List.length_take]; lia),_,(show (V.str (wOf r.k) :: r.fs).length - (i + 1) < (V.str (wOf r.k) :: r.fs).length - i by lia),rfl,hi,?_,Same.updL sI hD2⟩
    rw [ae,cp hy,List.map_append]
    rfl
   rintro HI ⟨hA,sI⟩
   rw [List.take_length] at hA
   have sG2:Same G HI:=sR.trans sI
   refine ⟨_,D2,rQ r,rfl,rfl,(by rw [show (rQ r).map V.str = (V.str (wOf r.k) :: r.fs).map fun v=>V.str (fX v) by show V.str (wOf r.k) :: (r.fs.map fX).map V.str = _; rw [List.map_map]; rfl]; exact SqL.of hA),?_,D,_,_,rfl,rfl,sG2 _ _ hG,(by rw [LLl]; lia),_,rfl,?_,Same.updL (sG.trans sG2) hD⟩
   ·have:=rV (xs:=rQ r) (f:=fun z=>z.length) (m:=8) fun z m=>(Ln.wd (l:=.row r) ⟨r32,rtx⟩ z m).2.2
    have l5:(rQ r).length<=5:=Ln.len (l:=.row r) ⟨r32,rtx⟩
    show ((rQ r).map fun z=>z.length).sum + _ * 1<=_
    lia
   ·rw [ae]
    rfl
  | turns n us =>
   obtain ⟨ys,⟨dx,l2,hx,hl2⟩,lb⟩:∃ xs,d6 c G x (.int (n:Int)) xs/\L2A (StT c G d) xs us:=st2
   obtain ⟨n1,n2,ne,t100,uok⟩:1<=n/\n<=64/\us ≠ []/\us.length<=100/\∀ t ∈ us,TOk w' zs d t:=ok
   refine ⟨_,rfl,_,_,_,_,_,rfl,rfl,T.tyT hx,T.kitU,_,rfl,fN ?_⟩
   have tn:=fX_wd (v:=.int (n:Int)) (.inr (.inl ⟨n,rfl,by lia⟩))
   have l6:(Str.ofString "turns ").length = 6:=by decide +kernel
   refine ⟨_,rfl,.inl ⟨rfl,_,SqL.of hG⟩,_,rfl,x,_,dx,_,_,rfl,hx,T.cl_Turns,T.na_Turns_times,rfl,.int (n:Int),rfl,.inr (.inl ⟨n,rfl,by lia⟩),(fun z=>nomatch z),_,_,rfl,rfl,(by have:=tn.2.2; lia),D,_,_,rfl,rfl,hG,(by rw [LLl]; lia),?_⟩
   have etx:Str.ofString "turns " ++ fX (.int (n:Int)) = (Ln.turns n).tx:=by
    have a:Str.ofString "turns " = Str.ofString "turns" ++ SPc:=by decide +kernel
    rw [a]
    rfl
   rw [etx]
   have s1:Same H (upd G D (.lst (LL ++ [V.str (Ln.turns n).tx]))):=Same.updL sG hD
   have d1:upd G D (.lst (LL ++ [V.str (Ln.turns n).tx])) D = some (.lst (LL ++ [V.str (Ln.turns n).tx])):=ae
   generalize upd G D (.lst (LL ++ [V.str (Ln.turns n).tx])) = G1 at s1 d1 ⊢
   obtain ⟨ys',⟨dx',l2',hx1,hl21⟩,lb1⟩:∃ xs,d6 c G1 x (.int (n:Int)) xs/\L2A (StT c G1 d) xs us:=st.same s1
   have lns:lnT (d + 1) (TS.turns n us) = Ln.turns n :: (lnL d us ++ [.fin]):=rfl
   rw [lns] at lt lq ⊢
   rw [List.length_cons,List.length_append,List.length_singleton] at lt
   refine ⟨_,rfl,.inl ⟨rfl,_,SqL.of d1⟩,_,rfl,x,_,dx',_,_,rfl,hx1,T.cl_Turns,T.na_Turns_steps,rfl,?_⟩
   cases d with
   | zero=>exact absurd tr0 ne
   | succ d =>
    refine ⟨l2',ys',us,w',zs,rfl,hl21,lb1,uok,(fun q m=>lq q (List.mem_cons_of_mem _ (List.mem_append_left _ m))),by lia,fun L2 G2 hL2 h2 s2=>?_⟩
    have s12:=s1.trans s2
    refine ⟨D,L2,_,_,rfl,rfl,s2 _ _ d1,h2,(by rw [List.length_append,List.length_singleton,List.length_map,LLl]; lia),?_⟩
    have d2:upd G2 D (.lst (LL ++ [V.str (Ln.turns n).tx] ++ (lnL (d + 1) us).map fun q=>V.str q.tx)) D = some (.lst (LL ++ [V.str (Ln.turns n).tx] ++ (lnL (d + 1) us).map fun q=>V.str q.tx)):=ae
    have s3:Same H (upd G2 D (.lst (LL ++ [V.str (Ln.turns n).tx] ++ (lnL (d + 1) us).map fun q=>V.str q.tx))):=Same.updL s12 hD
    generalize upd G2 D (.lst (LL ++ [V.str (Ln.turns n).tx] ++ (lnL (d + 1) us).map fun q=>V.str q.tx)) = G3 at d2 s3 ⊢
    refine ⟨_,rfl,.inl ⟨rfl,_,SqL.of d2⟩,D,_,_,rfl,rfl,d2,(by rw [List.length_append,List.length_append,List.length_singleton,List.length_map,LLl]; lia),_,rfl,?_,Same.updL s3 hD⟩
    rw [ae,List.map_cons,List.map_append]
    have e3:(Str.ofString "end") = Ln.fin.tx:=rfl
    rw [e3,List.append_assoc,List.append_assoc]
    rfl
 ·rintro σ G ⟨y,rfl,hG,sG⟩
  rw [la.1,List.take_length] at hG
  exact ⟨_,rfl,q D G hD hG sG⟩
theorem kM {f:Addr} {fd:FuncData} (F:Fun K "steps_text" "steps_text" fg f fd) (T:Txt K mg c) (H_lines_of:Has P w K mg base 12 "lines_of" ["steps"] (iN c 6)):FnOk P w K mg base CX0 13 f fd ["steps"] (lg c):=by
 refine F.ok kC (fun vs H Q E h=>?_) (fun cdv A outer s H vs Q E hr h=>?_)
 ·obtain ⟨l,xs,ts,w',zs,rfl,_⟩:=h
  rfl
 obtain ⟨l,xs,ts,w',zs,rfl,hl,la,tok,lok,ln,q⟩:=h
 refine ⟨_,(ai (ar (gv PySem.F.plainAttrs_str PySem.F.slot_str_join PySem.F.type_str_join qA am (aa (aG H_lines_of (hr.mono (by lia)) rfl (aa (pv 0) ag)) ag)))),?_⟩
 have eN:(Str.ofString "\n") = NLc:=by decide +kernel
 refine ⟨mP,_,rfl,l,xs,ts,w',zs,rfl,hl,la,tok,lok,ln,fun L H2 hL h2 s2=>⟨_,L,(lnL 6 ts).map Ln.tx,rfl,rfl,(by rw [List.map_map]; exact SqL.of h2),?_,?_⟩⟩
 ·rw [List.map_map,List.length_map]
  have:=rV (xs:=lnL 6 ts) (f:=fun q=>q.tx.length) (m:=45) fun q m=>Ln.len9 (lok q m)
  show (((lnL 6 ts).map fun q=>q.tx.length)).sum + _ * 1<=_
  lia
 ·rw [eN]
  exact q H2 s2
theorem none_of {H H':Hp} {b:Addr} (s:Same H H') (h:H' b = none):H b = none:=by
 cases e:H b with
 | none=>rfl
 | some o=>rw [s _ _ e] at h; cases h
theorem cut_drop (xs:List V) (k:Nat) (hk:k<=xs.length):cutV xs (some (k:Int)) none = xs.drop k:=by
 unfold cutV
 rw [HT.sIx_none,HT.sIx_nat,Nat.min_eq_left hk,List.take_of_length_le]
 rw [List.length_drop]
 exact Nat.le_refl _
theorem sX {k:Nat}:(shp k).length<=4/\shp k ≠ []:=by
 unfold shp
 split <;> exact ⟨by decide,nofun⟩
theorem nU {f:Addr} {fd:FuncData} (F:Fun K "row_read" "row_read" gR f fd) (T:Txt K mg c) (H_row_made:Has P w K mg base 4 "row_made" ["word","fields"] (spRM c)) (H_field_told:Has P w K mg base 4 "field_told" ["part","word"] spFT) (RA:ShpA K P w c.SHAPES) (MG:∀ k,k < 15->MHas P w K mg base 4 (fOf c k) "good_at" ["self","width"] (bg c [k])):FnOk P w K mg base CX0 5 f fd ["words"] (spRR c):=by
 refine F.ok sc_row_read (fun vs H Q E h=>?_) (fun cdv A outer s H vs Q E hr h=>?_)
 ·obtain ⟨l,r,rfl,_⟩:=h
  rfl
 obtain ⟨l,r,rfl,hl,ok,tx,q⟩:=h
 obtain ⟨vs,gd_SHAPES,sh⟩:=RA
 have k15:=Rw.k15 ok
 obtain ⟨b,vb,sb⟩:=sh r.k k15
 refine ⟨_,(ah (aH (i:=1) sc_row_read.nd rfl (Or.inl rfl) (rJ gd_SHAPES T.kf_kr_SHAPES (fA rfl T.g_SHAPES) (aN aC (pv 0) ak (fun _ _=>rfl)) (cD ag) ⟨rfl,rfl,rfl,rfl⟩))
  (ah (aR (PW.pt (eE (ay (op_eqTD (d:=0) (aZ hr)) (pv 1) (cD ag) (aD _)) (dE (ay jD (aE bn rfl T.n_len boot_len (aa (pv 0) ag)) (aq bx (aE bn rfl T.n_len boot_len (aa (pv 1) ag)) ak) (aD _)))))
   (ai (ar bU))
   aA)
  (ah (aH (i:=2) sc_row_read.nd rfl (Or.inl rfl) (aG H_row_made (hr.mono (by lia)) rfl (aa (aN aC (pv 0) ak (fun _ _=>rfl)) (aa (iE rfl (by first | rfl | with_unfolding_all rfl) (by decide +kernel) rfl (by decide +kernel) rfl (pi_zipN rfl T.n_zip (aa (pv 1) (aa (pe_slice sl_list (pv 0) (po_some ak) po_none) ag))) (fun C s2 H2 fp=>(aG H_field_told (hr.mono (by lia)) rfl (aa (aN (rN (K:=K) rfl) (pv 0) ak (fun _ _=>rfl)) (aa (aN (rN (K:=K) rfl) (pv 0) ak (fun _ _=>rfl)) ag))))) ag))))
  (ai (ar (cj (bt (cF (k:=4) (pv 2) (hr.mono (by lia)) (aa (gx rfl T.g_WIDEST) ag))) (pv 2) bU)))))),?_⟩
 have z5:(0:Nat)<=sizeLine:=by decide
 have a0:atI ((rQ r).map V.str) 0 = some (.str (wOf r.k)):=fL (j:=0) rfl
 refine ⟨rfl,_,rfl,l,_,_,_,rfl,rfl,SqL.of hl,a0,z5,fun te hte=>⟨wOf r.k,b,rfl,vb,?_⟩⟩
 have s1:=au hte (.tup [])
 generalize upd H te (.tup []) = H1 at s1 ⊢
 refine ⟨_,rfl,z5,fun t1 ht1=>⟨b,t1,_,[],fun _=>true,rfl,rfl,sb _,SqT.of ae,(fun j _ z=>absurd z (Nat.not_lt_zero _)),_,rfl,?_⟩⟩
 have s2:=s1.trans (au ht1 (.tup []))
 generalize upd H1 t1 (.tup []) = H2 at s2 ⊢
 have pf:=shp_fs ok tx
 have ln:=pf.len
 have hl2:=s2 _ _ hl
 have L9:(9:Nat)<=sizeLine:=by decide
 have lw:((rQ r).map V.str).length = (shp r.k).length + 1:=by
  rw [List.length_map]
  show (r.fs.map fX).length + 1 = _
  rw [List.length_map,ln]
 have l4:=(sX (k:=r.k)).1
 have ne:=(sX (k:=r.k)).2
 have dp:cutV ((rQ r).map V.str) (some 1) none = (r.fs.map fX).map V.str:=by
  have:=cut_drop ((rQ r).map V.str) 1 (by rw [lw]; lia)
  exact this
 generalize hsp:shp r.k = sp at *
 cases sp with
 | nil=>exact absurd rfl ne
 | cons p ps =>
 refine eB ⟨_,rfl,l,_,rfl,.inl (SqL.of hl2),_,rfl,b,_,rfl,.inr (sb _),_,_,rfl,rfl,rfl,_,rfl,fz ?_ ?_⟩
 ·rw [lw,List.length_map]
  rfl
 refine ⟨_,rfl,l,_,_,_,rfl,rfl,SqL.of hl2,a0,_,rfl,_,rfl,_,rfl,l,_,rfl,SqL.of hl2,fun l3 hl3=>?_⟩
 rw [dp]
 have s3:=s2.trans (au hl3 (.lst ((r.fs.map fX).map V.str)))
 have h3:upd H2 l3 (.lst ((r.fs.map fX).map V.str)) l3 = some (.lst ((r.fs.map fX).map V.str)):=ae
 generalize upd H2 l3 (.lst ((r.fs.map fX).map V.str)) = H3 at s3 h3 ⊢
 refine ⟨b,l3,_,_,rfl,sb _,SqL.of h3,fun D hD=>?_⟩
 refine sD (xs:=(p :: ps).map V.str) (ys:=(r.fs.map fX).map V.str) (fun j HJ=>HJ D = some (.lst (r.fs.take j))/\Same H3 HJ) ⟨ae,au hD _⟩ (fun _ HJ _ q=>⟨sb _,SqL.of (q.2 _ _ h3)⟩) (by rw [List.length_map,List.length_map,List.length_map,ln]) ?_ ?_
 ·rintro j xv yv HJ hx hy ⟨hA,sJ⟩ Tp hTp
  have jl:=(List.getElem?_eq_some_iff.mp hx).1
  rw [List.length_map] at jl
  rw [List.getElem?_map] at hx
  obtain ⟨pj,hpj,rfl⟩:=Option.map_eq_some_iff.mp hx
  rw [List.getElem?_map,List.getElem?_map] at hy
  cases hv:r.fs[j]? with
  | none=>rw [hv] at hy; cases hy
  | some v =>
   rw [hv] at hy
   cases hy
   have ft:=pf.at hpj hv
   have sT:=au hTp (.tup [V.str pj,V.str (fX v)])
   have tT:upd HJ Tp (.tup [V.str pj,V.str (fX v)]) Tp = some (.tup [V.str pj,V.str (fX v)]):=ae
   generalize upd HJ Tp (.tup [V.str pj,V.str (fX v)]) = HT at sT tT ⊢
   refine ⟨_,rfl,Tp,_,_,_,rfl,rfl,SqT.of tT,rfl,_,rfl,Tp,_,_,_,rfl,rfl,SqT.of tT,rfl,pj,fX v,v,rfl,ft,_,sT _ _ hA,(by rw [List.length_take]; lia),_,(show ((p :: ps).map V.str).length - (j + 1) < ((p :: ps).map V.str).length - j by rw [List.length_map]; lia),rfl,(by rw [List.length_map]; lia),?_,Same.updL (sJ.trans sT) hD⟩
   rw [ae,cp hv]
 rintro HJ ⟨hA,sJ⟩
 rw [List.length_map,ln,List.take_length] at hA
 have s4:=s3.trans sJ
 refine ⟨r.k,D,r.fs,rfl,hA,k15,nOf_fs ok,fun x H5 hx st s5=>?_⟩
 have s6:=s4.trans s5
 obtain ⟨dx,hxi,lf⟩:=id st
 refine ⟨_,rfl,x,_,dx,_,_,_,rfl,hxi,j8 (by decide +kernel) k15,MG _ k15,x,32,r,rfl,List.mem_singleton.mpr rfl,st,ok,by decide,by decide,fun H7 s7=>?_⟩
 refine ⟨_,rfl,fN ⟨_,rfl,?_⟩⟩
 exact q x H7 (none_of s4 hx) (st.same s7) (s6.trans s7)
theorem gi {f:Addr} {fd:FuncData} (F:Fun K "__init__" "Reading.__init__" bP f fd) (T:Txt K mg c) :FnOk P w K mg base CX0 1 f fd ["self"] (spRdI K):=by
 refine F.ok fM (fun vs H Q E h=>?_) (fun cdv A outer s H vs Q E hr h=>?_)
 ·obtain ⟨x,C,dx,rfl,_⟩:=h
  rfl
 obtain ⟨x,C,dx,rfl,hx,cl,na,q⟩:=h
 refine ⟨_,(ah (bo (pv 0) (aY (aa (aY ag) ag)) rfl)
  (ai (bo (pv 0) (aY ag) rfl))),?_⟩
 have z5:(0:Nat)<=sizeLine:=by decide
 have k1:(1:Nat)<=sizeLine:=by decide
 refine ⟨z5,fun A hA=>⟨k1,fun L hL=>?_⟩⟩
 have xA:x ≠ A:=av hx hA
 have xL:x ≠ L:=fun z=>by rw [<- z,ao xA,hx] at hL; cases hL
 have LA:L ≠ A:=fun z=>by rw [z,ae] at hL; cases hL
 have hL0:H L = none:=by rw [ao LA] at hL; exact hL
 refine ⟨_,rfl,x,C,dx,_,rfl,(by rw [ao xL,ao xA]; exact hx),cl,na _ (List.mem_cons_self ..),(by show 0 < 1000; decide),z5,fun U hU=>?_⟩
 have xU:x ≠ U:=fun z=>by rw [<- z,ae] at hU; cases hU
 have LU:L ≠ U:=fun z=>by rw [<- z,ao (Ne.symm xL),ae] at hU; cases hU
 have AU:A ≠ U:=fun z=>by rw [<- z,ao (Ne.symm xA),ao (Ne.symm LA),ae] at hU; cases hU
 have hU0:H U = none:=by rw [ao (Ne.symm xU),ao (Ne.symm LU),ao (Ne.symm AU)] at hU; exact hU
 refine ⟨_,rfl,x,C,dx,_,rfl,(by rw [ao xU,ae]),cl,na _ (List.mem_cons_of_mem _ (List.mem_cons_self ..)),(by show 1 < 1000; decide),?_⟩
 refine q L U A _ hL0 hU0 hA LU LA (Ne.symm AU) ae ?_ ?_ ?_ fun b o nb e=>?_
 ·rw [ao (Ne.symm xL),ao LU,ao (Ne.symm xL),ae]
 ·rw [ao (Ne.symm xU),ae]
 ·rw [ao (Ne.symm xA),ao AU,ao (Ne.symm xA),ao (Ne.symm LA),ae]
 ·rw [ao nb,ao (av e hU0),ao nb,ao (av e hL0),ao (av e hA)]
  exact e
theorem RdAt.out {c:Ad} {Hs H:Hp} {x:Addr} {o:List T2} (h:RdAt c Hs H x (o,.none)):∃ (dx L U A:Addr) (xs:List V),H x = some (.ins c.Reading dx [("lists",.ref L),("turns",.ref U)])/\H L = some (.lst [.ref A])/\H U = some (.lst [])/\H A = some (.lst xs)/\L ≠ U/\L ≠ A/\U ≠ A/\Same Hs (fB [L,U,A] H)/\L2A (StT c (fB [L,U,A] H) 6) xs (o.map T2.c):=h
theorem eo {f:Addr} {fd:FuncData} (F:Fun K "takes_turns" "Reading.takes_turns" bu f fd) (T:Txt K mg c) (H_number_told:Has P w K mg base 3 "number_told" ["word","low","high"] pM):FnOk P w K mg base CX0 4 f fd ["self","words"] (spTkT c):=by
 refine F.ok sc_Reading_takes_turns (fun vs H Q E h=>?_) (fun cdv A outer s H vs Q E hr h=>?_)
 ·obtain ⟨x,l,n,o,Hs,rfl,_⟩:=h
  rfl
 obtain ⟨x,l,n,o,Hs,rfl,hl,n1,n2,R,q⟩:=h
 refine ⟨_,(ah (aH (i:=2) sc_Reading_takes_turns.nd rfl (Or.inl rfl) (cj (ay bS (aE bn rfl T.n_len boot_len (aa (pv 1) ag)) ak (aD _)) (aG H_number_told (hr.mono (by lia)) rfl (aa (aN aC (pv 1) ak (fun _ _=>rfl)) (aa ak (aa ak ag)))) bU))
  (ah (aR (PW.pt (eE (ay pP (pv 2) bU (aD _)) (dE (ay op_ge (aE bn rfl T.n_len boot_len (aa (aw (pv 0) rfl) ag)) (gx rfl T.g_MOST_TURNS) (aD _)))))
   (ai (ar fS))
   aA)
  (ah (aX (gv PySem.F.plainAttrs_list PySem.F.slot_list_append PySem.F.type_list_append bE (aw (pv 0) rfl) (aa (pv 2) ag)))
  (ah (aX (gv PySem.F.plainAttrs_list PySem.F.slot_list_append PySem.F.type_list_append bE (aw (pv 0) rfl) (aa (aY ag) ag)))
  (ai (ar fS)))))),?_⟩
 have z5:(0:Nat)<=sizeLine:=by decide
 have L9:(9:Nat)<=sizeLine:=by decide
 obtain ⟨nm,nv,_⟩:=tt_of (n:=n) (by lia)
 obtain ⟨dx,L,U,A',xs,hx,hL,hU,hA,n1',n2',n3',sH,la⟩:=id R.out
 refine ⟨_,rfl,l,_,rfl,.inl (SqL.of hl),rfl,_,rfl,dg rfl ⟨_,rfl,l,_,_,_,rfl,rfl,SqL.of hl,rfl,tt n,1,64,rfl,nm,?_⟩⟩
 rw [nv,if_pos ⟨by lia,by lia⟩]
 refine ⟨_,rfl,rfl,_,rfl,be (fun z=>nomatch z) ?_⟩
 have xL:x ≠ L:=jE hx hL (fun z=>by cases z)
 have xU:x ≠ U:=jE hx hU (fun z=>by cases z)
 refine ⟨_,rfl,x,_,dx,_,_,rfl,hx,T.cl_Reading,T.na_Reading_turns,rfl,U,_,rfl,.inl (SqL.of hU),_,_,rfl,rfl,_,rfl,be (show ¬ (5:Int)<=((0:Nat):Int) by decide) ?_⟩
 refine ⟨_,rfl,x,_,dx,_,_,rfl,hx,T.cl_Reading,T.na_Reading_turns,rfl,.inl ⟨rfl,_,SqL.of hU⟩,_,rfl,U,_,_,rfl,rfl,hU,(by show 0 < sizeLine; lia),?_⟩
 have hx2:upd H U (.lst ([] ++ [V.int (n:Int)])) x = _:=(ao xU).trans hx
 have hL2:upd H U (.lst ([] ++ [V.int (n:Int)])) L = _:=(ao n1').trans hL
 refine ⟨_,rfl,x,_,dx,_,_,rfl,hx2,T.cl_Reading,T.na_Reading_lists,rfl,.inl ⟨rfl,_,SqL.of hL2⟩,z5,fun B hB=>?_⟩
 have BU:B ≠ U:=fun z=>by rw [z,ae] at hB; cases hB
 have hB0:H B = none:=by rw [ao BU] at hB; exact hB
 have nB:∀ {b u},H b = some u->b ≠ B:=fun e=>av e hB0
 refine ⟨L,_,_,rfl,rfl,(by rw [ao (nB hL),ao n1']; exact hL),(by show 1 < sizeLine; lia),q _ ?_⟩
 refine ⟨dx,L,U,A',B,xs,[],?_,ae,?_,?_,?_,⟨n1',n2',n3',Ne.symm (nB hL),BU,Ne.symm (nB hA)⟩,?_⟩
 ·rw [ao xL,ao (nB hx),ao xU]; exact hx
 ·rw [ao (Ne.symm n1'),ao (nB hU),ae]; rfl
 ·rw [ao (Ne.symm n2'),ao (nB hA),ao (Ne.symm n3')]; exact hA
 ·rw [ao (Ne.symm (nB hL)),ae]
 have st:Same (fB [L,U,A'] H) (fB [L,U,A',B] (upd (upd (upd H U (.lst ([] ++ [V.int (n:Int)]))) B (.lst [])) L (.lst ([V.ref A'] ++ [V.ref B])))):=kO (fun b u nb e=>by
  rw [ao (fun z=>nb (by simp [z])),ao (nB e),ao (fun z=>nb (by simp [z]))]; exact e) fun b m=>by
  simp only [List.mem_cons,List.not_mem_nil,or_false] at m ⊢
  rcases m with rfl | rfl | rfl | rfl
  ·exact .inl (.inl rfl)
  ·exact .inl (.inr (.inl rfl))
  ·exact .inl (.inr (.inr rfl))
  ·exact .inr hB0
 exact ⟨sH.trans st,la.mono fun _ _ _ z=>z.same st,L2A.nil⟩
theorem fu {f:Addr} {fd:FuncData} (F:Fun K "takes_end" "Reading.takes_end" bI f fd) (T:Txt K mg c)  (C_Turns:CHas P w K mg base 1 c.Turns "Turns" ["self","times","steps"] (kF K)):FnOk P w K mg base CX0 3 f fd ["self"] (spTkE c):=by
 refine F.ok sc_Reading_takes_end (fun vs H Q E h=>?_) (fun cdv A outer s H vs Q E hr h=>?_)
 ·obtain ⟨x,n,o,rs,Hs,rfl,_⟩:=h
  rfl
 obtain ⟨x,n,o,rs,Hs,rfl,ne,lo,lr,R,q⟩:=h
 refine ⟨_,(ah (aR (PW.pt (eE (ay (op_eq0 (Nat.lt_of_succ_lt (aZ hr))) (aw (pv 0) rfl) (aY ag) (aD _)) (dE (ay (op_eq0 (Nat.lt_of_succ_lt (aZ hr))) (aN aC (aw (pv 0) rfl) (pe_un pT ak) (fun _ _=>rfl)) (aY ag) (aD _)))))
   (ai (ar fS))
   aA)
  (ah (aH (i:=1) sc_Reading_takes_end.nd rfl (Or.inl rfl) (j6 PySem.F.plainAttrs_list PySem.F.slot_list_pop PySem.F.type_list_pop mt_pop (aw (pv 0) rfl)))
  (ah (aX (gv PySem.F.plainAttrs_list PySem.F.slot_list_append PySem.F.type_list_append bE (aN aC (aw (pv 0) rfl) (pe_un pT ak) (fun _ _=>rfl)) (aa (aF C_Turns (hr.mono (by lia)) rfl (aa (j6 PySem.F.plainAttrs_list PySem.F.slot_list_pop PySem.F.type_list_pop mt_pop (aw (pv 0) rfl)) (aa (pv 1) ag))) ag)))
  (ai (ar fS))))),?_⟩
 have z5:(0:Nat)<=sizeLine:=by decide
 have L9:(2000:Nat)<=sizeLine:=by decide
 obtain ⟨dx,L,U,A',B,xs,ys,hx,hL,hU,hA,hB,⟨n1,n2,n3,n4,n5,n6⟩,sH,la,lb⟩:∃ (dx L U A B:Addr) (xs ys:List V),H x = some (.ins c.Reading dx [("lists",.ref L),("turns",.ref U)])/\H L = some (.lst [.ref A,.ref B])/\H U = some (.lst [.int (n:Int)])/\H A = some (.lst xs)/\H B = some (.lst ys)/\(L ≠ U/\L ≠ A/\U ≠ A/\B ≠ L/\B ≠ U/\B ≠ A)/\Same Hs (fB [L,U,A,B] H)/\L2A (StT c (fB [L,U,A,B] H) 6) xs (o.map T2.c)/\L2A (StT c (fB [L,U,A,B] H) 5) ys (rs.map r5):=R
 have yne:ys ≠ []:=fun z=>ne (List.map_eq_nil_iff.mp (List.length_eq_zero_iff.mp (by rw [<- lb.1,z]; rfl)))
 have xL:x ≠ L:=jE hx hL (fun z=>by cases z)
 have xU:x ≠ U:=jE hx hU (fun z=>by cases z)
 have xA:x ≠ A':=jE hx hA (fun z=>by cases z)
 refine ⟨_,rfl,x,_,dx,_,_,rfl,hx,T.cl_Reading,T.na_Reading_turns,rfl,z5,fun l1 hl1=>?_⟩
 have s1:=au hl1 (.lst [])
 have h1:upd H l1 (.lst []) l1 = some (.lst []):=ae
 generalize upd H l1 (.lst []) = H1 at s1 h1 ⊢
 refine ⟨U,l1,_,rfl,rfl,SqL.of (s1 _ _ hU),SqL.of h1,_,rfl,eB ?_⟩
 refine ⟨_,rfl,x,_,dx,_,_,rfl,s1 _ _ hx,T.cl_Reading,T.na_Reading_lists,rfl,_,rfl,L,_,_,_,rfl,rfl,SqL.of (s1 _ _ hL),rfl,z5,fun l2 hl2=>?_⟩
 have s2:=s1.trans (au hl2 (.lst []))
 have h2:upd H1 l2 (.lst []) l2 = some (.lst []):=ae
 generalize upd H1 l2 (.lst []) = H2 at s2 h2 ⊢
 refine ⟨B,l2,ys,rfl,rfl,SqL.of (s2 _ _ hB),SqL.of h2,_,rfl,?_⟩
 rw [show ys.isEmpty = false by cases ys with | nil=>exact absurd rfl yne | cons a t=>rfl]
 refine eB ?_
 refine ⟨_,rfl,x,_,dx,_,_,rfl,s2 _ _ hx,T.cl_Reading,T.na_Reading_lists,rfl,.inl ⟨rfl,_,SqL.of (s2 _ _ hL)⟩,L,_,_,rfl,rfl,s2 _ _ hL,rfl,?_⟩
 have kp:∀ b u,b ≠ L->H b = some u->upd H2 L (.lst [V.ref A']) b = some u:=fun b u n e=>by rw [ao n]; exact s2 _ _ e
 have hL3:upd H2 L (.lst [V.ref A']) L = some (.lst [V.ref A']):=ae
 show _
 have e3:([V.ref A',V.ref B]:List V).dropLast = [V.ref A']:=rfl
 rw [e3]
 generalize upd H2 L (.lst [V.ref A']) = H3 at kp hL3 ⊢
 have hx3:=kp _ _ xL hx
 have hU3:=kp _ _ (Ne.symm n1) hU
 refine ⟨_,rfl,x,_,dx,_,_,rfl,hx3,T.cl_Reading,T.na_Reading_lists,rfl,_,rfl,L,_,_,_,rfl,rfl,SqL.of hL3,rfl,.inl ⟨rfl,_,SqL.of (kp _ _ (Ne.symm n2) hA)⟩,?_⟩
 refine ⟨_,rfl,x,_,dx,_,_,rfl,hx3,T.cl_Reading,T.na_Reading_turns,rfl,.inl ⟨rfl,_,SqL.of hU3⟩,U,_,_,rfl,rfl,hU3,rfl,_,rfl,?_⟩
 have e4:([V.int (n:Int)]:List V).dropLast = []:=rfl
 rw [e4]
 have kp4:∀ b u,b ≠ L->b ≠ U->H b = some u->upd H3 U (.lst []) b = some u:=fun b u n m e=>by rw [ao m]; exact kp _ _ n e
 have hL4:upd H3 U (.lst []) L = some (.lst [V.ref A']):=by rw [ao n1]; exact hL3
 have hU4:upd H3 U (.lst []) U = some (.lst []):=ae
 generalize upd H3 U (.lst []) = H4 at kp4 hL4 hU4 ⊢
 have hA4:=kp4 _ _ (Ne.symm n2) (Ne.symm n3) hA
 have hB4:=kp4 _ _ n4 n5 hB
 refine fun t dt ht hdt hne=>⟨t,_,dt,B,_,ys,rfl,ae,(by rw [ao (av hB4 ht),ao (av hB4 hdt)]; exact hB4),T.cl_Turns,(fun f hf=>?_),fun l' H5 hl' ht5 hl5 sx=>⟨rfl,A',_,_,rfl,rfl,ap ht hdt sx _ _ hA4,?_,?_⟩⟩
 ·rcases List.mem_cons.mp hf with rfl | hf
  ·exact T.na_Turns_times
  ·cases List.mem_singleton.mp hf
   exact T.na_Turns_steps
 ·rw [la.1,List.length_map]; lia
 have s5:=ap ht hdt sx
 have dtt:=hne
 have l4:H4 l' = none:=by
  cases e:H4 l' with
  | none=>rfl
  | some u =>
   rw [ao (av e ht),ao (av e hdt),e] at hl'
   cases hl'
 have kp6:∀ b u,b ≠ L->b ≠ U->b ≠ A'->H b = some u->upd H5 A' (.lst (xs ++ [V.ref t])) b = some u:=fun b u m1 m2 m3 e=>by rw [ao m3]; exact s5 _ _ (kp4 _ _ m1 m2 e)
 have st:Same (fB [L,U,A',B] H) (fB [L,U,A'] (upd H5 A' (.lst (xs ++ [V.ref t])))):=kO (fun b u nb e=>kp6 b u (fun z=>nb (by simp [z])) (fun z=>nb (by simp [z])) (fun z=>nb (by simp [z])) e) fun b m=>.inl (by
  simp only [List.mem_cons,List.not_mem_nil,or_false] at m ⊢
  rcases m with rfl | rfl | rfl
  ·exact .inl rfl
  ·exact .inr (.inl rfl)
  ·exact .inr (.inr (.inl rfl)))
 have nt:∀ {b},H4 b = none->b ∉ [L,U,A']:=fun {b} e m=>by
  simp only [List.mem_cons,List.not_mem_nil,or_false] at m
  rcases m with rfl | rfl | rfl
  ·rw [hL4] at e; cases e
  ·rw [hU4] at e; cases e
  ·rw [hA4] at e; cases e
 refine q _ ⟨dx,L,U,A',_,kp6 _ _ xL xU xA hx,?_,?_,ae,n1,n2,n3,sH.trans st,?_⟩
 ·rw [ao n2]; exact s5 _ _ hL4
 ·rw [ao n3]; exact s5 _ _ hU4
 rw [List.map_append]
 refine (la.mono fun _ _ _ z=>z.same st).app (L2A.one ?_)
 refine ⟨ys,⟨dt,l',eT (nt ht) ?_,eT (nt l4) ?_⟩,lb.mono fun _ _ _ z=>z.same st⟩
 ·rw [ao (fun z=>nt ht (by simp [z]))]; exact ht5
 ·rw [ao (fun z=>nt l4 (by simp [z]))]; exact hl5
theorem ip {f:Addr} {fd:FuncData} (F:Fun K "takes" "Reading.takes" cO f fd) (T:Txt K mg c) (H_row_read:Has P w K mg base 5 "row_read" ["words"] (spRR c)) (MTt:MHas P w K mg base 5 c.Reading "takes_turns" ["self","words"] (spTkT c)) (MTe:MHas P w K mg base 5 c.Reading "takes_end" ["self"] (spTkE c)):FnOk P w K mg base CX0 6 f fd ["self","words"] (spTks c):=by
 refine F.ok sc_Reading_takes (fun vs H Q E h=>?_) (fun cdv A outer s H vs Q E hr h=>?_)
 ·obtain ⟨x,l,qq,st,Hs,rfl,_⟩:=h
  rfl
 obtain ⟨x,l,qq,st,Hs,rfl,hl,qok,can,sm,R,q⟩:=h
 refine ⟨_,(ah (aR (ay bS (aN aC (pv 1) ak (fun _ _=>rfl)) am (aD _))
   (ai (ar (cF (k:=5) (pv 0) (hr.mono (by lia)) (aa (pv 1) ag))))
   aA)
  (ah (aR (ay (op_eqLS (Nat.lt_of_succ_lt (aZ hr))) (pv 1) (aY (aa am ag)) (aD _))
   (ai (ar (cL (k:=5) (pv 0) (hr.mono (by lia)))))
   aA)
  (ah (aH (i:=2) sc_Reading_takes.nd rfl (Or.inl rfl) (aG H_row_read (hr.mono (by lia)) rfl (aa (pv 1) ag)))
  (ah (aR (ay pP (pv 2) bU (aD _))
   (ai (ar fS))
   aA)
  (ah (aX (gv PySem.F.plainAttrs_list PySem.F.slot_list_append PySem.F.type_list_append bE (aN aC (aw (pv 0) rfl) (pe_un pT ak) (fun _ _=>rfl)) (aa (pv 2) ag)))
  (ai (ar fS))))))),?_⟩
 have k1:(1:Nat)<=sizeLine:=by decide
 have L9:(2000:Nat)<=sizeLine:=by decide
 obtain ⟨o,i⟩:=st
 cases qq with
 | turns n =>
  cases i with
  | some p=>exact can.elim
  | none =>
   have hl':H l = some (.lst ((Ln.turns n).ws.map V.str)):=hl
   obtain ⟨dx,L,U,A',xs,hx,_⟩:=id R.out
   exact ⟨_,rfl,l,_,_,_,rfl,rfl,SqL.of hl,rfl,rfl,_,rfl,dg rfl ⟨_,rfl,x,_,dx,_,_,_,rfl,hx,rfl,MTt,_,rfl,x,l,n,o,Hs,rfl,hl',qok.1,qok.2,R,q⟩⟩
 | fin =>
  cases i with
  | none=>exact can.elim
  | some p =>
   obtain ⟨n,rs⟩:=p
   refine ⟨_,rfl,l,_,_,_,rfl,rfl,SqL.of hl,rfl,rfl,_,rfl,be (by walk_at "n") ⟨_,rfl,k1,fun l2 hl2=>?_⟩⟩
   have s2:=au hl2 (.lst [V.str "end"])
   have R2:=R.same s2
   refine ⟨l,l2,Ln.fin.ws,["end"],rfl,rfl,SqL.of (s2 _ _ hl),SqL.of ae,_,rfl,dg (show Ln.fin.ws = ([Str.ofString "end"]:List Str) from rfl) ?_⟩
   generalize upd H l2 (.lst [V.str "end"]) = H2 at s2 R2 ⊢
   obtain ⟨dx,L,U,A',B,xs,ys,hx,_⟩:=id R2
   exact ⟨_,rfl,x,_,dx,_,_,_,rfl,hx,rfl,MTe,x,n,o,rs,Hs,rfl,can,sm.1,sm.2,R2,q⟩
 | row r =>
  have k15:=Rw.k15 qok.1
  have a0:atI ((Ln.row r).ws.map V.str) 0 = some (.str (wOf r.k)):=fL (j:=0) rfl
  refine ⟨_,rfl,l,_,_,_,rfl,rfl,SqL.of hl,a0,rfl,_,rfl,be (fun z=>by have e:=wInj (show r.k < 16 by lia) (show 15 < 16 by decide) z; lia) ⟨_,rfl,k1,fun l2 hl2=>?_⟩⟩
  have s2:=au hl2 (.lst [V.str "end"])
  have R2:=R.same s2
  have hl3:=s2 _ _ hl
  refine ⟨l,l2,(Ln.row r).ws,["end"],rfl,rfl,SqL.of hl3,SqL.of ae,_,rfl,be (fun z=>by injection z with z _; exact (pO r.k (by lia)).2 z) ?_⟩
  generalize upd H l2 (.lst [V.str "end"]) = H2 at s2 R2 hl3 ⊢
  refine ⟨_,rfl,l,r,rfl,hl3,qok.1,qok.2,fun y H3 hy sy s3=>?_⟩
  have R3:=R2.same s3
  refine ⟨_,rfl,rfl,_,rfl,be (fun z=>nomatch z) ?_⟩
  obtain ⟨dy,hyi,lf⟩:=id sy
  cases i with
  | none =>
   obtain ⟨dx,L,U,A',xs,hx,hL,hU,hA,n1,n2,n3,sH,la⟩:=id R3.out
   have xA:x ≠ A':=jE hx hA (fun z=>by cases z)
   have sm':o.length<=1000:=sm
   refine ⟨_,rfl,x,_,dx,_,_,rfl,hx,T.cl_Reading,T.na_Reading_lists,rfl,_,rfl,L,_,_,_,rfl,rfl,SqL.of hL,rfl,.inl ⟨rfl,_,SqL.of hA⟩,_,rfl,A',_,_,rfl,rfl,hA,(by rw [la.1,List.length_map]; lia),q _ ?_⟩
   have st:Same (fB [L,U,A'] H3) (fB [L,U,A'] (upd H3 A' (.lst (xs ++ [V.ref y])))):=kO (fun b u nb e=>by rw [ao (fun z=>nb (by simp [z]))]; exact e) fun b m=>.inl m
   refine ⟨dx,L,U,A',_,(ao xA).trans hx,(ao n2).trans hL,(ao n3).trans hU,ae,n1,n2,n3,sH.trans st,?_⟩
   rw [List.map_append]
   refine (la.mono fun _ _ _ z=>z.same st).app (L2A.one ⟨dy,eT (fun m=>?_) ((ao (jE hyi hA (fun z=>by cases z))).trans hyi),lf⟩)
   simp only [List.mem_cons,List.not_mem_nil,or_false] at m
   rcases m with rfl | rfl | rfl
   ·rw [hL] at hyi; cases hyi
   ·rw [hU] at hyi; cases hyi
   ·rw [hA] at hyi; cases hyi
  | some p =>
   obtain ⟨n,rs⟩:=p
   obtain ⟨dx,L,U,A',B,xs,ys,hx,hL,hU,hA,hB,⟨n1,n2,n3,n4,n5,n6⟩,sH,la,lb⟩:∃ (dx L U A B:Addr) (xs ys:List V),H3 x = some (.ins c.Reading dx [("lists",.ref L),("turns",.ref U)])/\H3 L = some (.lst [.ref A,.ref B])/\H3 U = some (.lst [.int (n:Int)])/\H3 A = some (.lst xs)/\H3 B = some (.lst ys)/\(L ≠ U/\L ≠ A/\U ≠ A/\B ≠ L/\B ≠ U/\B ≠ A)/\Same Hs (fB [L,U,A,B] H3)/\L2A (StT c (fB [L,U,A,B] H3) 6) xs (o.map T2.c)/\L2A (StT c (fB [L,U,A,B] H3) 5) ys (rs.map r5):=R3
   have xB:x ≠ B:=jE hx hB (fun z=>by cases z)
   have sm':o.length<=1000/\rs.length<=1000:=sm
   refine ⟨_,rfl,x,_,dx,_,_,rfl,hx,T.cl_Reading,T.na_Reading_lists,rfl,_,rfl,L,_,_,_,rfl,rfl,SqL.of hL,rfl,.inl ⟨rfl,_,SqL.of hB⟩,_,rfl,B,_,_,rfl,rfl,hB,(by rw [lb.1,List.length_map]; lia),q _ ?_⟩
   have st:Same (fB [L,U,A',B] H3) (fB [L,U,A',B] (upd H3 B (.lst (ys ++ [V.ref y])))):=kO (fun b u nb e=>by rw [ao (fun z=>nb (by simp [z]))]; exact e) fun b m=>.inl m
   refine ⟨dx,L,U,A',B,xs,_,(ao xB).trans hx,(ao (Ne.symm n4)).trans hL,(ao (Ne.symm n5)).trans hU,(ao (Ne.symm n6)).trans hA,ae,⟨n1,n2,n3,n4,n5,n6⟩,sH.trans st,la.mono fun _ _ _ z=>z.same st,?_⟩
   rw [List.map_append]
   refine (lb.mono fun _ _ _ z=>z.same st).app (L2A.one ⟨dy,eT (fun m=>?_) ((ao (jE hyi hB (fun z=>by cases z))).trans hyi),lf⟩)
   simp only [List.mem_cons,List.not_mem_nil,or_false] at m
   rcases m with rfl | rfl | rfl | rfl
   ·rw [hL] at hyi; cases hyi
   ·rw [hU] at hyi; cases hyi
   ·rw [hA] at hyi; cases hyi
   ·rw [hB] at hyi; cases hyi
theorem RdAt.hx {c:Ad} {Hs H:Hp} {x:Addr} {s:S2} (h:RdAt c Hs H x s):∃ dx fs,H x = some (.ins c.Reading dx fs)/\fs.lookup ("takes":Str) = none:=by
 obtain ⟨o,i⟩:=s
 cases i with
 | none=>obtain ⟨dx,L,U,A,xs,hx,_⟩:=h; exact ⟨dx,_,hx,rfl⟩
 | some p=>obtain ⟨dx,L,U,A,B,xs,ys,hx,_⟩:=h; exact ⟨dx,_,hx,rfl⟩
def S2.sz:S2->Nat
 | (o,none)=>o.length
 | (o,some (_,rs))=>o.length + rs.length
theorem sz_step (s:S2) (l:Ln):(s.step l).sz<=s.sz + 1:=by
 obtain ⟨o,i⟩:=s
 cases i with
 | none=>cases l <;> simp [S2.step,S2.sz]
 | some p=>cases l <;> simp [S2.step,S2.sz] <;> lia
theorem sz_to:∀ (ls:List Ln) (s:S2),(s.to ls).sz<=s.sz + ls.length
 | [],s=>Nat.le_refl _
 | l :: r,s=>by
  have a:=sz_to r (s.step l)
  have b:=sz_step s l
  show ((s.step l).to r).sz<=_
  rw [List.length_cons]
  lia
theorem to_sm {ls:List Ln} (h:ls.length<=1000):S2.sm (S2.to ([],none) ls):=by
 have a:=sz_to ls ([],none)
 have a0:S2.sz ([],none) = 0:=rfl
 rw [a0] at a
 generalize S2.to ([],none) ls = s at a ⊢
 obtain ⟨o,i⟩:=s
 cases i with
 | none=>show o.length<=1000; have a:o.length<=_:=a; lia
 | some p=>show o.length<=1000/\p.2.length<=1000; have a:o.length + p.2.length<=_:=a; lia
theorem pe_mkP0 {X:Cx} {k:Nat} {C:Addr} {y:Str} {ps:List Str} {sp:Sp} {p pos:Pos} (h:CHas X.prog X.w X.K X.mg X.base k C y ps sp) (hr:Room (k + 1) X.A) (hg:Gl X y) (hdb:(y == ("__debug__":Str)) = false:=by decide):PE X (.Call (.Name y p) [] [] pos) (tMake C sp [] E0 tNil):=by
 obtain ⟨f,fd,M,F,b,m⟩:=h.ex
 exact pe_make0 M F hr hg m b .nil qf hdb
theorem kN {f:Addr} {fd:FuncData} (F:Fun K "read_steps" "read_steps" eW f fd) (T:Txt K mg c)  (C_Reading:CHas P w K mg base 1 c.Reading "Reading" ["self"] (spRdI K)) (MTk:MHas P w K mg base 9 c.Reading "takes" ["self","words"] (spTks c)):FnOk P w K mg base CX0 10 f fd ["text"] (qX c):=by
 refine F.ok sc_read_steps (fun vs H Q E h=>?_) (fun cdv A outer s H vs Q E hr h=>?_)
 ·obtain ⟨ts,rfl,_⟩:=h
  rfl
 obtain ⟨ts,rfl,ne,l100,rne,lok,ln,q⟩:=h
 refine ⟨_,(ah (aR (bz (bt (aE aK rfl T.n_isinstance boot_isinstance (aa (pv 0) (aa (iZ rfl T.n_str boot_str) ag)))))
   (ai bR)
   aA)
  (ah (aR (ay bS (pv 0) am (aD _))
   (ai (ar (aY ag)))
   aA)
  (ah (aH (i:=1) sc_read_steps.nd rfl (Or.inl rfl) (pe_mkP0 C_Reading (hr.mono (by lia)) rfl))
  (ah (cA PassesOwn.never rfl (cu (gv PySem.F.plainAttrs_str PySem.F.slot_str_split PySem.F.type_str_split lK (pv 0) (aa am ag))) (aQ (i:=2) sc_read_steps.nd rfl (Or.inl rfl))
   (ai (aR (bz (bt (cF (k:=9) (pv 1) (hr.mono (by lia)) (aa (gv PySem.F.plainAttrs_str PySem.F.slot_str_split PySem.F.type_str_split lK (pv 2) (aa am ag)) ag))))
    (ai bR)
    aA)))
  (ah (aR (ay (qG (Nat.lt_of_succ_lt (aZ hr))) (aw (pv 1) rfl) (aY ag) (aD _))
   (ai bR)
   aA)
  (ai (ar (aN aC (aw (pv 1) rfl) ak (fun _ _=>rfl))))))))),?_⟩
 have z5:(0:Nat)<=sizeLine:=by decide
 have L9:(50000:Nat)<=sizeLine:=by decide
 generalize hls:ts.flatMap T2.lns = ls at *
 have lne:ls ≠ []:=fun z=>by
  cases ts with
  | nil=>exact ne rfl
  | cons t r =>
   rw [List.flatMap_cons] at hls
   cases t <;> rw [<- hls] at z <;> exact absurd z nofun
 have tl:=txs_len lok
 obtain ⟨e1,e2⟩:=to_all ts [] rne
 rw [hls] at e1 e2
 refine ⟨_,rfl,_,_,_,_,_,rfl,rfl,TyOf.str _,fY _,_,rfl,eB ?_⟩
 refine ⟨_,rfl,rfl,_,rfl,be (fun z=>txs_ne lne lok (by injection z)) ?_⟩
 refine fun x dx hx hdx hnx=>⟨x,_,dx,rfl,ae,T.cl_Reading,(fun f hf=>?_),fun L U A' H1 hL hU hA n1 n2 n3 hx1 hL1 hU1 hA1 sx=>⟨rfl,?_⟩⟩
 ·rcases List.mem_cons.mp hf with rfl | hf
  ·exact T.na_Reading_lists
  ·cases List.mem_singleton.mp hf
   exact T.na_Reading_turns
 have s1:=ap hx hdx sx
 have fr:∀ {b},upd (upd H dx (.own x)) x (.ins c.Reading dx []) b = none->H b = none:=fun {b} e=>by
  cases e2:H b with
  | none=>rfl
  | some u=>rw [ao (av e2 hx),ao (av e2 hdx),e2] at e; cases e
 refine ⟨_,rfl,mP,_,_,rfl,rfl,(by decide),(by lia),fun ll hll=>?_⟩
 rw [show Txt.split (txs ls) (Str.ofString "\n") = ls.map Ln.tx from mj lne lok]
 have hll0:=none_of s1 hll
 have s2:=au hll (.lst ((ls.map Ln.tx).map V.str))
 have hl2:upd H1 ll (.lst ((ls.map Ln.tx).map V.str)) ll = some (.lst ((ls.map Ln.tx).map V.str)):=ae
 have R0:RdAt c (upd H ll (.lst ((ls.map Ln.tx).map V.str))) (upd H1 ll (.lst ((ls.map Ln.tx).map V.str))) x ([],none):=by
  refine ⟨dx,L,U,A',[],s2 _ _ hx1,s2 _ _ hL1,s2 _ _ hU1,s2 _ _ hA1,n1,n2,n3,fun b u e=>?_,L2A.nil⟩
  by_cases hb:b = ll
  ·subst hb
   rw [ae] at e
   refine eT (fun m=>?_) (by rw [ae]; exact e)
   simp only [List.mem_cons,List.not_mem_nil,or_false] at m
   rcases m with rfl | rfl | rfl
   ·rw [hL1] at hll; cases hll
   ·rw [hU1] at hll; cases hll
   ·rw [hA1] at hll; cases hll
  ·rw [ao hb] at e
   refine eT (fun m=>?_) (by rw [ao hb]; exact s1 _ _ e)
   simp only [List.mem_cons,List.not_mem_nil,or_false] at m
   rcases m with rfl | rfl | rfl
   ·rw [fr hL] at e; cases e
   ·rw [fr hU] at e; cases e
   ·rw [fr hA] at e; cases e
 have hs0:upd H ll (.lst ((ls.map Ln.tx).map V.str)) ll = some (.lst ((ls.map Ln.tx).map V.str)):=ae
 have hsS:Same H (upd H ll (.lst ((ls.map Ln.tx).map V.str))):=au hll0 _
 generalize upd H ll (.lst ((ls.map Ln.tx).map V.str)) = Hs at R0 hs0 hsS
 generalize upd H1 ll (.lst ((ls.map Ln.tx).map V.str)) = H2 at s2 hl2 R0 ⊢
 refine ⟨ll,rfl,⟨_,SqL.of hl2⟩,ck (xs:=(ls.map Ln.tx).map V.str) (fun j σ G=>∃ y:Option V,σ = [some (.str (txs ls)),some (.ref x),y]/\RdAt c Hs G x (S2.to ([],none) (ls.take j))) ⟨_,rfl,R0⟩ ?_ ?_ ?_⟩
 ·rintro j σ G hj ⟨y,rfl,R⟩
  exact SqL.of (R.hs _ _ hs0)
 ·rintro j v σ G hv ⟨y,rfl,R⟩
  rw [List.getElem?_map,List.getElem?_map] at hv
  cases hq:ls[j]? with
  | none=>rw [hq] at hv; cases hv
  | some qq =>
   rw [hq] at hv
   cases hv
   have qok:=lok qq (List.mem_of_getElem? hq)
   have q9:=Ln.len9 qok
   have can:=e2.at hq
   have sm:S2.sm (S2.to ([],none) (ls.take j)):=to_sm (by rw [List.length_take]; lia)
   rw [cp hq,qT]
   show _
   have est:S2.to (S2.to ([],none) (ls.take j)) [qq] = (S2.to ([],none) (ls.take j)).step qq:=rfl
   rw [est]
   generalize S2.to ([],none) (ls.take j) = st at R can sm ⊢
   obtain ⟨dx2,fs2,hx2,hf2⟩:=R.hx
   refine ⟨_,rfl,x,_,dx2,_,_,_,rfl,hx2,hf2,MTk,_,rfl,mP,_,_,rfl,rfl,(by decide),(by lia),fun l2 hl2=>?_⟩
   rw [show Txt.split qq.tx (Str.ofString " ") = qq.ws from Ln.split qok]
   refine ⟨x,l2,qq,st,Hs,rfl,ae,qok,can,sm,R.same (au hl2 _),fun G' R'=>⟨_,rfl,eB ⟨_,rfl,R'⟩⟩⟩
 ·rintro σ G ⟨y,rfl,R⟩
  rw [List.length_map,List.length_map,List.take_length,e1] at R
  obtain ⟨dx2,L2,U2,A2,xs,hx2,hL2,hU2,hA2,m1,m2,m3,sH,la⟩:=id R.out
  refine ⟨_,rfl,x,_,dx2,_,_,rfl,hx2,T.cl_Reading,T.na_Reading_turns,rfl,z5,fun l3 hl3=>?_⟩
  have s3:=au hl3 (.lst [])
  refine ⟨U2,l3,[],rfl,rfl,SqL.of (s3 _ _ hU2),SqL.of ae,_,rfl,eB ?_⟩
  generalize upd G l3 (.lst []) = G3 at s3 ⊢
  refine ⟨_,rfl,x,_,dx2,_,_,rfl,s3 _ _ hx2,T.cl_Reading,T.na_Reading_lists,rfl,L2,_,_,_,rfl,rfl,SqL.of (s3 _ _ hL2),rfl,?_⟩
  refine q A2 xs G3 ?_ (s3 _ _ hA2) (la.mono fun _ _ _ z=>z.same (hidS_sub.trans s3)) (((hsS.trans sH).trans hidS_sub).trans s3)
  cases e:H A2 with
  | none=>rfl
  | some u =>
   have:=(hsS.trans sH) _ _ e
   rw [hidS_no (by simp)] at this
   cases this
def sfL:List Str:=["one","r","q","t","u","c","s","x","y","k","v","e","z","h","l","d","p0","p1","p2","p3","a0","a1","b0","b1","w","f"]
def sfx (i:Nat):Str:=sfL.getD i ""
def nm (z:Str) (i:Nat):Str:=z ++ sfx i
theorem sfx_inj {i j:Nat} (hi:i < 26) (hj:j < 26) (h:sfx i = sfx j):i = j:=by
 have a:(List.range 26).all (fun i=>(List.range 26).all fun j=>decide (sfx i = sfx j->i = j)) = true:=by decide +kernel
 exact of_decide_eq_true (List.all_eq_true.mp (List.all_eq_true.mp a i (List.mem_range.mpr hi)) j (List.mem_range.mpr hj)) h
theorem nm_inj {z:Str} {i j:Nat} (hi:i < 26) (hj:j < 26) (h:nm z i = nm z j):i = j:=by
 refine sfx_inj hi hj ?_
 have e:(z ++ sfx i).cps = (z ++ sfx j).cps:=congrArg Str.cps h
 have e:z.cps ++ (sfx i).cps = z.cps ++ (sfx j).cps:=e
 have e:=congrArg Array.toList e
 rw [Array.toList_append,Array.toList_append] at e
 have e:=List.append_cancel_left e
 cases hx:sfx i with
 | mk a =>
  cases hy:sfx j with
  | mk b =>
   rw [hx,hy] at e
   congr 1
   exact Array.ext' e
def ZNs:List Str:=["","a","zz","t1","q"]
def nmOk (z:Str) (i:Nat):Bool:=decide (1<=(nm z i).length) && decide ((nm z i).length<=5) && (match (nm z i).cps[0]? with | some n=>inS LT ⟨#[n]⟩ | none=>false) && (nm z i).cps.toList.all (fun n=>inS LF ⟨#[n]⟩) && decide (32 ∉ (nm z i).cps.toList) && decide (10 ∉ (nm z i).cps.toList) && decide (nm z i ≠ "-")
theorem nm_all:ZNs.all (fun z=>(List.range 26).all (nmOk z)) = true:=by decide +kernel
theorem nm_of {z:Str} (hz:z ∈ ZNs) {i:Nat} (hi:i < 26):Rg (nm z i)/\Wd1 (nm z i)/\nm z i ≠ "-":=by
 have a:=List.all_eq_true.mp (List.all_eq_true.mp nm_all z hz) i (List.mem_range.mpr hi)
 unfold nmOk at a
 simp only [Bool.and_eq_true,decide_eq_true_eq,List.all_eq_true] at a
 obtain ⟨⟨⟨⟨⟨⟨a1,a2⟩,a3⟩,a4⟩,a5⟩,a6⟩,a7⟩:=a
 refine ⟨⟨⟨a1,fun n e=>?_,a4⟩,by lia⟩,⟨a5,a6,by lia⟩,a7⟩
 rw [e] at a3
 exact a3
theorem nm_fv {z:Str} (hz:z ∈ ZNs) {i:Nat} (hi:i < 26):FvOk (.str (nm z i)):=.inr (.inr ⟨_,rfl,(nm_of hz hi).2⟩)
inductive RN where
 | set (g:Nat) (b:Int)
 | copy (g a:Nat)
 | car (k g:Nat) (c:Option Nat) (a b:Nat)
 | jn (k g a b:Nat)
 | mv (k g a:Nat) (j:Int)
 | pick (g y a b:Nat)
 | mark (n:Int) (m:Str) (y:Nat)
def RN.to (z:Str):RN->Rw
 | .set g b=>.set (nm z g) b
 | .copy g a=>.copy (nm z g) (nm z a)
 | .car k g c a b=>.car k (nm z g) (c.map (nm z)) (nm z a) (nm z b)
 | .jn k g a b=>.jn k (nm z g) (nm z a) (nm z b)
 | .mv k g a j=>.mv k (nm z g) (nm z a) j
 | .pick g y a b=>.pick (nm z g) (nm z y) (nm z a) (nm z b)
 | .mark n m y=>.mark n m (nm z y)
def RN.ok (w:Int):RN->Prop
 | .set g b=>g < 26/\0<=b/\b<=1
 | .copy g a=>g < 26/\a < 26
 | .car k g c a b=>(k = 2\/k = 3)/\g < 26/\(∀ i,c = some i->i < 26)/\a < 26/\b < 26
 | .jn k g a b=>(k = 4\/k = 5\/k = 9\/k = 10\/k = 11\/k = 12)/\g < 26/\a < 26/\b < 26
 | .mv k g a j=>(k = 6\/k = 7\/k = 8)/\g < 26/\a < 26/\0<=j/\j < w
 | .pick g y a b=>g < 26/\y < 26/\a < 26/\b < 26
 | .mark n m y=>0<=n/\n<=10/\(m = "round"\/m = "stop"\/m = "nothing")/\y < 26
theorem RN.rw {w:Int} {z:Str} (hz:z ∈ ZNs) (w0:4<=w) (w1:w<=32) {r:RN} (h:r.ok w):(r.to z).ok w/\(r.to z).tx:=by
 have n:=fun {i:Nat} (hi:i < 26)=>(nm_of hz hi).1
 have f:=fun {i:Nat} (hi:i < 26)=>nm_fv hz hi
 have nu:∀ i:Int,0<=i->i < 70->FvOk (.int i):=fun i a b=>.inr (.inl ⟨i.toNat,by rw [Int.toNat_of_nonneg a],by lia⟩)
 have p16:(16:Int)<=2 ^ w.toNat:=by
  have:=pow_mono w0
  exact Int.le_trans (by decide) this
 have two:∀ {P:V->Prop} {a b:V},P a->P b->∀ v ∈ [a,b],P v:=fun h1 h2=>List.forall_mem_cons.mpr ⟨h1,List.forall_mem_cons.mpr ⟨h2,fun _ h=>nomatch h⟩⟩
 have three:∀ {P:V->Prop} {a b c:V},P a->P b->P c->∀ v ∈ [a,b,c],P v:=fun h1 h2 h3=>List.forall_mem_cons.mpr ⟨h1,two h2 h3⟩
 have four:∀ {P:V->Prop} {a b c d:V},P a->P b->P c->P d->∀ v ∈ [a,b,c,d],P v:=fun h1 h2 h3 h4=>List.forall_mem_cons.mpr ⟨h1,three h2 h3 h4⟩
 cases r with
 | set g b=>exact ⟨⟨n h.1,h.2.1,by have:=h.2.2; lia⟩,two (f h.1) (nu _ h.2.1 (by have:=h.2.2; lia))⟩
 | copy g a=>exact ⟨⟨n h.1,n h.2⟩,two (f h.1) (f h.2)⟩
 | car k g c a b =>
  obtain ⟨h1,h2,h3,h4,h5⟩:=h
  cases c with
  | none=>exact ⟨⟨h1,n h2,(fun z e=>nomatch e),n h4,n h5⟩,four (f h2) (.inl rfl) (f h4) (f h5)⟩
  | some i=>exact ⟨⟨h1,n h2,(fun z e=>by cases e; exact n (h3 i rfl)),n h4,n h5⟩,four (f h2) (f (h3 i rfl)) (f h4) (f h5)⟩
 | jn k g a b=>exact ⟨⟨h.1,n h.2.1,n h.2.2.1,n h.2.2.2⟩,three (f h.2.1) (f h.2.2.1) (f h.2.2.2)⟩
 | mv k g a j=>exact ⟨⟨h.1,n h.2.1,n h.2.2.1,h.2.2.2⟩,three (f h.2.1) (f h.2.2.1) (nu _ h.2.2.2.1 (by have:=h.2.2.2.2; lia))⟩
 | pick g y a b=>exact ⟨⟨n h.1,n h.2.1,n h.2.2.1,n h.2.2.2⟩,four (f h.1) (f h.2.1) (f h.2.2.1) (f h.2.2.2)⟩
 | mark k m y =>
  obtain ⟨h1,h2,h3,h4⟩:=h
  refine ⟨⟨h1,by lia,h3,n h4⟩,three (nu _ h1 (by lia)) ?_ (f h4)⟩
  have mw:∀ s ∈ (["round","stop","nothing"]:List Str),Wd1 s/\s ≠ "-":=by unfold Wd1; decide +kernel
  have:m ∈ (["round","stop","nothing"]:List Str):=by
   rcases h3 with rfl | rfl | rfl <;> simp
  exact .inr (.inr ⟨m,rfl,mw m this⟩)
def RN.inN (ns:List Nat):RN->Prop
 | .set g _=>g ∈ ns
 | .copy g _=>g ∈ ns
 | .car _ g c _ _=>g ∈ ns/\∀ i,c = some i->i ∈ ns
 | .jn _ g _ _=>g ∈ ns
 | .mv _ g _ _=>g ∈ ns
 | .pick g _ _ _=>g ∈ ns
 | .mark ..=>True
theorem RN.inz {z:Str} {ns:List Nat} {r:RN} (h:r.inN ns):(r.to z).inZ (ns.map (nm z)):=by
 have n:=fun {i:Nat} (hi:i ∈ ns)=>List.mem_map_of_mem (f:=nm z) hi
 cases r with
 | car k g c a b=>cases c with
  | none=>exact ⟨n h.1,fun z e=>nomatch e⟩
  | some i=>exact ⟨n h.1,fun z e=>by cases e; exact n (h.2 i rfl)⟩
 | mark k m y=>exact trivial
 | _=>exact n h
def RN.act (w:Int) (f:Nat->Int):RN->Nat->Int
 | .set g b=>fun i=>if i = g then b else f i
 | .copy g a=>fun i=>if i = g then f a else f i
 | .car k g c a b=>match c with
  | none=>fun i=>if i = g then cr0 w k (f a) (f b) else f i
  | some y=>fun i=>if i = y then cr1 w k (f a) (f b) else if i = g then cr0 w k (f a) (f b) else f i
 | .jn k g a b=>fun i=>if i = g then jnV w k (f a) (f b) else f i
 | .mv k g a j=>fun i=>if i = g then mvV w k (f a) j else f i
 | .pick g y a b=>fun i=>if i = g then f (if f y ≠ 0 then a else b) else f i
 | .mark ..=>f
def RN.mk (f:Nat->Int):RN->Option (V × V)
 | .mark n m y=>if f y ≠ 0 then some (.int n,.str m) else none
 | _=>none
theorem gI_put (kvs:List (Key × V)) (z z':Str) (n:Int):gI (fk kvs (.inr z) (.int n)) z' = if z' = z then n else gI kvs z':=by
 unfold gI
 rw [o8]
 by_cases c:z' = z
 ·rw [if_pos (by rw [c]),if_pos c]
 ·rw [if_neg (fun e=>c (by injection e)),if_neg c]
def Vw (z:Str) (kvs:List (Key × V)) (f:Nat->Int):Prop:=∀ i,i < 26->gI kvs (nm z i) = f i
theorem Vw.st {z:Str} {kvs:List (Key × V)} {f:Nat->Int} (h:Vw z kvs f) {g:Nat} (hg:g < 26) {v v':Int} (e:v = v'):Vw z (stK kvs (nm z g) v) fun i=>if i = g then v' else f i:=fun i hi=>by
 unfold stK
 rw [gI_put,e]
 by_cases c:i = g
 ·rw [if_pos (by rw [c])]
  exact (if_pos c).symm
 ·rw [if_neg (fun q=>c (nm_inj hi hg q)),h i hi]
  exact (if_neg c).symm
theorem Vw.act {z:Str} {kvs:List (Key × V)} {f:Nat->Int} (h:Vw z kvs f) {w v:Int} {r:RN} (ok:r.ok v):Vw z ((r.to z).act w kvs) (r.act w f)/\(r.to z).mk kvs = r.mk f:=by
 cases r with
 | set g b=>exact ⟨h.st ok.1 rfl,rfl⟩
 | copy g a=>exact ⟨h.st ok.1 (h a ok.2),rfl⟩
 | car k g c a b =>
  obtain ⟨h1,h2,h3,h4,h5⟩:=ok
  cases c with
  | none=>exact ⟨h.st h2 (by rw [h a h4,h b h5]),rfl⟩
  | some y=>exact ⟨(h.st h2 (by rw [h a h4,h b h5])).st (h3 y rfl) (by rw [h a h4,h b h5]),rfl⟩
 | jn k g a b=>exact ⟨h.st ok.2.1 (by rw [h a ok.2.2.1,h b ok.2.2.2]),rfl⟩
 | mv k g a j=>exact ⟨h.st ok.2.1 (by rw [h a ok.2.2.1]),rfl⟩
 | pick g y a b =>
  refine ⟨h.st ok.1 ?_,rfl⟩
  rw [h y ok.2.1]
  by_cases c:f y ≠ 0
  ·rw [if_pos c,if_pos c,h a ok.2.2.1]
  ·rw [if_neg c,if_neg c,h b ok.2.2.2]
 | mark n m y =>
  refine ⟨h,?_⟩
  show (if gI kvs (nm z y) ≠ 0 then _ else _) = if f y ≠ 0 then _ else _
  rw [h y ok.2.2.2]
def bf (w:Int) (f:Nat->Int) (rs:List RN):Nat->Int:=rs.foldl (RN.act w) f
def mkN (w:Int):(Nat->Int)->List RN->List (V × V)
 | _,[]=>[]
 | f,r :: t=>mkL (r.mk f) ++ mkN w (r.act w f) t
theorem Vw.all {z:Str} {w v:Int}:∀ {rs:List RN} {kvs:List (Key × V)} {f:Nat->Int},Vw z kvs f->(∀ r ∈ rs,r.ok v)->Vw z (ba w kvs (rs.map (RN.to z))) (bf w f rs)/\bF w kvs (rs.map (RN.to z)) = mkN w f rs
 | [],_,_,h,_=>⟨h,rfl⟩
 | r :: t,kvs,f,h,ok=>by
  obtain ⟨a,b⟩:=h.act (w:=w) (ok r (List.mem_cons_self ..))
  obtain ⟨a2,b2⟩:=Vw.all a fun q hq=>ok q (List.mem_cons_of_mem _ hq)
  refine ⟨a2,?_⟩
  show mkL ((r.to z).mk kvs) ++ bF w ((r.to z).act w kvs) (t.map (RN.to z)) = mkL (r.mk f) ++ mkN w (r.act w f) t
  rw [b,b2]
theorem or2 (a b:Nat) (h:b < 2):(2 * a) ||| b = 2 * a + b:=by
 have:=Nat.two_pow_add_eq_or_of_lt (i:=1) (b:=b) (by lia) a
 rw [Nat.pow_one] at this
 exact this.symm
theorem or01 {a b:Nat} (h:a < 2) (k:b < 2):a ||| b = if a = 1\/b = 1 then 1 else 0:=by
 rcases (by lia:a = 0\/a = 1) with rfl | rfl <;> rcases (by lia:b = 0\/b = 1) with rfl | rfl <;> rfl
theorem div_bit {P K H L D R A Q:Nat} (hP:0 < P) (hK:0 < K) (hD:D < 2 * (P * K)) (hR:R < D) (hA:A < K) (hQ:Q = (L % (2 * P)) * K + A) (hN:A * D + R = H * K + L / (2 * P)) :
  ∃ u t r2 c3:Nat,u = Q / (P * K)/\u < 2/\t = R / (P * K)/\t < 2/\r2 = (R * 2) % (2 * (P * K)) + u/\(R * 2) % (2 * (P * K)) = 2 * (R % (P * K))/\(Q * 2) % (2 * (P * K)) = 2 * (Q % (P * K))/\r2 < 2 * (P * K) /\
   c3 = (if D<=r2\/t = 1 then 1 else 0) /\
   (c3 = 1->(((r2:Int) - D) % ((2 * (P * K):Nat):Int) = ((2 * R + u:Nat):Int) - D)/\D<=2 * R + u/\2 * R + u - D < D)/\(c3 = 0->r2 = 2 * R + u/\r2 < D) /\
   (Q * 2) % (2 * (P * K)) + c3 = (L % P) * (2 * K) + (2 * A + c3)/\2 * A + c3 < 2 * K/\(2 * A + c3) * D + (2 * R + u - c3 * D) = H * (2 * K) + L / P:=by
 have hPK:0 < P * K:=Nat.mul_pos hP hK
 have lo2:L % (2 * P) < 2 * P:=Nat.mod_lt _ (by lia)
 have q1:Q / K = L % (2 * P):=by
  rw [hQ,Nat.add_comm,Nat.add_mul_div_right _ _ hK,Nat.div_eq_of_lt hA,Nat.zero_add]
 have eu:Q / (P * K) = L % (2 * P) / P:=by rw [Nat.mul_comm P K,<- Nat.div_div_eq_div_mul,q1]
 have u2:L % (2 * P) / P < 2:=Nat.div_lt_of_lt_mul (by lia)
 have uq:Q / (P * K) < 2:=by rw [eu]; exact u2
 have elp:L % (2 * P) % P = L % P:=Nat.mod_mod_of_dvd _ ⟨2,by rw [Nat.mul_comm]⟩
 have eq:Q % (P * K) = (L % P) * K + A:=by
  have h1:=Nat.div_add_mod Q (P * K)
  rw [eu] at h1
  have h2:=Nat.div_add_mod (L % (2 * P)) P
  rw [elp] at h2
  have h3:L % (2 * P) * K = P * K * (L % (2 * P) / P) + (L % P) * K:=by
   calc L % (2 * P) * K = (P * (L % (2 * P) / P) + L % P) * K:=by rw [h2]
    _ = _:=by rw [Nat.add_mul,Nat.mul_right_comm]
  lia
 have m2:∀ x,(x * 2) % (2 * (P * K)) = 2 * (x % (P * K)):=fun x=>by rw [Nat.mul_comm x 2,Nat.mul_mod_mul_left]
 have t2:R / (P * K) < 2:=Nat.div_lt_of_lt_mul (by lia)
 have hR2:=Nat.div_add_mod R (P * K)
 have rl:=Nat.mod_lt R hPK
 have eL:L / P = 2 * (L / (2 * P)) + L % (2 * P) / P:=by
  have h1:=Nat.div_add_mod L (2 * P)
  have:L = P * (2 * (L / (2 * P))) + L % (2 * P):=by rw [<- Nat.mul_assoc,Nat.mul_comm P 2]; lia
  rw [this,Nat.mul_add_div hP]
  congr 1
  ·rw [<- this]
  ·rw [<- this]
 refine ⟨Q / (P * K),R / (P * K),(R * 2) % (2 * (P * K)) + Q / (P * K),_,rfl,by lia,rfl,t2,rfl,m2 R,m2 Q,by rw [m2]; lia,rfl,?_⟩
 rw [m2,m2,eq,eu,eL]
 generalize L % (2 * P) / P = u at *
 generalize hh:P * K = h at *
 generalize R / h = t at *
 generalize R % h = rm at *
 have ht:t = 0/\rm = R\/t = 1/\R = h + rm:=by
  rcases (by lia:t = 0\/t = 1) with rfl | rfl
  ·exact .inl ⟨rfl,by lia⟩
  ·exact .inr ⟨rfl,by lia⟩
 have dist:∀ c:Nat,(2 * A + c) * D = 2 * (A * D) + c * D:=fun c=>by rw [Nat.add_mul,Nat.mul_assoc]
 have d2:(L % P) * (2 * K) = 2 * ((L % P) * K):=by rw [Nat.mul_left_comm]
 have d3:H * (2 * K) = 2 * (H * K):=by rw [Nat.mul_left_comm]
 rw [dist,d2,d3]
 split
 ·rename_i c
  refine ⟨fun _=>⟨?_,?_,?_⟩,(fun z=>absurd z (by decide)),by lia,by lia,?_⟩
  ·rcases ht with ⟨e1,e2⟩ | ⟨e1,e2⟩
   ·rw [Int.emod_eq_of_lt (by lia) (by lia)]; lia
   ·have:(((2 * rm + u:Nat):Int) - D) = (((2 * R + u:Nat):Int) - D) - ((2 * h:Nat):Int) * 1:=by lia
    rw [this,Int.sub_mul_emod_self_left]
    exact Int.emod_eq_of_lt (by lia) (by lia)
  ·lia
  ·lia
  ·lia
 ·rename_i c
  refine ⟨(fun z=>absurd z (by decide)),fun _=>⟨by lia,by lia⟩,by lia,by lia,by lia⟩
theorem mul_mid {M p0 p1 p2 p3 ab:Int} :
  ∃ c:Int,p0 + (p1 + ab % M) % M * M + ((p2 + (p1 + ab % M) / M) % M + ab / M) % M * (M * M) + ((p3 + (p2 + (p1 + ab % M) / M) / M) % M + ((p2 + (p1 + ab % M) / M) % M + ab / M) / M) % M * (M * M * M) + c * (M * M * M * M) = p0 + p1 * M + p2 * (M * M) + p3 * (M * M * M) + ab * M:=by
 have e0:=Int.mul_ediv_add_emod ab M
 generalize ab / M = w2 at *
 generalize ab % M = w1 at *
 have e1:=Int.mul_ediv_add_emod (p1 + w1) M
 generalize (p1 + w1) / M = k at *
 generalize (p1 + w1) % M = q1 at *
 have e2:=Int.mul_ediv_add_emod (p2 + k) M
 generalize (p2 + k) / M = f at *
 generalize (p2 + k) % M = q2 at *
 have e3:=Int.mul_ediv_add_emod (p3 + f) M
 generalize (p3 + f) / M = c1 at *
 generalize (p3 + f) % M = q3 at *
 have e4:=Int.mul_ediv_add_emod (q2 + w2) M
 generalize (q2 + w2) / M = k2 at *
 generalize (q2 + w2) % M = r2 at *
 have e5:=Int.mul_ediv_add_emod (q3 + k2) M
 generalize (q3 + k2) / M = c2 at *
 generalize (q3 + k2) % M = r3 at *
 refine ⟨c1 + c2,?_⟩
 obtain rfl:ab = M * w2 + w1:=by lia
 obtain rfl:q1 = p1 + w1 - M * k:=by lia
 obtain rfl:q2 = p2 + k - M * f:=by lia
 obtain rfl:q3 = p3 + f - M * c1:=by lia
 obtain rfl:r2 = p2 + k - M * f + w2 - M * k2:=by lia
 obtain rfl:r3 = p3 + f - M * c1 + k2 - M * c2:=by lia
 clear e0 e1 e2 e3 e4 e5
 grind
theorem mul_end {M p0 p1 p2 p3 ab:Int} :
  ∃ c:Int,p0 + p1 * M + (p2 + ab % M) % M * (M * M) + ((p3 + ab / M) % M + (p2 + ab % M) / M) % M * (M * M * M) + c * (M * M * M * M) = p0 + p1 * M + p2 * (M * M) + p3 * (M * M * M) + ab * (M * M):=by
 have e0:=Int.mul_ediv_add_emod ab M
 generalize ab / M = w2 at *
 generalize ab % M = w1 at *
 have e1:=Int.mul_ediv_add_emod (p2 + w1) M
 generalize (p2 + w1) / M = k at *
 generalize (p2 + w1) % M = q2 at *
 have e3:=Int.mul_ediv_add_emod (p3 + w2) M
 generalize (p3 + w2) / M = c1 at *
 generalize (p3 + w2) % M = q3 at *
 have e5:=Int.mul_ediv_add_emod (q3 + k) M
 generalize (q3 + k) / M = c2 at *
 generalize (q3 + k) % M = r3 at *
 refine ⟨c1 + c2,?_⟩
 obtain rfl:ab = M * w2 + w1:=by lia
 obtain rfl:q2 = p2 + w1 - M * k:=by lia
 obtain rfl:q3 = p3 + w2 - M * c1:=by lia
 obtain rfl:r3 = p3 + w2 - M * c1 + k - M * c2:=by lia
 clear e0 e1 e3 e5
 grind
theorem four_lt {M a b c d:Int} (hM:0 < M) (a0:0<=a) (a1:a < M) (b0:0<=b) (b1:b < M) (c0:0<=c) (c1:c < M) (d0:0<=d) (d1:d < M):0<=a + b * M + c * (M * M) + d * (M * M * M)/\a + b * M + c * (M * M) + d * (M * M * M) < M * M * M * M:=by
 have h1:0<=b * M:=Int.mul_nonneg b0 (by lia)
 have h2:0<=M * M:=Int.mul_nonneg (by lia) (by lia)
 have h3:0<=c * (M * M):=Int.mul_nonneg c0 h2
 have h4:0<=M * M * M:=Int.mul_nonneg h2 (by lia)
 have h5:0<=d * (M * M * M):=Int.mul_nonneg d0 h4
 have k1:b * M<=(M - 1) * M:=Int.mul_le_mul_of_nonneg_right (by lia) (by lia)
 have k2:c * (M * M)<=(M - 1) * (M * M):=Int.mul_le_mul_of_nonneg_right (by lia) h2
 have k3:d * (M * M * M)<=(M - 1) * (M * M * M):=Int.mul_le_mul_of_nonneg_right (by lia) h4
 rw [Int.sub_mul,Int.one_mul] at k1 k2 k3
 have e1:M * (M * M) = M * M * M:=(Int.mul_assoc ..).symm
 have e2:M * (M * M * M) = M * M * M * M:=by grind
 rw [e1] at k2
 rw [e2] at k3
 lia
theorem mul_all {M a0 a1 b0 b1 X:Int} (hM:0 < M) (ha0:0<=a0/\a0 < M) (ha1:0<=a1/\a1 < M) (hb0:0<=b0/\b0 < M) (hb1:0<=b1/\b1 < M) (hX:0<=X/\X < M * M * M * M) {c:Int}
  (h:X + c * (M * M * M * M) = a0 * b0 + a0 * b1 * M + a1 * b0 * M + a1 * b1 * (M * M)):X = (a1 * M + a0) * (b1 * M + b0):=by
 have e:a0 * b0 + a0 * b1 * M + a1 * b0 * M + a1 * b1 * (M * M) = (a1 * M + a0) * (b1 * M + b0):=by grind
 rw [e] at h
 have lim:∀ x y:Int,0<=x->x < M->0<=y->y < M->0<=x * M + y/\x * M + y<=M * M - 1:=fun x y h1 h2 h3 h4=>by
  have:=Int.mul_nonneg h1 (Int.le_of_lt hM)
  have k:x * M<=(M - 1) * M:=Int.mul_le_mul_of_nonneg_right (by lia) (by lia)
  rw [Int.sub_mul,Int.one_mul] at k
  lia
 obtain ⟨A0,A1⟩:=lim a1 a0 ha1.1 ha1.2 ha0.1 ha0.2
 obtain ⟨B0,B1⟩:=lim b1 b0 hb1.1 hb1.2 hb0.1 hb0.2
 generalize a1 * M + a0 = A at *
 generalize b1 * M + b0 = B at *
 have hMM:0 < M * M:=Int.mul_pos hM hM
 have p0:=Int.mul_nonneg A0 B0
 have p1:A * B<=(M * M - 1) * (M * M - 1):=Int.mul_le_mul A1 B1 B0 (by lia)
 have e4:(M * M - 1) * (M * M - 1) = M * M * M * M - 2 * (M * M) + 1:=by grind
 rw [e4] at p1
 have h4:0 < M * M * M * M:=by have:=Int.mul_pos hMM hMM; grind
 generalize M * M * M * M = N at *
 have c0:c = 0:=by
  rcases Int.lt_trichotomy c 0 with q | q | q
  ·have:c * N<=(-1) * N:=Int.mul_le_mul_of_nonneg_right (by lia) (by lia)
   lia
  ·exact q
  ·have:1 * N<=c * N:=Int.mul_le_mul_of_nonneg_right (by lia) (by lia)
   lia
 rw [c0,Int.zero_mul] at h
 lia
theorem back {M q D R H L:Int} (hM:0 < M) (h:q * D + R = H * M + L) (hH:0<=H/\H < M) (hL:0<=L/\L < M) :
  (q * D % M + R) % M = L/\(q * D / M + (q * D % M + R) / M) % M = H/\(q * D / M + (q * D % M + R) / M) / M = 0:=by
 have e1:=Int.mul_ediv_add_emod (q * D) M
 generalize q * D / M = y at *
 generalize q * D % M = x at *
 have e2:x + R = L + M * (H - y):=by rw [Int.mul_sub,Int.mul_comm M H]; lia
 have e3:(x + R) % M = L:=by rw [e2,Int.add_mul_emod_self_left]; exact Int.emod_eq_of_lt hL.1 hL.2
 have e4:(x + R) / M = H - y:=by rw [e2,Int.add_mul_ediv_left _ _ (by lia),Int.ediv_eq_zero_of_lt hL.1 hL.2,Int.zero_add]
 rw [e4,show y + (H - y) = H by lia]
 exact ⟨e3,Int.emod_eq_of_lt hH.1 hH.2,Int.ediv_eq_zero_of_lt hH.1 hH.2⟩
theorem xor_bit {c:Nat} (h:c < 2):Builtin.bitXor (c:Int) 1 = ((1 - c:Nat):Int):=by
 rcases (by lia:c = 0\/c = 1) with rfl | rfl <;> decide
theorem and_natv (x y:Nat):Builtin.bitAnd (x:Int) (y:Int) = ((x &&& y:Nat):Int):=by
 unfold Builtin.bitAnd
 rw [decide_eq_true (show (0:Int)<=x by lia),decide_eq_true (show (0:Int)<=y by lia)]
 rfl
theorem pH (x:Nat):Builtin.bitXor (x:Int) (x:Int) = 0:=by
 unfold Builtin.bitXor
 rw [kb,and_natv,Nat.or_self,Nat.and_self]
 lia
def fo (w:Int):List RN:=[.mv 7 3 1 (w - 1),.mv 6 1 1 1,.mv 7 4 2 (w - 1),.jn 10 1 1 4,.mv 6 2 2 1,.jn 12 5 1 15,.jn 11 5 5 0,.jn 10 5 5 3,.car 3 6 none 1 15,.pick 1 5 6 1,.jn 10 2 2 5]
def preN:List RN:=[.set 0 1,.copy 1 13,.copy 2 14]
def j5 (w:Int):List RN:=[.jn 4 7 2 15,.jn 5 8 2 15,.car 2 7 (some 9) 7 1,.car 2 8 (some 10) 8 9,.jn 11 11 7 14,.mark 1 "round" 11,.jn 11 11 8 13,.mark 2 "stop" 11,.mark 3 "nothing" 10,.mark 4 "stop" 0,.mv 8 12 14 (w - 1)]
structure DvI (w:Int) (D Hh L i:Nat) (f:Nat->Int):Prop where
 f0:f 0 = 1
 f15:f 15 = (D:Int)
 f14:f 14 = (L:Int)
 f13:f 13 = (Hh:Int)
 st:∃ A R Q:Nat,f 1 = (R:Int)/\f 2 = (Q:Int)/\R < D/\A < 2 ^ i/\Q = (L % 2 ^ (w.toNat - i)) * 2 ^ i + A/\A * D + R = Hh * 2 ^ i + L / 2 ^ (w.toNat - i)
theorem DvI.step {w:Int} {D Hh L i:Nat} {f:Nat->Int} (w0:4<=w) (w1:w<=32) (hi:i < w.toNat) (hD:D < 2 ^ w.toNat) (h:DvI w D Hh L i f):DvI w D Hh L (i + 1) (bf w f (fo w)):=by
 obtain ⟨f0,f15,f14,f13,A,R,Q,h1,h2,hR,hA,hQ,hN⟩:=h
 obtain ⟨m,hm⟩:∃ m,w.toNat = i + m + 1:=⟨w.toNat - i - 1,by lia⟩
 have hm1:(w - 1).toNat = i + m:=by lia
 have e1:w.toNat - i = m + 1:=by lia
 have e2:w.toNat - (i + 1) = m:=by lia
 have p1:(2:Nat) ^ (m + 1) = 2 * 2 ^ m:=by rw [Nat.pow_succ,Nat.mul_comm]
 have p2:(2:Nat) ^ (i + 1) = 2 * 2 ^ i:=by rw [Nat.pow_succ,Nat.mul_comm]
 have p3:(2:Nat) ^ (i + m) = 2 ^ m * 2 ^ i:=by rw [Nat.pow_add,Nat.mul_comm]
 have p4:(2:Nat) ^ w.toNat = 2 * (2 ^ m * 2 ^ i):=by rw [hm,Nat.pow_succ,p3,Nat.mul_comm]
 rw [e1,p1] at hQ hN
 rw [p4] at hD
 have hP:0 < 2 ^ m:=Nat.pow_pos (by decide)
 have hK:0 < 2 ^ i:=Nat.pow_pos (by decide)
 obtain ⟨u,t,r2,c3,eu,u2,et,t2,er2,er1,eq1,r2l,ec3,hc1,hc0,n1,n2,n3⟩:=div_bit hP hK hD hR hA hQ hN
 have i3:((2:Int) ^ (w - 1).toNat) = ((2 ^ m * 2 ^ i:Nat):Int):=by rw [hm1,<- p3]; push_cast; rfl
 have i4:(1 * (2:Int) ^ w.toNat) = ((2 * (2 ^ m * 2 ^ i):Nat):Int):=by rw [Int.one_mul,<- p4]; push_cast; rfl
 generalize hPK:2 ^ m * 2 ^ i = h at *
 have vt:mvV w 7 (f 1) (w - 1) = (t:Int):=by
  show f 1 / 2 ^ (w - 1).toNat = _
  rw [h1,i3,et]; exact Int.natCast_ediv .. |>.symm
 have vr1:mvV w 6 (f 1) 1 = ((2 * (R % h):Nat):Int):=by
  show (f 1 * 2 ^ (1:Int).toNat) % (1 * 2 ^ w.toNat) = _
  rw [h1,i4,<- er1]
  show ((R:Int) * 2 ^ 1) % _ = _
  push_cast; rfl
 have vu:mvV w 7 (f 2) (w - 1) = (u:Int):=by
  show f 2 / 2 ^ (w - 1).toNat = _
  rw [h2,i3,eu]; exact Int.natCast_ediv .. |>.symm
 have vr2:jnV w 10 ((2 * (R % h):Nat):Int) (u:Int) = (r2:Int):=by
  show Builtin.bitOr _ _ = _
  rw [kb,or2 _ _ u2,er2,er1]
 have vq1:mvV w 6 (f 2) 1 = ((2 * (Q % h):Nat):Int):=by
  show (f 2 * 2 ^ (1:Int).toNat) % (1 * 2 ^ w.toNat) = _
  rw [h2,i4,<- eq1]
  show ((Q:Int) * 2 ^ 1) % _ = _
  push_cast; rfl
 have vc3:jnV w 10 (jnV w 11 (jnV w 12 (r2:Int) (D:Int)) 1) (t:Int) = (c3:Int):=by
  have a:jnV w 12 (r2:Int) (D:Int) = ((if r2 < D then 1 else 0:Nat):Int):=by
   show (if (r2:Int) < (D:Int) then (1:Int) else 0) = _
   by_cases c:r2 < D
   ·rw [if_pos c,if_pos (by lia)]; rfl
   ·rw [if_neg c,if_neg (by lia)]; rfl
  rw [a]
  show Builtin.bitOr (Builtin.bitXor _ 1) _ = _
  rw [xor_bit (by split <;> decide),kb,ec3]
  by_cases c:r2 < D
  ·rw [if_pos c,or01 (by decide) t2]
   by_cases c':t = 1
   ·rw [if_pos (.inr c'),if_pos (.inr c')]
   ·rw [if_neg (by lia),if_neg (by lia)]
  ·rw [if_neg c,or01 (by decide) t2,if_pos (.inl rfl),if_pos (.inl (by lia))]
 have b5:bf w f ((fo w).take 9) 5 = (c3:Int):=by
  have e:bf w f ((fo w).take 9) 5 = jnV w 10 (jnV w 11 (jnV w 12 (jnV w 10 (mvV w 6 (f 1) 1) (mvV w 7 (f 2) (w - 1))) (f 15)) (f 0)) (mvV w 7 (f 1) (w - 1)):=rfl
  rw [e,vr1,vu,vt,vr2,f15,f0,vc3]
 have b1:bf w f ((fo w).take 9) 1 = (r2:Int):=by
  have e:bf w f ((fo w).take 9) 1 = jnV w 10 (mvV w 6 (f 1) 1) (mvV w 7 (f 2) (w - 1)):=rfl
  rw [e,vr1,vu,vr2]
 have b6:bf w f ((fo w).take 9) 6 = ((r2:Int) - D) % ((2 * h:Nat):Int):=by
  have e:bf w f ((fo w).take 9) 6 = cr0 w 3 (jnV w 10 (mvV w 6 (f 1) 1) (mvV w 7 (f 2) (w - 1))) (f 15):=rfl
  rw [e,vr1,vu,vr2,f15,<- i4]
  rfl
 have g1:bf w f (fo w) 1 = ((2 * R + u - c3 * D:Nat):Int):=by
  have e:bf w f (fo w) 1 = bf w f ((fo w).take 9) (if bf w f ((fo w).take 9) 5 ≠ 0 then 6 else 1):=rfl
  rw [e,b5]
  rcases (by rw [ec3]; split <;> lia:c3 = 0\/c3 = 1) with z | z
  ·rw [if_neg (by rw [z]; decide),b1,(hc0 z).1,z]
   lia
  ·obtain ⟨q1,q2,q3⟩:=hc1 z
   rw [if_pos (by rw [z]; decide),b6,q1,z]
   lia
 have g2:bf w f (fo w) 2 = ((2 * (Q % h) + c3:Nat):Int):=by
  have e:bf w f (fo w) 2 = jnV w 10 (mvV w 6 (f 2) 1) (bf w f ((fo w).take 9) 5):=rfl
  rw [e,b5,vq1]
  show Builtin.bitOr _ _ = _
  rw [kb,or2 _ _ (by rw [ec3]; split <;> decide)]
 refine ⟨f0,f15,f14,f13,2 * A + c3,_,_,g1,g2,?_,by rw [p2]; exact n2,?_,?_⟩
 ·rcases (by rw [ec3]; split <;> lia:c3 = 0\/c3 = 1) with z | z
  ·rw [z,Nat.zero_mul,Nat.sub_zero,<- (hc0 z).1]; exact (hc0 z).2
  ·rw [z,Nat.one_mul]; exact (hc1 z).2.2
 ·rw [e2,p2,<- eq1,n1]
 ·rw [e2,p2,n3]
theorem DvI.all {w:Int} {D Hh L:Nat} {f:Nat->Int} (w0:4<=w) (w1:w<=32) (hD:D < 2 ^ w.toNat) (h:DvI w D Hh L 0 f):∀ n,n<=w.toNat->DvI w D Hh L n (bf w f (List.replicate n (fo w)).flatten)
 | 0,_=>h
 | n + 1,hn=>by
  have ih:=DvI.all w0 w1 hD h n (by lia)
  have e:bf w f (List.replicate (n + 1) (fo w)).flatten = bf w (bf w f (List.replicate n (fo w)).flatten) (fo w):=by
   rw [List.replicate_succ',List.flatten_append]
   show bf w f (_ ++ (fo w ++ [])) = _
   rw [List.append_nil]
   exact List.foldl_append ..
  rw [e]
  exact ih.step w0 w1 (by lia) hD
theorem kH (w:Int):∀ (a b:List RN) (f:Nat->Int),mkN w f (a ++ b) = mkN w f a ++ mkN w (bf w f a) b
 | [],_,_=>rfl
 | r :: t,b,f=>by
  show mkL (r.mk f) ++ mkN w (r.act w f) (t ++ b) = (mkL (r.mk f) ++ mkN w (r.act w f) t) ++ mkN w (bf w (r.act w f) t) b
  rw [kH w t b,List.append_assoc]
theorem gn (w:Int) (f:Nat->Int) (a b:List RN):bf w f (a ++ b) = bf w (bf w f a) b:=List.foldl_append ..
theorem tq (w:Int):∀ (n:Nat) (f:Nat->Int),mkN w f (List.replicate n (fo w)).flatten = []
 | 0,_=>rfl
 | n + 1,f=>by
  rw [List.replicate_succ,List.flatten_cons,kH,tq w n]
  rfl
def eZ (w:Int):List RN:=preN ++ ((List.replicate w.toNat (fo w)).flatten ++ j5 w)
theorem div_run {w:Int} (w0:4<=w) (w1:w<=32) {D Hh L:Nat} {f:Nat->Int} (h13:f 13 = (Hh:Int)) (h14:f 14 = (L:Int)) (h15:f 15 = (D:Int)) (hD:D < 2 ^ w.toNat) (hH:Hh < D) (hL:L < 2 ^ w.toNat) :
  ∃ q r:Nat,bf w f (eZ w) 2 = (q:Int)/\bf w f (eZ w) 1 = (r:Int)/\r < D/\q < 2 ^ w.toNat/\(q:Int) * D + r = Hh * 2 ^ w.toNat + L/\bf w f (eZ w) 7 = (L:Int)/\bf w f (eZ w) 8 = (Hh:Int)/\bf w f (eZ w) 10 = 0/\bf w f (eZ w) 12 = ((2:Int) ^ w.toNat - 1) * (if (2:Int) ^ w.toNat<=2 * L then 1 else 0)/\mkN w f (eZ w) = [(.int 4,.str "stop")]:=by
 have d0:DvI w D Hh L 0 (bf w f preN):=by
  refine ⟨rfl,h15,h14,h13,0,Hh,L,h13,h14,hH,by decide,?_,?_⟩
  ·rw [Nat.sub_zero,Nat.mod_eq_of_lt hL]; lia
  ·rw [Nat.sub_zero,Nat.div_eq_of_lt hL]; lia
 obtain ⟨f0,f15,f14,f13,A,R,Q,h1,h2,hR,hA,hQ,hN⟩:=d0.all w0 w1 hD w.toNat (Nat.le_refl _)
 rw [Nat.sub_self,Nat.pow_zero,Nat.mod_one,Nat.zero_mul,Nat.zero_add] at hQ
 rw [Nat.sub_self,Nat.pow_zero,Nat.div_one] at hN
 subst hQ
 have eA:bf w f (eZ w) = bf w (bf w (bf w f preN) (List.replicate w.toNat (fo w)).flatten) (j5 w):=by
  unfold eZ
  rw [gn,gn]
 have eM:mkN w f (eZ w) = mkN w (bf w (bf w f preN) (List.replicate w.toNat (fo w)).flatten) (j5 w):=by
  unfold eZ
  rw [kH,kH,tq]
  rfl
 rw [eA,eM]
 generalize bf w (bf w f preN) (List.replicate w.toNat (fo w)).flatten = g at *
 have M0:(0:Int) < 2 ^ w.toNat:=Int.pow_pos (by decide)
 have cM:((2 ^ w.toNat:Nat):Int) = (2:Int) ^ w.toNat:=by push_cast; rfl
 have hN':(Q:Int) * D + R = Hh * 2 ^ w.toNat + L:=by
  have:=congrArg (fun n:Nat=>(n:Int)) hN
  push_cast at this
  exact this
 obtain ⟨k1,k2,k3⟩:=back M0 hN' ⟨by lia,by lia⟩ ⟨by lia,by lia⟩
 have v7:bf w g (j5 w) 7 = (L:Int):=by
  have e:bf w g (j5 w) 7 = (g 2 * g 15 % (1 * 2 ^ w.toNat) + g 1) % (1 * 2 ^ w.toNat):=rfl
  rw [e,Int.one_mul,h1,h2,f15]; exact k1
 have v8:bf w g (j5 w) 8 = (Hh:Int):=by
  have e:bf w g (j5 w) 8 = (g 2 * g 15 / 2 ^ w.toNat + (g 2 * g 15 % (1 * 2 ^ w.toNat) + g 1) / 2 ^ w.toNat) % (1 * 2 ^ w.toNat):=rfl
  rw [e,Int.one_mul,h1,h2,f15]; exact k2
 have v10:bf w g (j5 w) 10 = 0:=by
  have e:bf w g (j5 w) 10 = (g 2 * g 15 / 2 ^ w.toNat + (g 2 * g 15 % (1 * 2 ^ w.toNat) + g 1) / 2 ^ w.toNat) / 2 ^ w.toNat:=rfl
  rw [e,Int.one_mul,h1,h2,f15]; exact k3
 refine ⟨Q,R,h2,h1,hR,hA,hN',v7,v8,v10,?_,?_⟩
 ·have e:bf w g (j5 w) 12 = (cnt w (g 14) / 2 ^ (w - 1).toNat) % (1 * 2 ^ w.toNat):=rfl
  rw [e,f14,Int.one_mul]
  have hh:(2:Int) ^ w.toNat = 2 * 2 ^ (w - 1).toNat:=by
   rw [show w.toNat = (w - 1).toNat + 1 by lia,Int.pow_succ,Int.mul_comm]
  have h0:(0:Int) < 2 ^ (w - 1).toNat:=Int.pow_pos (by decide)
  unfold cnt
  rw [Int.one_mul,Int.one_mul,hh]
  generalize (2:Int) ^ (w - 1).toNat = h at *
  by_cases c:(L:Int) < h
  ·rw [if_pos c,if_neg (by lia),Int.ediv_eq_zero_of_lt (by lia) c,Int.mul_zero]
   rfl
  ·rw [if_neg c,if_pos (by lia),Int.mul_one]
   have e1:(L:Int) - 2 * h = ((L:Int) - h) + h * (-1):=by lia
   rw [e1,Int.add_mul_ediv_left _ _ (by lia),Int.ediv_eq_zero_of_lt (by lia) (by lia),Int.zero_add]
   have e2:(-1:Int) = (2 * h - 1) + 2 * h * (-1):=by lia
   rw [e2,Int.add_mul_emod_self_left]
   exact Int.emod_eq_of_lt (by lia) (by lia)
 ·have m:mkN w g (j5 w) = mkL (if Builtin.bitXor (bf w g (j5 w) 7) (g 14) ≠ 0 then some (.int 1,.str "round") else none) ++ (mkL (if Builtin.bitXor (bf w g (j5 w) 8) (g 13) ≠ 0 then some (.int 2,.str "stop") else none) ++ (mkL (if bf w g (j5 w) 10 ≠ 0 then some (.int 3,.str "nothing") else none) ++ (mkL (if g 0 ≠ 0 then some (.int 4,.str "stop") else none) ++ []))):=rfl
  rw [m,v7,v8,v10,f14,f13,f0,pH,pH]
  rfl
def iB (a b:Nat):List RN:=[.jn 4 24 a b,.car 2 17 (some 9) 17 24,.car 2 18 (some 25) 18 9,.car 2 19 none 19 25,.jn 5 24 a b,.car 2 18 (some 9) 18 24,.car 2 19 none 19 9]
def prodN:List RN:=[.jn 4 16 20 22,.jn 5 17 20 22,.set 18 0,.set 19 0] ++ (iB 20 23 ++ (iB 21 22 ++ [.jn 4 24 21 23,.car 2 18 (some 9) 18 24,.jn 5 24 21 23,.car 2 19 none 19 24,.car 2 19 none 19 9]))
def vN (M:Int) (f:Nat->Int):Int:=f 16 + f 17 * M + f 18 * (M * M) + f 19 * (M * M * M)
def wdN (M:Int) (f:Nat->Int):Prop:=(0<=f 16/\f 16 < M)/\(0<=f 17/\f 17 < M)/\(0<=f 18/\f 18 < M)/\0<=f 19/\f 19 < M
theorem rK {w:Int} {f:Nat->Int} {a b:Nat} (h:a = 20/\b = 23\/a = 21/\b = 22):(∃ c:Int,vN (2 ^ w.toNat) (bf w f (iB a b)) + c * (2 ^ w.toNat * 2 ^ w.toNat * 2 ^ w.toNat * 2 ^ w.toNat) = vN (2 ^ w.toNat) f + f a * f b * 2 ^ w.toNat)/\bf w f (iB a b) 16 = f 16/\∀ i,i = 20\/i = 21\/i = 22\/i = 23->bf w f (iB a b) i = f i:=by
 refine ⟨?_,rfl,fun i hi=>by rcases hi with rfl | rfl | rfl | rfl <;> rfl⟩
 obtain ⟨c,hc⟩:=mul_mid (M:=2 ^ w.toNat) (p0:=f 16) (p1:=f 17) (p2:=f 18) (p3:=f 19) (ab:=f a * f b)
 refine ⟨c,?_⟩
 have o:(1:Int) * 2 ^ w.toNat = 2 ^ w.toNat:=Int.one_mul _
 have e:vN (2 ^ w.toNat) (bf w f (iB a b)) = f 16 + (f 17 + f a * f b % 2 ^ w.toNat) % 2 ^ w.toNat * 2 ^ w.toNat + ((f 18 + (f 17 + f a * f b % 2 ^ w.toNat) / 2 ^ w.toNat) % 2 ^ w.toNat + f a * f b / 2 ^ w.toNat) % 2 ^ w.toNat * (2 ^ w.toNat * 2 ^ w.toNat) + ((f 19 + (f 18 + (f 17 + f a * f b % 2 ^ w.toNat) / 2 ^ w.toNat) / 2 ^ w.toNat) % 2 ^ w.toNat + ((f 18 + (f 17 + f a * f b % 2 ^ w.toNat) / 2 ^ w.toNat) % 2 ^ w.toNat + f a * f b / 2 ^ w.toNat) / 2 ^ w.toNat) % 2 ^ w.toNat * (2 ^ w.toNat * 2 ^ w.toNat * 2 ^ w.toNat):=by
  unfold vN
  have e17:bf w f (iB a b) 17 = (f 17 + f a * f b % (1 * 2 ^ w.toNat)) % (1 * 2 ^ w.toNat):=rfl
  have e18:bf w f (iB a b) 18 = ((f 18 + (f 17 + f a * f b % (1 * 2 ^ w.toNat)) / 2 ^ w.toNat) % (1 * 2 ^ w.toNat) + bf w f ((iB a b).take 4) a * bf w f ((iB a b).take 4) b / 2 ^ w.toNat) % (1 * 2 ^ w.toNat):=rfl
  have e19:bf w f (iB a b) 19 = ((f 19 + (f 18 + (f 17 + f a * f b % (1 * 2 ^ w.toNat)) / 2 ^ w.toNat) / 2 ^ w.toNat) % (1 * 2 ^ w.toNat) + ((f 18 + (f 17 + f a * f b % (1 * 2 ^ w.toNat)) / 2 ^ w.toNat) % (1 * 2 ^ w.toNat) + bf w f ((iB a b).take 4) a * bf w f ((iB a b).take 4) b / 2 ^ w.toNat) / 2 ^ w.toNat) % (1 * 2 ^ w.toNat):=rfl
  have ea:bf w f ((iB a b).take 4) a = f a/\bf w f ((iB a b).take 4) b = f b:=by rcases h with ⟨rfl,rfl⟩ | ⟨rfl,rfl⟩ <;> exact ⟨rfl,rfl⟩
  rw [e17,e18,e19,ea.1,ea.2,o,show bf w f (iB a b) 16 = f 16 from rfl]
 rw [e]
 exact hc
theorem mul_run {w:Int} {f:Nat->Int} (h20:0<=f 20/\f 20 < 2 ^ w.toNat) (h21:0<=f 21/\f 21 < 2 ^ w.toNat) (h22:0<=f 22/\f 22 < 2 ^ w.toNat) (h23:0<=f 23/\f 23 < 2 ^ w.toNat) :
  wdN (2 ^ w.toNat) (bf w f prodN)/\vN (2 ^ w.toNat) (bf w f prodN) = (f 21 * 2 ^ w.toNat + f 20) * (f 23 * 2 ^ w.toNat + f 22)/\mkN w f prodN = []:=by
 have M0:(0:Int) < 2 ^ w.toNat:=Int.pow_pos (by decide)
 have o:(1:Int) * 2 ^ w.toNat = 2 ^ w.toNat:=Int.one_mul _
 have m0:∀ x:Int,0<=x % 2 ^ w.toNat/\x % 2 ^ w.toNat < 2 ^ w.toNat:=fun x=>⟨Int.emod_nonneg _ (by lia),Int.emod_lt_of_pos _ M0⟩
 have hw:wdN (2 ^ w.toNat) (bf w f prodN):=by
  have a:∀ i x,bf w f prodN i = x % (1 * 2 ^ w.toNat)->0<=bf w f prodN i/\bf w f prodN i < 2 ^ w.toNat:=fun i x e=>by rw [e,o]; exact m0 x
  exact ⟨a 16 _ rfl,a 17 _ rfl,a 18 _ rfl,a 19 _ rfl⟩
 refine ⟨hw,?_,rfl⟩
 ·obtain ⟨⟨x1,x2⟩,⟨x3,x4⟩,⟨x5,x6⟩,x7,x8⟩:=id hw
  have lim:=four_lt M0 x1 x2 x3 x4 x5 x6 x7 x8
  generalize hf1:bf w f [.jn 4 16 20 22,.jn 5 17 20 22,.set 18 0,.set 19 0] = f1
  have v1:vN (2 ^ w.toNat) f1 = f 20 * f 22:=by
   rw [<- hf1]
   show f 20 * f 22 % (1 * 2 ^ w.toNat) + f 20 * f 22 / 2 ^ w.toNat * 2 ^ w.toNat + 0 * _ + 0 * _ = _
   rw [o]
   have:=Int.mul_ediv_add_emod (f 20 * f 22) (2 ^ w.toNat)
   rw [Int.zero_mul,Int.zero_mul,Int.mul_comm (f 20 * f 22 / 2 ^ w.toNat)]
   lia
  have s1:∀ i,i = 20\/i = 21\/i = 22\/i = 23->f1 i = f i:=fun i hi=>by rw [<- hf1]; rcases hi with rfl | rfl | rfl | rfl <;> rfl
  obtain ⟨⟨c2,v2⟩,_,s2⟩:=rK (w:=w) (f:=f1) (.inl ⟨rfl,rfl⟩)
  generalize hf2:bf w f1 (iB 20 23) = f2 at *
  obtain ⟨⟨c3,v3⟩,_,s3⟩:=rK (w:=w) (f:=f2) (.inr ⟨rfl,rfl⟩)
  generalize hf3:bf w f2 (iB 21 22) = f3 at *
  have ef:bf w f prodN = bf w f3 [.jn 4 24 21 23,.car 2 18 (some 9) 18 24,.jn 5 24 21 23,.car 2 19 none 19 24,.car 2 19 none 19 9]:=by
   unfold prodN
   rw [gn,gn,gn,hf1,hf2,hf3]
  obtain ⟨c4,v4⟩:=mul_end (M:=2 ^ w.toNat) (p0:=f3 16) (p1:=f3 17) (p2:=f3 18) (p3:=f3 19) (ab:=f3 21 * f3 23)
  have e4:vN (2 ^ w.toNat) (bf w f prodN) = f3 16 + f3 17 * 2 ^ w.toNat + (f3 18 + f3 21 * f3 23 % 2 ^ w.toNat) % 2 ^ w.toNat * (2 ^ w.toNat * 2 ^ w.toNat) + ((f3 19 + f3 21 * f3 23 / 2 ^ w.toNat) % 2 ^ w.toNat + (f3 18 + f3 21 * f3 23 % 2 ^ w.toNat) / 2 ^ w.toNat) % 2 ^ w.toNat * (2 ^ w.toNat * 2 ^ w.toNat * 2 ^ w.toNat):=by
   rw [ef]
   show f3 16 + f3 17 * 2 ^ w.toNat + (f3 18 + f3 21 * f3 23 % (1 * 2 ^ w.toNat)) % (1 * 2 ^ w.toNat) * (2 ^ w.toNat * 2 ^ w.toNat) + ((f3 19 + f3 21 * f3 23 / 2 ^ w.toNat) % (1 * 2 ^ w.toNat) + (f3 18 + f3 21 * f3 23 % (1 * 2 ^ w.toNat)) / 2 ^ w.toNat) % (1 * 2 ^ w.toNat) * (2 ^ w.toNat * 2 ^ w.toNat * 2 ^ w.toNat) = _
   rw [o]
  rw [<- e4] at v4
  have v3':f3 16 + f3 17 * 2 ^ w.toNat + f3 18 * (2 ^ w.toNat * 2 ^ w.toNat) + f3 19 * (2 ^ w.toNat * 2 ^ w.toNat * 2 ^ w.toNat) = vN (2 ^ w.toNat) f3:=rfl
  rw [v3',s3 21 (by simp),s3 23 (by simp),s2 21 (by simp),s2 23 (by simp),s1 21 (by simp),s1 23 (by simp)] at v4
  rw [s2 21 (by simp),s2 22 (by simp),s1 21 (by simp),s1 22 (by simp)] at v3
  rw [v1,s1 20 (by simp),s1 23 (by simp)] at v2
  refine mul_all M0 h20 h21 h22 h23 lim (c:=c2 + c3 + c4) ?_
  have d:∀ N:Int,(c2 + c3 + c4) * N = c2 * N + c3 * N + c4 * N:=fun N=>by rw [Int.add_mul,Int.add_mul]
  show vN (2 ^ w.toNat) (bf w f prodN) + _ = _
  rw [d]
  lia
theorem lO {f:Addr} {fd:FuncData} (F:Fun K "_law_cell" "_law_cell" gk f fd) (T:Txt K mg c) :FnOk P w K mg base CX0 1 f fd ["_law_script","_law_k"] (rS K):=by
 refine F.ok sc__law_cell (fun vs H Q E h=>?_) (fun cdv A outer s H vs Q E hr h=>?_)
 ·obtain ⟨a,ns,k,rfl,_⟩:=h
  rfl
 obtain ⟨a,ns,k,rfl,hS,h0,h1,q⟩:=h
 refine ⟨_,(ah (aR (ay jO (pv 1) (aE bn rfl T.n_len boot_len (aa (pv 0) ag)) (aD _))
   (ai (ar (aN aC (pv 0) (pv 1) (fun _ _=>rfl))))
   aA)
  (ah (aH (i:=2) sc__law_cell.nd rfl (Or.inl rfl) (aq bx (aq bh (pv 1) ak) ak))
  (ah (aR (ay op_gt (aE bn rfl T.n_len boot_len (aa (pv 0) ag)) ak (aD _))
   (ai (aH (i:=2) sc__law_cell.nd rfl (Or.inl rfl) (aq cq (aq bx (aq bh (aN aC (pv 0) (aq cq (aq bh (pv 1) ak) (aE bn rfl T.n_len boot_len (aa (pv 0) ag))) (fun _ _=>rfl)) ak) (aq bh (pv 1) ak)) ak)))
   aA)
  (ai (ar (aq cq (aq bh (pv 2) (pv 2)) ak)))))),?_⟩
 have hl:(ns.map V.int).length = ns.length:=List.length_map _
 refine ⟨_,rfl,_,rfl,a,_,rfl,.inl hS,_,_,rfl,rfl,_,rfl,?_⟩
 by_cases hc:k < (((ns.map V.int).length:Nat):Int)
 ·refine dg hc ?_
  rw [hl] at hc
  have e:k = ((k.toNat:Nat):Int):=by lia
  have g:=getI ns k.toNat (by lia)
  rw [<- e] at g
  exact ⟨_,rfl,_,rfl,a,_,_,_,rfl,rfl,hS,g,q _⟩
 ·refine be hc ?_
  refine ⟨_,rfl,_,_,rfl,rfl,.inr ⟨by decide,by decide⟩,_,_,rfl,rfl,?_⟩
  refine ⟨_,rfl,a,_,rfl,.inl hS,_,_,rfl,rfl,_,rfl,?_⟩
  by_cases hn:0 < (((ns.map V.int).length:Nat):Int)
  ·refine dg hn ?_
   have j0:=Int.emod_nonneg (k * 7) (show (((ns.map V.int).length:Nat):Int) ≠ 0 by lia)
   have j1:=Int.emod_lt_of_pos (k * 7) hn
   have hj:(k * 7 % (((ns.map V.int).length:Nat):Int)).toNat < ns.length:=by rw [<- hl]; lia
   have g:=getI ns _ hj
   have e:k * 7 % (((ns.map V.int).length:Nat):Int) = (((k * 7 % (((ns.map V.int).length:Nat):Int)).toNat:Nat):Int):=by lia
   rw [<- e] at g
   refine ⟨_,rfl,_,rfl,_,_,rfl,rfl,.inr ⟨by decide,by decide⟩,_,rfl,a,_,rfl,.inl hS,_,_,rfl,rfl,hn,a,_,_,_,rfl,rfl,hS,g,_,_,rfl,rfl,.inr ⟨by decide,by decide⟩,_,rfl,_,_,rfl,rfl,.inr ⟨by decide,by decide⟩,_,_,rfl,rfl,_,_,rfl,rfl,(by show (0:Int) < 2147483647; decide),?_⟩
   exact ⟨_,rfl,_,rfl,_,_,rfl,rfl,lm (by decide) (by decide),_,_,rfl,rfl,(by show (0:Int) < 2147483629; decide),q _⟩
  ·refine be hn ?_
   exact ⟨_,rfl,_,rfl,_,_,rfl,rfl,.inl ⟨by show -(2 ^ 64) < k * 7919 + 5; lia,by show k * 7919 + 5 < 2 ^ 64; lia⟩,_,_,rfl,rfl,(by show (0:Int) < 2147483629; decide),q _⟩
theorem kK {f:Addr} {fd:FuncData} (F:Fun K "_law_begun" "_law_begun" eS f fd) (T:Txt K mg c) :FnOk P w K mg base CX0 1 f fd ["_law_cell_here"] spBox:=by
 refine F.ok sc__law_begun (fun vs H Q E h=>?_) (fun cdv A outer s H vs Q E hr h=>?_)
 ·obtain ⟨c,rfl,_⟩:=h
  rfl
 obtain ⟨c,rfl,q⟩:=h
 refine ⟨_,(ah (aH (i:=1) sc__law_begun.nd rfl (Or.inl rfl) ak)
  (ah (aR (ay op_ge (pv 0) (aq op_pow ak ak) (aD _))
   (ai (aH (i:=1) sc__law_begun.nd rfl (Or.inl rfl) (pv 0)))
   aA)
  (ai (ar (aY (aa (pv 1) (aa ak (aa (aq cq (pv 0) ak) ag)))))))),?_⟩
 refine ⟨_,rfl,_,_,rfl,rfl,⟨by decide,by decide,by decide⟩,_,_,rfl,rfl,_,rfl,?_⟩
 by_cases hc:(10:Int) ^ (18:Int).toNat<=c
 ·refine dg hc ?_
  refine ⟨_,rfl,?_⟩
  refine ⟨_,rfl,_,rfl,_,_,rfl,rfl,(by show (0:Int) < 2147483647; decide),(by show 3<=sizeLine; decide),fun p hp=>?_⟩
  exact q p _ hp ⟨_,_,_,ae⟩ (au hp _)
 ·refine be hc ?_
  refine ⟨_,rfl,_,rfl,_,_,rfl,rfl,(by show (0:Int) < 2147483647; decide),(by show 3<=sizeLine; decide),fun p hp=>?_⟩
  exact q p _ hp ⟨_,_,_,ae⟩ (au hp _)
theorem mo {f:Addr} {fd:FuncData} (F:Fun K "_law_draw" "_law_draw" fV f fd) (T:Txt K mg c) :FnOk P w K mg base CX0 1 f fd ["_law_state","_law_many"] iW:=by
 refine F.ok sc__law_draw (fun vs H Q E h=>?_) (fun cdv A outer s H vs Q E hr h=>?_)
 ·obtain ⟨p,m,rfl,_⟩:=h
  rfl
 obtain ⟨p,m,rfl,⟨r,s1,c,hp⟩,h1,h2,q⟩:=h
 refine ⟨_,(ah (aR (ay op_gt (aN aC (pv 0) ak (fun _ _=>rfl)) ak (aD _))
   (ah (aH (i:=2) sc__law_draw.nd rfl (Or.inl rfl) (aq cq (aN aC (pv 0) ak (fun _ _=>rfl)) (pv 1)))
   (ah (md (aq pG (aN aC (pv 0) ak (fun _ _=>rfl)) (pv 1)) (pg_sub (pv 0) ak o6))
   (ai (ar (pv 2)))))
   aA)
  (ah (md (aq bx (aN aC (pv 0) ak (fun _ _=>rfl)) ak) (pg_sub (pv 0) ak o6))
  (ah (aH (i:=3) sc__law_draw.nd rfl (Or.inl rfl) (aq cq (aq bx (aq bh (aN aC (pv 0) ak (fun _ _=>rfl)) ak) (aq bh (aN aC (pv 0) ak (fun _ _=>rfl)) ak)) ak))
  (ah (aH (i:=3) sc__law_draw.nd rfl (Or.inl rfl) (aq cq (aq bx (aq bh (pv 3) (pv 3)) (aq bh (aN aC (pv 0) ak (fun _ _=>rfl)) ak)) ak))
  (ai (ar (aq cq (aq cq (aq bh (pv 3) (pv 3)) ak) (pv 1)))))))),?_⟩
 refine ⟨_,rfl,p,_,_,_,rfl,rfl,SqL.of hp,rfl,_,_,rfl,rfl,_,rfl,?_⟩
 by_cases hc:0 < r
 ·refine dg hc ?_
  refine ⟨_,rfl,p,_,_,_,rfl,rfl,SqL.of hp,rfl,_,rfl,_,_,rfl,rfl,h1,?_⟩
  refine ⟨_,rfl,p,_,_,_,rfl,rfl,SqL.of hp,rfl,_,rfl,_,_,rfl,rfl,⟨h1,mt h1 h2⟩,?_⟩
  refine ⟨_,rfl,p,_,_,_,rfl,rfl,hp,rfl,?_⟩
  refine ⟨_,rfl,?_⟩
  exact q _ _ (Int.emod_nonneg _ (by lia)) (Int.emod_lt_of_pos _ h1) ⟨_,_,_,ae⟩ SameX.upd
 ·refine be hc ?_
  refine ⟨_,rfl,p,_,_,_,rfl,rfl,SqL.of hp,rfl,_,_,rfl,rfl,?_⟩
  refine ⟨_,rfl,p,_,_,_,rfl,rfl,hp,rfl,?_⟩
  refine ⟨_,rfl,p,_,_,_,rfl,rfl,SqL.of ae,rfl,_,_,rfl,rfl,.inr ⟨by decide,by decide⟩,_,rfl,p,_,_,_,rfl,rfl,SqL.of ae,rfl,_,_,rfl,rfl,.inr ⟨by decide,by decide⟩,_,_,rfl,rfl,_,_,rfl,rfl,(by show (0:Int) < 2147483647; decide),?_⟩
  refine ⟨_,rfl,_,rfl,_,_,rfl,rfl,lm (by decide) (by decide),_,rfl,p,_,_,_,rfl,rfl,SqL.of ae,rfl,_,_,rfl,rfl,.inr ⟨by decide,by decide⟩,_,_,rfl,rfl,_,_,rfl,rfl,(by show (0:Int) < 2147483629; decide),?_⟩
  refine ⟨_,rfl,_,rfl,_,_,rfl,rfl,lm (by decide) (by decide),_,_,rfl,rfl,(by show (0:Int) < 2147483587; decide),_,rfl,_,_,rfl,rfl,h1,?_⟩
  exact q _ _ (Int.emod_nonneg _ (by lia)) (Int.emod_lt_of_pos _ h1) ⟨_,_,_,ae⟩ SameX.upd
theorem kt {f:Addr} {fd:FuncData} (F:Fun K "_law_whole" "_law_whole" eR f fd) (T:Txt K mg c) :FnOk P w K mg base CX0 1 f fd ["_law_found"] fD:=by
 refine F.ok ku (fun vs H Q E h=>?_) (fun cdv A outer s H vs Q E hr h=>?_)
 ·obtain ⟨i,rfl,_⟩:=h
  rfl
 obtain ⟨i,rfl,q⟩:=h
 refine ⟨_,(ai (ar (cY (aE aK rfl T.n_isinstance boot_isinstance (aa (pv 0) (aa (iZ rfl T.n_int boot_int) ag))) (cW (rR (aE aK rfl T.n_isinstance boot_isinstance (aa (pv 0) (aa (iZ rfl T.n_bool boot_bool) ag)))))))),?_⟩
 refine ⟨_,rfl,_,_,_,_,_,rfl,rfl,TyOf.int _,gc _,_,rfl,fN ?_⟩
 refine ⟨_,rfl,_,_,_,_,_,rfl,rfl,TyOf.int _,eC _,_,rfl,?_⟩
 exact q
def spWrd:Sp:=fun vs H Q _=>∃ (p:Addr) (w:Int),vs = [.ref p,.int w]/\Box H p/\4<=w/\w<=32/\∀ (i:Int) H',0<=i->i < 2 ^ w.toNat->Box H' p->SameX p H H'->Q (.int i) H'
theorem pow_lt {a b:Int} (h0:0<=a) (h:a < b):(2:Int) ^ a.toNat < 2 ^ b.toNat:=by
 have:(2:Nat) ^ a.toNat < 2 ^ b.toNat:=Nat.pow_lt_pow_right (by decide) (by lia)
 exact_mod_cast this
def wrdP (w:Int) (v:V):Prop:=∃ i:Int,v = .int i/\0<=i/\i < 2 ^ w.toNat
theorem lS {f:Addr} {fd:FuncData} (F:Fun K "_law_word" "_law_word" fT f fd) (T:Txt K mg c) (H__law_draw:Has P w K mg base 1 "_law_draw" ["_law_state","_law_many"] iW):FnOk P w K mg base CX0 2 f fd ["_law_state","_law_width"] spWrd:=by
 refine F.ok sc__law_word (fun vs H Q E h=>?_) (fun cdv A outer s H vs Q E hr h=>?_)
 ·obtain ⟨p,w',rfl,_⟩:=h
  rfl
 obtain ⟨p,w',rfl,b,w0,w1,q⟩:=h
 refine slE ⟨_,(aJ (eg (aH (i:=2) sc__law_word.nd rfl (Or.inl rfl) (aq sB ak (pv 1))))
  (aJ (eg (aH (i:=3) sc__law_word.nd rfl (Or.inl rfl) (aG H__law_draw (hr.mono (by lia)) rfl (aa (pv 0) (aa ak ag)))))
  (aJ (kj (ay jO (pv 3) ak (aD _))
   (aM (eg (ar (aN aC (aY (aa ak (aa ak (aa (aq em (pv 2) ak) ag)))) (pv 3) (fun _ _=>rfl)))))
   fj)
  (aJ (kj (ay bS (pv 3) ak (aD _))
   (aM (eg (ar (aq em (aq pG (pv 2) ak) (aG H__law_draw (hr.mono (by lia)) rfl (aa (pv 0) (aa ak ag)))))))
   fj)
  (aJ (kj (ay bS (pv 3) ak (aD _))
   (aM (eg (ar (aq sB ak (aG H__law_draw (hr.mono (by lia)) rfl (aa (pv 0) (aa (pv 1) ag)))))))
   fj)
  (aJ (kj (ay bS (pv 3) ak (aD _))
   (aM (eg (ar (aq cq (aG H__law_draw (hr.mono (by lia)) rfl (aa (pv 0) (aa ak ag))) (pv 2)))))
   fj)
  (aM (eg (ar (aq cq (aq bx (aq op_mulB (aG H__law_draw (hr.mono (by lia)) rfl (aa (pv 0) (aa ak ag))) ak) (aG H__law_draw (hr.mono (by lia)) rfl (aa (pv 0) (aa ak ag)))) (pv 2))))))))))),?_⟩
 have P:=aW w0 w1
 have shw:(0<=w'/\w'<=100000/\intBits 1<=100000):=⟨by lia,by lia,b200 (by decide) (by decide)⟩
 refine ⟨_,rfl,_,_,rfl,rfl,shw,?_⟩
 refine ⟨_,rfl,p,_,rfl,b,by decide,by decide,fun d H1 d0 d1 b1 x1=>?_⟩
 refine ⟨_,rfl,_,_,rfl,rfl,_,rfl,?_⟩
 walk_at "c" <;> intro c3
 ·refine ⟨_,rfl,_,_,rfl,rfl,(by show 3<=sizeLine; decide),fun l hl=>?_⟩
  obtain ⟨v,⟨i,rfl,i0,i1⟩,ev⟩:=pickV (xs:=[.int 0,.int 1,.int (1 * 2 ^ w'.toNat - 1)]) (Pr:=wrdP w') d0 (by show d < 3; lia) (allV ⟨⟨_,rfl,by lia,by lia⟩,⟨_,rfl,by lia,by lia⟩,⟨_,rfl,by lia,by lia⟩,trivial⟩)
  exact ⟨_,rfl,l,_,_,_,rfl,rfl,SqL.of ae,ev,q i _ i0 i1 (b1.same (au hl _)) (x1.trans (SameX.of (au hl _)))⟩
 refine ⟨_,rfl,rfl,_,rfl,?_⟩
 walk_at "c" <;> intro c4
 ·exact ⟨_,rfl,_,_,rfl,rfl,⟨by decide,by decide⟩,_,rfl,p,_,rfl,b1,by decide,by decide,fun d2 H2 _ _ b2 x2=>⟨_,_,rfl,rfl,q _ _ (by lia) (by lia) b2 (x1.trans x2)⟩⟩
 refine ⟨_,rfl,rfl,_,rfl,?_⟩
 walk_at "c" <;> intro c5
 ·exact ⟨_,rfl,_,rfl,p,_,rfl,b1,by lia,by lia,fun d2 H2 e0 e1 b2 x2=>⟨_,_,rfl,rfl,⟨by lia,by lia,b200 (by decide) (by decide)⟩,q _ _ (Int.le_of_lt (jb _)) (by rw [Int.one_mul]; exact pow_lt e0 e1) b2 (x1.trans x2)⟩⟩
 refine ⟨_,rfl,rfl,_,rfl,?_⟩
 walk_at "c" <;> intro c6
 ·exact ⟨_,rfl,p,_,rfl,b1,by decide,by decide,fun d2 H2 e0 e1 b2 x2=>⟨_,rfl,_,_,rfl,rfl,(by lia),q _ _ (Int.emod_nonneg _ (by lia)) (by have:=Int.emod_lt_of_pos d2 (show 0 < 1 * (2:Int) ^ w'.toNat by lia); lia) b2 (x1.trans x2)⟩⟩
 ·refine ⟨_,rfl,p,_,rfl,b1,by decide,by decide,fun d2 H2 e0 e1 b2 x2=>⟨_,_,rfl,rfl,⟨b200 (by lia) (by lia),b200 (by decide) (by decide)⟩,?_⟩⟩
  exact ⟨_,rfl,p,_,rfl,b2,by decide,by decide,fun d3 H3 _ _ b3 x3=>⟨_,_,rfl,rfl,_,rfl,_,_,rfl,rfl,(by lia),q _ _ (Int.emod_nonneg _ (by lia)) (by have:=Int.emod_lt_of_pos (d2 * 65536 + d3) (show 0 < 1 * (2:Int) ^ w'.toNat by lia); lia) b3 ((x1.trans x2).trans x3)⟩⟩
def RA (c:Ad) (H:Hp) (x:Addr) (r:Rw):Prop:=StepAt c H x r.k r.fs
def LR (c:Ad) (H:Hp) (xs:List V) (rs:List Rw):Prop:=L2A (fun a (r:Rw)=>StepAt c H a r.k r.fs) xs rs
theorem LR.same {H H':Hp} {xs:List V} {rs:List Rw} (h:LR c H xs rs) (s:Same H H'):LR c H' xs rs:=L2A.mono h fun _ _ _ z=>z.same s
theorem LR.put {H H':Hp} {xs:List V} {rs:List Rw} (h:LR c H xs rs) (s:Same H H') {x:Addr} {r:Rw} (t:RA c H' x r):LR c H' (xs ++ [.ref x]) (rs ++ [r]):=L2A.app (h.same s) (L2A.one t)
theorem LR.one {H:Hp} {x:Addr} {r:Rw} (t:RA c H x r):LR c H [.ref x] [r]:=L2A.one t
theorem dH {H G:Hp} {l:Addr} {xs:List V} {rs:List Rw} (a:LR c G xs rs) (s:Same H G) (hl:G l = none):∃ G',G' = upd G l (.lst xs)/\LR c G' xs rs/\Same H G'/\G' l = some (.lst xs)/\H l = none:=⟨_,rfl,a.same (au hl _),s.trans (au hl _),ae,none_of s hl⟩
theorem iH {H G J:Hp} {l:Addr} {xs ys:List V} {rs qs:List Rw} (b:LR c G xs rs) (e:Same H G) (w:LR c J ys qs) (u:Same G J) (hl:J l = none):∃ G',G' = upd J l (.lst (xs ++ ys))/\LR c G' (xs ++ ys) (rs ++ qs)/\Same H G'/\G' l = some (.lst (xs ++ ys))/\H l = none:=dH (L2A.app (b.same u) w:LR c J _ _) (e.trans u) hl
theorem disp2 {G:Hp} {t1 t2 lp:Addr} {a b:List V} (h1:G t1 = none) (h2:upd G t1 (.tup a) t2 = none) (hp:upd (upd G t1 (.tup a)) t2 (.tup b) lp = none):∃ G',G' = upd (upd (upd G t1 (.tup a)) t2 (.tup b)) lp (.lst [V.ref t1,V.ref t2])/\G' t1 = some (.tup a)/\G' t2 = some (.tup b)/\G' lp = some (.lst [V.ref t1,V.ref t2])/\Same G G':=by
 have s1:=au h1 (.tup a)
 have s2:=au h2 (.tup b)
 have s3:=au hp (.lst [V.ref t1,V.ref t2])
 exact ⟨_,rfl,s3 _ _ (s2 _ _ ae),s3 _ _ ae,ae,(s1.trans s2).trans s3⟩
theorem lN {z:Str} (h:z ∈ ZNs):z.length<=2:=by
 have:ZNs.all (fun z=>decide (z.length<=2)) = true:=by decide +kernel
 exact of_decide_eq_true (List.all_eq_true.mp this z h)
theorem LR.five {H:Hp} {xs:List V} {rs:List Rw} (h:LR c H xs rs):L2A (StT c H 5) xs (rs.map r5):=by
 refine ⟨by rw [h.1,List.length_map],fun i x t e f=>?_⟩
 rw [List.getElem?_map] at f
 obtain ⟨r,hr,rfl⟩:=Option.map_eq_some_iff.mp f
 obtain ⟨a,ea,s⟩:=h.2 i x r e hr
 exact ⟨a,ea,s⟩
theorem LR.six {H:Hp} {xs:List V} {rs:List Rw} (h:LR c H xs rs):L2A (StT c H 6) xs ((rs.map T2.row).map T2.c):=by
 refine ⟨by rw [h.1,List.length_map,List.length_map],fun i x t e f=>?_⟩
 rw [List.getElem?_map,List.getElem?_map] at f
 cases hr:rs[i]? with
 | none=>rw [hr] at f; cases f
 | some r =>
  rw [hr] at f
  cases f
  obtain ⟨a,ea,s⟩:=h.2 i x r e hr
  exact ⟨a,ea,s⟩
def rD (c:Ad):Sp:=fun vs H Q _=>∃ (w:Int) (z:Str),vs = [.int w,.str z]/\z ∈ ZNs/\4<=w/\w<=32/\∀ (l:Addr) (xs:List V) H',H l = none->H' l = some (.lst xs)->LR c H' xs ((fo w).map (RN.to z))->Same H H'->Q (.ref l) H'
def pe (w:Int) (z:Str):List T2:=(preN.map (RN.to z)).map T2.row ++ ([T2.turns w.toNat ((fo w).map (RN.to z))] ++ ((j5 w).map (RN.to z)).map T2.row)
def rP (c:Ad):Sp:=fun vs H Q _=>∃ (w:Int) (z:Str),vs = [.int w,.str z]/\z ∈ ZNs/\4<=w/\w<=32/\∀ (l:Addr) (xs:List V) H',H l = none->H' l = some (.lst xs)->L2A (StT c H' 6) xs ((pe w z).map T2.c)->Same H H'->Q (.ref l) H'
def pro0 (z:Str):List Rw:=[RN.to z (.jn 4 16 20 22),RN.to z (.jn 5 17 20 22),RN.to z (.set 18 0),RN.to z (.set 19 0)]
def mids (z:Str):List (List Rw):=[(iB 20 23).map (RN.to z),(iB 21 22).map (RN.to z)]
def sC (z:Str):List T2:=(prodN.map (RN.to z)).map T2.row
def ny (c:Ad):Sp:=fun vs H Q _=>∃ z:Str,vs = [.str z]/\z ∈ ZNs/\∀ (l:Addr) (xs:List V) H',H l = none->H' l = some (.lst xs)->L2A (StT c H' 6) xs ((sC z).map T2.c)->Same H H'->Q (.ref l) H'
theorem nS {f:Addr} {fd:FuncData} (F:Fun K "_law_bit" "_law_bit" gW f fd) (T:Txt K mg c)  (C_Right:CHas P w K mg base 1 c.Right "Right" ["self","goal","one","k"] (aI K ["goal","one","k"])) (C_Left:CHas P w K mg base 1 c.Left "Left" ["self","goal","one","k"] (aI K ["goal","one","k"])) (C_Or:CHas P w K mg base 1 c.Or "Or" ["self","goal","one","other"] (aI K ["goal","one","other"])) (C_Under:CHas P w K mg base 1 c.Under "Under" ["self","goal","one","other"] (aI K ["goal","one","other"])) (C_Unlike:CHas P w K mg base 1 c.Unlike "Unlike" ["self","goal","one","other"] (aI K ["goal","one","other"])) (C_Gap:CHas P w K mg base 1 c.Gap "Gap" ["self","goal","carry","one","other"] (aI K ["goal","carry","one","other"])) (C_Pick:CHas P w K mg base 1 c.Pick "Pick" ["self","goal","by","one","other"] (aI K ["goal","by","one","other"])):FnOk P w K mg base CX0 3 f fd ["_law_width","_law_n"] (rD c):=by
 refine F.ok sc__law_bit (fun vs H Q E h=>?_) (fun cdv A outer s H vs Q E hr h=>?_)
 ·obtain ⟨w',z,rfl,_⟩:=h
  rfl
 obtain ⟨w',z,rfl,hz,w0,w1,q⟩:=h
 have lz:=lN hz
 have L99:(99:Nat)<=sizeLine:=by decide
 have la:∀ s:Str,s.length<=3->z.length + s.length<=sizeLine:=fun s hs=>by lia
 refine slE ⟨_,(aJ (bC (i:=2) sc__law_bit.nd rfl (Or.inl rfl) (bD (aB (aF C_Right (hr.mono (by lia)) rfl (aa (aq af (pv 1) am) (aa (aq af (pv 1) am) (aa (aq em (pv 0) ak) ag)))) (aB (aF C_Left (hr.mono (by lia)) rfl (aa (aq af (pv 1) am) (aa (aq af (pv 1) am) (aa ak ag)))) (aB (aF C_Right (hr.mono (by lia)) rfl (aa (aq af (pv 1) am) (aa (aq af (pv 1) am) (aa (aq em (pv 0) ak) ag)))) br)))))
  (aJ (bC (i:=2) sc__law_bit.nd rfl (Or.inl rfl) (dF bB (eg (pv 2)) (bD (aB (aF C_Or (hr.mono (by lia)) rfl (aa (aq af (pv 1) am) (aa (aq af (pv 1) am) (aa (aq af (pv 1) am) ag)))) (aB (aF C_Left (hr.mono (by lia)) rfl (aa (aq af (pv 1) am) (aa (aq af (pv 1) am) (aa ak ag)))) (aB (aF C_Under (hr.mono (by lia)) rfl (aa (aq af (pv 1) am) (aa (aq af (pv 1) am) (aa (aq af (pv 1) am) ag)))) br))))))
  (aJ (bC (i:=2) sc__law_bit.nd rfl (Or.inl rfl) (dF bB (eg (pv 2)) (bD (aB (aF C_Unlike (hr.mono (by lia)) rfl (aa (aq af (pv 1) am) (aa (aq af (pv 1) am) (aa (aq af (pv 1) am) ag)))) (aB (aF C_Or (hr.mono (by lia)) rfl (aa (aq af (pv 1) am) (aa (aq af (pv 1) am) (aa (aq af (pv 1) am) ag)))) br)))))
  (aJ (bC (i:=2) sc__law_bit.nd rfl (Or.inl rfl) (dF bB (eg (pv 2)) (bD (aB (aF C_Gap (hr.mono (by lia)) rfl (aa (aq af (pv 1) am) (aa bU (aa (aq af (pv 1) am) (aa (aq af (pv 1) am) ag))))) (aB (aF C_Pick (hr.mono (by lia)) rfl (aa (aq af (pv 1) am) (aa (aq af (pv 1) am) (aa (aq af (pv 1) am) (aa (aq af (pv 1) am) ag))))) br)))))
  (aM (eg (ar (aq bB (pv 2) (aY (aa (aF C_Or (hr.mono (by lia)) rfl (aa (aq af (pv 1) am) (aa (aq af (pv 1) am) (aa (aq af (pv 1) am) ag)))) ag)))))))))),?_⟩
 refine ⟨_,rfl,_,_,rfl,rfl,la _ (by decide),_,rfl,_,_,rfl,rfl,la _ (by decide),_,rfl,_,_,rfl,rfl,fun x0_0 d0_0 h0_0 j0_0 _=>⟨_,_,_,_,rfl,rfl,ae,(T.clF (k:=7) (by decide)).1,(T.clF (k:=7) (by decide)).2,fun H0_0 t0_0 s0_0=>⟨rfl,_,rfl,_,_,rfl,rfl,la _ (by decide),_,rfl,_,_,rfl,rfl,la _ (by decide),fun x0_1 d0_1 h0_1 j0_1 _=>⟨_,_,_,_,rfl,rfl,ae,(T.clF (k:=6) (by decide)).1,(T.clF (k:=6) (by decide)).2,fun H0_1 t0_1 s0_1=>⟨rfl,_,rfl,_,_,rfl,rfl,la _ (by decide),_,rfl,_,_,rfl,rfl,la _ (by decide),_,rfl,_,_,rfl,rfl,fun x0_2 d0_2 h0_2 j0_2 _=>⟨_,_,_,_,rfl,rfl,ae,(T.clF (k:=7) (by decide)).1,(T.clF (k:=7) (by decide)).2,fun H0_2 t0_2 s0_2=>⟨rfl,(by show 3<=sizeLine; lia),fun l0 hl0=>?_⟩⟩⟩⟩⟩⟩⟩
 have g0_0:RA c H0_0 x0_0 (RN.to z (.mv 7 3 1 (w' - 1))):=⟨d0_0,t0_0,rfl⟩
 have g0_1:RA c H0_1 x0_1 (RN.to z (.mv 6 1 1 1)):=⟨d0_1,t0_1,rfl⟩
 have g0_2:RA c H0_2 x0_2 (RN.to z (.mv 7 4 2 (w' - 1))):=⟨d0_2,t0_2,rfl⟩
 obtain ⟨G0,eG0,b0,e0,f0,z0⟩:=dH (xs:=[V.ref x0_0,V.ref x0_1,V.ref x0_2]) (((LR.one g0_0).put (ap h0_1 j0_1 s0_1) g0_1).put (ap h0_2 j0_2 s0_2) g0_2) (((ap h0_0 j0_0 s0_0).trans (ap h0_1 j0_1 s0_1)).trans (ap h0_2 j0_2 s0_2)) hl0
 rw [<- eG0]
 clear eG0 hl0
 refine ⟨_,rfl,_,rfl,_,_,rfl,rfl,la _ (by decide),_,rfl,_,_,rfl,rfl,la _ (by decide),_,rfl,_,_,rfl,rfl,la _ (by decide),fun x1_0 d1_0 h1_0 j1_0 _=>⟨_,_,_,_,rfl,rfl,ae,(T.clF (k:=10) (by decide)).1,(T.clF (k:=10) (by decide)).2,fun H1_0 t1_0 s1_0=>⟨rfl,_,rfl,_,_,rfl,rfl,la _ (by decide),_,rfl,_,_,rfl,rfl,la _ (by decide),fun x1_1 d1_1 h1_1 j1_1 _=>⟨_,_,_,_,rfl,rfl,ae,(T.clF (k:=6) (by decide)).1,(T.clF (k:=6) (by decide)).2,fun H1_1 t1_1 s1_1=>⟨rfl,_,rfl,_,_,rfl,rfl,la _ (by decide),_,rfl,_,_,rfl,rfl,la _ (by decide),_,rfl,_,_,rfl,rfl,la _ (by decide),fun x1_2 d1_2 h1_2 j1_2 _=>⟨_,_,_,_,rfl,rfl,ae,(T.clF (k:=12) (by decide)).1,(T.clF (k:=12) (by decide)).2,fun H1_2 t1_2 s1_2=>⟨rfl,(by show 3<=sizeLine; lia),fun q1 hq1=>?_⟩⟩⟩⟩⟩⟩⟩
 have g1_0:RA c H1_0 x1_0 (RN.to z (.jn 10 1 1 4)):=⟨d1_0,t1_0,rfl⟩
 have g1_1:RA c H1_1 x1_1 (RN.to z (.mv 6 2 2 1)):=⟨d1_1,t1_1,rfl⟩
 have g1_2:RA c H1_2 x1_2 (RN.to z (.jn 12 5 1 15)):=⟨d1_2,t1_2,rfl⟩
 obtain ⟨J1,eJ1,w1,u1,v1,_⟩:=dH (xs:=[V.ref x1_0,V.ref x1_1,V.ref x1_2]) (((LR.one g1_0).put (ap h1_1 j1_1 s1_1) g1_1).put (ap h1_2 j1_2 s1_2) g1_2) (((ap h1_0 j1_0 s1_0).trans (ap h1_1 j1_1 s1_1)).trans (ap h1_2 j1_2 s1_2)) hq1
 rw [<- eJ1]
 clear eJ1 hq1
 refine ⟨l0,q1,_,_,rfl,rfl,SqL.of (u1 _ _ f0),SqL.of v1,(by simp only [List.length_append,List.length_cons,List.length_nil]; lia),fun l1 hl1=>?_⟩
 obtain ⟨G1,eG1,b1,e1,f1,z1⟩:=iH (xs:=[V.ref x0_0,V.ref x0_1,V.ref x0_2]) (ys:=[V.ref x1_0,V.ref x1_1,V.ref x1_2]) b0 e0 w1 u1 hl1
 rw [<- eG1]
 clear eG1 hl1 w1 u1 v1 b0 e0 f0
 refine ⟨_,rfl,_,rfl,_,_,rfl,rfl,la _ (by decide),_,rfl,_,_,rfl,rfl,la _ (by decide),_,rfl,_,_,rfl,rfl,la _ (by decide),fun x2_0 d2_0 h2_0 j2_0 _=>⟨_,_,_,_,rfl,rfl,ae,(T.clF (k:=11) (by decide)).1,(T.clF (k:=11) (by decide)).2,fun H2_0 t2_0 s2_0=>⟨rfl,_,rfl,_,_,rfl,rfl,la _ (by decide),_,rfl,_,_,rfl,rfl,la _ (by decide),_,rfl,_,_,rfl,rfl,la _ (by decide),fun x2_1 d2_1 h2_1 j2_1 _=>⟨_,_,_,_,rfl,rfl,ae,(T.clF (k:=10) (by decide)).1,(T.clF (k:=10) (by decide)).2,fun H2_1 t2_1 s2_1=>⟨rfl,(by show 2<=sizeLine; lia),fun q2 hq2=>?_⟩⟩⟩⟩⟩
 have g2_0:RA c H2_0 x2_0 (RN.to z (.jn 11 5 5 0)):=⟨d2_0,t2_0,rfl⟩
 have g2_1:RA c H2_1 x2_1 (RN.to z (.jn 10 5 5 3)):=⟨d2_1,t2_1,rfl⟩
 obtain ⟨J2,eJ2,w2,u2,v2,_⟩:=dH (xs:=[V.ref x2_0,V.ref x2_1]) ((LR.one g2_0).put (ap h2_1 j2_1 s2_1) g2_1) ((ap h2_0 j2_0 s2_0).trans (ap h2_1 j2_1 s2_1)) hq2
 rw [<- eJ2]
 clear eJ2 hq2
 refine ⟨l1,q2,_,_,rfl,rfl,SqL.of (u2 _ _ f1),SqL.of v2,(by simp only [List.length_append,List.length_cons,List.length_nil]; lia),fun l2 hl2=>?_⟩
 obtain ⟨G2,eG2,b2,e2,f2,z2⟩:=iH (xs:=([V.ref x0_0,V.ref x0_1,V.ref x0_2] ++ [V.ref x1_0,V.ref x1_1,V.ref x1_2])) (ys:=[V.ref x2_0,V.ref x2_1]) b1 e1 w2 u2 hl2
 rw [<- eG2]
 clear eG2 hl2 w2 u2 v2 b1 e1 f1
 refine ⟨_,rfl,_,rfl,_,_,rfl,rfl,la _ (by decide),_,rfl,_,_,rfl,rfl,la _ (by decide),_,rfl,_,_,rfl,rfl,la _ (by decide),fun x3_0 d3_0 h3_0 j3_0 _=>⟨_,_,_,_,rfl,rfl,ae,(T.clF (k:=3) (by decide)).1,(T.clF (k:=3) (by decide)).2,fun H3_0 t3_0 s3_0=>⟨rfl,_,rfl,_,_,rfl,rfl,la _ (by decide),_,rfl,_,_,rfl,rfl,la _ (by decide),_,rfl,_,_,rfl,rfl,la _ (by decide),_,rfl,_,_,rfl,rfl,la _ (by decide),fun x3_1 d3_1 h3_1 j3_1 _=>⟨_,_,_,_,rfl,rfl,ae,(T.clF (k:=13) (by decide)).1,(T.clF (k:=13) (by decide)).2,fun H3_1 t3_1 s3_1=>⟨rfl,(by show 2<=sizeLine; lia),fun q3 hq3=>?_⟩⟩⟩⟩⟩
 have g3_0:RA c H3_0 x3_0 (RN.to z (.car 3 6 none 1 15)):=⟨d3_0,t3_0,rfl⟩
 have g3_1:RA c H3_1 x3_1 (RN.to z (.pick 1 5 6 1)):=⟨d3_1,t3_1,rfl⟩
 obtain ⟨J3,eJ3,w3,u3,v3,_⟩:=dH (xs:=[V.ref x3_0,V.ref x3_1]) ((LR.one g3_0).put (ap h3_1 j3_1 s3_1) g3_1) ((ap h3_0 j3_0 s3_0).trans (ap h3_1 j3_1 s3_1)) hq3
 rw [<- eJ3]
 clear eJ3 hq3
 refine ⟨l2,q3,_,_,rfl,rfl,SqL.of (u3 _ _ f2),SqL.of v3,(by simp only [List.length_append,List.length_cons,List.length_nil]; lia),fun l3 hl3=>?_⟩
 obtain ⟨G3,eG3,b3,e3,f3,z3⟩:=iH (xs:=(([V.ref x0_0,V.ref x0_1,V.ref x0_2] ++ [V.ref x1_0,V.ref x1_1,V.ref x1_2]) ++ [V.ref x2_0,V.ref x2_1])) (ys:=[V.ref x3_0,V.ref x3_1]) b2 e2 w3 u3 hl3
 rw [<- eG3]
 clear eG3 hl3 w3 u3 v3 b2 e2 f2
 refine ⟨_,rfl,_,rfl,_,_,rfl,rfl,la _ (by decide),_,rfl,_,_,rfl,rfl,la _ (by decide),_,rfl,_,_,rfl,rfl,la _ (by decide),fun x4_0 d4_0 h4_0 j4_0 _=>⟨_,_,_,_,rfl,rfl,ae,(T.clF (k:=10) (by decide)).1,(T.clF (k:=10) (by decide)).2,fun H4_0 t4_0 s4_0=>⟨rfl,(by show 1<=sizeLine; lia),fun q4 hq4=>?_⟩⟩⟩
 have g4_0:RA c H4_0 x4_0 (RN.to z (.jn 10 2 2 5)):=⟨d4_0,t4_0,rfl⟩
 obtain ⟨J4,eJ4,w4,u4,v4,_⟩:=dH (xs:=[V.ref x4_0]) (LR.one g4_0) (ap h4_0 j4_0 s4_0) hq4
 rw [<- eJ4]
 clear eJ4 hq4
 refine ⟨l3,q4,_,_,rfl,rfl,SqL.of (u4 _ _ f3),SqL.of v4,(by simp only [List.length_append,List.length_cons,List.length_nil]; lia),fun l4 hl4=>?_⟩
 obtain ⟨G4,eG4,b4,e4,f4,z4⟩:=iH (xs:=((([V.ref x0_0,V.ref x0_1,V.ref x0_2] ++ [V.ref x1_0,V.ref x1_1,V.ref x1_2]) ++ [V.ref x2_0,V.ref x2_1]) ++ [V.ref x3_0,V.ref x3_1])) (ys:=[V.ref x4_0]) b3 e3 w4 u4 hl4
 rw [<- eG4]
 clear eG4 hl4 w4 u4 v4 b3 e3 f3
 exact q l4 _ G4 z4 f4 b4 e4
def L6T (c:Ad) (H:Hp) (xs:List V) (ts:List T2):Prop:=L2A (StT c H 6) xs (ts.map T2.c)
theorem L6T.same {H H':Hp} {xs:List V} {ts:List T2} (h:L6T c H xs ts) (s:Same H H'):L6T c H' xs ts:=L2A.mono h fun _ _ _ z=>z.same s
theorem L6T.app {H:Hp} {xs ys:List V} {ts us:List T2} (h:L6T c H xs ts) (g:L6T c H ys us):L6T c H (xs ++ ys) (ts ++ us):=by
 unfold L6T
 rw [List.map_append]
 exact L2A.app h g
theorem lM {H G J:Hp} {l:Addr} {xs ys:List V} {ts:List T2} {qs:List Rw} (b:L6T c G xs ts) (e:Same H G) (w:LR c J ys qs) (u:Same G J) (hl:J l = none):∃ G',G' = upd J l (.lst (xs ++ ys))/\L6T c G' (xs ++ ys) (ts ++ qs.map T2.row)/\Same H G'/\G' l = some (.lst (xs ++ ys))/\H l = none:=⟨_,rfl,((b.same u).app w.six).same (au hl _),(e.trans u).trans (au hl _),ae,none_of (e.trans u) hl⟩
theorem jr {f:Addr} {fd:FuncData} (F:Fun K "_law_divided" "_law_divided" dr f fd) (T:Txt K mg c) (H__law_bit:Has P w K mg base 3 "_law_bit" ["_law_width","_law_n"] (rD c)) (C_Set:CHas P w K mg base 1 c.Set "Set" ["self","goal","bits"] (aI K ["goal","bits"])) (C_Copy:CHas P w K mg base 1 c.Copy "Copy" ["self","goal","one"] (aI K ["goal","one"])) (C_Turns:CHas P w K mg base 1 c.Turns "Turns" ["self","times","steps"] (kF K)) (C_Low:CHas P w K mg base 1 c.Low "Low" ["self","goal","one","other"] (aI K ["goal","one","other"])) (C_High:CHas P w K mg base 1 c.High "High" ["self","goal","one","other"] (aI K ["goal","one","other"])) (C_Sum:CHas P w K mg base 1 c.Sum "Sum" ["self","goal","carry","one","other"] (aI K ["goal","carry","one","other"])) (C_Unlike:CHas P w K mg base 1 c.Unlike "Unlike" ["self","goal","one","other"] (aI K ["goal","one","other"])) (C_Mark:CHas P w K mg base 1 c.Mark "Mark" ["self","line","mark","by"] (aI K ["line","mark","by"])) (C_Slide:CHas P w K mg base 1 c.Slide "Slide" ["self","goal","one","k"] (aI K ["goal","one","k"])):FnOk P w K mg base CX0 4 f fd ["_law_width","_law_n"] (rP c):=by
 refine F.ok sc__law_divided (fun vs H Q E h=>?_) (fun cdv A outer s H vs Q E hr h=>?_)
 ·obtain ⟨w',z,rfl,_⟩:=h
  rfl
 obtain ⟨w',z,rfl,hz,w0,w1,q⟩:=h
 have lz:=lN hz
 have L99:(99:Nat)<=sizeLine:=by decide
 have la:∀ s:Str,s.length<=3->z.length + s.length<=sizeLine:=fun s hs=>by lia
 refine slE ⟨_,(aJ (bC (i:=2) sc__law_divided.nd rfl (Or.inl rfl) (bD (aB (aF C_Set (hr.mono (by lia)) rfl (aa (aq af (pv 1) am) (aa ak ag))) (aB (aF C_Copy (hr.mono (by lia)) rfl (aa (aq af (pv 1) am) (aa (aq af (pv 1) am) ag))) (aB (aF C_Copy (hr.mono (by lia)) rfl (aa (aq af (pv 1) am) (aa (aq af (pv 1) am) ag))) (aB (aF C_Turns (hr.mono (by lia)) rfl (aa (pv 0) (aa (aG H__law_bit (hr.mono (by lia)) rfl (aa (pv 0) (aa (pv 1) ag))) ag))) br))))))
  (aJ (bC (i:=2) sc__law_divided.nd rfl (Or.inl rfl) (dF bB (eg (pv 2)) (bD (aB (aF C_Low (hr.mono (by lia)) rfl (aa (aq af (pv 1) am) (aa (aq af (pv 1) am) (aa (aq af (pv 1) am) ag)))) (aB (aF C_High (hr.mono (by lia)) rfl (aa (aq af (pv 1) am) (aa (aq af (pv 1) am) (aa (aq af (pv 1) am) ag)))) br)))))
  (aJ (bC (i:=2) sc__law_divided.nd rfl (Or.inl rfl) (dF bB (eg (pv 2)) (bD (aB (aF C_Sum (hr.mono (by lia)) rfl (aa (aq af (pv 1) am) (aa (aq af (pv 1) am) (aa (aq af (pv 1) am) (aa (aq af (pv 1) am) ag))))) (aB (aF C_Sum (hr.mono (by lia)) rfl (aa (aq af (pv 1) am) (aa (aq af (pv 1) am) (aa (aq af (pv 1) am) (aa (aq af (pv 1) am) ag))))) br)))))
  (aJ (bC (i:=2) sc__law_divided.nd rfl (Or.inl rfl) (dF bB (eg (pv 2)) (bD (aB (aF C_Unlike (hr.mono (by lia)) rfl (aa (aq af (pv 1) am) (aa (aq af (pv 1) am) (aa (aq af (pv 1) am) ag)))) (aB (aF C_Mark (hr.mono (by lia)) rfl (aa ak (aa am (aa (aq af (pv 1) am) ag)))) (aB (aF C_Unlike (hr.mono (by lia)) rfl (aa (aq af (pv 1) am) (aa (aq af (pv 1) am) (aa (aq af (pv 1) am) ag)))) br))))))
  (aJ (bC (i:=2) sc__law_divided.nd rfl (Or.inl rfl) (dF bB (eg (pv 2)) (bD (aB (aF C_Mark (hr.mono (by lia)) rfl (aa ak (aa am (aa (aq af (pv 1) am) ag)))) (aB (aF C_Mark (hr.mono (by lia)) rfl (aa ak (aa am (aa (aq af (pv 1) am) ag)))) (aB (aF C_Mark (hr.mono (by lia)) rfl (aa ak (aa am (aa (aq af (pv 1) am) ag)))) br))))))
  (aM (eg (ar (aq bB (pv 2) (aY (aa (aF C_Slide (hr.mono (by lia)) rfl (aa (aq af (pv 1) am) (aa (aq af (pv 1) am) (aa (aq em (pv 0) ak) ag)))) ag))))))))))),?_⟩
 refine ⟨_,rfl,_,_,rfl,rfl,la _ (by decide),fun x5_0 d5_0 h5_0 j5_0 _=>⟨_,_,_,_,rfl,rfl,ae,(T.clF (k:=0) (by decide)).1,(T.clF (k:=0) (by decide)).2,fun H5_0 t5_0 s5_0=>⟨rfl,_,rfl,_,_,rfl,rfl,la _ (by decide),_,rfl,_,_,rfl,rfl,la _ (by decide),fun x5_1 d5_1 h5_1 j5_1 _=>⟨_,_,_,_,rfl,rfl,ae,(T.clF (k:=1) (by decide)).1,(T.clF (k:=1) (by decide)).2,fun H5_1 t5_1 s5_1=>⟨rfl,_,rfl,_,_,rfl,rfl,la _ (by decide),_,rfl,_,_,rfl,rfl,la _ (by decide),fun x5_2 d5_2 h5_2 j5_2 _=>⟨_,_,_,_,rfl,rfl,ae,(T.clF (k:=1) (by decide)).1,(T.clF (k:=1) (by decide)).2,fun H5_2 t5_2 s5_2=>⟨rfl,_,rfl,_,rfl,_,rfl,w',z,rfl,hz,w0,w1,fun lb xb Hb nb fb rb sb=>?_⟩⟩⟩⟩⟩⟩⟩
 have g5_0:RA c H5_0 x5_0 (RN.to z (.set 0 1)):=⟨d5_0,t5_0,rfl⟩
 have g5_1:RA c H5_1 x5_1 (RN.to z (.copy 1 13)):=⟨d5_1,t5_1,rfl⟩
 have g5_2:RA c H5_2 x5_2 (RN.to z (.copy 2 14)):=⟨d5_2,t5_2,rfl⟩
 have a3:LR c Hb [V.ref x5_0,V.ref x5_1,V.ref x5_2] _:=((((LR.one g5_0).put (ap h5_1 j5_1 s5_1) g5_1).put (ap h5_2 j5_2 s5_2) g5_2)).same sb
 have s3:=(((ap h5_0 j5_0 s5_0).trans (ap h5_1 j5_1 s5_1)).trans (ap h5_2 j5_2 s5_2)).trans sb
 refine fun xt dt ht jt _=>⟨xt,_,dt,lb,.int w',xb,rfl,ae,(by rw [ao (av fb ht),ao (av fb jt)]; exact fb),T.cl_Turns,List.forall_mem_cons.mpr ⟨T.na_Turns_times,List.forall_mem_cons.mpr ⟨T.na_Turns_steps,fun _ h=>nomatch h⟩⟩,fun lc Ht hc ot oc st=>⟨rfl,(by show 4<=sizeLine; lia),fun l5 hl5=>?_⟩⟩
 have s4:=ap ht jt st
 have lcn:Hb lc = none:=by
  cases e:Hb lc with
  | none=>rfl
  | some u=>rw [ao (av e ht),ao (av e jt),e] at hc; cases hc
 have tt:L6T c Ht [.ref xt] [T2.turns w'.toNat ((fo w').map (RN.to z))]:=L2A.one ⟨xb,⟨dt,lc,by rw [Int.toNat_of_nonneg (by lia)]; exact ot,oc⟩,(rb.same s4).five⟩
 have at4:L6T c Ht ([V.ref x5_0,V.ref x5_1,V.ref x5_2] ++ [.ref xt]) ((preN.map (RN.to z)).map T2.row ++ [T2.turns w'.toNat ((fo w').map (RN.to z))]):=L6T.app ((a3.same s4).six) tt
 obtain ⟨G5,eG5,b5,e5,f5,z5⟩:∃ G',G' = upd Ht l5 (.lst ([V.ref x5_0,V.ref x5_1,V.ref x5_2] ++ [.ref xt]))/\L6T c G' ([V.ref x5_0,V.ref x5_1,V.ref x5_2] ++ [.ref xt]) _/\Same H G'/\G' l5 = some (.lst ([V.ref x5_0,V.ref x5_1,V.ref x5_2] ++ [.ref xt]))/\H l5 = none:=⟨_,rfl,at4.same (au hl5 _),(s3.trans s4).trans (au hl5 _),ae,none_of (s3.trans s4) hl5⟩
 rw [show upd Ht l5 (.lst [V.ref x5_0,V.ref x5_1,V.ref x5_2,V.ref xt]) = G5 from eG5.symm]
 clear eG5 hl5
 refine ⟨_,rfl,_,rfl,_,_,rfl,rfl,la _ (by decide),_,rfl,_,_,rfl,rfl,la _ (by decide),_,rfl,_,_,rfl,rfl,la _ (by decide),fun x6_0 d6_0 h6_0 j6_0 _=>⟨_,_,_,_,rfl,rfl,ae,(T.clF (k:=4) (by decide)).1,(T.clF (k:=4) (by decide)).2,fun H6_0 t6_0 s6_0=>⟨rfl,_,rfl,_,_,rfl,rfl,la _ (by decide),_,rfl,_,_,rfl,rfl,la _ (by decide),_,rfl,_,_,rfl,rfl,la _ (by decide),fun x6_1 d6_1 h6_1 j6_1 _=>⟨_,_,_,_,rfl,rfl,ae,(T.clF (k:=5) (by decide)).1,(T.clF (k:=5) (by decide)).2,fun H6_1 t6_1 s6_1=>⟨rfl,(by show 2<=sizeLine; lia),fun q6 hq6=>?_⟩⟩⟩⟩⟩
 have g6_0:RA c H6_0 x6_0 (RN.to z (.jn 4 7 2 15)):=⟨d6_0,t6_0,rfl⟩
 have g6_1:RA c H6_1 x6_1 (RN.to z (.jn 5 8 2 15)):=⟨d6_1,t6_1,rfl⟩
 obtain ⟨J6,eJ6,w6,u6,v6,_⟩:=dH (xs:=[V.ref x6_0,V.ref x6_1]) ((LR.one g6_0).put (ap h6_1 j6_1 s6_1) g6_1) ((ap h6_0 j6_0 s6_0).trans (ap h6_1 j6_1 s6_1)) hq6
 rw [<- eJ6]
 clear eJ6 hq6
 refine ⟨l5,q6,_,_,rfl,rfl,SqL.of (u6 _ _ f5),SqL.of v6,(by simp only [List.length_append,List.length_cons,List.length_nil]; lia),fun l6 hl6=>?_⟩
 obtain ⟨G6,eG6,b6,e6,f6,z6⟩:=lM (xs:=([V.ref x5_0,V.ref x5_1,V.ref x5_2] ++ [.ref xt])) (ys:=[V.ref x6_0,V.ref x6_1]) b5 e5 w6 u6 hl6
 rw [<- eG6]
 clear eG6 hl6 w6 u6 v6 b5 e5 f5
 refine ⟨_,rfl,_,rfl,_,_,rfl,rfl,la _ (by decide),_,rfl,_,_,rfl,rfl,la _ (by decide),_,rfl,_,_,rfl,rfl,la _ (by decide),_,rfl,_,_,rfl,rfl,la _ (by decide),fun x7_0 d7_0 h7_0 j7_0 _=>⟨_,_,_,_,rfl,rfl,ae,(T.clF (k:=2) (by decide)).1,(T.clF (k:=2) (by decide)).2,fun H7_0 t7_0 s7_0=>⟨rfl,_,rfl,_,_,rfl,rfl,la _ (by decide),_,rfl,_,_,rfl,rfl,la _ (by decide),_,rfl,_,_,rfl,rfl,la _ (by decide),_,rfl,_,_,rfl,rfl,la _ (by decide),fun x7_1 d7_1 h7_1 j7_1 _=>⟨_,_,_,_,rfl,rfl,ae,(T.clF (k:=2) (by decide)).1,(T.clF (k:=2) (by decide)).2,fun H7_1 t7_1 s7_1=>⟨rfl,(by show 2<=sizeLine; lia),fun q7 hq7=>?_⟩⟩⟩⟩⟩
 have g7_0:RA c H7_0 x7_0 (RN.to z (.car 2 7 (some 9) 7 1)):=⟨d7_0,t7_0,rfl⟩
 have g7_1:RA c H7_1 x7_1 (RN.to z (.car 2 8 (some 10) 8 9)):=⟨d7_1,t7_1,rfl⟩
 obtain ⟨J7,eJ7,w7,u7,v7,_⟩:=dH (xs:=[V.ref x7_0,V.ref x7_1]) ((LR.one g7_0).put (ap h7_1 j7_1 s7_1) g7_1) ((ap h7_0 j7_0 s7_0).trans (ap h7_1 j7_1 s7_1)) hq7
 rw [<- eJ7]
 clear eJ7 hq7
 refine ⟨l6,q7,_,_,rfl,rfl,SqL.of (u7 _ _ f6),SqL.of v7,(by simp only [List.length_append,List.length_cons,List.length_nil]; lia),fun l7 hl7=>?_⟩
 obtain ⟨G7,eG7,b7,e7,f7,z7⟩:=lM (xs:=(([V.ref x5_0,V.ref x5_1,V.ref x5_2] ++ [.ref xt]) ++ [V.ref x6_0,V.ref x6_1])) (ys:=[V.ref x7_0,V.ref x7_1]) b6 e6 w7 u7 hl7
 rw [<- eG7]
 clear eG7 hl7 w7 u7 v7 b6 e6 f6
 refine ⟨_,rfl,_,rfl,_,_,rfl,rfl,la _ (by decide),_,rfl,_,_,rfl,rfl,la _ (by decide),_,rfl,_,_,rfl,rfl,la _ (by decide),fun x8_0 d8_0 h8_0 j8_0 _=>⟨_,_,_,_,rfl,rfl,ae,(T.clF (k:=11) (by decide)).1,(T.clF (k:=11) (by decide)).2,fun H8_0 t8_0 s8_0=>⟨rfl,_,rfl,_,_,rfl,rfl,la _ (by decide),fun x8_1 d8_1 h8_1 j8_1 _=>⟨_,_,_,_,rfl,rfl,ae,(T.clF (k:=14) (by decide)).1,(T.clF (k:=14) (by decide)).2,fun H8_1 t8_1 s8_1=>⟨rfl,_,rfl,_,_,rfl,rfl,la _ (by decide),_,rfl,_,_,rfl,rfl,la _ (by decide),_,rfl,_,_,rfl,rfl,la _ (by decide),fun x8_2 d8_2 h8_2 j8_2 _=>⟨_,_,_,_,rfl,rfl,ae,(T.clF (k:=11) (by decide)).1,(T.clF (k:=11) (by decide)).2,fun H8_2 t8_2 s8_2=>⟨rfl,(by show 3<=sizeLine; lia),fun q8 hq8=>?_⟩⟩⟩⟩⟩⟩⟩
 have g8_0:RA c H8_0 x8_0 (RN.to z (.jn 11 11 7 14)):=⟨d8_0,t8_0,rfl⟩
 have g8_1:RA c H8_1 x8_1 (RN.to z (.mark 1 "round" 11)):=⟨d8_1,t8_1,rfl⟩
 have g8_2:RA c H8_2 x8_2 (RN.to z (.jn 11 11 8 13)):=⟨d8_2,t8_2,rfl⟩
 obtain ⟨J8,eJ8,w8,u8,v8,_⟩:=dH (xs:=[V.ref x8_0,V.ref x8_1,V.ref x8_2]) (((LR.one g8_0).put (ap h8_1 j8_1 s8_1) g8_1).put (ap h8_2 j8_2 s8_2) g8_2) (((ap h8_0 j8_0 s8_0).trans (ap h8_1 j8_1 s8_1)).trans (ap h8_2 j8_2 s8_2)) hq8
 rw [<- eJ8]
 clear eJ8 hq8
 refine ⟨l7,q8,_,_,rfl,rfl,SqL.of (u8 _ _ f7),SqL.of v8,(by simp only [List.length_append,List.length_cons,List.length_nil]; lia),fun l8 hl8=>?_⟩
 obtain ⟨G8,eG8,b8,e8,f8,z8⟩:=lM (xs:=((([V.ref x5_0,V.ref x5_1,V.ref x5_2] ++ [.ref xt]) ++ [V.ref x6_0,V.ref x6_1]) ++ [V.ref x7_0,V.ref x7_1])) (ys:=[V.ref x8_0,V.ref x8_1,V.ref x8_2]) b7 e7 w8 u8 hl8
 rw [<- eG8]
 clear eG8 hl8 w8 u8 v8 b7 e7 f7
 refine ⟨_,rfl,_,rfl,_,_,rfl,rfl,la _ (by decide),fun x9_0 d9_0 h9_0 j9_0 _=>⟨_,_,_,_,rfl,rfl,ae,(T.clF (k:=14) (by decide)).1,(T.clF (k:=14) (by decide)).2,fun H9_0 t9_0 s9_0=>⟨rfl,_,rfl,_,_,rfl,rfl,la _ (by decide),fun x9_1 d9_1 h9_1 j9_1 _=>⟨_,_,_,_,rfl,rfl,ae,(T.clF (k:=14) (by decide)).1,(T.clF (k:=14) (by decide)).2,fun H9_1 t9_1 s9_1=>⟨rfl,_,rfl,_,_,rfl,rfl,la _ (by decide),fun x9_2 d9_2 h9_2 j9_2 _=>⟨_,_,_,_,rfl,rfl,ae,(T.clF (k:=14) (by decide)).1,(T.clF (k:=14) (by decide)).2,fun H9_2 t9_2 s9_2=>⟨rfl,(by show 3<=sizeLine; lia),fun q9 hq9=>?_⟩⟩⟩⟩⟩⟩⟩
 have g9_0:RA c H9_0 x9_0 (RN.to z (.mark 2 "stop" 11)):=⟨d9_0,t9_0,rfl⟩
 have g9_1:RA c H9_1 x9_1 (RN.to z (.mark 3 "nothing" 10)):=⟨d9_1,t9_1,rfl⟩
 have g9_2:RA c H9_2 x9_2 (RN.to z (.mark 4 "stop" 0)):=⟨d9_2,t9_2,rfl⟩
 obtain ⟨J9,eJ9,w9,u9,v9,_⟩:=dH (xs:=[V.ref x9_0,V.ref x9_1,V.ref x9_2]) (((LR.one g9_0).put (ap h9_1 j9_1 s9_1) g9_1).put (ap h9_2 j9_2 s9_2) g9_2) (((ap h9_0 j9_0 s9_0).trans (ap h9_1 j9_1 s9_1)).trans (ap h9_2 j9_2 s9_2)) hq9
 rw [<- eJ9]
 clear eJ9 hq9
 refine ⟨l8,q9,_,_,rfl,rfl,SqL.of (u9 _ _ f8),SqL.of v9,(by simp only [List.length_append,List.length_cons,List.length_nil]; lia),fun l9 hl9=>?_⟩
 obtain ⟨G9,eG9,b9,e9,f9,z9⟩:=lM (xs:=(((([V.ref x5_0,V.ref x5_1,V.ref x5_2] ++ [.ref xt]) ++ [V.ref x6_0,V.ref x6_1]) ++ [V.ref x7_0,V.ref x7_1]) ++ [V.ref x8_0,V.ref x8_1,V.ref x8_2])) (ys:=[V.ref x9_0,V.ref x9_1,V.ref x9_2]) b8 e8 w9 u9 hl9
 rw [<- eG9]
 clear eG9 hl9 w9 u9 v9 b8 e8 f8
 refine ⟨_,rfl,_,rfl,_,_,rfl,rfl,la _ (by decide),_,rfl,_,_,rfl,rfl,la _ (by decide),_,rfl,_,_,rfl,rfl,fun x10_0 d10_0 h10_0 j10_0 _=>⟨_,_,_,_,rfl,rfl,ae,(T.clF (k:=8) (by decide)).1,(T.clF (k:=8) (by decide)).2,fun H10_0 t10_0 s10_0=>⟨rfl,(by show 1<=sizeLine; lia),fun q10 hq10=>?_⟩⟩⟩
 have g10_0:RA c H10_0 x10_0 (RN.to z (.mv 8 12 14 (w' - 1))):=⟨d10_0,t10_0,rfl⟩
 obtain ⟨J10,eJ10,w10,u10,v10,_⟩:=dH (xs:=[V.ref x10_0]) (LR.one g10_0) (ap h10_0 j10_0 s10_0) hq10
 rw [<- eJ10]
 clear eJ10 hq10
 refine ⟨l9,q10,_,_,rfl,rfl,SqL.of (u10 _ _ f9),SqL.of v10,(by simp only [List.length_append,List.length_cons,List.length_nil]; lia),fun l10 hl10=>?_⟩
 obtain ⟨G10,eG10,b10,e10,f10,z10⟩:=lM (xs:=((((([V.ref x5_0,V.ref x5_1,V.ref x5_2] ++ [.ref xt]) ++ [V.ref x6_0,V.ref x6_1]) ++ [V.ref x7_0,V.ref x7_1]) ++ [V.ref x8_0,V.ref x8_1,V.ref x8_2]) ++ [V.ref x9_0,V.ref x9_1,V.ref x9_2])) (ys:=[V.ref x10_0]) b9 e9 w10 u10 hl10
 rw [<- eG10]
 clear eG10 hl10 w10 u10 v10 b9 e9 f9
 refine q l10 _ G10 z10 f10 ?_ e10
 have e:pe w' z = _:=rfl
 exact b10
theorem jp {f:Addr} {fd:FuncData} (F:Fun K "_law_product" "_law_product" dm f fd) (T:Txt K mg c)  (C_Low:CHas P w K mg base 1 c.Low "Low" ["self","goal","one","other"] (aI K ["goal","one","other"])) (C_High:CHas P w K mg base 1 c.High "High" ["self","goal","one","other"] (aI K ["goal","one","other"])) (C_Set:CHas P w K mg base 1 c.Set "Set" ["self","goal","bits"] (aI K ["goal","bits"])) (C_Sum:CHas P w K mg base 1 c.Sum "Sum" ["self","goal","carry","one","other"] (aI K ["goal","carry","one","other"])):FnOk P w K mg base CX0 3 f fd ["_law_n"] (ny c):=by
 refine F.ok sc__law_product (fun vs H Q E h=>?_) (fun cdv A outer s H vs Q E hr h=>?_)
 ·obtain ⟨z,rfl,_⟩:=h
  rfl
 obtain ⟨z,rfl,hz,q⟩:=h
 have lz:=lN hz
 have L99:(99:Nat)<=sizeLine:=by decide
 have la:∀ s:Str,s.length<=3->z.length + s.length<=sizeLine:=fun s hs=>by lia
 refine slE ⟨_,(aJ (bC (i:=1) sc__law_product.nd rfl (Or.inl rfl) (bD (aB (aF C_Low (hr.mono (by lia)) rfl (aa (aq af (pv 0) am) (aa (aq af (pv 0) am) (aa (aq af (pv 0) am) ag)))) (aB (aF C_High (hr.mono (by lia)) rfl (aa (aq af (pv 0) am) (aa (aq af (pv 0) am) (aa (aq af (pv 0) am) ag)))) (aB (aF C_Set (hr.mono (by lia)) rfl (aa (aq af (pv 0) am) (aa ak ag))) (aB (aF C_Set (hr.mono (by lia)) rfl (aa (aq af (pv 0) am) (aa ak ag))) br))))))
  (aJ (ps_forZ PassesOwn.never rfl (cu (aY (aa (cD (aa am (aa am ag))) (aa (cD (aa am (aa am ag))) ag)))) (pQ rfl (bH (aQ (i:=2) sc__law_product.nd rfl (Or.inl rfl)) (bH (aQ (i:=3) sc__law_product.nd rfl (Or.inl rfl)) i8)))
   (aJ (bC (i:=1) sc__law_product.nd rfl (Or.inl rfl) (dF bB (eg (pv 1)) (bD (aB (aF C_Low (hr.mono (by lia)) rfl (aa (aq af (pv 0) am) (aa (aq af (pv 0) (pv 2)) (aa (aq af (pv 0) (pv 3)) ag)))) (aB (aF C_Sum (hr.mono (by lia)) rfl (aa (aq af (pv 0) am) (aa (aq af (pv 0) am) (aa (aq af (pv 0) am) (aa (aq af (pv 0) am) ag))))) br)))))
   (aJ (bC (i:=1) sc__law_product.nd rfl (Or.inl rfl) (dF bB (eg (pv 1)) (bD (aB (aF C_Sum (hr.mono (by lia)) rfl (aa (aq af (pv 0) am) (aa (aq af (pv 0) am) (aa (aq af (pv 0) am) (aa (aq af (pv 0) am) ag))))) (aB (aF C_Sum (hr.mono (by lia)) rfl (aa (aq af (pv 0) am) (aa bU (aa (aq af (pv 0) am) (aa (aq af (pv 0) am) ag))))) br)))))
   (aJ (bC (i:=1) sc__law_product.nd rfl (Or.inl rfl) (dF bB (eg (pv 1)) (bD (aB (aF C_High (hr.mono (by lia)) rfl (aa (aq af (pv 0) am) (aa (aq af (pv 0) (pv 2)) (aa (aq af (pv 0) (pv 3)) ag)))) (aB (aF C_Sum (hr.mono (by lia)) rfl (aa (aq af (pv 0) am) (aa (aq af (pv 0) am) (aa (aq af (pv 0) am) (aa (aq af (pv 0) am) ag))))) br)))))
   (aM (bC (i:=1) sc__law_product.nd rfl (Or.inl rfl) (dF bB (eg (pv 1)) (bD (aB (aF C_Sum (hr.mono (by lia)) rfl (aa (aq af (pv 0) am) (aa bU (aa (aq af (pv 0) am) (aa (aq af (pv 0) am) ag))))) br)))))))))
  (aJ (bC (i:=1) sc__law_product.nd rfl (Or.inl rfl) (dF bB (eg (pv 1)) (bD (aB (aF C_Low (hr.mono (by lia)) rfl (aa (aq af (pv 0) am) (aa (aq af (pv 0) am) (aa (aq af (pv 0) am) ag)))) (aB (aF C_Sum (hr.mono (by lia)) rfl (aa (aq af (pv 0) am) (aa (aq af (pv 0) am) (aa (aq af (pv 0) am) (aa (aq af (pv 0) am) ag))))) br)))))
  (aJ (bC (i:=1) sc__law_product.nd rfl (Or.inl rfl) (dF bB (eg (pv 1)) (bD (aB (aF C_High (hr.mono (by lia)) rfl (aa (aq af (pv 0) am) (aa (aq af (pv 0) am) (aa (aq af (pv 0) am) ag)))) (aB (aF C_Sum (hr.mono (by lia)) rfl (aa (aq af (pv 0) am) (aa bU (aa (aq af (pv 0) am) (aa (aq af (pv 0) am) ag))))) br)))))
  (aM (eg (ar (aq bB (pv 1) (aY (aa (aF C_Sum (hr.mono (by lia)) rfl (aa (aq af (pv 0) am) (aa bU (aa (aq af (pv 0) am) (aa (aq af (pv 0) am) ag))))) ag)))))))))),?_⟩
 refine ⟨_,rfl,_,_,rfl,rfl,la _ (by decide),_,rfl,_,_,rfl,rfl,la _ (by decide),_,rfl,_,_,rfl,rfl,la _ (by decide),fun x11_0 d11_0 h11_0 j11_0 _=>⟨_,_,_,_,rfl,rfl,ae,(T.clF (k:=4) (by decide)).1,(T.clF (k:=4) (by decide)).2,fun H11_0 t11_0 s11_0=>⟨rfl,_,rfl,_,_,rfl,rfl,la _ (by decide),_,rfl,_,_,rfl,rfl,la _ (by decide),_,rfl,_,_,rfl,rfl,la _ (by decide),fun x11_1 d11_1 h11_1 j11_1 _=>⟨_,_,_,_,rfl,rfl,ae,(T.clF (k:=5) (by decide)).1,(T.clF (k:=5) (by decide)).2,fun H11_1 t11_1 s11_1=>⟨rfl,_,rfl,_,_,rfl,rfl,la _ (by decide),fun x11_2 d11_2 h11_2 j11_2 _=>⟨_,_,_,_,rfl,rfl,ae,(T.clF (k:=0) (by decide)).1,(T.clF (k:=0) (by decide)).2,fun H11_2 t11_2 s11_2=>⟨rfl,_,rfl,_,_,rfl,rfl,la _ (by decide),fun x11_3 d11_3 h11_3 j11_3 _=>⟨_,_,_,_,rfl,rfl,ae,(T.clF (k:=0) (by decide)).1,(T.clF (k:=0) (by decide)).2,fun H11_3 t11_3 s11_3=>⟨rfl,(by show 4<=sizeLine; lia),fun l11 hl11=>?_⟩⟩⟩⟩⟩⟩⟩⟩⟩
 have g11_0:RA c H11_0 x11_0 (RN.to z (.jn 4 16 20 22)):=⟨d11_0,t11_0,rfl⟩
 have g11_1:RA c H11_1 x11_1 (RN.to z (.jn 5 17 20 22)):=⟨d11_1,t11_1,rfl⟩
 have g11_2:RA c H11_2 x11_2 (RN.to z (.set 18 0)):=⟨d11_2,t11_2,rfl⟩
 have g11_3:RA c H11_3 x11_3 (RN.to z (.set 19 0)):=⟨d11_3,t11_3,rfl⟩
 obtain ⟨G11,eG11,b11,e11,f11,z11⟩:=dH (xs:=[V.ref x11_0,V.ref x11_1,V.ref x11_2,V.ref x11_3]) ((((LR.one g11_0).put (ap h11_1 j11_1 s11_1) g11_1).put (ap h11_2 j11_2 s11_2) g11_2).put (ap h11_3 j11_3 s11_3) g11_3) ((((ap h11_0 j11_0 s11_0).trans (ap h11_1 j11_1 s11_1)).trans (ap h11_2 j11_2 s11_2)).trans (ap h11_3 j11_3 s11_3)) hl11
 rw [<- eG11]
 clear eG11 hl11
 have zl:=z11
 refine ⟨(by show 2<=sizeLine; lia),fun t1 ht1=>⟨(by show 2<=sizeLine; lia),fun t2 ht2=>⟨(by show 2<=sizeLine; lia),fun lp hlp=>?_⟩⟩⟩
 obtain ⟨Hd,eHd,hd1,hd2,hdp,sd⟩:=disp2 ht1 ht2 hlp
 rw [<- eHd]
 have bd:=b11.same sd
 have ed:=e11.trans sd
 have fd':=sd _ _ f11
 clear eHd ht1 ht2 hlp b11 e11 f11 z11
 refine ⟨lp,rfl,⟨_,SqL.of hdp⟩,ck (xs:=[V.ref t1,V.ref t2]) (fun j σ G=>∃ (lr:Addr) (xs:List V) (y1 y2:Option V),σ = [some (.str z),some (.ref lr),y1,y2]/\G lr = some (.lst xs)/\LR c G xs (pro0 z ++ ((mids z).take j).flatten)/\xs.length<=4 + 7 * j/\Same Hd G/\H lr = none) ⟨l11,_,_,_,rfl,fd',bd,(by show 4<=4; lia),Same.refl _,zl⟩ ?_ ?_ ?_⟩
 ·rintro j σ G hj ⟨lr,xs,y1,y2,rfl,_,_,_,sG,_⟩
  exact SqL.of (sG _ _ hdp)
 ·rintro j v σ G hv ⟨lr,xs,y1,y2,rfl,f90,b90,hx,e90,z90⟩
  obtain ⟨a,b,tp,rfl,htp,la',lb',hm,j2⟩:∃ (a b:Nat) (tp:Addr),v = .ref tp/\Hd tp = some (.tup [.str (sfx a),.str (sfx b)])/\(sfx a).length<=3/\(sfx b).length<=3/\(mids z)[j]? = some ((iB a b).map (RN.to z))/\j < 2:=by
   match j,hv with
   | 0,hv=>cases hv; exact ⟨20,23,t1,rfl,hd1,by decide,by decide,rfl,by decide⟩
   | 1,hv=>cases hv; exact ⟨21,22,t2,rfl,hd2,by decide,by decide,rfl,by decide⟩
  refine ⟨tp,_,rfl,SqT.of (e90 _ _ htp),rfl,_,_,rfl,_,_,rfl,rfl,?_⟩
  refine ⟨_,rfl,_,rfl,_,_,rfl,rfl,la _ (by decide),_,rfl,_,rfl,_,_,rfl,rfl,la _ la',_,rfl,_,rfl,_,_,rfl,rfl,la _ lb',fun x12_0 d12_0 h12_0 j12_0 _=>⟨_,_,_,_,rfl,rfl,ae,(T.clF (k:=4) (by decide)).1,(T.clF (k:=4) (by decide)).2,fun H12_0 t12_0 s12_0=>⟨rfl,_,rfl,_,_,rfl,rfl,la _ (by decide),_,rfl,_,_,rfl,rfl,la _ (by decide),_,rfl,_,_,rfl,rfl,la _ (by decide),_,rfl,_,_,rfl,rfl,la _ (by decide),fun x12_1 d12_1 h12_1 j12_1 _=>⟨_,_,_,_,rfl,rfl,ae,(T.clF (k:=2) (by decide)).1,(T.clF (k:=2) (by decide)).2,fun H12_1 t12_1 s12_1=>⟨rfl,(by show 2<=sizeLine; lia),fun q12 hq12=>?_⟩⟩⟩⟩⟩
  have g12_0:RA c H12_0 x12_0 (RN.to z (.jn 4 24 a b)):=⟨d12_0,t12_0,rfl⟩
  have g12_1:RA c H12_1 x12_1 (RN.to z (.car 2 17 (some 9) 17 24)):=⟨d12_1,t12_1,rfl⟩
  obtain ⟨J12,eJ12,w12,u12,v12,_⟩:=dH (xs:=[V.ref x12_0,V.ref x12_1]) ((LR.one g12_0).put (ap h12_1 j12_1 s12_1) g12_1) ((ap h12_0 j12_0 s12_0).trans (ap h12_1 j12_1 s12_1)) hq12
  rw [<- eJ12]
  clear eJ12 hq12
  refine ⟨lr,q12,_,_,rfl,rfl,SqL.of (u12 _ _ f90),SqL.of v12,(by simp only [List.length_append,List.length_cons,List.length_nil]; lia),fun l12 hl12=>?_⟩
  obtain ⟨G12,eG12,b12,e12,f12,z12⟩:=iH (xs:=xs) (ys:=[V.ref x12_0,V.ref x12_1]) b90 e90 w12 u12 hl12
  rw [<- eG12]
  clear eG12 hl12 w12 u12 v12 b90 e90 f90
  refine ⟨_,rfl,_,rfl,_,_,rfl,rfl,la _ (by decide),_,rfl,_,_,rfl,rfl,la _ (by decide),_,rfl,_,_,rfl,rfl,la _ (by decide),_,rfl,_,_,rfl,rfl,la _ (by decide),fun x13_0 d13_0 h13_0 j13_0 _=>⟨_,_,_,_,rfl,rfl,ae,(T.clF (k:=2) (by decide)).1,(T.clF (k:=2) (by decide)).2,fun H13_0 t13_0 s13_0=>⟨rfl,_,rfl,_,_,rfl,rfl,la _ (by decide),_,rfl,_,_,rfl,rfl,la _ (by decide),_,rfl,_,_,rfl,rfl,la _ (by decide),fun x13_1 d13_1 h13_1 j13_1 _=>⟨_,_,_,_,rfl,rfl,ae,(T.clF (k:=2) (by decide)).1,(T.clF (k:=2) (by decide)).2,fun H13_1 t13_1 s13_1=>⟨rfl,(by show 2<=sizeLine; lia),fun q13 hq13=>?_⟩⟩⟩⟩⟩
  have g13_0:RA c H13_0 x13_0 (RN.to z (.car 2 18 (some 25) 18 9)):=⟨d13_0,t13_0,rfl⟩
  have g13_1:RA c H13_1 x13_1 (RN.to z (.car 2 19 none 19 25)):=⟨d13_1,t13_1,rfl⟩
  obtain ⟨J13,eJ13,w13,u13,v13,_⟩:=dH (xs:=[V.ref x13_0,V.ref x13_1]) ((LR.one g13_0).put (ap h13_1 j13_1 s13_1) g13_1) ((ap h13_0 j13_0 s13_0).trans (ap h13_1 j13_1 s13_1)) hq13
  rw [<- eJ13]
  clear eJ13 hq13
  refine ⟨l12,q13,_,_,rfl,rfl,SqL.of (u13 _ _ f12),SqL.of v13,(by simp only [List.length_append,List.length_cons,List.length_nil]; lia),fun l13 hl13=>?_⟩
  obtain ⟨G13,eG13,b13,e13,f13,z13⟩:=iH (xs:=(xs ++ [V.ref x12_0,V.ref x12_1])) (ys:=[V.ref x13_0,V.ref x13_1]) b12 e12 w13 u13 hl13
  rw [<- eG13]
  clear eG13 hl13 w13 u13 v13 b12 e12 f12
  refine ⟨_,rfl,_,rfl,_,_,rfl,rfl,la _ (by decide),_,rfl,_,rfl,_,_,rfl,rfl,la _ la',_,rfl,_,rfl,_,_,rfl,rfl,la _ lb',fun x14_0 d14_0 h14_0 j14_0 _=>⟨_,_,_,_,rfl,rfl,ae,(T.clF (k:=5) (by decide)).1,(T.clF (k:=5) (by decide)).2,fun H14_0 t14_0 s14_0=>⟨rfl,_,rfl,_,_,rfl,rfl,la _ (by decide),_,rfl,_,_,rfl,rfl,la _ (by decide),_,rfl,_,_,rfl,rfl,la _ (by decide),_,rfl,_,_,rfl,rfl,la _ (by decide),fun x14_1 d14_1 h14_1 j14_1 _=>⟨_,_,_,_,rfl,rfl,ae,(T.clF (k:=2) (by decide)).1,(T.clF (k:=2) (by decide)).2,fun H14_1 t14_1 s14_1=>⟨rfl,(by show 2<=sizeLine; lia),fun q14 hq14=>?_⟩⟩⟩⟩⟩
  have g14_0:RA c H14_0 x14_0 (RN.to z (.jn 5 24 a b)):=⟨d14_0,t14_0,rfl⟩
  have g14_1:RA c H14_1 x14_1 (RN.to z (.car 2 18 (some 9) 18 24)):=⟨d14_1,t14_1,rfl⟩
  obtain ⟨J14,eJ14,w14,u14,v14,_⟩:=dH (xs:=[V.ref x14_0,V.ref x14_1]) ((LR.one g14_0).put (ap h14_1 j14_1 s14_1) g14_1) ((ap h14_0 j14_0 s14_0).trans (ap h14_1 j14_1 s14_1)) hq14
  rw [<- eJ14]
  clear eJ14 hq14
  refine ⟨l13,q14,_,_,rfl,rfl,SqL.of (u14 _ _ f13),SqL.of v14,(by simp only [List.length_append,List.length_cons,List.length_nil]; lia),fun l14 hl14=>?_⟩
  obtain ⟨G14,eG14,b14,e14,f14,z14⟩:=iH (xs:=((xs ++ [V.ref x12_0,V.ref x12_1]) ++ [V.ref x13_0,V.ref x13_1])) (ys:=[V.ref x14_0,V.ref x14_1]) b13 e13 w14 u14 hl14
  rw [<- eG14]
  clear eG14 hl14 w14 u14 v14 b13 e13 f13
  refine ⟨_,rfl,_,rfl,_,_,rfl,rfl,la _ (by decide),_,rfl,_,_,rfl,rfl,la _ (by decide),_,rfl,_,_,rfl,rfl,la _ (by decide),fun x15_0 d15_0 h15_0 j15_0 _=>⟨_,_,_,_,rfl,rfl,ae,(T.clF (k:=2) (by decide)).1,(T.clF (k:=2) (by decide)).2,fun H15_0 t15_0 s15_0=>⟨rfl,(by show 1<=sizeLine; lia),fun q15 hq15=>?_⟩⟩⟩
  have g15_0:RA c H15_0 x15_0 (RN.to z (.car 2 19 none 19 9)):=⟨d15_0,t15_0,rfl⟩
  obtain ⟨J15,eJ15,w15,u15,v15,_⟩:=dH (xs:=[V.ref x15_0]) (LR.one g15_0) (ap h15_0 j15_0 s15_0) hq15
  rw [<- eJ15]
  clear eJ15 hq15
  refine ⟨l14,q15,_,_,rfl,rfl,SqL.of (u15 _ _ f14),SqL.of v15,(by simp only [List.length_append,List.length_cons,List.length_nil]; lia),fun l15 hl15=>?_⟩
  obtain ⟨G15,eG15,b15,e15,f15,z15⟩:=iH (xs:=(((xs ++ [V.ref x12_0,V.ref x12_1]) ++ [V.ref x13_0,V.ref x13_1]) ++ [V.ref x14_0,V.ref x14_1])) (ys:=[V.ref x15_0]) b14 e14 w15 u15 hl15
  rw [<- eG15]
  clear eG15 hl15 w15 u15 v15 b14 e14 f14
  have zl2:H l15 = none:=none_of ed z15
  refine ⟨l15,_,_,_,rfl,f15,?_,?_,e15,zl2⟩
  ·rw [cp hm,List.flatten_append,<- List.append_assoc]
   show LR c G15 _ (_ ++ ((iB a b).map (RN.to z) ++ []))
   rw [List.append_nil,show (iB a b).map (RN.to z) = _ ++ (_ ++ (_ ++ _)) from (rfl:_ = [RN.to z (.jn 4 24 a b),RN.to z (.car 2 17 (some 9) 17 24)] ++ ([RN.to z (.car 2 18 (some 25) 18 9),RN.to z (.car 2 19 none 19 25)] ++ ([RN.to z (.jn 5 24 a b),RN.to z (.car 2 18 (some 9) 18 24)] ++ [RN.to z (.car 2 19 none 19 9)]))),<- List.append_assoc,<- List.append_assoc,<- List.append_assoc]
   exact b15
  ·simp only [List.length_append,List.length_cons,List.length_nil]; lia
 ·rintro σ G ⟨lr,xs,y1,y2,rfl,f91,b91,hx,e91,z91⟩
  have b91:LR c G xs (pro0 z ++ (mids z).flatten):=b91
  have hx:xs.length<=18:=hx
  refine ⟨_,rfl,_,rfl,_,_,rfl,rfl,la _ (by decide),_,rfl,_,_,rfl,rfl,la _ (by decide),_,rfl,_,_,rfl,rfl,la _ (by decide),fun x16_0 d16_0 h16_0 j16_0 _=>⟨_,_,_,_,rfl,rfl,ae,(T.clF (k:=4) (by decide)).1,(T.clF (k:=4) (by decide)).2,fun H16_0 t16_0 s16_0=>⟨rfl,_,rfl,_,_,rfl,rfl,la _ (by decide),_,rfl,_,_,rfl,rfl,la _ (by decide),_,rfl,_,_,rfl,rfl,la _ (by decide),_,rfl,_,_,rfl,rfl,la _ (by decide),fun x16_1 d16_1 h16_1 j16_1 _=>⟨_,_,_,_,rfl,rfl,ae,(T.clF (k:=2) (by decide)).1,(T.clF (k:=2) (by decide)).2,fun H16_1 t16_1 s16_1=>⟨rfl,(by show 2<=sizeLine; lia),fun q16 hq16=>?_⟩⟩⟩⟩⟩
  have g16_0:RA c H16_0 x16_0 (RN.to z (.jn 4 24 21 23)):=⟨d16_0,t16_0,rfl⟩
  have g16_1:RA c H16_1 x16_1 (RN.to z (.car 2 18 (some 9) 18 24)):=⟨d16_1,t16_1,rfl⟩
  obtain ⟨J16,eJ16,w16,u16,v16,_⟩:=dH (xs:=[V.ref x16_0,V.ref x16_1]) ((LR.one g16_0).put (ap h16_1 j16_1 s16_1) g16_1) ((ap h16_0 j16_0 s16_0).trans (ap h16_1 j16_1 s16_1)) hq16
  rw [<- eJ16]
  clear eJ16 hq16
  refine ⟨lr,q16,_,_,rfl,rfl,SqL.of (u16 _ _ f91),SqL.of v16,(by simp only [List.length_append,List.length_cons,List.length_nil]; lia),fun l16 hl16=>?_⟩
  obtain ⟨G16,eG16,b16,e16,f16,z16⟩:=iH (xs:=xs) (ys:=[V.ref x16_0,V.ref x16_1]) b91 e91 w16 u16 hl16
  rw [<- eG16]
  clear eG16 hl16 w16 u16 v16 b91 e91 f91
  refine ⟨_,rfl,_,rfl,_,_,rfl,rfl,la _ (by decide),_,rfl,_,_,rfl,rfl,la _ (by decide),_,rfl,_,_,rfl,rfl,la _ (by decide),fun x17_0 d17_0 h17_0 j17_0 _=>⟨_,_,_,_,rfl,rfl,ae,(T.clF (k:=5) (by decide)).1,(T.clF (k:=5) (by decide)).2,fun H17_0 t17_0 s17_0=>⟨rfl,_,rfl,_,_,rfl,rfl,la _ (by decide),_,rfl,_,_,rfl,rfl,la _ (by decide),_,rfl,_,_,rfl,rfl,la _ (by decide),fun x17_1 d17_1 h17_1 j17_1 _=>⟨_,_,_,_,rfl,rfl,ae,(T.clF (k:=2) (by decide)).1,(T.clF (k:=2) (by decide)).2,fun H17_1 t17_1 s17_1=>⟨rfl,(by show 2<=sizeLine; lia),fun q17 hq17=>?_⟩⟩⟩⟩⟩
  have g17_0:RA c H17_0 x17_0 (RN.to z (.jn 5 24 21 23)):=⟨d17_0,t17_0,rfl⟩
  have g17_1:RA c H17_1 x17_1 (RN.to z (.car 2 19 none 19 24)):=⟨d17_1,t17_1,rfl⟩
  obtain ⟨J17,eJ17,w17,u17,v17,_⟩:=dH (xs:=[V.ref x17_0,V.ref x17_1]) ((LR.one g17_0).put (ap h17_1 j17_1 s17_1) g17_1) ((ap h17_0 j17_0 s17_0).trans (ap h17_1 j17_1 s17_1)) hq17
  rw [<- eJ17]
  clear eJ17 hq17
  refine ⟨l16,q17,_,_,rfl,rfl,SqL.of (u17 _ _ f16),SqL.of v17,(by simp only [List.length_append,List.length_cons,List.length_nil]; lia),fun l17 hl17=>?_⟩
  obtain ⟨G17,eG17,b17,e17,f17,z17⟩:=iH (xs:=(xs ++ [V.ref x16_0,V.ref x16_1])) (ys:=[V.ref x17_0,V.ref x17_1]) b16 e16 w17 u17 hl17
  rw [<- eG17]
  clear eG17 hl17 w17 u17 v17 b16 e16 f16
  refine ⟨_,rfl,_,rfl,_,_,rfl,rfl,la _ (by decide),_,rfl,_,_,rfl,rfl,la _ (by decide),_,rfl,_,_,rfl,rfl,la _ (by decide),fun x18_0 d18_0 h18_0 j18_0 _=>⟨_,_,_,_,rfl,rfl,ae,(T.clF (k:=2) (by decide)).1,(T.clF (k:=2) (by decide)).2,fun H18_0 t18_0 s18_0=>⟨rfl,(by show 1<=sizeLine; lia),fun q18 hq18=>?_⟩⟩⟩
  have g18_0:RA c H18_0 x18_0 (RN.to z (.car 2 19 none 19 9)):=⟨d18_0,t18_0,rfl⟩
  obtain ⟨J18,eJ18,w18,u18,v18,_⟩:=dH (xs:=[V.ref x18_0]) (LR.one g18_0) (ap h18_0 j18_0 s18_0) hq18
  rw [<- eJ18]
  clear eJ18 hq18
  refine ⟨l17,q18,_,_,rfl,rfl,SqL.of (u18 _ _ f17),SqL.of v18,(by simp only [List.length_append,List.length_cons,List.length_nil]; lia),fun l18 hl18=>?_⟩
  obtain ⟨G18,eG18,b18,e18,f18,z18⟩:=iH (xs:=((xs ++ [V.ref x16_0,V.ref x16_1]) ++ [V.ref x17_0,V.ref x17_1])) (ys:=[V.ref x18_0]) b17 e17 w18 u18 hl18
  rw [<- eG18]
  clear eG18 hl18 w18 u18 v18 b17 e17 f17
  refine q l18 _ G18 (none_of ed z18) f18 ?_ (ed.trans e18)
  exact b18.six
def vwK (r d:Addr):HO:=.ext fun h=>PySem.W.KdlKeysView h r d
theorem mt_keys {X:Cx}:MtM X "dict.keys" (fun x vs H Q=>∃ (a:Addr) (kvs:List (Key × V)),x = .ref a/\vs = []/\H a = some (.dK kvs)/\∀ r,H r = none->Q (.ref r) (upd H r (vwK r a))):=by
 intro pins s σ H x vs v us Q I rx rv h
 obtain ⟨a,kvs,rfl,rfl,ha,q⟩:=h
 cases rx
 cases rv
 obtain ⟨z,hd,xs,rel,dd⟩:=oE I.hok ha
 refine call_meetsIn PySem.F.slot_dict_keys dd.typeIs PySem.F.entry_dict_keys (PySem.F.args_dict_keys_1 _) (PySem.W.kdl_meets_keys (aL X.prog X.w) a hd) ⟨⟨xs,dd⟩,?_⟩
 refine ⟨.ref s.heap.objs.size,_,I.laid (t':=s.toks) (fun b o e=>Heap.get?_push_of_some _ e) (Nat.le_refl _) ?_,rfl,q _ (I.hok.fresh (Nat.le_refl _))⟩
 exact ⟨⟨_,Heap.get?_push_size _ rfl,rfl,rfl⟩,⟨_,Heap.get?_push_size _ rfl⟩,fun h1 h2 p k=>let ⟨o,e,x⟩:=p; ⟨o,k o e,x⟩⟩
theorem qr {X:Cx} (hc:X.calm = true):fq X (.type "list") (fun xs H Q=>∃ (r a:Addr) (kvs:List (Key × V)),xs = [.ref r]/\H r = some (vwK r a)/\H a = some (.dK kvs)/\∀ l,H l = none->Q (.ref l) (upd H l (.lst (kvs.map fun kv=>kV kv.1)))):=by
 intro pins s σ H xs us Q I r h
 obtain ⟨vr,a,kvs,rfl,hv,ha,q⟩:=h
 obtain ⟨u,rfl,ru⟩:=r.one
 cases (show u = Value.ref vr from ru)
 obtain ⟨z,hd,vs,rel,dd⟩:=oE I.hok ha
 obtain ⟨ep,dat⟩:=dd.dictAt
 have vw:PySem.W.KdlKeysView s.heap vr a:=(I.hok vr _ hv).1
 have hl:=rel.length
 have ky:=rel.keys
 refine PySem.W.kdl_call (PySem.W.kdl_keys (knd:=aL X.prog X.w) (r:=vr) (d:=a) (kvs:=vs) (ep:=ep)) (I.ok.hd hc) ⟨vw,dat⟩ (by rw [<- hl]; exact z) fun h' tk acc c kp gl io=>?_
 refine ⟨.ref s.heap.objs.size,_,I.laid (t':=tk) kp (Nat.le_refl _) ?_,rfl,q _ (I.hok.fresh (Nat.le_refl _))⟩
 refine ⟨by rw [List.length_map]; exact z,acc.toList,c,nJ (by rw [List.length_map,show acc.toList.length = vs.length from io.1]; exact hl) fun i x u hx hu=>?_,gl⟩
 obtain ⟨k,x',hk,isk⟩:=io.2 i u (by rw [<- Array.getElem?_toList]; exact hu)
 have e:=congrArg (fun l=>l[i]?) ky
 simp only [List.getElem?_map,hk,Option.map_some] at e
 rw [List.getElem?_map] at hx
 cases ek:kvs[i]? with
 | none=>rw [ek] at e; cases e
 | some kv =>
  rw [ek] at e hx
  cases hx
  injection e with e
  have e':kv.1 = k:=e
  show RelV (kV kv.1) u
  rw [e']
  exact oQ isk
def pq (i:Nat):Int:=7 * (i:Int) + 3
def mK (cf:Nat->Int) (n:Nat):Int:=((List.range n).map fun i=>cf i * pq i).sum
theorem qg {cf:Nat->Int} {n:Nat}:mK cf (n + 1) = mK cf n + cf n * pq n:=by
 unfold mK
 rw [List.range_succ,List.map_append,List.sum_append]
 simp
def oh:Sp:=fun vs H Q _=>∃ (d:Addr) (cf:Nat->Int),vs = [.ref d]/\H d = some (.dK (bX cf))/\∀ (l dp:Addr) H',H' l = some (.lst [.ref dp,.int (mK cf 16)])->H' dp = some (.dK (bX pq))->Same H H'->Q (.ref l) H'
theorem mi {f:Addr} {fd:FuncData} (F:Fun K "_law_cost" "_law_cost" fP f fd) (T:Txt K mg c) :FnOk P w K mg base CX0 1 f fd ["_law_counts"] oh:=by
 refine F.ok sc__law_cost (fun vs H Q E h=>?_) (fun cdv A outer s H vs Q E hr h=>?_)
 ·obtain ⟨d,cf,rfl,_⟩:=h
  rfl
 obtain ⟨d,cf,rfl,hd,q⟩:=h
 refine ⟨_,(ah (aH (i:=1) sc__law_cost.nd rfl (Or.inl rfl) kS)
  (ah (aH (i:=2) sc__law_cost.nd rfl (Or.inl rfl) ak)
  (ah (cA PassesOwn.never rfl (pi_enum rfl T.n_enumerate (aa (cS (qr rfl) rfl T.n_list boot_list (aa (j6 PySem.F.plainAttrs_dict PySem.F.slot_dict_keys PySem.F.type_dict_keys mt_keys (pv 0)) ag)) ag)) (pQ rfl (bH (aQ (i:=3) sc__law_cost.nd rfl (Or.inl rfl)) (bH (aQ (i:=4) sc__law_cost.nd rfl (Or.inl rfl)) i8)))
   (ah (cR (aZ hr) (pv 1) (pv 4) (aq bx (aq bh ak (pv 3)) ak) rfl)
   (ai (aH (i:=2) sc__law_cost.nd rfl (Or.inl rfl) (aq bx (pv 2) (aq bh (bA (aZ hr) (pv 0) (pv 4) (fun _ _=>rfl)) (aq bx (aq bh ak (pv 3)) ak)))))))
  (ai (ar (aY (aa (pv 1) (aa (pv 2) ag)))))))),?_⟩
 have L9:(99:Nat)<=sizeLine:=by decide
 refine fun dp hdp=>?_
 have s0:=au hdp (.dK [])
 have hd0:=s0 _ _ hd
 refine ⟨_,rfl,.inr (.inr (.inl ⟨rfl,.inl ⟨_,hd0⟩⟩)),d,_,rfl,rfl,hd0,fun vw hvw=>?_⟩
 have s1:=s0.trans (au hvw (vwK vw d))
 have hd1:=s1 _ _ hd
 have dpw:vw ≠ dp:=fun e=>nomatch (ae (H:=H)).symm.trans ((congrArg _ e.symm).trans hvw)
 refine ⟨vw,d,_,rfl,ae,hd1,fun l hl=>?_⟩
 have sl:=au hl (.lst ((bX cf).map fun kv=>kV kv.1))
 have s2:=s1.trans sl
 have hd2:=s2 _ _ hd
 have hdp2:upd (upd (upd H dp (.dK [])) vw (vwK vw d)) l (.lst ((bX cf).map fun kv=>kV kv.1)) dp = some (.dK []):=sl _ _ ((au hvw (vwK vw d)) _ _ ae)
 have xl:((bX cf).map fun kv:Key × V=>kV kv.1).length = 16:=by rw [List.length_map]; exact dA cf
 refine ⟨l,_,rfl,SqL.of ae,for_enum (xs:=(bX cf).map fun kv=>kV kv.1) (fun j σ G=>∃ y1 y2:Option V,σ = [some (.ref d),some (.ref dp),some (.int (mK cf j)),y1,y2]/\j<=16/\G l = some (.lst ((bX cf).map fun kv=>kV kv.1))/\G dp = some (.dK ((bX pq).take j))/\Same H G) ⟨_,_,rfl,Nat.zero_le _,ae,hdp2,s2⟩ ?_ ?_ ?_⟩
 ·rintro j σ G ⟨y1,y2,rfl,hj,h1,h2,ss⟩
  exact SqL.of h1
 ·rintro j x σ G hx ⟨y1,y2,rfl,hj,h1,h2,ss⟩ T hT
  obtain ⟨kv,hkv,rfl⟩:∃ kv,(bX cf)[j]? = some kv/\kV kv.1 = x:=by
   rw [List.getElem?_map] at hx
   exact Option.map_eq_some_iff.mp hx
  obtain ⟨jl,rfl⟩:=cnt_at hkv
  have sT:=au hT (.tup [.int (j:Nat),.str (wOf j)])
  refine ⟨T,_,rfl,SqT.of ae,rfl,_,_,rfl,_,_,rfl,rfl,?_⟩
  have hT1:=sT _ _ h1
  have hT2:=sT _ _ h2
  have hTd:=sT _ _ (ss _ _ hd)
  have tl:((bX pq).take j).length < sizeLine:=by rw [List.length_take]; lia
  have lT2:∀ (v:V) (b:Addr) (o:HO),b ≠ dp->upd G T (.tup [.int (j:Nat),.str (wOf j)]) b = some o->upd (upd G T (.tup [.int (j:Nat),.str (wOf j)])) dp (.dK (fk ((bX pq).take j) (.inr (wOf j)) v)) b = some o:=fun v b o nb e=>by rw [ao nb]; exact e
  refine ⟨_,rfl,_,_,rfl,rfl,.inl ⟨by decide,by decide⟩,_,_,rfl,rfl,_,rfl,_,rfl,dp,_,rfl,DPut.k (k:=.inr (wOf j)) hT2 tl,?_⟩
  have ndp:H dp = none:=hdp
  have ldp:l ≠ dp:=fun e=>nomatch (h1.symm.trans ((congrArg _ e).trans h2))
  have ddp:d ≠ dp:=fun e=>nomatch (hd.symm.trans ((congrArg _ e).trans hdp))
  have hTd':=lT2 (.int (7 * (j:Int) + 3)) d _ ddp hTd
  have hTl':=lT2 (.int (7 * (j:Int) + 3)) l _ ldp hT1
  have hv:=DGet.k (k:=.inr (wOf j)) hTd'
  rw [d7 jl] at hv
  refine ⟨_,rfl,_,rfl,_,rfl,d,_,rfl,hv,_,rfl,_,_,rfl,rfl,.inl ⟨by decide,by decide⟩,_,_,rfl,rfl,_,_,rfl,rfl,.inr ⟨by lia,by lia⟩,_,_,rfl,rfl,?_⟩
  have ts:Same H (upd G T (.tup [.int (j:Nat),.str (wOf j)])):=ss.trans sT
  refine ⟨some (.int (j:Nat)),some (.str (wOf j)),?_,jl,hTl',?_,Same.updL ts hdp⟩
  ·rw [qg]
   rfl
  ·rw [ae]
   exact congrArg (fun l=>some (HO.dK l)) (lQ (f:=pq) jl)
 ·rintro σ G ⟨y1,y2,rfl,hj,h1,h2,ss⟩
  rw [xl] at h2
  rw [List.take_of_length_le (by rw [dA]; exact Nat.le_refl _)] at h2
  refine ⟨_,rfl,_,rfl,(by show 2<=sizeLine; decide),fun r hr=>?_⟩
  have sr:=au hr (.lst [V.ref dp,V.int (mK cf 16)])
  exact q r dp _ ae (sr _ _ h2) (ss.trans sr)
theorem jy (rs:List Rw):evL 6 ((rs.map T2.row).map T2.c) = rs.map some:=by
 induction rs with
 | nil=>rfl
 | cons r t ih=>exact congrArg (some r :: ·) ih
theorem ev_r5 (rs:List Rw):(rs.map r5).flatMap (evs 5) = rs.map some:=by
 induction rs with
 | nil=>rfl
 | cons r t ih=>exact congrArg (some r :: ·) ih
theorem ev_turns (n:Nat) (rs:List Rw):evL 6 ([T2.turns n rs].map T2.c) = (List.replicate n (none :: rs.map some)).flatten:=by
 show (List.replicate n (none :: (rs.map r5).flatMap (evs 5))).flatten ++ [] = _
 rw [ev_r5,List.append_nil]
theorem ra (a b:List (Tr 6)):evL 6 (a ++ b) = evL 6 a ++ evL 6 b:=List.flatMap_append ..
theorem iA (rs:List Rw):rws (rs.map some) = rs:=by
 induction rs with
 | nil=>rfl
 | cons r t ih=>exact congrArg (r :: ·) ih
theorem sM (rs:List Rw):∀ n,rws (List.replicate n (none :: rs.map some)).flatten = (List.replicate n rs).flatten
 | 0=>rfl
 | n + 1=>by
  rw [List.replicate_succ,List.flatten_cons,dO,sM rs n,List.replicate_succ,List.flatten_cons]
  exact congrArg (· ++ _) (iA rs)
theorem kG {rs:List Rw} (h:∀ r ∈ rs,r.k < 15):cC (rs.map some) 15 = 0:=by
 induction rs with
 | nil=>rfl
 | cons r t ih =>
  rw [List.map_cons,show some r :: t.map some = [some r] ++ t.map some from rfl,i9,ih fun q hq=>h q (List.mem_cons_of_mem _ hq),ph]
  have:=h r (List.mem_cons_self ..)
  exact if_neg (fun e=>by have e:15 = r.k:=e; lia)
def T2.okk (w:Int) (zs:List Str):T2->Prop
 | .row r=>r.ok w/\r.inZ zs
 | .turns n rs=>1<=n/\n<=64/\rs ≠ []/\rs.length<=100/\∀ r ∈ rs,r.ok w/\r.inZ zs
theorem T2.tok {w:Int} {zs:List Str} {t:T2} (h:t.okk w zs):TOk w zs 6 t.c:=by
 cases t with
 | row r=>exact h
 | turns n rs =>
  obtain ⟨h1,h2,h3,h4,h5⟩:=h
  refine ⟨h1,h2,fun e=>h3 (List.map_eq_nil_iff.mp e),by rw [List.length_map]; exact h4,fun t ht=>?_⟩
  obtain ⟨r,hr,rfl⟩:=List.mem_map.mp ht
  exact h5 r hr
theorem T2.toks {w:Int} {zs:List Str} {ts:List T2} (h:∀ t ∈ ts,t.okk w zs):∀ t ∈ ts.map T2.c,TOk w zs 6 t:=fun t ht=>by
 obtain ⟨q,hq,rfl⟩:=List.mem_map.mp ht
 exact T2.tok (h q hq)
def RNs (w:Int) (ns:List Nat) (rs:List RN):Prop:=∀ r ∈ rs,r.ok w/\r.inN ns
theorem RNs.map {w:Int} {ns:List Nat} {rs:List RN} (h:RNs w ns rs) {z:Str} (hz:z ∈ ZNs) (w0:4<=w) (w1:w<=32):∀ r ∈ rs.map (RN.to z),r.ok w/\r.inZ (ns.map (nm z)):=fun r hr=>by
 obtain ⟨q,hq,rfl⟩:=List.mem_map.mp hr
 exact ⟨(RN.rw hz w0 w1 (h q hq).1).1,RN.inz (h q hq).2⟩
theorem RNs.tx {w:Int} {ns:List Nat} {rs:List RN} (h:RNs w ns rs) {z:Str} (hz:z ∈ ZNs) (w0:4<=w) (w1:w<=32):∀ r ∈ rs.map (RN.to z),r.ok 32/\r.tx:=fun r hr=>by
 obtain ⟨q,hq,rfl⟩:=List.mem_map.mp hr
 have a:=RN.rw (z:=z) hz w0 w1 (h q hq).1
 refine ⟨(RN.rw (w:=32) (z:=z) hz (by decide) (by decide) ?_).1,a.2⟩
 have o:=(h q hq).1
 cases q with
 | mv k g a j=>exact ⟨o.1,o.2.1,o.2.2.1,o.2.2.2.1,by have:=o.2.2.2.2; lia⟩
 | _=>exact o
theorem RNs.rowT {w:Int} {ns:List Nat} {rs:List RN} (h:RNs w ns rs) {z:Str} (hz:z ∈ ZNs) (w0:4<=w) (w1:w<=32):∀ t ∈ (rs.map (RN.to z)).map T2.row,t.okk w (ns.map (nm z)):=fun t ht=>by
 obtain ⟨r,hr,rfl⟩:=List.mem_map.mp ht
 exact h.map hz w0 w1 r hr
theorem RNs.k15 {w:Int} {ns:List Nat} {rs:List RN} (h:RNs w ns rs) {z:Str} (hz:z ∈ ZNs) (w0:4<=w) (w1:w<=32):∀ r ∈ rs.map (RN.to z),r.k < 15:=fun r hr=>Rw.k15 (h.map hz w0 w1 r hr).1
def n16:List Nat:=List.range 16
def nP:List Nat:=[9,16,17,18,19,20,21,22,23,24,25]
theorem rn_pre {w:Int}:RNs w n16 preN:=by
 intro r hr
 simp only [preN,List.mem_cons,List.not_mem_nil,or_false] at hr
 rcases hr with rfl | rfl | rfl <;> (refine ⟨?_,?_⟩ <;> simp [RN.ok,RN.inN,n16])
theorem pd {w:Int} (w0:4<=w):RNs w n16 (fo w):=by
 intro r hr
 simp only [fo,List.mem_cons,List.not_mem_nil,or_false] at hr
 rcases hr with rfl | rfl | rfl | rfl | rfl | rfl | rfl | rfl | rfl | rfl | rfl <;> (refine ⟨?_,?_⟩ <;> simp [RN.ok,RN.inN,n16] <;> try lia)
theorem o9 {w:Int} (w0:4<=w):RNs w n16 (j5 w):=by
 intro r hr
 simp only [j5,List.mem_cons,List.not_mem_nil,or_false] at hr
 rcases hr with rfl | rfl | rfl | rfl | rfl | rfl | rfl | rfl | rfl | rfl | rfl <;> (refine ⟨?_,?_⟩ <;> simp [RN.ok,RN.inN,n16] <;> try lia)
theorem rn_prod {w:Int}:RNs w nP prodN:=by
 intro r hr
 simp only [prodN,iB,List.cons_append,List.nil_append,List.mem_cons,List.not_mem_nil,or_false] at hr
 rcases hr with rfl | rfl | rfl | rfl | rfl | rfl | rfl | rfl | rfl | rfl | rfl | rfl | rfl | rfl | rfl | rfl | rfl | rfl | rfl | rfl | rfl | rfl | rfl <;> (refine ⟨?_,?_⟩ <;> simp [RN.ok,RN.inN,nP] <;> try lia)
theorem zok {z:Str} (hz:z ∈ ZNs) {ns:List Nat} (h:∀ i ∈ ns,i < 26) (l:ns.length<=20):ZOk (ns.map (nm z)):=by
 refine ⟨by rw [List.length_map]; exact l,fun y hy=>?_⟩
 obtain ⟨i,hi,rfl⟩:=List.mem_map.mp hy
 exact (nm_of hz (h i hi)).1
structure Prog (w:Int) (z:Str) (ns:List Nat) (ts:List T2) (rs:List RN) (len turns:Nat):Prop where
 ok:∀ t ∈ ts.map T2.c,TOk w (ns.map (nm z)) 6 t
 ln:(evL 6 (ts.map T2.c)).length = len
 l10:len<=10000
 rw:rws (evL 6 (ts.map T2.c)) = rs.map (RN.to z)
 tn:cC (evL 6 (ts.map T2.c)) 15 = turns
 zs:ZOk (ns.map (nm z))
 rs:RNs w ns rs
theorem rg (w:Int) (z:Str):evL 6 ((pe w z).map T2.c) = (preN.map (RN.to z)).map some ++ ((List.replicate w.toNat (none :: ((fo w).map (RN.to z)).map some)).flatten ++ ((j5 w).map (RN.to z)).map some):=by
 unfold pe
 rw [List.map_append,List.map_append,ra,ra,jy,ev_turns,jy]
theorem tm {α:Type} (l:List α):∀ n,(List.replicate n l).flatten.length = n * l.length
 | 0=>by rw [Nat.zero_mul]; rfl
 | n + 1=>by rw [List.replicate_succ,List.flatten_cons,List.length_append,tm l n,Nat.succ_mul,Nat.add_comm]
theorem div_prog {w:Int} {z:Str} (hz:z ∈ ZNs) (w0:4<=w) (w1:w<=32):Prog w z n16 (pe w z) (eZ w) (12 * w.toNat + 14) w.toNat:=by
 refine ⟨T2.toks fun t ht=>?_,?_,by lia,?_,?_,zok hz (by decide) (by decide),?_⟩
 ·unfold pe at ht
  rcases List.mem_append.mp ht with h | h
  ·exact rn_pre.rowT hz w0 w1 t h
  rcases List.mem_append.mp h with h | h
  ·cases List.mem_singleton.mp h
   exact ⟨by lia,by lia,(fun e=>nomatch e),by rw [List.length_map]; show 11<=100; decide,(pd w0).map hz w0 w1⟩
  ·exact (o9 w0).rowT hz w0 w1 t h
 ·rw [rg,List.length_append,List.length_append,tm]
  simp only [List.length_map,List.length_cons]
  show 3 + (w.toNat * 12 + 11) = _
  lia
 ·rw [rg,dO,dO,iA,sM,iA]
  unfold eZ
  rw [List.map_append,List.map_append,List.map_flatten,List.map_replicate]
 ·rw [rg,i9,i9,kG (rn_pre.k15 hz w0 w1),kG ((o9 w0).k15 hz w0 w1),qC,show none :: ((fo w).map (RN.to z)).map some = [none] ++ ((fo w).map (RN.to z)).map some from rfl,i9,kG ((pd w0).k15 hz w0 w1),ph]
  show 0 + (w.toNat * (1 + 0) + 0) = _
  lia
 ·intro r hr
  unfold eZ at hr
  rcases List.mem_append.mp hr with h | h
  ·exact rn_pre r h
  rcases List.mem_append.mp h with h | h
  ·obtain ⟨l,hl,h⟩:=List.mem_flatten.mp h
   cases (List.eq_of_mem_replicate hl)
   exact pd w0 r h
  ·exact o9 w0 r h
theorem rM {w:Int} {z:Str} (hz:z ∈ ZNs) (w0:4<=w) (w1:w<=32):Prog w z nP (sC z) prodN 23 0:=by
 refine ⟨T2.toks (rn_prod.rowT hz w0 w1),?_,by decide,?_,?_,zok hz (by decide) (by decide),rn_prod⟩
 ·unfold sC
  rw [jy,List.length_map,List.length_map]
  rfl
 ·unfold sC
  rw [jy,iA]
 ·unfold sC
  rw [jy,kG (rn_prod.k15 hz w0 w1)]
def hasN (z:Str) (kvs:List (Key × V)) (i:Nat):Prop:=∃ v,dG kvs (.inr (nm z i)) = some v
theorem has_put {kvs:List (Key × V)} {k k':Key} {v:V} (h:k' = k\/∃ u,dG kvs k' = some u):∃ u,dG (fk kvs k v) k' = some u:=by
 rw [o8]
 by_cases c:k' = k
 ·exact ⟨v,if_pos c⟩
 ·rw [if_neg c]
  exact h.resolve_left c
def RN.wr:RN->List Nat
 | .set g _=>[g]
 | .copy g _=>[g]
 | .car _ g none _ _=>[g]
 | .car _ g (some y) _ _=>[g,y]
 | .jn _ g _ _=>[g]
 | .mv _ g _ _=>[g]
 | .pick g _ _ _=>[g]
 | .mark ..=>[]
theorem sq {z:Str} {kvs:List (Key × V)} {w:Int} {i:Nat} (r:RN) (h:i ∈ r.wr\/hasN z kvs i):hasN z ((r.to z).act w kvs) i:=by
 have one:∀ {g:Nat} {v:Int} {k:List (Key × V)},(i ∈ [g]\/hasN z k i)->hasN z (stK k (nm z g) v) i:=fun {g v k} h=>has_put (h.imp (fun m=>by rw [List.mem_singleton.mp m]) id)
 cases r with
 | car k g c a b=>cases c with
  | none=>exact one h
  | some y =>
   refine one ?_
   rcases h with m | m
   ·rcases List.mem_cons.mp m with rfl | m
    ·exact .inr (one (.inl (List.mem_singleton.mpr rfl)))
    ·exact .inl m
   ·exact .inr (one (.inr m))
 | mark n m y=>exact h.resolve_left (fun m=>nomatch m)
 | _=>exact one h
theorem rj {z:Str} {w:Int} {i:Nat}:∀ {rs:List RN} {kvs:List (Key × V)},(i ∈ rs.flatMap RN.wr\/hasN z kvs i)->hasN z (ba w kvs (rs.map (RN.to z))) i
 | [],_,h=>h.resolve_left (fun m=>nomatch m)
 | r :: t,kvs,h=>by
  refine rj (rs:=t) (kvs:=(r.to z).act w kvs) ?_
  rw [List.flatMap_cons] at h
  rcases h with m | m
  ·rcases List.mem_append.mp m with m | m
   ·exact .inr (sq r (.inl m))
   ·exact .inl m
  ·exact .inr (sq r (.inr m))
theorem Prog.val {w:Int} {z:Str} {ns:List Nat} {ts:List T2} {rs:List RN} {len turns:Nat} (p:Prog w z ns ts rs len turns) {kvs:List (Key × V)} {f:Nat->Int} (hv:Vw z kvs f) (wz:Wz w (ns.map (nm z)) kvs) (hz:z ∈ ZNs) (w0:4<=w) (w1:w<=32) {i:Nat} (hi:i < 26) (hw:i ∈ rs.flatMap RN.wr):dG (ba w kvs (rws (evL 6 (ts.map T2.c)))) (.inr (nm z i)) = some (.int (bf w f rs i)):=by
 rw [p.rw]
 obtain ⟨v,e⟩:=rj (w:=w) (kvs:=kvs) (z:=z) (.inl hw)
 have g:=(hv.all (w:=w) fun r hr=>(p.rs r hr).1).1 i hi
 have wa:=wz.all p.zs (fun r hr=>p.rs.map hz w0 w1 r hr) w0 w1
 obtain ⟨y,n,e2,_⟩:=wa.it _ (fi e)
 cases e2
 unfold gI at g
 rw [e] at g
 have g:n = bf w f rs i:=g
 rw [e,g]
theorem Prog.mks {w:Int} {z:Str} {ns:List Nat} {ts:List T2} {rs:List RN} {len turns:Nat} (p:Prog w z ns ts rs len turns) {kvs:List (Key × V)} {f:Nat->Int} (hv:Vw z kvs f):bF w kvs (rws (evL 6 (ts.map T2.c))) = mkN w f rs:=by
 rw [p.rw]
 exact (hv.all (w:=w) fun r hr=>(p.rs r hr).1).2
theorem wr_div (w:Int):∀ i ∈ [2,1,7,8,10,12],i ∈ (eZ w).flatMap RN.wr:=by
 have a:∀ i ∈ [2,1,7,8,10,12],i ∈ preN.flatMap RN.wr\/i ∈ (j5 w).flatMap RN.wr:=by
  show ∀ i ∈ [2,1,7,8,10,12],i ∈ [0,1,2]\/i ∈ [7,8,7,9,8,10,11,11,12]
  decide
 intro i hi
 unfold eZ
 rw [List.flatMap_append,List.flatMap_append]
 rcases a i hi with m | m
 ·exact List.mem_append_left _ m
 ·exact List.mem_append_right _ (List.mem_append_right _ m)
theorem wr_prod:∀ i ∈ [16,17,18,19],i ∈ prodN.flatMap RN.wr:=by decide
theorem div_lns (w:Int) (z:Str):(pe w z).flatMap T2.lns = (preN.map (RN.to z)).map Ln.row ++ ((Ln.turns w.toNat :: (((fo w).map (RN.to z)).map Ln.row ++ [.fin])) ++ ((j5 w).map (RN.to z)).map Ln.row):=by
 unfold pe
 have one:∀ rs:List Rw,(rs.map T2.row).flatMap T2.lns = rs.map Ln.row:=fun rs=>by
  rw [List.flatMap_map]
  exact pz Ln.row rs
 rw [List.flatMap_append,List.flatMap_append,one,one,List.flatMap_cons,List.flatMap_nil,List.append_nil]
 rfl
theorem pZ {w:Int} {z:Str} (hz:z ∈ ZNs) (w0:4<=w) (w1:w<=32):(∀ q ∈ (pe w z).flatMap T2.lns,q.ok)/\((pe w z).flatMap T2.lns).length<=1000:=by
 have mr:∀ {rs:List RN},RNs w n16 rs->∀ q ∈ (rs.map (RN.to z)).map Ln.row,q.ok:=fun h q hq=>by
  obtain ⟨r,hr,rfl⟩:=List.mem_map.mp hq
  exact h.tx hz w0 w1 r hr
 rw [div_lns]
 refine ⟨fun q hq=>?_,?_⟩
 ·rcases List.mem_append.mp hq with h | h
  ·exact mr rn_pre q h
  rcases List.mem_append.mp h with h | h
  ·rcases List.mem_cons.mp h with rfl | h
   ·exact ⟨by lia,by lia⟩
   rcases List.mem_append.mp h with h | h
   ·exact mr (pd w0) q h
   ·cases List.mem_singleton.mp h
    exact trivial
  ·exact mr (o9 w0) q h
 ·simp only [List.length_append,List.length_cons,List.length_map,List.length_nil]
  show 3 + (11 + (0 + 1) + 1 + 11)<=1000
  decide
theorem hu2 {A:Around} {k:Nat} (hr:Room k A):A.units + 1 + 1 < cLine:=by have:=hr.un; lia
theorem selfE {K:Frag} {H:Hp} {d:Nat} {x:V} (h:fK x = true\/∃ a,x = .ref a):EqD K H d x x true:=by
 rcases h with h | ⟨a,rfl⟩
 ·have e:eqV x x = true:=by
   cases x <;> first | rfl | (cases h; done) | (simp [eqV])
  have z:=EqD.flat (K:=K) (H:=H) (d:=d) h h
  rw [e] at z
  exact z
 ·exact EqD.same
theorem aT {n:Nat}:(List.range n).all (fun _=>true) = true:=by rw [List.all_eq_true]; intro _ _; rfl
theorem eqRow {K:Frag} {H:Hp} {d:Nat} {a b:Addr} {xs:List V} (ha:H a = some (.tup xs)) (hb:H b = some (.tup xs)) (h:∀ x ∈ xs,fK x = true\/∃ a,x = .ref a):EqD K H (d + 1) (.ref a) (.ref b) true:=by
 by_cases e:a = b
 ·rw [e]; exact EqD.same
 have z:=EqD.tup (K:=K) (H:=H) (d:=d) (e:=fun _=>true) e (SqT.of ha) (SqT.of hb) fun j h1 _=>by
  have e:xs.getD j .non = xs[j]:=by rw [List.getD_eq_getElem?_getD,List.getElem?_eq_getElem h1]; rfl
  rw [e]
  exact selfE (h _ (List.getElem_mem h1))
 rw [aT,beq_self_eq_true] at z
 exact z
theorem nePrs {K:Frag} {H:Hp} {d:Nat} {p q:Addr} {xs ys:List V} {ps:List (V × V)} {Q:V->Hp->Prop} (hp:H p = some (.lst xs)) (hq:H q = some (.lst ys)) (a:PrsAt H xs ps) (b:PrsAt H ys ps) (ff:∀ x ∈ ps,fK x.1 = true/\fK x.2 = true) (k:Q (.bl false) H):rEqLD K (d + 1) true (.ref p) (.ref q) H Q:=by
 refine ⟨p,q,xs,ys,fun _=>true,rfl,rfl,SqL.of hp,SqL.of hq,by rw [a.1,b.1],fun j hj=>?_,?_⟩
 ·have hr:j < ps.length:=by rw [<- a.1]; exact hj
  have hy:j < ys.length:=by rw [b.1]; exact hr
  obtain ⟨a1,e1,h1⟩:=a.2 j _ _ (List.getElem?_eq_getElem hj) (List.getElem?_eq_getElem hr)
  obtain ⟨a2,e2,h2⟩:=b.2 j _ _ (List.getElem?_eq_getElem hy) (List.getElem?_eq_getElem hr)
  rw [List.getD_eq_getElem?_getD,List.getD_eq_getElem?_getD,List.getElem?_eq_getElem hj,List.getElem?_eq_getElem hy,e1,e2]
  have f:=ff _ (List.getElem_mem hr)
  exact eqRow h1 h2 (allV ⟨.inl f.1,.inl f.2,trivial⟩)
 ·rw [aT]
  exact k
theorem iteBT {b:Bool} {A B:Prop} (e:b = true) (h:A):if b = true then A else B:=by rw [if_pos e]; exact h
def pw (c:Ad):Sp:=fun vs H Q _=>∃ (l cn:Addr) (w due:Int) (zs:List Str) (xs:List V) (ts:List (Tr 6)),vs = [.int w,.ref l,.ref cn,.int due]/\H l = some (.lst xs)/\L2A (StT c H 6) xs ts/\(∀ t ∈ ts,TOk w zs 6 t)/\(evL 6 ts).length<=10000/\4<=w/\w<=32/\H cn = some (.dK (bX (kc (fun _=>0) 1 (evL 6 ts))))/\due = ((evL 6 ts).length:Nat)/\((cC (evL 6 ts) 15:Nat) = (0:Int)\/(cC (evL 6 ts) 15:Nat) = w)/\∀ H',Same H H'->Q (.bl true) H'
def o7 (c:Ad):Sp:=fun vs H Q _=>∃ (p:Addr) (w:Int) (z:Str),vs = [.ref p,.int w,.str z]/\Box H p/\z ∈ ZNs/\4<=w/\w<=32/\∀ H',Box H' p->SameX p H H'->Q (.bl true) H'
def rp (c:Ad):Sp:=o7 c
theorem StT.sameX {c:Ad} {p:Addr} {H H':Hp} (bp:Box H p) (s:SameX p H H') {w:Int} {zs:List Str}:∀ {d:Nat} {x:Addr} {t:Tr d},TOk w zs d t->StT c H d x t->StT c H' d x t
 | 0,_,t,_,_=>Empty.elim t
 | d + 1,x,t,ok,h=>by
  obtain ⟨b1,b2,b3,eb⟩:=bp
  have ni:∀ {b:Addr} {C dx:Addr} {fs:List (Str × V)},H b = some (.ins C dx fs)->H' b = some (.ins C dx fs):=fun {b C dx fs} e=>s _ _ (fun z=>by rw [z,eb] at e; cases e) e
  have h':TS.st c H (StT c H d) x t:=h
  have ok':TS.okk w zs (TOk w zs d) t:=ok
  show TS.st c H' (StT c H' d) x t
  revert h' ok'
  cases (show TS (Tr d) from t) with
  | row r=>exact fun ⟨dx,e,ln⟩ _=>⟨dx,ni e,ln⟩
  | turns n ts =>
   rintro ⟨xs,⟨dx,l,e,f⟩,g⟩ ⟨_,_,ne,_,oks⟩
   refine ⟨xs,⟨dx,l,ni e,s _ _ (fun z=>?_) f⟩,g.mono fun _ t ht k=>StT.sameX ⟨b1,b2,b3,eb⟩ s (oks t ht) k⟩
   rw [z,eb] at f
   cases f
   obtain ⟨a,t,ea,_⟩:=g.get (j:=0) (v:=.int b1) rfl
   cases ea
theorem L6.sameX {c:Ad} {p:Addr} {H H':Hp} (bp:Box H p) (s:SameX p H H') {w:Int} {zs:List Str} {xs:List V} {ts:List (Tr 6)} (ok:∀ t ∈ ts,TOk w zs 6 t) (h:L2A (StT c H 6) xs ts):L2A (StT c H' 6) xs ts:=h.mono fun _ t ht k=>StT.sameX bp s (ok t ht) k
def kDv (z:Str) (h l d:Int):List (Key × V):=stK (stK (stK [] (nm z 13) h) (nm z 14) l) (nm z 15) d
def fDv (h l d:Int):Nat->Int:=fun i=>if i = 15 then d else if i = 14 then l else if i = 13 then h else 0
theorem kDv_vw {z:Str} {h l d:Int}:Vw z (kDv z h l d) (fDv h l d):=by
 have v0:Vw z [] (fun _=>0):=fun i hi=>rfl
 exact ((v0.st (g:=13) (by decide) rfl).st (g:=14) (by decide) rfl).st (g:=15) (by decide) rfl
theorem kDv_wz {w:Int} {z:Str} {h l d:Int} (h0:0<=h) (h1:h < 2 ^ w.toNat) (l0:0<=l) (l1:l < 2 ^ w.toNat) (d0:0<=d) (d1:d < 2 ^ w.toNat):Wz w (n16.map (nm z)) (kDv z h l d):=by
 have m:∀ i ∈ n16,nm z i ∈ n16.map (nm z):=fun i hi=>List.mem_map_of_mem hi
 exact ((Wz.nil.put (m 13 (by decide)) h0 h1).put (m 14 (by decide)) l0 l1).put (m 15 (by decide)) d0 d1
def kPr (z:Str) (a b c d:Int):List (Key × V):=stK (stK (stK (stK [] (nm z 20) a) (nm z 21) b) (nm z 22) c) (nm z 23) d
def fPr (a b c d:Int):Nat->Int:=fun i=>if i = 23 then d else if i = 22 then c else if i = 21 then b else if i = 20 then a else 0
theorem kPr_vw {z:Str} {a b c d:Int}:Vw z (kPr z a b c d) (fPr a b c d):=by
 have v0:Vw z [] (fun _=>0):=fun i hi=>rfl
 exact (((v0.st (g:=20) (by decide) rfl).st (g:=21) (by decide) rfl).st (g:=22) (by decide) rfl).st (g:=23) (by decide) rfl
theorem kPr_wz {w:Int} {z:Str} {a b c d:Int} (ha:0<=a/\a < 2 ^ w.toNat) (hb:0<=b/\b < 2 ^ w.toNat) (hc:0<=c/\c < 2 ^ w.toNat) (hd:0<=d/\d < 2 ^ w.toNat):Wz w (nP.map (nm z)) (kPr z a b c d):=by
 have m:∀ i ∈ nP,nm z i ∈ nP.map (nm z):=fun i hi=>List.mem_map_of_mem hi
 exact (((Wz.nil.put (m 20 (by decide)) ha.1 ha.2).put (m 21 (by decide)) hb.1 hb.2).put (m 22 (by decide)) hc.1 hc.2).put (m 23 (by decide)) hd.1 hd.2
theorem jB {f:Addr} {fd:FuncData} (F:Fun K "_law_counted" "_law_counted" dv f fd) (T:Txt K mg c) (H__law_cost:Has P w K mg base 1 "_law_cost" ["_law_counts"] oh) (H_check_steps:Has P w K mg base 14 "check_steps" ["width","steps"] (lF c)) (H_cost_of:Has P w K mg base 14 "cost_of" ["width","steps","prices"] (nh c)):FnOk P w K mg base CX0 15 f fd ["_law_width","_law_steps","_law_counts","_law_due"] (pw c):=by
 refine F.ok sc__law_counted (fun vs H Q E h=>?_) (fun cdv A outer s H vs Q E hr h=>?_)
 ·obtain ⟨l,cn,w',due,zs,xs,ts,rfl,_⟩:=h
  rfl
 obtain ⟨l,cn,w',due,zs,xs,ts,rfl,hl,la,tok,ln,w0,w1,hcn,hdue,htn,q⟩:=h
 refine ⟨_,(ah (md (aG H__law_cost (hr.mono (by lia)) rfl (aa (pv 2) ag)) (pg_tupL rfl (bH (aQ (i:=4) sc__law_counted.nd rfl (Or.inl rfl)) (bH (aQ (i:=5) sc__law_counted.nd rfl (Or.inl rfl)) i8))))
  (ah (aR (PW.pt (eE (ay jD (aE (iM rfl) rfl T.n_sum boot_sum (aa (j6 PySem.F.plainAttrs_dict PySem.F.slot_dict_values PySem.F.type_dict_values jx (pv 2)) ag)) (pv 3) (aD _)) (dE (ay jD (aG H_check_steps (hr.mono (by lia)) rfl (aa (pv 0) (aa (pv 1) ag))) (pv 3) (aD _)))))
   (ai (ar fS))
   aA)
  (ai (ar (cY (dl lU (bA (aZ hr) (pv 2) am (fun _ _=>rfl)) (aY (aa ak (aa (pv 0) ag))) (by with_unfolding_all rfl)) (cW (dl bS (aG H_cost_of (hr.mono (by lia)) rfl (aa (pv 0) (aa (pv 1) (aa (pv 4) ag)))) (pv 5) (aD _)))))))),?_⟩
 have k16:=evL_k tok
 have sm:=sW (evL 6 ts) k16 (fun _=>0) 1
 refine ⟨_,rfl,cn,_,rfl,hcn,fun lp dp H1 h1 h2 s1=>⟨lp,_,rfl,SqL.of h1,rfl,_,_,rfl,_,_,rfl,rfl,?_⟩⟩
 have hcn1:=s1 _ _ hcn
 refine ⟨_,rfl,.inr (.inr (.inl ⟨rfl,.inl ⟨_,hcn1⟩⟩)),cn,_,rfl,rfl,hcn1,fun rv hrv=>?_⟩
 have sv:=s1.trans (au hrv (vwV rv cn))
 refine ⟨rv,cn,_,_,rfl,ae,(au hrv (vwV rv cn)) _ _ hcn1,ly _,?_⟩
 rw [sm,qM]
 refine ⟨_,rfl,rfl,_,rfl,fz (congrArg V.int (by lia)) ?_⟩
 refine ⟨_,rfl,_,rfl,l,w',zs,xs,ts,rfl,sv _ _ hl,la.mono (fun _ _ _ k=>k.same sv),tok,ln,w0,w1,fun H2 s2=>?_⟩
 refine ⟨_,rfl,rfl,_,rfl,fz (congrArg V.int (by lia)) ?_⟩
 have s3:=sv.trans s2
 have hcn3:=s3 _ _ hcn
 have hg:=DGet.k (k:=.inr (wOf 15)) hcn3
 rw [d7 (by decide)] at hg
 refine ⟨_,rfl,cn,_,rfl,hg,_,rfl,(by show 2<=sizeLine; decide),fun lq hlq=>?_⟩
 have s4:=s3.trans (au hlq (.lst [.int 0,.int w']))
 refine ⟨lq,_,rfl,.inl (SqL.of ae),rfl,rfl,_,rfl,?_⟩
 have ein:inV (V.int (kc (fun _=>0) 1 (evL 6 ts) 15)) [V.int 0,V.int w'] = true:=by
  have e:kc (fun _=>0) 1 (evL 6 ts) 15 = (cC (evL 6 ts) 15:Nat):=by show (0:Int) + 1 * _ = _; lia
  rw [e]
  rcases htn with e | e <;> rw [e]
  ·rfl
  ·simp [inV,eqV]
 refine iteBT ein ?_
 have h24:=(s2.trans (au hlq (.lst [.int 0,.int w']))) _ _ ((au hrv (vwV rv cn)) _ _ h2)
 have gp:sZ (bX pq):=fun i hi=>by
  unfold prV
  rw [d7 hi]
  show btw (.int (pq i)) 0 1000 = true
  unfold pq
  show (decide ((0:Int)<=7 * (i:Int) + 3) && decide (7 * (i:Int) + 3<=1000)) = true
  rw [decide_eq_true (by lia),decide_eq_true (by lia)]
  rfl
 refine ⟨_,rfl,_,rfl,_,rfl,l,dp,w',zs,xs,ts,_,rfl,s4 _ _ hl,la.mono (fun _ _ _ k=>k.same s4),tok,ln,w0,w1,h24,gp,fun H5 s5=>?_⟩
 have ec:lL (evL 6 ts) (prI (bX pq)) = mK (kc (fun _=>0) 1 (evL 6 ts)) 16:=by
  unfold lL mK
  refine congrArg List.sum (List.map_congr_left fun i hi=>?_)
  have hi:=List.mem_range.mp hi
  have e1:prI (bX pq) i = pq i:=by
   unfold prI prV
   rw [d7 hi]
   rfl
  rw [e1]
  show _ = ((0:Int) + 1 * _) * _
  rw [Int.zero_add,Int.one_mul]
 refine ⟨_,rfl,rfl,?_⟩
 rw [ec,decide_eq_true rfl]
 exact q _ (s4.trans s5)
theorem ij {f:Addr} {fd:FuncData} (F:Fun K "_law_division" "_law_division" cQ f fd) (T:Txt K mg c) (H__law_word:Has P w K mg base 2 "_law_word" ["_law_state","_law_width"] spWrd) (H__law_divided:Has P w K mg base 4 "_law_divided" ["_law_width","_law_n"] (rP c)) (H_run_steps:Has P w K mg base 14 "run_steps" ["width","steps","registers"] (pc c)) (H__law_draw:Has P w K mg base 1 "_law_draw" ["_law_state","_law_many"] iW) (H_read_steps:Has P w K mg base 10 "read_steps" ["text"] (qX c)) (H__law_counted:Has P w K mg base 15 "_law_counted" ["_law_width","_law_steps","_law_counts","_law_due"] (pw c)) (H_steps_text:Has P w K mg base 13 "steps_text" ["steps"] (lg c)) (H__law_whole:Has P w K mg base 1 "_law_whole" ["_law_found"] fD):FnOk P w K mg base CX0 16 f fd ["_law_state","_law_width","_law_n"] (o7 c):=by
 refine F.ok sc__law_division (fun vs H Q E h=>?_) (fun cdv A outer s H vs Q E hr h=>?_)
 ·obtain ⟨p,w',z,rfl,_⟩:=h
  rfl
 obtain ⟨p,w',z,rfl,bp,hz,w0,w1,q⟩:=h
 refine ⟨_,(ah (aH (i:=3) sc__law_division.nd rfl (Or.inl rfl) (aq ej ak (pv 1)))
  (ah (aH (i:=4) sc__law_division.nd rfl (Or.inl rfl) (aE (mX rfl) rfl T.n_max boot_max (aa ak (aa (aG H__law_word (hr.mono (by lia)) rfl (aa (pv 0) (aa (pv 1) ag))) ag))))
  (ah (aH (i:=5) sc__law_division.nd rfl (Or.inl rfl) (aq cq (aG H__law_word (hr.mono (by lia)) rfl (aa (pv 0) (aa (pv 1) ag))) (pv 4)))
  (ah (aH (i:=6) sc__law_division.nd rfl (Or.inl rfl) (aG H__law_word (hr.mono (by lia)) rfl (aa (pv 0) (aa (pv 1) ag))))
  (ah (aH (i:=7) sc__law_division.nd rfl (Or.inl rfl) (aG H__law_divided (hr.mono (by lia)) rfl (aa (pv 1) (aa (pv 2) ag))))
  (pss_join (aR (ay bS (aG H__law_draw (hr.mono (by lia)) rfl (aa (pv 0) (aa ak ag))) ak (aD _))
   (ai (aH (i:=7) sc__law_division.nd rfl (Or.inl rfl) (aG H_read_steps (hr.mono (by lia)) rfl (aa (aG H_steps_text (hr.mono (by lia)) rfl (aa (pv 7) ag)) ag))))
   aA)
  (ah (md (aG H_run_steps (hr.mono (by lia)) rfl (aa (pv 1) (aa (pv 7) (aa (sg (dR (aq af (pv 2) am) (pv 5) (dR (aq af (pv 2) am) (pv 6) (dR (aq af (pv 2) am) (pv 4) qZ))) rfl rfl (fun z=>nomatch z) (by decide)) ag)))) (pQ rfl (bH (aQ (i:=8) sc__law_division.nd rfl (Or.inl rfl)) (bH (aQ (i:=9) sc__law_division.nd rfl (Or.inl rfl)) (bH (aQ (i:=10) sc__law_division.nd rfl (Or.inl rfl)) i8)))))
  (ah (aH (i:=11) sc__law_division.nd rfl (Or.inl rfl) (bA (aZ hr) (pv 8) (aq af (pv 2) am) (fun _ _=>rfl)))
  (ah (aH (i:=12) sc__law_division.nd rfl (Or.inl rfl) (bA (aZ hr) (pv 8) (aq af (pv 2) am) (fun _ _=>rfl)))
  (ah (aR (PW.pt (eE (bz (bt (aG H__law_whole (hr.mono (by lia)) rfl (aa (pv 11) ag)))) (eE (bz (bt (aG H__law_whole (hr.mono (by lia)) rfl (aa (pv 12) ag)))) (eE (bz (gF jv jO ak (pv 12) (pv 4))) (dE (bz (gF jv jO ak (pv 11) (pv 3))))))))
   (ai (ar fS))
   aA)
  (ah (aR (PW.pt (eE (ay jD (aq bx (aq bh (pv 11) (pv 4)) (pv 12)) (aq bx (aq bh (pv 5) (pv 3)) (pv 6)) (aD _)) (dE (ay (op_neLD (d:=1) (hu2 hr)) (pv 9) (aY (aa (cD (aa ak (aa am ag))) ag)) (aD _)))))
   (ai (ar fS))
   aA)
  (ah (aR (PW.pt (eE (ay jD (bA (aZ hr) (pv 8) (aq af (pv 2) am) (fun _ _=>rfl)) (pv 6) (aD _)) (eE (ay jD (bA (aZ hr) (pv 8) (aq af (pv 2) am) (fun _ _=>rfl)) (pv 5) (aD _)) (dE (ay jD (bA (aZ hr) (pv 8) (aq af (pv 2) am) (fun _ _=>rfl)) ak (aD _))))))
   (ai (ar fS))
   aA)
  (ai (ar (cY (dl bS (bA (aZ hr) (pv 8) (aq af (pv 2) am) (fun _ _=>rfl)) (aq bh (aq em (pv 3) ak) (cS sN rfl T.n_int boot_int (aa (dl op_ge (aq bh ak (pv 6)) (pv 3) (aD _)) ag))) (aD _)) (cW (aG H__law_counted (hr.mono (by lia)) rfl (aa (pv 1) (aa (pv 7) (aa (pv 10) (aa (aq bx (aq bh ak (pv 1)) ak) ag))))))))))))))))))))),?_⟩
 have P2:=aW w0 w1
 have lz:=lN hz
 have L99:(99:Nat)<=sizeLine:=by decide
 have la1:∀ s:Str,s.length<=3->z.length + s.length<=sizeLine:=fun s hs=>by lia
 refine ⟨_,rfl,_,_,rfl,rfl,ie (by lia) (by lia),?_⟩
 refine ⟨_,rfl,_,rfl,p,w',rfl,bp,w0,w1,fun i1 H1 i10 i11 b1 x1=>⟨_,_,rfl,?_⟩⟩
 obtain ⟨D,eD,D1,D2⟩:∃ D:Nat,(if i1 > 1 then i1 else 1) = (D:Int)/\1<=D/\(D:Int) < 2 ^ w'.toNat:=by
  refine ⟨(if i1 > 1 then i1 else 1).toNat,?_,?_,?_⟩ <;> split <;> lia
 rw [eD]
 refine ⟨_,rfl,_,rfl,p,w',rfl,b1,w0,w1,fun i2 H2 i20 i21 b2 x2=>⟨_,rfl,_,_,rfl,rfl,by lia,?_⟩⟩
 obtain ⟨Hh,eH,hH⟩:∃ Hh:Nat,i2 % (D:Int) = (Hh:Int)/\Hh < D:=by
  have m0:=Int.emod_nonneg i2 (b:=(D:Int)) (by lia)
  have m1:=Int.emod_lt_of_pos i2 (b:=(D:Int)) (by lia)
  exact ⟨(i2 % (D:Int)).toNat,by lia,by lia⟩
 refine ⟨_,rfl,_,rfl,p,w',rfl,b2,w0,w1,fun i3 H3 i30 i31 b3 x3=>?_⟩
 obtain ⟨L,rfl⟩:=Int.eq_ofNat_of_zero_le i30
 refine ⟨_,rfl,_,rfl,w',z,rfl,hz,w0,w1,fun l xs H4 hl0 hl la s4=>?_⟩
 have b4:=b3.same s4
 have X4:SameX p H H4:=((x1.trans x2).trans x3).trans (SameX.of s4)
 have pr:=div_prog hz w0 w1
 have nlp:l ≠ p:=b3.ne hl0
 obtain ⟨lo1,lo2⟩:=pZ hz w0 w1
 refine ⟨fun σ G=>∃ (l:Addr) (xs:List V),σ = [some (.ref p),some (.int w'),some (.str z),some (.int (1 * 2 ^ w'.toNat)),some (.int D),some (.int (i2 % (D:Int))),some (.int L),some (.ref l),none,none,none,none,none]/\Box G p/\G l = some (.lst xs)/\L2A (StT c G 6) xs ((pe w' z).map T2.c)/\SameX p H G,?_,?_⟩
 ·refine ⟨_,rfl,p,_,rfl,b4,by decide,by decide,fun v H5 v0 v1 b5 x5=>?_⟩
  have la5:=L6.sameX b4 x5 pr.ok la
  have hl5:=x5 _ _ nlp hl
  refine ⟨rfl,_,rfl,?_⟩
  by_cases hc:V.int v = V.int 1
  ·refine dg hc ?_
   have el:=lns_c (pe w' z)
   refine ⟨_,rfl,l,xs,_,w',_,rfl,hl5,la5,pr.ok,by rw [el]; exact lo1,by rw [el]; exact lo2,fun H6 s6=>?_⟩
   refine ⟨pe w' z,congrArg (fun x=>[V.str (txs x)]) el,(fun e=>nomatch e),?_,?_,lo1,lo2,fun l6 xs6 H7 hl6 hl7 la7 s7=>?_⟩
   ·show (3 + (1 + 11):Nat)<=100
    decide
   ·intro t ht n rs e
    have o:=pr.ok t.c (List.mem_map_of_mem ht)
    rw [e] at o
    exact fun z=>o.2.2.1 (by rw [z]; rfl)
   ·exact ⟨l6,xs6,rfl,(b5.same s6).same s7,hl7,la7,(X4.trans x5).trans (SameX.of (s6.trans s7))⟩
  ·exact be hc ⟨l,xs,rfl,b5,hl5,la5,X4.trans x5⟩
 rintro _ G ⟨l,xs,rfl,bG,hlG,laG,XG⟩
 generalize i2 % (D:Int) = hi at *
 subst eH
 have hH':(Hh:Int) < D:=by lia
 have eM:((2 ^ w'.toNat:Nat):Int) = 2 ^ w'.toNat:=by push_cast; rfl
 refine ⟨_,rfl,_,rfl,fun d hd=>?_⟩
 refine ⟨_,rfl,_,_,rfl,rfl,la1 _ (by decide),_,rfl,_,rfl,_,_,rfl,rfl,la1 _ (by decide),_,rfl,_,rfl,_,_,rfl,rfl,la1 _ (by decide),_,rfl,ae,[(.inr (nm z 13),.int Hh),(.inr (nm z 14),.int L),(.inr (nm z 15),.int D)],rfl,(by show 3<=15; decide),?_⟩
 have kw:Wz w' (n16.map (nm z)) (kDv z Hh L D):=kDv_wz (by lia) (by lia) (by lia) i31 (by lia) D2
 have s1:Same G (upd (upd G d (.dK [])) d (.dK (kDv z Hh L D))):=Same.updL (au hd _) hd
 refine ⟨l,d,w',_,xs,_,kDv z Hh L D,rfl,s1 _ _ hlG,laG.mono (fun _ _ _ k=>k.same s1),pr.ok,by rw [pr.ln]; exact pr.l10,pr.zs,w0,w1,ae,kw,fun t dw m cn ms H8 h1 h2 h3 h4 h5 n1 n2 n3 s8=>?_⟩
 obtain ⟨q',r',eq2,er1,hr',hq',hsum,e7,e8,e10,e12,emk⟩:=div_run (w:=w') w0 w1 (D:=D) (Hh:=Hh) (L:=L) (f:=fDv Hh L D) rfl rfl rfl (by lia) hH (by lia)
 rw [pr.mks kDv_vw,emk] at h4
 have val:∀ i ∈ [2,1,7,8,10,12],∀ v,bf w' (fDv Hh L D) (eZ w') i = v->∀ {G:Hp},G dw = some (.dK (ba w' (kDv z Hh L D) (rws (evL 6 ((pe w' z).map T2.c)))))->DGet G dw (.str (nm z i)) (some (.int v)):=fun i hi v ev G hG=>by
  have e:=DGet.k (k:=.inr (nm z i)) hG
  have i26:∀ i ∈ [2,1,7,8,10,12],i < 26:=by decide
  rw [pr.val kDv_vw kw hz w0 w1 (i26 i hi) (wr_div w' i hi),ev] at e
  exact e
 refine ⟨t,_,rfl,SqT.of h1,rfl,_,_,rfl,_,_,rfl,_,_,rfl,rfl,?_⟩
 refine ⟨_,rfl,_,rfl,_,_,rfl,rfl,la1 _ (by decide),dw,_,rfl,val 2 (by decide) _ eq2 h2,?_⟩
 refine ⟨_,rfl,_,rfl,_,_,rfl,rfl,la1 _ (by decide),dw,_,rfl,val 1 (by decide) _ er1 h2,?_⟩
 refine ⟨_,rfl,_,rfl,_,rfl,eB ?_⟩
 refine ⟨_,rfl,_,rfl,_,rfl,eB ?_⟩
 refine ⟨_,rfl,_,_,rfl,rfl,_,rfl,dg (by lia) ⟨_,rfl,_,_,rfl,rfl,_,rfl,fz (by lia) ?_⟩⟩
 refine ⟨_,rfl,_,_,rfl,rfl,_,rfl,dg (by lia) ⟨_,rfl,_,_,rfl,rfl,_,rfl,fz (by lia) ?_⟩⟩
 have cm:∀ {a b:Int},0<=a->a < 2 ^ w'.toNat->CMul a b:=fun h1 h2=>.inl ⟨by lia,by lia⟩
 refine ⟨_,rfl,_,rfl,_,_,rfl,rfl,cm (by lia) (by lia),_,rfl,_,_,rfl,rfl,_,rfl,_,rfl,_,_,rfl,rfl,cm (by lia) (by lia),_,rfl,_,_,rfl,rfl,rfl,_,rfl,fz (congrArg V.int ?_) ?_⟩
 ·rw [Int.one_mul]
  exact hsum
 refine ⟨_,rfl,(by show 2<=sizeLine; decide),fun tp htp=>⟨(by show 1<=sizeLine; decide),fun lp hlp=>?_⟩⟩
 have z1:=au htp (.tup [.int 4,.str "stop"])
 have z2:=z1.trans (au hlp (.lst [.ref tp]))
 have p2:PrsAt (upd (upd H8 tp (.tup [.int 4,.str "stop"])) lp (.lst [.ref tp])) [.ref tp] [(.int 4,.str "stop")]:=PrsAt.one (p:=(.int 4,.str "stop")) ((au hlp (.lst [.ref tp])) _ _ ae)
 refine nePrs (d:=0) (z2 _ _ h3) ae (h4.same fun a xs e=>z2 _ _ e) p2 (fun x hx=>by cases List.mem_singleton.mp hx; exact ⟨rfl,rfl⟩) ⟨_,rfl,eB ?_⟩
 have h2':=z2 _ _ h2
 refine ⟨_,rfl,_,rfl,_,_,rfl,rfl,la1 _ (by decide),dw,_,rfl,val 7 (by decide) _ e7 h2',_,rfl,rfl,_,rfl,fz rfl ?_⟩
 refine ⟨_,rfl,_,rfl,_,_,rfl,rfl,la1 _ (by decide),dw,_,rfl,val 8 (by decide) _ e8 h2',_,rfl,rfl,_,rfl,fz rfl ?_⟩
 refine ⟨_,rfl,_,rfl,_,_,rfl,rfl,la1 _ (by decide),dw,_,rfl,val 10 (by decide) _ e10 h2',rfl,_,rfl,fz rfl ?_⟩
 refine ⟨_,rfl,_,rfl,_,_,rfl,rfl,la1 _ (by decide),dw,_,rfl,val 12 (by decide) _ e12 h2',?_⟩
 refine ⟨_,rfl,_,_,rfl,rfl,_,rfl,_,_,rfl,rfl,cm (by decide) (by lia),_,rfl,_,_,rfl,rfl,.inr ⟨_,rfl,_,_,rfl,rfl,cm (by lia) (by lia),rfl,_,rfl,dg (congrArg V.int ?_) ?_⟩⟩
 ·rw [Int.one_mul]
  refine congrArg _ ?_
  by_cases c:(2:Int) ^ w'.toNat<=2 * L
  ·rw [if_pos c,decide_eq_true c]; rfl
  ·rw [if_neg c,decide_eq_false c]; rfl
 have sG:=(s1.trans s8).trans z2
 refine ⟨_,rfl,_,rfl,_,rfl,_,rfl,_,_,rfl,rfl,cm (by decide) (by lia),_,_,rfl,rfl,l,cn,w',_,_,xs,_,rfl,sG _ _ hlG,laG.mono (fun _ _ _ k=>k.same sG),pr.ok,by rw [pr.ln]; exact pr.l10,w0,w1,z2 _ _ h5,?_,?_,fun H9 s9=>?_⟩
 ·rw [pr.ln]
  push_cast
  show 12 * w' + 14 = _
  lia
 ·rw [pr.tn]
  exact .inr (by lia)
 ·exact q _ (bG.same (sG.trans s9)) (XG.trans (SameX.of (sG.trans s9)))
theorem gA {f:Addr} {fd:FuncData} (F:Fun K "_law_multiplied" "_law_multiplied" ce f fd) (T:Txt K mg c) (H__law_product:Has P w K mg base 3 "_law_product" ["_law_n"] (ny c)) (H_run_steps:Has P w K mg base 14 "run_steps" ["width","steps","registers"] (pc c)) (H__law_word:Has P w K mg base 2 "_law_word" ["_law_state","_law_width"] spWrd) (H__law_counted:Has P w K mg base 15 "_law_counted" ["_law_width","_law_steps","_law_counts","_law_due"] (pw c)) (H__law_whole:Has P w K mg base 1 "_law_whole" ["_law_found"] fD):FnOk P w K mg base CX0 16 f fd ["_law_state","_law_width","_law_n"] (rp c):=by
 refine F.ok sc__law_multiplied (fun vs H Q E h=>?_) (fun cdv A outer s H vs Q E hr h=>?_)
 ·obtain ⟨p,w',z,rfl,_⟩:=h
  rfl
 obtain ⟨p,w',z,rfl,bp,hz,w0,w1,q⟩:=h
 refine ⟨_,(ah (aH (i:=3) sc__law_multiplied.nd rfl (Or.inr rfl) (aq ej ak (pv 1)))
  (ah (ps_compC (i:=4) sc__law_multiplied.nd rfl (Or.inl rfl) rfl [1,0] ["_law_width","_law_state"] rfl (by first | rfl | with_unfolding_all rfl) (by rfl) (by exact (List.forall_mem_cons.mpr ⟨rfl,(List.forall_mem_cons.mpr ⟨rfl,(fun _ h=>nomatch h)⟩)⟩)) (by decide +kernel) rfl (by decide +kernel) rfl (by decide +kernel) (by exact (List.forall_mem_cons.mpr ⟨⟨by first | exact Or.inl rfl | exact Or.inr rfl,rfl⟩,(List.forall_mem_cons.mpr ⟨⟨by first | exact Or.inl rfl | exact Or.inr rfl,rfl⟩,(fun _ h=>nomatch h)⟩)⟩)) rfl (by rfl) (iL rfl T.n_range (aa ak ag)) (fun C s2 H2 fp=>(aG H__law_word (hr.mono (by lia)) rfl (aa (pv 2) (aa (pv 1) ag)))))
  (ah (aH (i:=5) sc__law_multiplied.nd rfl (Or.inl rfl) (aG H__law_product (hr.mono (by lia)) rfl (aa (pv 2) ag)))
  (ah (aH (i:=6) sc__law_multiplied.nd rfl (Or.inl rfl) (sg (dR (aq af (pv 2) am) (aN aC (pv 4) ak (fun _ _=>rfl)) (dR (aq af (pv 2) am) (aN aC (pv 4) ak (fun _ _=>rfl)) (dR (aq af (pv 2) am) (aN aC (pv 4) ak (fun _ _=>rfl)) (dR (aq af (pv 2) am) (aN aC (pv 4) ak (fun _ _=>rfl)) qZ)))) rfl rfl (fun z=>nomatch z) (by decide)))
  (ah (md (aG H_run_steps (hr.mono (by lia)) rfl (aa (pv 1) (aa (pv 5) (aa (pv 6) ag)))) (pQ rfl (bH (aQ (i:=7) sc__law_multiplied.nd rfl (Or.inl rfl)) (bH (aQ (i:=8) sc__law_multiplied.nd rfl (Or.inl rfl)) (bH (aQ (i:=9) sc__law_multiplied.nd rfl (Or.inl rfl)) i8)))))
  (ah (aH (i:=10) sc__law_multiplied.nd rfl (Or.inl rfl) (aY (aa (bA (aZ hr) (pv 7) (aq af (pv 2) am) (fun _ _=>rfl)) (aa (bA (aZ hr) (pv 7) (aq af (pv 2) am) (fun _ _=>rfl)) (aa (bA (aZ hr) (pv 7) (aq af (pv 2) am) (fun _ _=>rfl)) (aa (bA (aZ hr) (pv 7) (aq af (pv 2) am) (fun _ _=>rfl)) ag))))))
  (ah (aR (PW.pt (eE (bz (bt (aE (gf rfl) rfl T.n_all boot_all (aa (pR [3] ["_law_size"] rfl (by first | rfl | with_unfolding_all rfl) (by rfl) (by exact (List.forall_mem_cons.mpr ⟨rfl,(fun _ h=>nomatch h)⟩)) (by decide +kernel) rfl (by decide +kernel) rfl (by decide +kernel) (by exact (List.forall_mem_cons.mpr ⟨⟨by first | exact Or.inl rfl | exact Or.inr rfl,rfl⟩,(fun _ h=>nomatch h)⟩)) rfl (by rfl) (cu (pv 10)) (fun C s2 H2 fp=>(cY (aG H__law_whole (hr.mono (by lia)) rfl (aa (pv 0) ag)) (cW (pN jv jO ak (pv 0) (pv 1)))))) ag)))) (dE (ay (qG (Nat.lt_of_succ_lt (aZ hr))) (pv 8) (aY ag) (aD _)))))
   (ai (ar fS))
   aA)
  (ah (aH (i:=11) sc__law_multiplied.nd rfl (Or.inl rfl) ak)
  (ah (cA PassesOwn.never rfl (cu (pe_rev (pv 10))) (aQ (i:=12) sc__law_multiplied.nd rfl (Or.inl rfl))
   (ai (aH (i:=11) sc__law_multiplied.nd rfl (Or.inl rfl) (aq bx (aq bh (pv 11) (pv 3)) (pv 12)))))
  (ah (aH (i:=13) sc__law_multiplied.nd rfl (Or.inl rfl) (aq bh (aq bx (aq bh (aN aC (pv 4) ak (fun _ _=>rfl)) (pv 3)) (aN aC (pv 4) ak (fun _ _=>rfl))) (aq bx (aq bh (aN aC (pv 4) ak (fun _ _=>rfl)) (pv 3)) (aN aC (pv 4) ak (fun _ _=>rfl)))))
  (ai (ar (cY (dl bS (pv 11) (pv 13) (aD _)) (cW (aG H__law_counted (hr.mono (by lia)) rfl (aa (pv 1) (aa (pv 5) (aa (pv 9) (aa ak ag))))))))))))))))))),?_⟩
 have P2:=aW w0 w1
 have lz:=lN hz
 have L99:(99:Nat)<=sizeLine:=by decide
 have la1:∀ s:Str,s.length<=3->z.length + s.length<=sizeLine:=fun s hs=>by lia
 have pr:=rM (w:=w') hz w0 w1
 refine ⟨_,rfl,_,_,rfl,rfl,ie (by lia) (by lia),?_⟩
 refine ⟨4,rfl,by decide,by decide,fun D0 hD=>?_⟩
 have nDp:D0 ≠ p:=bp.ne hD
 refine comp_rng (n:=4) (fun j HJ=>∃ ns:List Int,ns.length = j/\(∀ x ∈ ns,0<=x/\x < 2 ^ w'.toNat)/\HJ D0 = some (.lst (ns.map V.int))/\Box HJ p/\SameX p H HJ) ⟨[],rfl,(fun _ h=>nomatch h),ae,bp.same (au hD _),SameX.of (au hD _)⟩ ?_ ?_
 ·rintro j HJ hj ⟨ns,nl,nb,hy,bJ,xJ⟩
  refine ⟨_,rfl,_,rfl,p,w',rfl,bJ,w0,w1,fun i HK i0 i1 bK xK=>?_⟩
  refine ⟨ns.map V.int,xK _ _ nDp hy,by rw [List.length_map]; lia,_,(show 4 - (j + 1) < 4 - j by lia),rfl,by lia,ns ++ [i],by rw [List.length_append,nl]; rfl,?_,?_,?_,?_⟩
  ·intro x hx
   rcases List.mem_append.mp hx with h | h
   ·exact nb x h
   ·rw [List.mem_singleton.mp h]
    exact ⟨i0,i1⟩
  ·rw [ae,List.map_append]
   rfl
  ·obtain ⟨r1,r2,r3,e⟩:=bK
   exact ⟨r1,r2,r3,by rw [ao (fun z=>nDp z.symm)]; exact e⟩
  ·exact fun b o hb e=>by rw [ao (av e hD)]; exact xK _ _ hb (xJ _ _ hb e)
 rintro H1 ⟨ns,nl,nb,hD1,b1,x1⟩
 obtain ⟨a0,a1,c0,c1,rfl⟩:∃ a b c d,ns = [a,b,c,d]:=by
  match ns,nl with
  | [a,b,c,d],_=>exact ⟨a,b,c,d,rfl⟩
 have h20:=nb a0 (by simp)
 have h21:=nb a1 (by simp)
 have h22:=nb c0 (by simp)
 have h23:=nb c1 (by simp)
 refine ⟨_,rfl,z,rfl,hz,fun l xs H2 hl0 hl la s2=>?_⟩
 have hD2:=s2 _ _ hD1
 refine fun d hd=>?_
 have sd:=au hd (.dK [])
 have hD3:=sd _ _ hD2
 refine ⟨_,rfl,_,_,rfl,rfl,la1 _ (by decide),_,rfl,D0,_,_,_,rfl,rfl,SqL.of hD3,rfl,_,rfl,_,_,rfl,rfl,la1 _ (by decide),_,rfl,D0,_,_,_,rfl,rfl,SqL.of hD3,rfl,_,rfl,_,_,rfl,rfl,la1 _ (by decide),_,rfl,D0,_,_,_,rfl,rfl,SqL.of hD3,rfl,_,rfl,_,_,rfl,rfl,la1 _ (by decide),_,rfl,D0,_,_,_,rfl,rfl,SqL.of hD3,rfl,ae,[(.inr (nm z 20),.int a0),(.inr (nm z 21),.int a1),(.inr (nm z 22),.int c0),(.inr (nm z 23),.int c1)],rfl,(by show 4<=15; decide),?_⟩
 have kw:Wz w' (nP.map (nm z)) (kPr z a0 a1 c0 c1):=kPr_wz h20 h21 h22 h23
 have s1:Same H2 (upd (upd H2 d (.dK [])) d (.dK (kPr z a0 a1 c0 c1))):=Same.updL (au hd _) hd
 refine ⟨_,rfl,_,rfl,_,rfl,l,d,w',_,xs,_,kPr z a0 a1 c0 c1,rfl,s1 _ _ hl,la.mono (fun _ _ _ k=>k.same s1),pr.ok,by rw [pr.ln]; exact pr.l10,pr.zs,w0,w1,ae,kw,fun t dw m cn ms H8 h1 h2 h3 h4 h5 n1 n2 n3 s8=>?_⟩
 obtain ⟨hwd,hvn,emk⟩:=mul_run (w:=w') (f:=fPr a0 a1 c0 c1) h20 h21 h22 h23
 rw [pr.mks kPr_vw,emk] at h4
 have ems:ms = []:=List.length_eq_zero_iff.mp h4.1
 subst ems
 have val:∀ i ∈ [16,17,18,19],∀ v,bf w' (fPr a0 a1 c0 c1) prodN i = v->DGet H8 dw (.str (nm z i)) (some (.int v)):=fun i hi v ev=>by
  have e:=DGet.k (k:=.inr (nm z i)) h2
  have i26:∀ i ∈ [16,17,18,19],i < 26:=by decide
  rw [pr.val kPr_vw kw hz w0 w1 (i26 i hi) (wr_prod i hi),ev] at e
  exact e
 obtain ⟨p0,e0⟩:∃ v,bf w' (fPr a0 a1 c0 c1) prodN 16 = v:=⟨_,rfl⟩
 obtain ⟨p1,e1⟩:∃ v,bf w' (fPr a0 a1 c0 c1) prodN 17 = v:=⟨_,rfl⟩
 obtain ⟨p2,e2⟩:∃ v,bf w' (fPr a0 a1 c0 c1) prodN 18 = v:=⟨_,rfl⟩
 obtain ⟨p3,e3⟩:∃ v,bf w' (fPr a0 a1 c0 c1) prodN 19 = v:=⟨_,rfl⟩
 unfold wdN at hwd
 unfold vN at hvn
 rw [e0,e1,e2,e3] at hwd hvn
 obtain ⟨q0,q1,q2,q3⟩:=hwd
 refine ⟨t,_,rfl,SqT.of h1,rfl,_,_,rfl,_,_,rfl,_,_,rfl,rfl,?_⟩
 refine ⟨_,rfl,_,rfl,_,_,rfl,rfl,la1 _ (by decide),dw,_,rfl,val 16 (by decide) _ e0,?_⟩
 refine ⟨_,rfl,_,rfl,_,_,rfl,rfl,la1 _ (by decide),dw,_,rfl,val 17 (by decide) _ e1,?_⟩
 refine ⟨_,rfl,_,rfl,_,_,rfl,rfl,la1 _ (by decide),dw,_,rfl,val 18 (by decide) _ e2,?_⟩
 refine ⟨_,rfl,_,rfl,_,_,rfl,rfl,la1 _ (by decide),dw,_,rfl,val 19 (by decide) _ e3,?_⟩
 refine ⟨(by show 4<=sizeLine; decide),fun lt hlt=>?_⟩
 have st:=au hlt (.lst [.int p0,.int p1,.int p2,.int p3])
 have pin:∀ x ∈ [p0,p1,p2,p3],0<=x/\x < 2 ^ w'.toNat:=by
  intro x hx
  simp only [List.mem_cons,List.not_mem_nil,or_false] at hx
  rcases hx with rfl | rfl | rfl | rfl
  ·exact q0
  ·exact q1
  ·exact q2
  ·exact q3
 have one:(1:Int) * 2 ^ w'.toNat = 2 ^ w'.toNat:=Int.one_mul _
 refine ⟨_,rfl,lt,rfl,⟨_,SqL.of ae⟩,fun D2 hD2'=>?_⟩
 refine mS (xs:=[p0,p1,p2,p3].map V.int) (fun j HJ=>j<=4/\HJ D2 = some (.lst ((List.replicate j true).map V.bl))/\Same (upd H8 lt (.lst [.int p0,.int p1,.int p2,.int p3])) HJ) ⟨by decide,ae,au hD2' _⟩ ?_ ?_ ?_
 ·rintro j HJ hj ⟨j4,hy,sJ⟩
  exact SqL.of (sJ _ _ ae)
 ·rintro j v HJ hv ⟨j4,hy,sJ⟩
  rw [List.getElem?_map] at hv
  obtain ⟨x,hx,rfl⟩:=Option.map_eq_some_iff.mp hv
  have j4:j < 4:=(List.getElem?_eq_some_iff.mp hx).1
  obtain ⟨x0,x1'⟩:=pin x (List.mem_of_getElem? hx)
  refine ⟨_,rfl,x,rfl,_,rfl,fN ⟨_,rfl,_,_,rfl,rfl,_,rfl,dg x0 ⟨_,rfl,_,_,rfl,rfl,?_⟩⟩⟩
  refine ⟨_,hy,by rw [List.length_map,List.length_replicate]; lia,_,(show 4 - (j + 1) < 4 - j by lia),rfl,j4,j4,?_,Same.updL sJ hD2'⟩
  rw [ae,List.replicate_succ',List.map_append]
  show some (HO.lst (_ ++ [V.bl (decide (x < 1 * 2 ^ w'.toNat))])) = _
  rw [one,decide_eq_true x1']
  rfl
 rintro H9 ⟨_,h9,s9⟩
 have h93:=s9 _ _ (st _ _ h3)
 refine ⟨D2,List.replicate 4 true,rfl,SqL.of h9,_,rfl,eB ?_⟩
 refine ⟨_,rfl,(by show 0<=sizeLine; decide),fun le hle=>?_⟩
 have se:=au hle (.lst [])
 refine ⟨m,le,[],rfl,rfl,SqL.of (se _ _ h93),SqL.of ae,_,rfl,eB ?_⟩
 have hlt2:=se _ _ (s9 _ _ (ae:upd H8 lt (.lst [.int p0,.int p1,.int p2,.int p3]) lt = _))
 refine ⟨_,rfl,lt,_,rfl,SqL.of hlt2,fun lr hlr=>?_⟩
 have sr:=au hlr (.lst [.int p3,.int p2,.int p1,.int p0])
 have S9:Same H2 (upd (upd H9 le (.lst [])) lr (.lst [.int p3,.int p2,.int p1,.int p0])):=((((s1.trans s8).trans st).trans s9).trans se).trans sr
 refine ⟨lr,rfl,⟨_,SqL.of ae⟩,ck (xs:=[p3,p2,p1,p0].map V.int) (fun j σ G=>∃ y:Option V,σ = [some (.ref p),some (.int w'),some (.str z),some (.int (1 * 2 ^ w'.toNat)),some (.ref D0),some (.ref l),some (.ref d),some (.ref dw),some (.ref m),some (.ref cn),some (.ref lt),some (.int (([p3,p2,p1,p0].take j).foldl (fun a x=>a * (1 * 2 ^ w'.toNat) + x) 0)),y,none]/\Same (upd (upd H9 le (.lst [])) lr (.lst [.int p3,.int p2,.int p1,.int p0])) G) ⟨_,rfl,Same.refl _⟩ ?_ ?_ ?_⟩
 ·rintro j σ G hj ⟨y,rfl,sG⟩
  exact SqL.of (sG _ _ ae)
 ·rintro j v σ G hv ⟨y,rfl,sG⟩
  rw [List.getElem?_map] at hv
  obtain ⟨x,hx,rfl⟩:=Option.map_eq_some_iff.mp hv
  refine ⟨_,rfl,_,rfl,_,_,rfl,rfl,.inr ⟨by lia,by lia⟩,_,rfl,_,_,rfl,rfl,?_⟩
  refine ⟨some (.int x),?_,sG⟩
  rw [cp hx,List.foldl_append]
  rfl
 rintro σ G ⟨y,rfl,sG⟩
 have SG:=S9.trans sG
 have hDG:=SG _ _ hD2
 have cmz:∀ a:Int,CMul a (1 * 2 ^ w'.toNat):=fun a=>.inr ⟨by lia,by lia⟩
 have bl:∀ {M a b:Int},0<=M->M<=4294967296->0<=a->a < M->0<=b->b < M->0<=a * M + b/\a * M + b < 18446744073709551616:=fun {M a b} m0 m1 a0 a1 b0 b1=>by
  have e1:a * M<=(M - 1) * M:=Int.mul_le_mul_of_nonneg_right (by lia) m0
  have e2:(M - 1) * M<=4294967295 * 4294967296:=Int.mul_le_mul (by lia) m1 m0 (by decide)
  have e3:0<=a * M:=Int.mul_nonneg a0 m0
  lia
 have bb:=bl (M:=1 * 2 ^ w'.toNat) (a:=a1) (b:=a0) (by lia) (by lia) h21.1 (by lia) h20.1 (by lia)
 refine ⟨_,rfl,D0,_,_,_,rfl,rfl,SqL.of hDG,rfl,_,rfl,_,_,rfl,rfl,cmz _,_,rfl,D0,_,_,_,rfl,rfl,SqL.of hDG,rfl,_,_,rfl,rfl,?_⟩
 refine ⟨_,rfl,D0,_,_,_,rfl,rfl,SqL.of hDG,rfl,_,rfl,_,_,rfl,rfl,cmz _,_,rfl,D0,_,_,_,rfl,rfl,SqL.of hDG,rfl,_,_,rfl,rfl,_,_,rfl,rfl,.inl ⟨by have:=bb.1; lia,by have:=bb.2; show _ < (2:Int) ^ 64; lia⟩,?_⟩
 refine ⟨_,rfl,_,rfl,rfl,_,rfl,dg (congrArg V.int ?_) ?_⟩
 ·rw [one]
  show ((((0 * _ + p3) * _ + p2) * _ + p1) * _ + p0) = _
  have hv2:p0 + p1 * 2 ^ w'.toNat + p2 * (2 ^ w'.toNat * 2 ^ w'.toNat) + p3 * (2 ^ w'.toNat * 2 ^ w'.toNat * 2 ^ w'.toNat) = (a1 * 2 ^ w'.toNat + a0) * (c1 * 2 ^ w'.toNat + c0):=hvn
  rw [<- hv2]
  generalize (2:Int) ^ w'.toNat = M
  grind
 refine ⟨_,rfl,_,rfl,_,rfl,l,cn,w',23,_,xs,_,rfl,SG _ _ hl,la.mono (fun _ _ _ k=>k.same SG),pr.ok,by rw [pr.ln]; exact pr.l10,w0,w1,((((st.trans s9).trans se).trans sr).trans sG) _ _ h5,by rw [pr.ln]; rfl,.inl (by rw [pr.tn]; rfl),fun HF sF=>?_⟩
 have sA:=s2.trans (SG.trans sF)
 exact q _ (b1.same sA) (x1.trans (SameX.of sA))
theorem ok_law {f:Addr} {fd:FuncData} (F:Fun K "law" "law" lj f fd) (T:Txt K mg c) (H__law_begun:Has P w K mg base 1 "_law_begun" ["_law_cell_here"] spBox) (H__law_cell:Has P w K mg base 1 "_law_cell" ["_law_script","_law_k"] (rS K)) (H__law_draw:Has P w K mg base 1 "_law_draw" ["_law_state","_law_many"] iW) (H__law_division:Has P w K mg base 16 "_law_division" ["_law_state","_law_width","_law_n"] (o7 c)) (H__law_multiplied:Has P w K mg base 16 "_law_multiplied" ["_law_state","_law_width","_law_n"] (rp c)):FnOk P w K mg base CX0 17 f fd ["_law_script"] (spLaw K):=by
 refine F.ok sc_law (fun vs H Q E h=>?_) (fun cdv A outer s H vs Q E hr h=>?_)
 ·obtain ⟨a,ns,rfl,_⟩:=h
  rfl
 obtain ⟨a,ns,rfl,hS,hlen,q⟩:=h
 have hl:(ns.map V.int).length = ns.length:=List.length_map _
 have L1000:(1000:Nat)<=sizeLine:=by decide
 refine ⟨_,(ah (cA PassesOwn.never rfl (iL rfl T.n_range (aa (aE (mX rfl) rfl T.n_max boot_max (aa ak (aa (aE (sS rfl) rfl T.n_min boot_min (aa ak (aa (aE bn rfl T.n_len boot_len (aa (pv 0) ag)) ag))) ag))) ag)) (aQ (i:=1) sc_law.nd rfl (Or.inl rfl))
   (ah (aH (i:=2) sc_law.nd rfl (Or.inl rfl) (aG H__law_begun (hr.mono (by lia)) rfl (aa (aG H__law_cell (hr.mono (by lia)) rfl (aa (pv 0) (aa (pv 1) ag))) ag)))
   (ah (aH (i:=3) sc_law.nd rfl (Or.inl rfl) (aq bx ak (aG H__law_draw (hr.mono (by lia)) rfl (aa (pv 2) (aa ak ag)))))
   (ah (aH (i:=4) sc_law.nd rfl (Or.inl rfl) (aN aC (aY (aa am (aa am (aa am (aa am (aa am ag)))))) (aG H__law_draw (hr.mono (by lia)) rfl (aa (pv 2) (aa ak ag))) (fun _ _=>rfl)))
   (ai (aR (PW.pt (eE (bz (bt (aG H__law_division (hr.mono (by lia)) rfl (aa (pv 2) (aa (pv 3) (aa (pv 4) ag)))))) (dE (bz (bt (aG H__law_multiplied (hr.mono (by lia)) rfl (aa (pv 2) (aa (pv 3) (aa (pv 4) ag)))))))))
    (ai (ar fS))
    aA))))))
  (ai (ar fS))),?_⟩
 refine ⟨_,rfl,a,_,rfl,.inl hS,_,_,rfl,_,_,rfl,_,rfl,(by rw [hl]; split <;> (try split) <;> lia),(by rw [hl]; split <;> (try split) <;> lia),mQ (fun i σ H2=>∃ y1 y2 y3 y4:Option V,σ = [some (.ref a),y1,y2,y3,y4]/\Same H H2) ⟨_,_,_,_,rfl,Same.refl _⟩ ?_ ?_⟩
 rotate_left
 ·rintro σ H2 ⟨y1,y2,y3,y4,rfl,s2⟩
  exact q H2
 rintro i σ H2 hi ⟨y1,y2,y3,y4,rfl,s2⟩
 have hi':(i:Int) < 100:=by
  rw [hl] at hi
  revert hi
  split <;> (try split) <;> lia
 refine ⟨_,rfl,_,rfl,a,ns,_,rfl,s2.seq hS,by lia,by lia,fun cc=>⟨cc,rfl,fun p H3 p0 b3 s3=>?_⟩⟩
 refine ⟨_,rfl,p,_,rfl,b3,by decide,by decide,fun d H4 d0 d1 b4 x4=>⟨_,_,rfl,rfl,?_⟩⟩
 refine ⟨(by show 5<=sizeLine; decide),fun ln hln=>?_⟩
 have s5:=au hln (.lst [.str "",.str "a",.str "zz",.str "t1",.str "q"])
 have nlp:=b4.ne hln
 refine ⟨_,rfl,p,_,rfl,b4.same s5,by decide,by decide,fun k H6 k0 k1 b6 x6=>?_⟩
 obtain ⟨v,⟨z,rfl,hz⟩,ev⟩:=pickV (xs:=[.str "",.str "a",.str "zz",.str "t1",.str "q"]) (Pr:=fun v=>∃ z:Str,v = .str z/\z ∈ ZNs) k0 k1 (allV ⟨⟨_,rfl,by decide⟩,⟨_,rfl,by decide⟩,⟨_,rfl,by decide⟩,⟨_,rfl,by decide⟩,⟨_,rfl,by decide⟩,trivial⟩)
 refine ⟨ln,_,_,_,rfl,rfl,SqL.of (x6 _ _ nlp ae),ev,?_⟩
 refine ⟨_,rfl,_,rfl,_,rfl,p,_,z,rfl,b6,hz,by lia,by lia,fun H7 b7 x7=>⟨_,rfl,eB ?_⟩⟩
 refine ⟨_,rfl,_,rfl,_,rfl,p,_,z,rfl,b7,hz,by lia,by lia,fun H8 b8 x8=>⟨_,rfl,eB ?_⟩⟩
 have X:SameX p H3 H8:=(x4.trans (SameX.of s5)).trans ((x6.trans x7).trans x8)
 exact ⟨_,_,_,_,rfl,fun b o e=>X _ _ (av (s2 _ _ e) p0) (s3 _ _ (s2 _ _ e))⟩
theorem oA {P:Program} {w:World} {K:Frag} {mg:Str->Option Value} {base:Heap} {j k:Nat} {x:Str} {ps:List Str} {sp:Sp} (h:Has P w K mg base j x ps sp) (i:j<=k):Has P w K mg base k x ps sp:=let ⟨f,fd,a,b,d,e⟩:=h.ex; ⟨f,fd,a.mono i,b,d,e⟩
end
theorem all_mk {l:PySem.W.OpenLaw} {w:World} {K:Frag} {h:Heap} {mg:Str->Option Value} {fa f1 f2 f3 f4 f5 f6 f7 f8 f9 f10 f11 f12 f13 f14 f15 f16 f17 f18 f19 f20 f21 f22 f23 f24 f25 f26 f27 f28 f29 f30 f31 f32 f33 f34 f35 f36 f37 f38 f39 f40 f41 f42 f43 f44 f45 f46 f47 f48 f49 f50 f51 f52 f53 f54 f55 f56 f57 f58 f59 f60 f61 f62 f63 f64 f65 f66 f67 f68 f69 f70 f71 f72 f73 f74 f75 f76 f77 f78 f79 f80 f81 f82 f83 f84 f85 f86 f87 f88 f89 f90 f91 f92 f93 f94 f95 f96 f97 f98 f99 f100 f101 f102 f103 f104 f105 f106 f107 f108 f109 c_Set c_Copy c_Sum c_Gap c_Low c_High c_Left c_Right c_Slide c_And c_Or c_Unlike c_Under c_Pick c_Mark c_Turns c_Step c_Reading c_ROW_WORDS c_MARKS c_SHAPES:Addr} (X:K.In h) (G:h.Ns mainGlobals mg) (hfa:mg "law" = some (.ref fa))
  {od109 an109:Option Addr} {sl109:Array (Option Value)} {oc109 kV109 dc109 pm109 cd109 ct109:Value}
  (a1:nsIn K mainGlobals "is_whole" = some (some (.ref f1)))
  (l1:FB K "is_whole" "is_whole" gM f1)
  (a2:nsIn K mainGlobals "is_between" = some (some (.ref f2)))
  (l2:FB K "is_between" "is_between" eQ f2)
  (a3:nsIn K mainGlobals "need_width" = some (some (.ref f3)))
  (l3:FB K "need_width" "need_width" fe f3)
  (a4:nsIn K mainGlobals "is_word" = some (some (.ref f4)))
  (l4:FB K "is_word" "is_word" jw f4)
  (a5:nsIn K mainGlobals "sum_of" = some (some (.ref f5)))
  (l5:FB K "sum_of" "sum_of" kY f5)
  (a6:nsIn K mainGlobals "gap_of" = some (some (.ref f6)))
  (l6:FB K "gap_of" "gap_of" lC f6)
  (a7:nsIn K mainGlobals "low_product" = some (some (.ref f7)))
  (l7:FB K "low_product" "low_product" dM f7)
  (a8:nsIn K mainGlobals "high_product" = some (some (.ref f8)))
  (l8:FB K "high_product" "high_product" dk f8)
  (a9:nsIn K mainGlobals "left" = some (some (.ref f9)))
  (l9:FB K "left" "left" qJ f9)
  (a10:nsIn K mainGlobals "right" = some (some (.ref f10)))
  (l10:FB K "right" "right" oG f10)
  (a11:nsIn K mainGlobals "slide" = some (some (.ref f11)))
  (l11:FB K "slide" "slide" nH f11)
  (a12:nsIn K mainGlobals "row_words" = some (some (.ref f12)))
  (l12:FB K "row_words" "row_words" fE f12)
  (a13:nsIn K mainGlobals "is_register" = some (some (.ref f13)))
  (l13:FB K "is_register" "is_register" dP f13)
  (a14:nsIn K mainGlobals "are_registers" = some (some (.ref f14)))
  (l14:FB K "are_registers" "are_registers" cT f14)
  (a15:findIn K (.ref c_Set) "word" = some (some (.ref f15))) (i15:isFn K (.ref f15) = true)
  (l15:FB K "word" "Set.word" gN f15)
  (a16:findIn K (.ref c_Copy) "word" = some (some (.ref f16))) (i16:isFn K (.ref f16) = true)
  (l16:FB K "word" "Copy.word" fU f16)
  (a17:findIn K (.ref c_Sum) "word" = some (some (.ref f17))) (i17:isFn K (.ref f17) = true)
  (l17:FB K "word" "Sum.word" hZ f17)
  (a18:findIn K (.ref c_Gap) "word" = some (some (.ref f18))) (i18:isFn K (.ref f18) = true)
  (l18:FB K "word" "Gap.word" gH f18)
  (a19:findIn K (.ref c_Low) "word" = some (some (.ref f19))) (i19:isFn K (.ref f19) = true)
  (l19:FB K "word" "Low.word" gK f19)
  (a20:findIn K (.ref c_High) "word" = some (some (.ref f20))) (i20:isFn K (.ref f20) = true)
  (l20:FB K "word" "High.word" gj f20)
  (a21:findIn K (.ref c_Left) "word" = some (some (.ref f21))) (i21:isFn K (.ref f21) = true)
  (l21:FB K "word" "Left.word" fW f21)
  (a22:findIn K (.ref c_Right) "word" = some (some (.ref f22))) (i22:isFn K (.ref f22) = true)
  (l22:FB K "word" "Right.word" eO f22)
  (a23:findIn K (.ref c_Slide) "word" = some (some (.ref f23))) (i23:isFn K (.ref f23) = true)
  (l23:FB K "word" "Slide.word" eG f23)
  (a24:findIn K (.ref c_And) "word" = some (some (.ref f24))) (i24:isFn K (.ref f24) = true)
  (l24:FB K "word" "And.word" g6 f24)
  (a25:findIn K (.ref c_Or) "word" = some (some (.ref f25))) (i25:isFn K (.ref f25) = true)
  (l25:FB K "word" "Or.word" jj f25)
  (a26:findIn K (.ref c_Unlike) "word" = some (some (.ref f26))) (i26:isFn K (.ref f26) = true)
  (l26:FB K "word" "Unlike.word" dN f26)
  (a27:findIn K (.ref c_Under) "word" = some (some (.ref f27))) (i27:isFn K (.ref f27) = true)
  (l27:FB K "word" "Under.word" eU f27)
  (a28:findIn K (.ref c_Pick) "word" = some (some (.ref f28))) (i28:isFn K (.ref f28) = true)
  (l28:FB K "word" "Pick.word" fQ f28)
  (a29:findIn K (.ref c_Mark) "word" = some (some (.ref f29))) (i29:isFn K (.ref f29) = true)
  (l29:FB K "word" "Mark.word" gg f29)
  (a30:findIn K (.ref c_Set) "__init__" = some (some (.ref f30))) (i30:isFn K (.ref f30) = true)
  (l30:FB K "__init__" "Set.__init__" dC f30)
  (a31:findIn K (.ref c_Copy) "__init__" = some (some (.ref f31))) (i31:isFn K (.ref f31) = true)
  (l31:FB K "__init__" "Copy.__init__" cJ f31)
  (a32:findIn K (.ref c_Sum) "__init__" = some (some (.ref f32))) (i32:isFn K (.ref f32) = true) (h_Gap___init__:findIn K (.ref c_Gap) "__init__" = some (some (.ref f32)))
  (l32:FB K "__init__" "Carrying.__init__" bL f32)
  (a33:findIn K (.ref c_Low) "__init__" = some (some (.ref f33))) (i33:isFn K (.ref f33) = true) (h_High___init__:findIn K (.ref c_High) "__init__" = some (some (.ref f33))) (h_And___init__:findIn K (.ref c_And) "__init__" = some (some (.ref f33))) (h_Or___init__:findIn K (.ref c_Or) "__init__" = some (some (.ref f33))) (h_Unlike___init__:findIn K (.ref c_Unlike) "__init__" = some (some (.ref f33))) (h_Under___init__:findIn K (.ref c_Under) "__init__" = some (some (.ref f33)))
  (l33:FB K "__init__" "Joining.__init__" bQ f33)
  (a34:findIn K (.ref c_Left) "__init__" = some (some (.ref f34))) (i34:isFn K (.ref f34) = true) (h_Right___init__:findIn K (.ref c_Right) "__init__" = some (some (.ref f34))) (h_Slide___init__:findIn K (.ref c_Slide) "__init__" = some (some (.ref f34)))
  (l34:FB K "__init__" "Moving.__init__" bW f34)
  (a35:findIn K (.ref c_Pick) "__init__" = some (some (.ref f35))) (i35:isFn K (.ref f35) = true)
  (l35:FB K "__init__" "Pick.__init__" cV f35)
  (a36:findIn K (.ref c_Mark) "__init__" = some (some (.ref f36))) (i36:isFn K (.ref f36) = true)
  (l36:FB K "__init__" "Mark.__init__" cN f36)
  (a37:findIn K (.ref c_Set) "told" = some (some (.ref f37))) (i37:isFn K (.ref f37) = true)
  (l37:FB K "told" "Set.told" hC f37)
  (a38:findIn K (.ref c_Copy) "told" = some (some (.ref f38))) (i38:isFn K (.ref f38) = true)
  (l38:FB K "told" "Copy.told" fO f38)
  (a39:findIn K (.ref c_Sum) "told" = some (some (.ref f39))) (i39:isFn K (.ref f39) = true) (h_Gap_told:findIn K (.ref c_Gap) "told" = some (some (.ref f39)))
  (l39:FB K "told" "Carrying.told" cK f39)
  (a40:findIn K (.ref c_Low) "told" = some (some (.ref f40))) (i40:isFn K (.ref f40) = true) (h_High_told:findIn K (.ref c_High) "told" = some (some (.ref f40))) (h_And_told:findIn K (.ref c_And) "told" = some (some (.ref f40))) (h_Or_told:findIn K (.ref c_Or) "told" = some (some (.ref f40))) (h_Unlike_told:findIn K (.ref c_Unlike) "told" = some (some (.ref f40))) (h_Under_told:findIn K (.ref c_Under) "told" = some (some (.ref f40)))
  (l40:FB K "told" "Joining.told" da f40)
  (a41:findIn K (.ref c_Left) "told" = some (some (.ref f41))) (i41:isFn K (.ref f41) = true) (h_Right_told:findIn K (.ref c_Right) "told" = some (some (.ref f41))) (h_Slide_told:findIn K (.ref c_Slide) "told" = some (some (.ref f41)))
  (l41:FB K "told" "Moving.told" dQ f41)
  (a42:findIn K (.ref c_Pick) "told" = some (some (.ref f42))) (i42:isFn K (.ref f42) = true)
  (l42:FB K "told" "Pick.told" fH f42)
  (a43:findIn K (.ref c_Mark) "told" = some (some (.ref f43))) (i43:isFn K (.ref f43) = true)
  (l43:FB K "told" "Mark.told" fF f43)
  (a44:findIn K (.ref c_Sum) "reckoned" = some (some (.ref f44))) (i44:isFn K (.ref f44) = true)
  (l44:FB K "reckoned" "Sum.reckoned" dz f44)
  (a45:findIn K (.ref c_Gap) "reckoned" = some (some (.ref f45))) (i45:isFn K (.ref f45) = true)
  (l45:FB K "reckoned" "Gap.reckoned" du f45)
  (a46:findIn K (.ref c_Low) "reckoned" = some (some (.ref f46))) (i46:isFn K (.ref f46) = true)
  (l46:FB K "reckoned" "Low.reckoned" cZ f46)
  (a47:findIn K (.ref c_High) "reckoned" = some (some (.ref f47))) (i47:isFn K (.ref f47) = true)
  (l47:FB K "reckoned" "High.reckoned" cU f47)
  (a48:findIn K (.ref c_And) "reckoned" = some (some (.ref f48))) (i48:isFn K (.ref f48) = true)
  (l48:FB K "reckoned" "And.reckoned" dj f48)
  (a49:findIn K (.ref c_Or) "reckoned" = some (some (.ref f49))) (i49:isFn K (.ref f49) = true)
  (l49:FB K "reckoned" "Or.reckoned" d4 f49)
  (a50:findIn K (.ref c_Unlike) "reckoned" = some (some (.ref f50))) (i50:isFn K (.ref f50) = true)
  (l50:FB K "reckoned" "Unlike.reckoned" bZ f50)
  (a51:findIn K (.ref c_Under) "reckoned" = some (some (.ref f51))) (i51:isFn K (.ref f51) = true)
  (l51:FB K "reckoned" "Under.reckoned" cx f51)
  (a52:findIn K (.ref c_Left) "moved" = some (some (.ref f52))) (i52:isFn K (.ref f52) = true)
  (l52:FB K "moved" "Left.moved" fc f52)
  (a53:findIn K (.ref c_Right) "moved" = some (some (.ref f53))) (i53:isFn K (.ref f53) = true)
  (l53:FB K "moved" "Right.moved" dY f53)
  (a54:findIn K (.ref c_Slide) "moved" = some (some (.ref f54))) (i54:isFn K (.ref f54) = true)
  (l54:FB K "moved" "Slide.moved" dJ f54)
  (a55:findIn K (.ref c_Set) "good_at" = some (some (.ref f55))) (i55:isFn K (.ref f55) = true)
  (l55:FB K "good_at" "Set.good_at" dU f55)
  (a56:findIn K (.ref c_Copy) "good_at" = some (some (.ref f56))) (i56:isFn K (.ref f56) = true)
  (l56:FB K "good_at" "Copy.good_at" de f56)
  (a57:findIn K (.ref c_Sum) "good_at" = some (some (.ref f57))) (i57:isFn K (.ref f57) = true) (h_Gap_good_at:findIn K (.ref c_Gap) "good_at" = some (some (.ref f57)))
  (l57:FB K "good_at" "Carrying.good_at" bM f57)
  (a58:findIn K (.ref c_Low) "good_at" = some (some (.ref f58))) (i58:isFn K (.ref f58) = true) (h_High_good_at:findIn K (.ref c_High) "good_at" = some (some (.ref f58))) (h_And_good_at:findIn K (.ref c_And) "good_at" = some (some (.ref f58))) (h_Or_good_at:findIn K (.ref c_Or) "good_at" = some (some (.ref f58))) (h_Unlike_good_at:findIn K (.ref c_Unlike) "good_at" = some (some (.ref f58))) (h_Under_good_at:findIn K (.ref c_Under) "good_at" = some (some (.ref f58)))
  (l58:FB K "good_at" "Joining.good_at" ci f58)
  (a59:findIn K (.ref c_Left) "good_at" = some (some (.ref f59))) (i59:isFn K (.ref f59) = true) (h_Right_good_at:findIn K (.ref c_Right) "good_at" = some (some (.ref f59))) (h_Slide_good_at:findIn K (.ref c_Slide) "good_at" = some (some (.ref f59)))
  (l59:FB K "good_at" "Moving.good_at" cw f59)
  (a60:findIn K (.ref c_Pick) "good_at" = some (some (.ref f60))) (i60:isFn K (.ref f60) = true)
  (l60:FB K "good_at" "Pick.good_at" di f60)
  (a61:findIn K (.ref c_Mark) "good_at" = some (some (.ref f61))) (i61:isFn K (.ref f61) = true)
  (l61:FB K "good_at" "Mark.good_at" dB f61)
  (a62:findIn K (.ref c_Set) "act" = some (some (.ref f62))) (i62:isFn K (.ref f62) = true)
  (l62:FB K "act" "Set.act" iU f62)
  (a63:findIn K (.ref c_Copy) "act" = some (some (.ref f63))) (i63:isFn K (.ref f63) = true)
  (l63:FB K "act" "Copy.act" gU f63)
  (a64:findIn K (.ref c_Sum) "act" = some (some (.ref f64))) (i64:isFn K (.ref f64) = true) (h_Gap_act:findIn K (.ref c_Gap) "act" = some (some (.ref f64)))
  (l64:FB K "act" "Carrying.act" dh f64)
  (a65:findIn K (.ref c_Low) "act" = some (some (.ref f65))) (i65:isFn K (.ref f65) = true) (h_High_act:findIn K (.ref c_High) "act" = some (some (.ref f65))) (h_And_act:findIn K (.ref c_And) "act" = some (some (.ref f65))) (h_Or_act:findIn K (.ref c_Or) "act" = some (some (.ref f65))) (h_Unlike_act:findIn K (.ref c_Unlike) "act" = some (some (.ref f65))) (h_Under_act:findIn K (.ref c_Under) "act" = some (some (.ref f65)))
  (l65:FB K "act" "Joining.act" dI f65)
  (a66:findIn K (.ref c_Left) "act" = some (some (.ref f66))) (i66:isFn K (.ref f66) = true) (h_Right_act:findIn K (.ref c_Right) "act" = some (some (.ref f66))) (h_Slide_act:findIn K (.ref c_Slide) "act" = some (some (.ref f66)))
  (l66:FB K "act" "Moving.act" eF f66)
  (a67:findIn K (.ref c_Pick) "act" = some (some (.ref f67))) (i67:isFn K (.ref f67) = true)
  (l67:FB K "act" "Pick.act" gZ f67)
  (a68:findIn K (.ref c_Mark) "act" = some (some (.ref f68))) (i68:isFn K (.ref f68) = true)
  (l68:FB K "act" "Mark.act" h7 f68)
  (a69:findIn K (.ref c_Turns) "word" = some (some (.ref f69))) (i69:isFn K (.ref f69) = true)
  (l69:FB K "word" "Turns.word" eJ f69)
  (a70:findIn K (.ref c_Turns) "__init__" = some (some (.ref f70))) (i70:isFn K (.ref f70) = true)
  (l70:FB K "__init__" "Turns.__init__" cz f70)
  (a71:findIn K (.ref c_Turns) "good_at" = some (some (.ref f71))) (i71:isFn K (.ref f71) = true)
  (l71:FB K "good_at" "Turns.good_at" cI f71)
  (a72:findIn K (.ref c_Turns) "act" = some (some (.ref f72))) (i72:isFn K (.ref f72) = true)
  (l72:FB K "act" "Turns.act" fG f72)
  (a73:nsIn K mainGlobals "is_good" = some (some (.ref f73)))
  (l73:FB K "is_good" "is_good" jd f73)
  (a74:nsIn K mainGlobals "place_behind" = some (some (.ref f74)))
  (l74:FB K "place_behind" "place_behind" dq f74)
  (a75:nsIn K mainGlobals "count_words" = some (some (.ref f75)))
  (l75:FB K "count_words" "count_words" dL f75)
  (a76:nsIn K mainGlobals "need_steps" = some (some (.ref f76)))
  (l76:FB K "need_steps" "need_steps" eK f76)
  (a77:nsIn K mainGlobals "check_steps" = some (some (.ref f77)))
  (l77:FB K "check_steps" "check_steps" d5 f77)
  (a78:nsIn K mainGlobals "need_registers" = some (some (.ref f78)))
  (l78:FB K "need_registers" "need_registers" cy f78)
  (a79:nsIn K mainGlobals "run_steps" = some (some (.ref f79)))
  (l79:FB K "run_steps" "run_steps" fJ f79)
  (a80:nsIn K mainGlobals "need_prices" = some (some (.ref f80)))
  (l80:FB K "need_prices" "need_prices" dZ f80)
  (a81:nsIn K mainGlobals "cost_of" = some (some (.ref f81)))
  (l81:FB K "cost_of" "cost_of" gE f81)
  (a82:nsIn K mainGlobals "number_in" = some (some (.ref f82)))
  (l82:FB K "number_in" "number_in" gh f82)
  (a83:nsIn K mainGlobals "whole_in" = some (some (.ref f83)))
  (l83:FB K "whole_in" "whole_in" gY f83)
  (a84:nsIn K mainGlobals "number_told" = some (some (.ref f84)))
  (l84:FB K "number_told" "number_told" dS f84)
  (a85:nsIn K mainGlobals "field_text" = some (some (.ref f85)))
  (l85:FB K "field_text" "field_text" eP f85)
  (a86:nsIn K mainGlobals "lines_of" = some (some (.ref f86)))
  (l86:FB K "lines_of" "lines_of" hV f86)
  (a87:nsIn K mainGlobals "steps_text" = some (some (.ref f87)))
  (l87:FB K "steps_text" "steps_text" fg f87)
  (a88:nsIn K mainGlobals "field_told" = some (some (.ref f88)))
  (l88:FB K "field_told" "field_told" eY f88)
  (a89:nsIn K mainGlobals "joining_made" = some (some (.ref f89)))
  (l89:FB K "joining_made" "joining_made" dD f89)
  (a90:nsIn K mainGlobals "row_made" = some (some (.ref f90)))
  (l90:FB K "row_made" "row_made" gQ f90)
  (a91:nsIn K mainGlobals "row_read" = some (some (.ref f91)))
  (l91:FB K "row_read" "row_read" gR f91)
  (a92:findIn K (.ref c_Reading) "__init__" = some (some (.ref f92))) (i92:isFn K (.ref f92) = true)
  (l92:FB K "__init__" "Reading.__init__" bP f92)
  (a93:findIn K (.ref c_Reading) "takes_turns" = some (some (.ref f93))) (i93:isFn K (.ref f93) = true)
  (l93:FB K "takes_turns" "Reading.takes_turns" bu f93)
  (a94:findIn K (.ref c_Reading) "takes_end" = some (some (.ref f94))) (i94:isFn K (.ref f94) = true)
  (l94:FB K "takes_end" "Reading.takes_end" bI f94)
  (a95:findIn K (.ref c_Reading) "takes" = some (some (.ref f95))) (i95:isFn K (.ref f95) = true)
  (l95:FB K "takes" "Reading.takes" cO f95)
  (a96:nsIn K mainGlobals "read_steps" = some (some (.ref f96)))
  (l96:FB K "read_steps" "read_steps" eW f96)
  (a97:nsIn K mainGlobals "_law_cell" = some (some (.ref f97)))
  (l97:FB K "_law_cell" "_law_cell" gk f97)
  (a98:nsIn K mainGlobals "_law_begun" = some (some (.ref f98)))
  (l98:FB K "_law_begun" "_law_begun" eS f98)
  (a99:nsIn K mainGlobals "_law_draw" = some (some (.ref f99)))
  (l99:FB K "_law_draw" "_law_draw" fV f99)
  (a100:nsIn K mainGlobals "_law_whole" = some (some (.ref f100)))
  (l100:FB K "_law_whole" "_law_whole" eR f100)
  (a101:nsIn K mainGlobals "_law_word" = some (some (.ref f101)))
  (l101:FB K "_law_word" "_law_word" fT f101)
  (a102:nsIn K mainGlobals "_law_bit" = some (some (.ref f102)))
  (l102:FB K "_law_bit" "_law_bit" gW f102)
  (a103:nsIn K mainGlobals "_law_divided" = some (some (.ref f103)))
  (l103:FB K "_law_divided" "_law_divided" dr f103)
  (a104:nsIn K mainGlobals "_law_product" = some (some (.ref f104)))
  (l104:FB K "_law_product" "_law_product" dm f104)
  (a105:nsIn K mainGlobals "_law_cost" = some (some (.ref f105)))
  (l105:FB K "_law_cost" "_law_cost" fP f105)
  (a106:nsIn K mainGlobals "_law_counted" = some (some (.ref f106)))
  (l106:FB K "_law_counted" "_law_counted" dv f106)
  (a107:nsIn K mainGlobals "_law_division" = some (some (.ref f107)))
  (l107:FB K "_law_division" "_law_division" cQ f107)
  (a108:nsIn K mainGlobals "_law_multiplied" = some (some (.ref f108)))
  (l108:FB K "_law_multiplied" "_law_multiplied" ce f108)
  (a109:nsIn K mainGlobals "law" = some (some (.ref f109)))
  (l109:K.lookup f109 = some ⟨oc109,od109,.func (fnOf "law" "law" (eX lj) (dW lj) (aj lj) .none kV109 dc109 pm109 an109 cd109 ct109),sl109⟩) (c109:codeIn K cd109 "law" = true) (k109:keepIn K (.ref f109) = true)
  (aC_Set:nsIn K mainGlobals "Set" = some (some (.ref c_Set))) (pg_Set:plainGet K c_Set Str.empty = true) (hd_Set:hasDictIn K c_Set = true) (po_Set:plainOver K c_Set = true) (sa_Set:findIn K (.ref c_Set) "__setattr__" = some (some (.builtin "object.__setattr__")))
  (mk_Set:makesIn K c_Set = true) (kc_Set:keepIn K (.ref c_Set) = true)
  (na_Set_goal:findIn K (.ref c_Set) "goal" = some none)
  (na_Set_bits:findIn K (.ref c_Set) "bits" = some none)
  (aC_Copy:nsIn K mainGlobals "Copy" = some (some (.ref c_Copy))) (pg_Copy:plainGet K c_Copy Str.empty = true) (hd_Copy:hasDictIn K c_Copy = true) (po_Copy:plainOver K c_Copy = true) (sa_Copy:findIn K (.ref c_Copy) "__setattr__" = some (some (.builtin "object.__setattr__")))
  (mk_Copy:makesIn K c_Copy = true) (kc_Copy:keepIn K (.ref c_Copy) = true)
  (na_Copy_goal:findIn K (.ref c_Copy) "goal" = some none)
  (na_Copy_one:findIn K (.ref c_Copy) "one" = some none)
  (aC_Sum:nsIn K mainGlobals "Sum" = some (some (.ref c_Sum))) (pg_Sum:plainGet K c_Sum Str.empty = true) (hd_Sum:hasDictIn K c_Sum = true) (po_Sum:plainOver K c_Sum = true) (sa_Sum:findIn K (.ref c_Sum) "__setattr__" = some (some (.builtin "object.__setattr__")))
  (mk_Sum:makesIn K c_Sum = true) (kc_Sum:keepIn K (.ref c_Sum) = true)
  (na_Sum_goal:findIn K (.ref c_Sum) "goal" = some none)
  (na_Sum_carry:findIn K (.ref c_Sum) "carry" = some none)
  (na_Sum_one:findIn K (.ref c_Sum) "one" = some none)
  (na_Sum_other:findIn K (.ref c_Sum) "other" = some none)
  (aC_Gap:nsIn K mainGlobals "Gap" = some (some (.ref c_Gap))) (pg_Gap:plainGet K c_Gap Str.empty = true) (hd_Gap:hasDictIn K c_Gap = true) (po_Gap:plainOver K c_Gap = true) (sa_Gap:findIn K (.ref c_Gap) "__setattr__" = some (some (.builtin "object.__setattr__")))
  (mk_Gap:makesIn K c_Gap = true) (kc_Gap:keepIn K (.ref c_Gap) = true)
  (na_Gap_goal:findIn K (.ref c_Gap) "goal" = some none)
  (na_Gap_carry:findIn K (.ref c_Gap) "carry" = some none)
  (na_Gap_one:findIn K (.ref c_Gap) "one" = some none)
  (na_Gap_other:findIn K (.ref c_Gap) "other" = some none)
  (aC_Low:nsIn K mainGlobals "Low" = some (some (.ref c_Low))) (pg_Low:plainGet K c_Low Str.empty = true) (hd_Low:hasDictIn K c_Low = true) (po_Low:plainOver K c_Low = true) (sa_Low:findIn K (.ref c_Low) "__setattr__" = some (some (.builtin "object.__setattr__")))
  (mk_Low:makesIn K c_Low = true) (kc_Low:keepIn K (.ref c_Low) = true)
  (na_Low_goal:findIn K (.ref c_Low) "goal" = some none)
  (na_Low_one:findIn K (.ref c_Low) "one" = some none)
  (na_Low_other:findIn K (.ref c_Low) "other" = some none)
  (aC_High:nsIn K mainGlobals "High" = some (some (.ref c_High))) (pg_High:plainGet K c_High Str.empty = true) (hd_High:hasDictIn K c_High = true) (po_High:plainOver K c_High = true) (sa_High:findIn K (.ref c_High) "__setattr__" = some (some (.builtin "object.__setattr__")))
  (mk_High:makesIn K c_High = true) (kc_High:keepIn K (.ref c_High) = true)
  (na_High_goal:findIn K (.ref c_High) "goal" = some none)
  (na_High_one:findIn K (.ref c_High) "one" = some none)
  (na_High_other:findIn K (.ref c_High) "other" = some none)
  (aC_Left:nsIn K mainGlobals "Left" = some (some (.ref c_Left))) (pg_Left:plainGet K c_Left Str.empty = true) (hd_Left:hasDictIn K c_Left = true) (po_Left:plainOver K c_Left = true) (sa_Left:findIn K (.ref c_Left) "__setattr__" = some (some (.builtin "object.__setattr__")))
  (mk_Left:makesIn K c_Left = true) (kc_Left:keepIn K (.ref c_Left) = true)
  (na_Left_goal:findIn K (.ref c_Left) "goal" = some none)
  (na_Left_one:findIn K (.ref c_Left) "one" = some none)
  (na_Left_k:findIn K (.ref c_Left) "k" = some none)
  (aC_Right:nsIn K mainGlobals "Right" = some (some (.ref c_Right))) (pg_Right:plainGet K c_Right Str.empty = true) (hd_Right:hasDictIn K c_Right = true) (po_Right:plainOver K c_Right = true) (sa_Right:findIn K (.ref c_Right) "__setattr__" = some (some (.builtin "object.__setattr__")))
  (mk_Right:makesIn K c_Right = true) (kc_Right:keepIn K (.ref c_Right) = true)
  (na_Right_goal:findIn K (.ref c_Right) "goal" = some none)
  (na_Right_one:findIn K (.ref c_Right) "one" = some none)
  (na_Right_k:findIn K (.ref c_Right) "k" = some none)
  (aC_Slide:nsIn K mainGlobals "Slide" = some (some (.ref c_Slide))) (pg_Slide:plainGet K c_Slide Str.empty = true) (hd_Slide:hasDictIn K c_Slide = true) (po_Slide:plainOver K c_Slide = true) (sa_Slide:findIn K (.ref c_Slide) "__setattr__" = some (some (.builtin "object.__setattr__")))
  (mk_Slide:makesIn K c_Slide = true) (kc_Slide:keepIn K (.ref c_Slide) = true)
  (na_Slide_goal:findIn K (.ref c_Slide) "goal" = some none)
  (na_Slide_one:findIn K (.ref c_Slide) "one" = some none)
  (na_Slide_k:findIn K (.ref c_Slide) "k" = some none)
  (aC_And:nsIn K mainGlobals "And" = some (some (.ref c_And))) (pg_And:plainGet K c_And Str.empty = true) (hd_And:hasDictIn K c_And = true) (po_And:plainOver K c_And = true) (sa_And:findIn K (.ref c_And) "__setattr__" = some (some (.builtin "object.__setattr__")))
  (mk_And:makesIn K c_And = true) (kc_And:keepIn K (.ref c_And) = true)
  (na_And_goal:findIn K (.ref c_And) "goal" = some none)
  (na_And_one:findIn K (.ref c_And) "one" = some none)
  (na_And_other:findIn K (.ref c_And) "other" = some none)
  (aC_Or:nsIn K mainGlobals "Or" = some (some (.ref c_Or))) (pg_Or:plainGet K c_Or Str.empty = true) (hd_Or:hasDictIn K c_Or = true) (po_Or:plainOver K c_Or = true) (sa_Or:findIn K (.ref c_Or) "__setattr__" = some (some (.builtin "object.__setattr__")))
  (mk_Or:makesIn K c_Or = true) (kc_Or:keepIn K (.ref c_Or) = true)
  (na_Or_goal:findIn K (.ref c_Or) "goal" = some none)
  (na_Or_one:findIn K (.ref c_Or) "one" = some none)
  (na_Or_other:findIn K (.ref c_Or) "other" = some none)
  (aC_Unlike:nsIn K mainGlobals "Unlike" = some (some (.ref c_Unlike))) (pg_Unlike:plainGet K c_Unlike Str.empty = true) (hd_Unlike:hasDictIn K c_Unlike = true) (po_Unlike:plainOver K c_Unlike = true) (sa_Unlike:findIn K (.ref c_Unlike) "__setattr__" = some (some (.builtin "object.__setattr__")))
  (mk_Unlike:makesIn K c_Unlike = true) (kc_Unlike:keepIn K (.ref c_Unlike) = true)
  (na_Unlike_goal:findIn K (.ref c_Unlike) "goal" = some none)
  (na_Unlike_one:findIn K (.ref c_Unlike) "one" = some none)
  (na_Unlike_other:findIn K (.ref c_Unlike) "other" = some none)
  (aC_Under:nsIn K mainGlobals "Under" = some (some (.ref c_Under))) (pg_Under:plainGet K c_Under Str.empty = true) (hd_Under:hasDictIn K c_Under = true) (po_Under:plainOver K c_Under = true) (sa_Under:findIn K (.ref c_Under) "__setattr__" = some (some (.builtin "object.__setattr__")))
  (mk_Under:makesIn K c_Under = true) (kc_Under:keepIn K (.ref c_Under) = true)
  (na_Under_goal:findIn K (.ref c_Under) "goal" = some none)
  (na_Under_one:findIn K (.ref c_Under) "one" = some none)
  (na_Under_other:findIn K (.ref c_Under) "other" = some none)
  (aC_Pick:nsIn K mainGlobals "Pick" = some (some (.ref c_Pick))) (pg_Pick:plainGet K c_Pick Str.empty = true) (hd_Pick:hasDictIn K c_Pick = true) (po_Pick:plainOver K c_Pick = true) (sa_Pick:findIn K (.ref c_Pick) "__setattr__" = some (some (.builtin "object.__setattr__")))
  (mk_Pick:makesIn K c_Pick = true) (kc_Pick:keepIn K (.ref c_Pick) = true)
  (na_Pick_goal:findIn K (.ref c_Pick) "goal" = some none)
  (na_Pick_by:findIn K (.ref c_Pick) "by" = some none)
  (na_Pick_one:findIn K (.ref c_Pick) "one" = some none)
  (na_Pick_other:findIn K (.ref c_Pick) "other" = some none)
  (aC_Mark:nsIn K mainGlobals "Mark" = some (some (.ref c_Mark))) (pg_Mark:plainGet K c_Mark Str.empty = true) (hd_Mark:hasDictIn K c_Mark = true) (po_Mark:plainOver K c_Mark = true) (sa_Mark:findIn K (.ref c_Mark) "__setattr__" = some (some (.builtin "object.__setattr__")))
  (mk_Mark:makesIn K c_Mark = true) (kc_Mark:keepIn K (.ref c_Mark) = true)
  (na_Mark_line:findIn K (.ref c_Mark) "line" = some none)
  (na_Mark_mark:findIn K (.ref c_Mark) "mark" = some none)
  (na_Mark_by:findIn K (.ref c_Mark) "by" = some none)
  (aC_Turns:nsIn K mainGlobals "Turns" = some (some (.ref c_Turns))) (pg_Turns:plainGet K c_Turns Str.empty = true) (hd_Turns:hasDictIn K c_Turns = true) (po_Turns:plainOver K c_Turns = true) (sa_Turns:findIn K (.ref c_Turns) "__setattr__" = some (some (.builtin "object.__setattr__")))
  (mk_Turns:makesIn K c_Turns = true) (kc_Turns:keepIn K (.ref c_Turns) = true)
  (na_Turns_times:findIn K (.ref c_Turns) "times" = some none)
  (na_Turns_steps:findIn K (.ref c_Turns) "steps" = some none)
  (aC_Step:nsIn K mainGlobals "Step" = some (some (.ref c_Step))) (pg_Step:plainGet K c_Step Str.empty = true) (hd_Step:hasDictIn K c_Step = true) (po_Step:plainOver K c_Step = true) (sa_Step:findIn K (.ref c_Step) "__setattr__" = some (some (.builtin "object.__setattr__")))
  (aC_Reading:nsIn K mainGlobals "Reading" = some (some (.ref c_Reading))) (pg_Reading:plainGet K c_Reading Str.empty = true) (hd_Reading:hasDictIn K c_Reading = true) (po_Reading:plainOver K c_Reading = true) (sa_Reading:findIn K (.ref c_Reading) "__setattr__" = some (some (.builtin "object.__setattr__")))
  (mk_Reading:makesIn K c_Reading = true) (kc_Reading:keepIn K (.ref c_Reading) = true)
  (na_Reading_lists:findIn K (.ref c_Reading) "lists" = some none)
  (na_Reading_turns:findIn K (.ref c_Reading) "turns" = some none)
  {dW_ROW_WORDS:Option Addr} {nW_ROW_WORDS:Nat} {sW_ROW_WORDS:Array (Option Value)} {u0_ROW_WORDS u1_ROW_WORDS u2_ROW_WORDS u3_ROW_WORDS u4_ROW_WORDS u5_ROW_WORDS u6_ROW_WORDS u7_ROW_WORDS u8_ROW_WORDS u9_ROW_WORDS u10_ROW_WORDS u11_ROW_WORDS u12_ROW_WORDS u13_ROW_WORDS u14_ROW_WORDS u15_ROW_WORDS:Tok} (aW_ROW_WORDS:nsIn K mainGlobals "ROW_WORDS" = some (some (.ref c_ROW_WORDS))) (lW_ROW_WORDS:K.lookup c_ROW_WORDS = some ⟨.type "tuple",dW_ROW_WORDS,.seq #[.str "set" u0_ROW_WORDS,.str "copy" u1_ROW_WORDS,.str "sum" u2_ROW_WORDS,.str "gap" u3_ROW_WORDS,.str "low" u4_ROW_WORDS,.str "high" u5_ROW_WORDS,.str "left" u6_ROW_WORDS,.str "right" u7_ROW_WORDS,.str "slide" u8_ROW_WORDS,.str "and" u9_ROW_WORDS,.str "or" u10_ROW_WORDS,.str "unlike" u11_ROW_WORDS,.str "under" u12_ROW_WORDS,.str "pick" u13_ROW_WORDS,.str "mark" u14_ROW_WORDS,.str "turns" u15_ROW_WORDS] nW_ROW_WORDS,sW_ROW_WORDS⟩)
  {dW_MARKS:Option Addr} {nW_MARKS:Nat} {sW_MARKS:Array (Option Value)} {u0_MARKS u1_MARKS u2_MARKS:Tok} (aW_MARKS:nsIn K mainGlobals "MARKS" = some (some (.ref c_MARKS))) (lW_MARKS:K.lookup c_MARKS = some ⟨.type "tuple",dW_MARKS,.seq #[.str "round" u0_MARKS,.str "stop" u1_MARKS,.str "nothing" u2_MARKS] nW_MARKS,sW_MARKS⟩)
  {eD_SHAPES:Nat} {kD0_SHAPES kD1_SHAPES kD2_SHAPES kD3_SHAPES kD4_SHAPES kD5_SHAPES kD6_SHAPES kD7_SHAPES kD8_SHAPES kD9_SHAPES kD10_SHAPES kD11_SHAPES kD12_SHAPES kD13_SHAPES kD14_SHAPES:Tok} {vD0_SHAPES vD1_SHAPES vD2_SHAPES vD3_SHAPES vD4_SHAPES vD5_SHAPES vD6_SHAPES vD7_SHAPES vD8_SHAPES vD9_SHAPES vD10_SHAPES vD11_SHAPES vD12_SHAPES vD13_SHAPES vD14_SHAPES:Addr} (aW_SHAPES:nsIn K mainGlobals "SHAPES" = some (some (.ref c_SHAPES))) (lW_SHAPES:K.lookup c_SHAPES = some ⟨.type "dict",none,.dict #[⟨PyData.keyHash w.params "set",.str "set" kD0_SHAPES,.ref vD0_SHAPES⟩,⟨PyData.keyHash w.params "copy",.str "copy" kD1_SHAPES,.ref vD1_SHAPES⟩,⟨PyData.keyHash w.params "sum",.str "sum" kD2_SHAPES,.ref vD2_SHAPES⟩,⟨PyData.keyHash w.params "gap",.str "gap" kD3_SHAPES,.ref vD3_SHAPES⟩,⟨PyData.keyHash w.params "low",.str "low" kD4_SHAPES,.ref vD4_SHAPES⟩,⟨PyData.keyHash w.params "high",.str "high" kD5_SHAPES,.ref vD5_SHAPES⟩,⟨PyData.keyHash w.params "left",.str "left" kD6_SHAPES,.ref vD6_SHAPES⟩,⟨PyData.keyHash w.params "right",.str "right" kD7_SHAPES,.ref vD7_SHAPES⟩,⟨PyData.keyHash w.params "slide",.str "slide" kD8_SHAPES,.ref vD8_SHAPES⟩,⟨PyData.keyHash w.params "and",.str "and" kD9_SHAPES,.ref vD9_SHAPES⟩,⟨PyData.keyHash w.params "or",.str "or" kD10_SHAPES,.ref vD10_SHAPES⟩,⟨PyData.keyHash w.params "unlike",.str "unlike" kD11_SHAPES,.ref vD11_SHAPES⟩,⟨PyData.keyHash w.params "under",.str "under" kD12_SHAPES,.ref vD12_SHAPES⟩,⟨PyData.keyHash w.params "pick",.str "pick" kD13_SHAPES,.ref vD13_SHAPES⟩,⟨PyData.keyHash w.params "mark",.str "mark" kD14_SHAPES,.ref vD14_SHAPES⟩] eD_SHAPES,#[]⟩)
  {dD0_SHAPES:Option Addr} {nD0_SHAPES:Nat} {tD0_SHAPES:Array (Option Value)} {uD0_0_SHAPES uD0_1_SHAPES:Tok} (lD0_SHAPES:K.lookup vD0_SHAPES = some ⟨.type "tuple",dD0_SHAPES,.seq #[.str "name" uD0_0_SHAPES,.str "number" uD0_1_SHAPES] nD0_SHAPES,tD0_SHAPES⟩)
  {dD1_SHAPES:Option Addr} {nD1_SHAPES:Nat} {tD1_SHAPES:Array (Option Value)} {uD1_0_SHAPES uD1_1_SHAPES:Tok} (lD1_SHAPES:K.lookup vD1_SHAPES = some ⟨.type "tuple",dD1_SHAPES,.seq #[.str "name" uD1_0_SHAPES,.str "name" uD1_1_SHAPES] nD1_SHAPES,tD1_SHAPES⟩)
  {dD2_SHAPES:Option Addr} {nD2_SHAPES:Nat} {tD2_SHAPES:Array (Option Value)} {uD2_0_SHAPES uD2_1_SHAPES uD2_2_SHAPES uD2_3_SHAPES:Tok} (lD2_SHAPES:K.lookup vD2_SHAPES = some ⟨.type "tuple",dD2_SHAPES,.seq #[.str "name" uD2_0_SHAPES,.str "carry" uD2_1_SHAPES,.str "name" uD2_2_SHAPES,.str "name" uD2_3_SHAPES] nD2_SHAPES,tD2_SHAPES⟩)
  {dD3_SHAPES:Option Addr} {nD3_SHAPES:Nat} {tD3_SHAPES:Array (Option Value)} {uD3_0_SHAPES uD3_1_SHAPES uD3_2_SHAPES uD3_3_SHAPES:Tok} (lD3_SHAPES:K.lookup vD3_SHAPES = some ⟨.type "tuple",dD3_SHAPES,.seq #[.str "name" uD3_0_SHAPES,.str "carry" uD3_1_SHAPES,.str "name" uD3_2_SHAPES,.str "name" uD3_3_SHAPES] nD3_SHAPES,tD3_SHAPES⟩)
  {dD4_SHAPES:Option Addr} {nD4_SHAPES:Nat} {tD4_SHAPES:Array (Option Value)} {uD4_0_SHAPES uD4_1_SHAPES uD4_2_SHAPES:Tok} (lD4_SHAPES:K.lookup vD4_SHAPES = some ⟨.type "tuple",dD4_SHAPES,.seq #[.str "name" uD4_0_SHAPES,.str "name" uD4_1_SHAPES,.str "name" uD4_2_SHAPES] nD4_SHAPES,tD4_SHAPES⟩)
  {dD5_SHAPES:Option Addr} {nD5_SHAPES:Nat} {tD5_SHAPES:Array (Option Value)} {uD5_0_SHAPES uD5_1_SHAPES uD5_2_SHAPES:Tok} (lD5_SHAPES:K.lookup vD5_SHAPES = some ⟨.type "tuple",dD5_SHAPES,.seq #[.str "name" uD5_0_SHAPES,.str "name" uD5_1_SHAPES,.str "name" uD5_2_SHAPES] nD5_SHAPES,tD5_SHAPES⟩)
  {dD6_SHAPES:Option Addr} {nD6_SHAPES:Nat} {tD6_SHAPES:Array (Option Value)} {uD6_0_SHAPES uD6_1_SHAPES uD6_2_SHAPES:Tok} (lD6_SHAPES:K.lookup vD6_SHAPES = some ⟨.type "tuple",dD6_SHAPES,.seq #[.str "name" uD6_0_SHAPES,.str "name" uD6_1_SHAPES,.str "number" uD6_2_SHAPES] nD6_SHAPES,tD6_SHAPES⟩)
  {dD7_SHAPES:Option Addr} {nD7_SHAPES:Nat} {tD7_SHAPES:Array (Option Value)} {uD7_0_SHAPES uD7_1_SHAPES uD7_2_SHAPES:Tok} (lD7_SHAPES:K.lookup vD7_SHAPES = some ⟨.type "tuple",dD7_SHAPES,.seq #[.str "name" uD7_0_SHAPES,.str "name" uD7_1_SHAPES,.str "number" uD7_2_SHAPES] nD7_SHAPES,tD7_SHAPES⟩)
  {dD8_SHAPES:Option Addr} {nD8_SHAPES:Nat} {tD8_SHAPES:Array (Option Value)} {uD8_0_SHAPES uD8_1_SHAPES uD8_2_SHAPES:Tok} (lD8_SHAPES:K.lookup vD8_SHAPES = some ⟨.type "tuple",dD8_SHAPES,.seq #[.str "name" uD8_0_SHAPES,.str "name" uD8_1_SHAPES,.str "number" uD8_2_SHAPES] nD8_SHAPES,tD8_SHAPES⟩)
  {dD9_SHAPES:Option Addr} {nD9_SHAPES:Nat} {tD9_SHAPES:Array (Option Value)} {uD9_0_SHAPES uD9_1_SHAPES uD9_2_SHAPES:Tok} (lD9_SHAPES:K.lookup vD9_SHAPES = some ⟨.type "tuple",dD9_SHAPES,.seq #[.str "name" uD9_0_SHAPES,.str "name" uD9_1_SHAPES,.str "name" uD9_2_SHAPES] nD9_SHAPES,tD9_SHAPES⟩)
  {dD10_SHAPES:Option Addr} {nD10_SHAPES:Nat} {tD10_SHAPES:Array (Option Value)} {uD10_0_SHAPES uD10_1_SHAPES uD10_2_SHAPES:Tok} (lD10_SHAPES:K.lookup vD10_SHAPES = some ⟨.type "tuple",dD10_SHAPES,.seq #[.str "name" uD10_0_SHAPES,.str "name" uD10_1_SHAPES,.str "name" uD10_2_SHAPES] nD10_SHAPES,tD10_SHAPES⟩)
  {dD11_SHAPES:Option Addr} {nD11_SHAPES:Nat} {tD11_SHAPES:Array (Option Value)} {uD11_0_SHAPES uD11_1_SHAPES uD11_2_SHAPES:Tok} (lD11_SHAPES:K.lookup vD11_SHAPES = some ⟨.type "tuple",dD11_SHAPES,.seq #[.str "name" uD11_0_SHAPES,.str "name" uD11_1_SHAPES,.str "name" uD11_2_SHAPES] nD11_SHAPES,tD11_SHAPES⟩)
  {dD12_SHAPES:Option Addr} {nD12_SHAPES:Nat} {tD12_SHAPES:Array (Option Value)} {uD12_0_SHAPES uD12_1_SHAPES uD12_2_SHAPES:Tok} (lD12_SHAPES:K.lookup vD12_SHAPES = some ⟨.type "tuple",dD12_SHAPES,.seq #[.str "name" uD12_0_SHAPES,.str "name" uD12_1_SHAPES,.str "name" uD12_2_SHAPES] nD12_SHAPES,tD12_SHAPES⟩)
  {dD13_SHAPES:Option Addr} {nD13_SHAPES:Nat} {tD13_SHAPES:Array (Option Value)} {uD13_0_SHAPES uD13_1_SHAPES uD13_2_SHAPES uD13_3_SHAPES:Tok} (lD13_SHAPES:K.lookup vD13_SHAPES = some ⟨.type "tuple",dD13_SHAPES,.seq #[.str "name" uD13_0_SHAPES,.str "name" uD13_1_SHAPES,.str "name" uD13_2_SHAPES,.str "name" uD13_3_SHAPES] nD13_SHAPES,tD13_SHAPES⟩)
  {dD14_SHAPES:Option Addr} {nD14_SHAPES:Nat} {tD14_SHAPES:Array (Option Value)} {uD14_0_SHAPES uD14_1_SHAPES uD14_2_SHAPES:Tok} (lD14_SHAPES:K.lookup vD14_SHAPES = some ⟨.type "tuple",dD14_SHAPES,.seq #[.str "number" uD14_0_SHAPES,.str "name" uD14_1_SHAPES,.str "name" uD14_2_SHAPES] nD14_SHAPES,tD14_SHAPES⟩)
  {tS_LETTERS:Tok} (aS_LETTERS:nsIn K mainGlobals "LETTERS" = some (some (.str "abcdefghijklmnopqrstuvwxyz" tS_LETTERS)))
  {tS_LETTERS_AND_FIGURES:Tok} (aS_LETTERS_AND_FIGURES:nsIn K mainGlobals "LETTERS_AND_FIGURES" = some (some (.str "abcdefghijklmnopqrstuvwxyz0123456789" tS_LETTERS_AND_FIGURES)))
  {tN_MOST_DONE:Tok} (aN_MOST_DONE:nsIn K mainGlobals "MOST_DONE" = some (some (.int 1000000 tN_MOST_DONE)))
  {tN_MOST_TURNS:Tok} (aN_MOST_TURNS:nsIn K mainGlobals "MOST_TURNS" = some (some (.int 5 tN_MOST_TURNS)))
  {tN_WIDEST:Tok} (aN_WIDEST:nsIn K mainGlobals "WIDEST" = some (some (.int 32 tN_WIDEST)))
  (kf_og:PySem.W.specialIn K (.builtin "object.__class__") "__get__" = some (some (.builtin "getset_descriptor.__get__")))
  (kf_ot:PySem.W.takesIn K (.builtin "object.__class__") = some true)
  (kf_kr_kinds:fh K [c_Set,c_Copy,c_Sum,c_Gap,c_Low,c_High,c_Left,c_Right,c_Slide,c_And,c_Or,c_Unlike,c_Under,c_Pick,c_Mark,c_Turns] c_Step = true)
  (kf_kr_SHAPES:(c_SHAPES == PySem.sysModules) = false)
  (z_isinstance:nsIn K mainGlobals "isinstance" = some none) (z_int:nsIn K mainGlobals "int" = some none) (z_bool:nsIn K mainGlobals "bool" = some none) (z_str:nsIn K mainGlobals "str" = some none) (z_list:nsIn K mainGlobals "list" = some none) (z_tuple:nsIn K mainGlobals "tuple" = some none) (z_dict:nsIn K mainGlobals "dict" = some none) (z_len:nsIn K mainGlobals "len" = some none) (z_max:nsIn K mainGlobals "max" = some none) (z_min:nsIn K mainGlobals "min" = some none) (z_range:nsIn K mainGlobals "range" = some none) (z_all:nsIn K mainGlobals "all" = some none) (z_sum:nsIn K mainGlobals "sum" = some none) (z_sorted:nsIn K mainGlobals "sorted" = some none) (z_zip:nsIn K mainGlobals "zip" = some none) (z_enumerate:nsIn K mainGlobals "enumerate" = some none) :
  ∃ fd:FuncData,(∀ (s:Shared) (v:Value),BindsTo s fd ⟨[v],[]⟩ [("_law_script",v)])/\∀ base:Heap,K.In base->base.Ns mainGlobals mg->FnOk l.prog w K mg base CX0 17 fa fd ["_law_script"] ((spLaw K)):=by
 have e:=hfa.symm.trans (mg_of X G a109)
 cases e
 let cc:Ad:=⟨c_Set,c_Copy,c_Sum,c_Gap,c_Low,c_High,c_Left,c_Right,c_Slide,c_And,c_Or,c_Unlike,c_Under,c_Pick,c_Mark,c_Turns,c_Step,c_Reading,c_ROW_WORDS,c_MARKS,c_SHAPES⟩
 have T:Txt K mg cc:=⟨mg_none_of X G z_isinstance,mg_none_of X G z_int,mg_none_of X G z_bool,mg_none_of X G z_str,mg_none_of X G z_list,mg_none_of X G z_tuple,mg_none_of X G z_dict,mg_none_of X G z_len,mg_none_of X G z_max,mg_none_of X G z_min,mg_none_of X G z_range,mg_none_of X G z_all,mg_none_of X G z_sum,mg_none_of X G z_sorted,mg_none_of X G z_zip,mg_none_of X G z_enumerate,mg_of X G aC_Set,⟨pg_Set,hd_Set,po_Set,sa_Set⟩,na_Set_goal,na_Set_bits,mg_of X G aC_Copy,⟨pg_Copy,hd_Copy,po_Copy,sa_Copy⟩,na_Copy_goal,na_Copy_one,mg_of X G aC_Sum,⟨pg_Sum,hd_Sum,po_Sum,sa_Sum⟩,na_Sum_goal,na_Sum_carry,na_Sum_one,na_Sum_other,mg_of X G aC_Gap,⟨pg_Gap,hd_Gap,po_Gap,sa_Gap⟩,na_Gap_goal,na_Gap_carry,na_Gap_one,na_Gap_other,mg_of X G aC_Low,⟨pg_Low,hd_Low,po_Low,sa_Low⟩,na_Low_goal,na_Low_one,na_Low_other,mg_of X G aC_High,⟨pg_High,hd_High,po_High,sa_High⟩,na_High_goal,na_High_one,na_High_other,mg_of X G aC_Left,⟨pg_Left,hd_Left,po_Left,sa_Left⟩,na_Left_goal,na_Left_one,na_Left_k,mg_of X G aC_Right,⟨pg_Right,hd_Right,po_Right,sa_Right⟩,na_Right_goal,na_Right_one,na_Right_k,mg_of X G aC_Slide,⟨pg_Slide,hd_Slide,po_Slide,sa_Slide⟩,na_Slide_goal,na_Slide_one,na_Slide_k,mg_of X G aC_And,⟨pg_And,hd_And,po_And,sa_And⟩,na_And_goal,na_And_one,na_And_other,mg_of X G aC_Or,⟨pg_Or,hd_Or,po_Or,sa_Or⟩,na_Or_goal,na_Or_one,na_Or_other,mg_of X G aC_Unlike,⟨pg_Unlike,hd_Unlike,po_Unlike,sa_Unlike⟩,na_Unlike_goal,na_Unlike_one,na_Unlike_other,mg_of X G aC_Under,⟨pg_Under,hd_Under,po_Under,sa_Under⟩,na_Under_goal,na_Under_one,na_Under_other,mg_of X G aC_Pick,⟨pg_Pick,hd_Pick,po_Pick,sa_Pick⟩,na_Pick_goal,na_Pick_by,na_Pick_one,na_Pick_other,mg_of X G aC_Mark,⟨pg_Mark,hd_Mark,po_Mark,sa_Mark⟩,na_Mark_line,na_Mark_mark,na_Mark_by,mg_of X G aC_Turns,⟨pg_Turns,hd_Turns,po_Turns,sa_Turns⟩,na_Turns_times,na_Turns_steps,mg_of X G aC_Step,⟨pg_Step,hd_Step,po_Step,sa_Step⟩,mg_of X G aC_Reading,⟨pg_Reading,hd_Reading,po_Reading,sa_Reading⟩,na_Reading_lists,na_Reading_turns,mg_of X G aW_ROW_WORDS,fun H=>.inr ⟨_,_,_,lW_ROW_WORDS,rfl,rfl,(by show 16<=sizeLine; decide),.cons ⟨_,rfl⟩ (.cons ⟨_,rfl⟩ (.cons ⟨_,rfl⟩ (.cons ⟨_,rfl⟩ (.cons ⟨_,rfl⟩ (.cons ⟨_,rfl⟩ (.cons ⟨_,rfl⟩ (.cons ⟨_,rfl⟩ (.cons ⟨_,rfl⟩ (.cons ⟨_,rfl⟩ (.cons ⟨_,rfl⟩ (.cons ⟨_,rfl⟩ (.cons ⟨_,rfl⟩ (.cons ⟨_,rfl⟩ (.cons ⟨_,rfl⟩ (.cons ⟨_,rfl⟩ (.nil))))))))))))))))⟩,mg_of X G aW_MARKS,fun H=>.inr ⟨_,_,_,lW_MARKS,rfl,rfl,(by show 3<=sizeLine; decide),.cons ⟨_,rfl⟩ (.cons ⟨_,rfl⟩ (.cons ⟨_,rfl⟩ (.nil)))⟩,mg_of X G aW_SHAPES,⟨_,mg_of X G aS_LETTERS⟩,⟨_,mg_of X G aS_LETTERS_AND_FIGURES⟩,⟨_,mg_of X G aN_MOST_DONE⟩,⟨_,mg_of X G aN_MOST_TURNS⟩,⟨_,mg_of X G aN_WIDEST⟩,kf_og,kf_ot,kf_kr_kinds,kf_kr_SHAPES⟩
 obtain ⟨_,F1,k1,b1⟩:=l1.bs ["thing"] fun _ _ _ _ _ _ _=>rfl
 obtain ⟨_,F2,k2,b2⟩:=l2.bs ["thing","low","high"] fun _ _ _ _ _ _ _ _ _=>rfl
 obtain ⟨_,F3,k3,b3⟩:=l3.bs ["width"] fun _ _ _ _ _ _ _=>rfl
 obtain ⟨_,F4,k4,b4⟩:=l4.bs ["width","thing"] fun _ _ _ _ _ _ _ _=>rfl
 obtain ⟨_,F5,k5,b5⟩:=l5.bs ["width","a","b"] fun _ _ _ _ _ _ _ _ _=>rfl
 obtain ⟨_,F6,k6,b6⟩:=l6.bs ["width","a","b"] fun _ _ _ _ _ _ _ _ _=>rfl
 obtain ⟨_,F7,k7,b7⟩:=l7.bs ["width","a","b"] fun _ _ _ _ _ _ _ _ _=>rfl
 obtain ⟨_,F8,k8,b8⟩:=l8.bs ["width","a","b"] fun _ _ _ _ _ _ _ _ _=>rfl
 obtain ⟨_,F9,k9,b9⟩:=l9.bs ["width","a","k"] fun _ _ _ _ _ _ _ _ _=>rfl
 obtain ⟨_,F10,k10,b10⟩:=l10.bs ["width","a","k"] fun _ _ _ _ _ _ _ _ _=>rfl
 obtain ⟨_,F11,k11,b11⟩:=l11.bs ["width","a","k"] fun _ _ _ _ _ _ _ _ _=>rfl
 obtain ⟨_,F12,k12,b12⟩:=l12.bs [] fun _ _ _ _ _ _=>rfl
 obtain ⟨_,F13,k13,b13⟩:=l13.bs ["thing"] fun _ _ _ _ _ _ _=>rfl
 obtain ⟨_,F14,k14,b14⟩:=l14.bs ["things"] fun _ _ _ _ _ _ _=>rfl
 obtain ⟨_,F15,k15,b15⟩:=l15.bs ["self"] fun _ _ _ _ _ _ _=>rfl
 obtain ⟨_,F16,k16,b16⟩:=l16.bs ["self"] fun _ _ _ _ _ _ _=>rfl
 obtain ⟨_,F17,k17,b17⟩:=l17.bs ["self"] fun _ _ _ _ _ _ _=>rfl
 obtain ⟨_,F18,k18,b18⟩:=l18.bs ["self"] fun _ _ _ _ _ _ _=>rfl
 obtain ⟨_,F19,k19,b19⟩:=l19.bs ["self"] fun _ _ _ _ _ _ _=>rfl
 obtain ⟨_,F20,k20,b20⟩:=l20.bs ["self"] fun _ _ _ _ _ _ _=>rfl
 obtain ⟨_,F21,k21,b21⟩:=l21.bs ["self"] fun _ _ _ _ _ _ _=>rfl
 obtain ⟨_,F22,k22,b22⟩:=l22.bs ["self"] fun _ _ _ _ _ _ _=>rfl
 obtain ⟨_,F23,k23,b23⟩:=l23.bs ["self"] fun _ _ _ _ _ _ _=>rfl
 obtain ⟨_,F24,k24,b24⟩:=l24.bs ["self"] fun _ _ _ _ _ _ _=>rfl
 obtain ⟨_,F25,k25,b25⟩:=l25.bs ["self"] fun _ _ _ _ _ _ _=>rfl
 obtain ⟨_,F26,k26,b26⟩:=l26.bs ["self"] fun _ _ _ _ _ _ _=>rfl
 obtain ⟨_,F27,k27,b27⟩:=l27.bs ["self"] fun _ _ _ _ _ _ _=>rfl
 obtain ⟨_,F28,k28,b28⟩:=l28.bs ["self"] fun _ _ _ _ _ _ _=>rfl
 obtain ⟨_,F29,k29,b29⟩:=l29.bs ["self"] fun _ _ _ _ _ _ _=>rfl
 obtain ⟨_,F30,k30,b30⟩:=l30.bs ["self","goal","bits"] fun _ _ _ _ _ _ _ _ _=>rfl
 obtain ⟨_,F31,k31,b31⟩:=l31.bs ["self","goal","one"] fun _ _ _ _ _ _ _ _ _=>rfl
 obtain ⟨_,F32,k32,b32⟩:=l32.bs ["self","goal","carry","one","other"] fun _ _ _ _ _ _ _ _ _ _ _=>rfl
 obtain ⟨_,F33,k33,b33⟩:=l33.bs ["self","goal","one","other"] fun _ _ _ _ _ _ _ _ _ _=>rfl
 obtain ⟨_,F34,k34,b34⟩:=l34.bs ["self","goal","one","k"] fun _ _ _ _ _ _ _ _ _ _=>rfl
 obtain ⟨_,F35,k35,b35⟩:=l35.bs ["self","goal","by","one","other"] fun _ _ _ _ _ _ _ _ _ _ _=>rfl
 obtain ⟨_,F36,k36,b36⟩:=l36.bs ["self","line","mark","by"] fun _ _ _ _ _ _ _ _ _ _=>rfl
 obtain ⟨_,F37,k37,b37⟩:=l37.bs ["self"] fun _ _ _ _ _ _ _=>rfl
 obtain ⟨_,F38,k38,b38⟩:=l38.bs ["self"] fun _ _ _ _ _ _ _=>rfl
 obtain ⟨_,F39,k39,b39⟩:=l39.bs ["self"] fun _ _ _ _ _ _ _=>rfl
 obtain ⟨_,F40,k40,b40⟩:=l40.bs ["self"] fun _ _ _ _ _ _ _=>rfl
 obtain ⟨_,F41,k41,b41⟩:=l41.bs ["self"] fun _ _ _ _ _ _ _=>rfl
 obtain ⟨_,F42,k42,b42⟩:=l42.bs ["self"] fun _ _ _ _ _ _ _=>rfl
 obtain ⟨_,F43,k43,b43⟩:=l43.bs ["self"] fun _ _ _ _ _ _ _=>rfl
 obtain ⟨_,F44,k44,b44⟩:=l44.bs ["self","width","a","b"] fun _ _ _ _ _ _ _ _ _ _=>rfl
 obtain ⟨_,F45,k45,b45⟩:=l45.bs ["self","width","a","b"] fun _ _ _ _ _ _ _ _ _ _=>rfl
 obtain ⟨_,F46,k46,b46⟩:=l46.bs ["self","width","a","b"] fun _ _ _ _ _ _ _ _ _ _=>rfl
 obtain ⟨_,F47,k47,b47⟩:=l47.bs ["self","width","a","b"] fun _ _ _ _ _ _ _ _ _ _=>rfl
 obtain ⟨_,F48,k48,b48⟩:=l48.bs ["self","width","a","b"] fun _ _ _ _ _ _ _ _ _ _=>rfl
 obtain ⟨_,F49,k49,b49⟩:=l49.bs ["self","width","a","b"] fun _ _ _ _ _ _ _ _ _ _=>rfl
 obtain ⟨_,F50,k50,b50⟩:=l50.bs ["self","width","a","b"] fun _ _ _ _ _ _ _ _ _ _=>rfl
 obtain ⟨_,F51,k51,b51⟩:=l51.bs ["self","width","a","b"] fun _ _ _ _ _ _ _ _ _ _=>rfl
 obtain ⟨_,F52,k52,b52⟩:=l52.bs ["self","width","a"] fun _ _ _ _ _ _ _ _ _=>rfl
 obtain ⟨_,F53,k53,b53⟩:=l53.bs ["self","width","a"] fun _ _ _ _ _ _ _ _ _=>rfl
 obtain ⟨_,F54,k54,b54⟩:=l54.bs ["self","width","a"] fun _ _ _ _ _ _ _ _ _=>rfl
 obtain ⟨_,F55,k55,b55⟩:=l55.bs ["self","width"] fun _ _ _ _ _ _ _ _=>rfl
 obtain ⟨_,F56,k56,b56⟩:=l56.bs ["self","width"] fun _ _ _ _ _ _ _ _=>rfl
 obtain ⟨_,F57,k57,b57⟩:=l57.bs ["self","width"] fun _ _ _ _ _ _ _ _=>rfl
 obtain ⟨_,F58,k58,b58⟩:=l58.bs ["self","width"] fun _ _ _ _ _ _ _ _=>rfl
 obtain ⟨_,F59,k59,b59⟩:=l59.bs ["self","width"] fun _ _ _ _ _ _ _ _=>rfl
 obtain ⟨_,F60,k60,b60⟩:=l60.bs ["self","width"] fun _ _ _ _ _ _ _ _=>rfl
 obtain ⟨_,F61,k61,b61⟩:=l61.bs ["self","width"] fun _ _ _ _ _ _ _ _=>rfl
 obtain ⟨_,F62,k62,b62⟩:=l62.bs ["self","width","words","marks"] fun _ _ _ _ _ _ _ _ _ _=>rfl
 obtain ⟨_,F63,k63,b63⟩:=l63.bs ["self","width","words","marks"] fun _ _ _ _ _ _ _ _ _ _=>rfl
 obtain ⟨_,F64,k64,b64⟩:=l64.bs ["self","width","words","marks"] fun _ _ _ _ _ _ _ _ _ _=>rfl
 obtain ⟨_,F65,k65,b65⟩:=l65.bs ["self","width","words","marks"] fun _ _ _ _ _ _ _ _ _ _=>rfl
 obtain ⟨_,F66,k66,b66⟩:=l66.bs ["self","width","words","marks"] fun _ _ _ _ _ _ _ _ _ _=>rfl
 obtain ⟨_,F67,k67,b67⟩:=l67.bs ["self","width","words","marks"] fun _ _ _ _ _ _ _ _ _ _=>rfl
 obtain ⟨_,F68,k68,b68⟩:=l68.bs ["self","width","words","marks"] fun _ _ _ _ _ _ _ _ _ _=>rfl
 obtain ⟨_,F69,k69,b69⟩:=l69.bs ["self"] fun _ _ _ _ _ _ _=>rfl
 obtain ⟨_,F70,k70,b70⟩:=l70.bs ["self","times","steps"] fun _ _ _ _ _ _ _ _ _=>rfl
 obtain ⟨_,F71,k71,b71⟩:=l71.bs ["self","width"] fun _ _ _ _ _ _ _ _=>rfl
 obtain ⟨_,F72,k72,b72⟩:=l72.bs ["self","width","words","marks"] fun _ _ _ _ _ _ _ _ _ _=>rfl
 obtain ⟨_,F73,k73,b73⟩:=l73.bs ["width","thing","about"] fun _ _ _ _ _ _ _ _ _=>rfl
 obtain ⟨_,F74,k74,b74⟩:=l74.bs ["width","steps","place","about"] fun _ _ _ _ _ _ _ _ _ _=>rfl
 obtain ⟨_,F75,k75,b75⟩:=l75.bs ["steps","times","counts"] fun _ _ _ _ _ _ _ _ _=>rfl
 obtain ⟨_,F76,k76,b76⟩:=l76.bs ["width","steps"] fun _ _ _ _ _ _ _ _=>rfl
 obtain ⟨_,F77,k77,b77⟩:=l77.bs ["width","steps"] fun _ _ _ _ _ _ _ _=>rfl
 obtain ⟨_,F78,k78,b78⟩:=l78.bs ["width","registers"] fun _ _ _ _ _ _ _ _=>rfl
 obtain ⟨_,F79,k79,b79⟩:=l79.bs ["width","steps","registers"] fun _ _ _ _ _ _ _ _ _=>rfl
 obtain ⟨_,F80,k80,b80⟩:=l80.bs ["prices"] fun _ _ _ _ _ _ _=>rfl
 obtain ⟨_,F81,k81,b81⟩:=l81.bs ["width","steps","prices"] fun _ _ _ _ _ _ _ _ _=>rfl
 obtain ⟨_,F82,k82,b82⟩:=l82.bs ["figures"] fun _ _ _ _ _ _ _=>rfl
 obtain ⟨_,F83,k83,b83⟩:=l83.bs ["word","most"] fun _ _ _ _ _ _ _ _=>rfl
 obtain ⟨_,F84,k84,b84⟩:=l84.bs ["word","low","high"] fun _ _ _ _ _ _ _ _ _=>rfl
 obtain ⟨_,F85,k85,b85⟩:=l85.bs ["field"] fun _ _ _ _ _ _ _=>rfl
 obtain ⟨_,F86,k86,b86⟩:=l86.bs ["steps"] fun _ _ _ _ _ _ _=>rfl
 obtain ⟨_,F87,k87,b87⟩:=l87.bs ["steps"] fun _ _ _ _ _ _ _=>rfl
 obtain ⟨_,F88,k88,b88⟩:=l88.bs ["part","word"] fun _ _ _ _ _ _ _ _=>rfl
 obtain ⟨_,F89,k89,b89⟩:=l89.bs ["word","goal","one","other"] fun _ _ _ _ _ _ _ _ _ _=>rfl
 obtain ⟨_,F90,k90,b90⟩:=l90.bs ["word","fields"] fun _ _ _ _ _ _ _ _=>rfl
 obtain ⟨_,F91,k91,b91⟩:=l91.bs ["words"] fun _ _ _ _ _ _ _=>rfl
 obtain ⟨_,F92,k92,b92⟩:=l92.bs ["self"] fun _ _ _ _ _ _ _=>rfl
 obtain ⟨_,F93,k93,b93⟩:=l93.bs ["self","words"] fun _ _ _ _ _ _ _ _=>rfl
 obtain ⟨_,F94,k94,b94⟩:=l94.bs ["self"] fun _ _ _ _ _ _ _=>rfl
 obtain ⟨_,F95,k95,b95⟩:=l95.bs ["self","words"] fun _ _ _ _ _ _ _ _=>rfl
 obtain ⟨_,F96,k96,b96⟩:=l96.bs ["text"] fun _ _ _ _ _ _ _=>rfl
 obtain ⟨_,F97,k97,b97⟩:=l97.bs ["_law_script","_law_k"] fun _ _ _ _ _ _ _ _=>rfl
 obtain ⟨_,F98,k98,b98⟩:=l98.bs ["_law_cell_here"] fun _ _ _ _ _ _ _=>rfl
 obtain ⟨_,F99,k99,b99⟩:=l99.bs ["_law_state","_law_many"] fun _ _ _ _ _ _ _ _=>rfl
 obtain ⟨_,F100,k100,b100⟩:=l100.bs ["_law_found"] fun _ _ _ _ _ _ _=>rfl
 obtain ⟨_,F101,k101,b101⟩:=l101.bs ["_law_state","_law_width"] fun _ _ _ _ _ _ _ _=>rfl
 obtain ⟨_,F102,k102,b102⟩:=l102.bs ["_law_width","_law_n"] fun _ _ _ _ _ _ _ _=>rfl
 obtain ⟨_,F103,k103,b103⟩:=l103.bs ["_law_width","_law_n"] fun _ _ _ _ _ _ _ _=>rfl
 obtain ⟨_,F104,k104,b104⟩:=l104.bs ["_law_n"] fun _ _ _ _ _ _ _=>rfl
 obtain ⟨_,F105,k105,b105⟩:=l105.bs ["_law_counts"] fun _ _ _ _ _ _ _=>rfl
 obtain ⟨_,F106,k106,b106⟩:=l106.bs ["_law_width","_law_steps","_law_counts","_law_due"] fun _ _ _ _ _ _ _ _ _ _=>rfl
 obtain ⟨_,F107,k107,b107⟩:=l107.bs ["_law_state","_law_width","_law_n"] fun _ _ _ _ _ _ _ _ _=>rfl
 obtain ⟨_,F108,k108,b108⟩:=l108.bs ["_law_state","_law_width","_law_n"] fun _ _ _ _ _ _ _ _ _=>rfl
 have F109:=fun_mk (st:=lj) l109 c109 k109
 refine ⟨fnOf "law" "law" (eX lj) (dW lj) (aj lj) .none kV109 dc109 pm109 an109 cd109 ct109,fun s v=>.of_eq rfl,fun base _ _=>?_⟩
 have M_Set_word:MHas l.prog w K mg base 1 c_Set "word" ["self"] (d9 "set"):=⟨T.cl_Set,_,_,⟨a15,i15,k15⟩,oF F15 T ,b15⟩
 have M_Copy_word:MHas l.prog w K mg base 1 c_Copy "word" ["self"] (d9 "copy"):=⟨T.cl_Copy,_,_,⟨a16,i16,k16⟩,me F16 T ,b16⟩
 have M_Sum_word:MHas l.prog w K mg base 1 c_Sum "word" ["self"] (d9 "sum"):=⟨T.cl_Sum,_,_,⟨a17,i17,k17⟩,ow F17 T ,b17⟩
 have M_Gap_word:MHas l.prog w K mg base 1 c_Gap "word" ["self"] (d9 "gap"):=⟨T.cl_Gap,_,_,⟨a18,i18,k18⟩,oq F18 T ,b18⟩
 have M_Low_word:MHas l.prog w K mg base 1 c_Low "word" ["self"] (d9 "low"):=⟨T.cl_Low,_,_,⟨a19,i19,k19⟩,n8 F19 T ,b19⟩
 have M_High_word:MHas l.prog w K mg base 1 c_High "word" ["self"] (d9 "high"):=⟨T.cl_High,_,_,⟨a20,i20,k20⟩,mH F20 T ,b20⟩
 have M_Left_word:MHas l.prog w K mg base 1 c_Left "word" ["self"] (d9 "left"):=⟨T.cl_Left,_,_,⟨a21,i21,k21⟩,mR F21 T ,b21⟩
 have M_Right_word:MHas l.prog w K mg base 1 c_Right "word" ["self"] (d9 "right"):=⟨T.cl_Right,_,_,⟨a22,i22,k22⟩,kZ F22 T ,b22⟩
 have M_Slide_word:MHas l.prog w K mg base 1 c_Slide "word" ["self"] (d9 "slide"):=⟨T.cl_Slide,_,_,⟨a23,i23,k23⟩,lE F23 T ,b23⟩
 have M_And_word:MHas l.prog w K mg base 1 c_And "word" ["self"] (d9 "and"):=⟨T.cl_And,_,_,⟨a24,i24,k24⟩,nY F24 T ,b24⟩
 have M_Or_word:MHas l.prog w K mg base 1 c_Or "word" ["self"] (d9 "or"):=⟨T.cl_Or,_,_,⟨a25,i25,k25⟩,p6 F25 T ,b25⟩
 have M_Unlike_word:MHas l.prog w K mg base 1 c_Unlike "word" ["self"] (d9 "unlike"):=⟨T.cl_Unlike,_,_,⟨a26,i26,k26⟩,jX F26 T ,b26⟩
 have M_Under_word:MHas l.prog w K mg base 1 c_Under "word" ["self"] (d9 "under"):=⟨T.cl_Under,_,_,⟨a27,i27,k27⟩,lB F27 T ,b27⟩
 have M_Pick_word:MHas l.prog w K mg base 1 c_Pick "word" ["self"] (d9 "pick"):=⟨T.cl_Pick,_,_,⟨a28,i28,k28⟩,mW F28 T ,b28⟩
 have M_Mark_word:MHas l.prog w K mg base 1 c_Mark "word" ["self"] (d9 "mark"):=⟨T.cl_Mark,_,_,⟨a29,i29,k29⟩,mm F29 T ,b29⟩
 have C_Set:CHas l.prog w K mg base 1 c_Set "Set" ["self","goal","bits"] (aI K ["goal","bits"]):=⟨_,_,⟨mk_Set,a30,i30,kc_Set⟩,iV F30 T ,b30,mg_of X G aC_Set⟩
 have C_Copy:CHas l.prog w K mg base 1 c_Copy "Copy" ["self","goal","one"] (aI K ["goal","one"]):=⟨_,_,⟨mk_Copy,a31,i31,kc_Copy⟩,ii F31 T ,b31,mg_of X G aC_Copy⟩
 have C_Sum:CHas l.prog w K mg base 1 c_Sum "Sum" ["self","goal","carry","one","other"] (aI K ["goal","carry","one","other"]):=⟨_,_,⟨mk_Sum,a32,i32,kc_Sum⟩,cB F32 T ,b32,mg_of X G aC_Sum⟩
 have C_Gap:CHas l.prog w K mg base 1 c_Gap "Gap" ["self","goal","carry","one","other"] (aI K ["goal","carry","one","other"]):=⟨_,_,⟨mk_Gap,h_Gap___init__,i32,kc_Gap⟩,cB F32 T ,b32,mg_of X G aC_Gap⟩
 have C_Low:CHas l.prog w K mg base 1 c_Low "Low" ["self","goal","one","other"] (aI K ["goal","one","other"]):=⟨_,_,⟨mk_Low,a33,i33,kc_Low⟩,aP F33 T ,b33,mg_of X G aC_Low⟩
 have C_High:CHas l.prog w K mg base 1 c_High "High" ["self","goal","one","other"] (aI K ["goal","one","other"]):=⟨_,_,⟨mk_High,h_High___init__,i33,kc_High⟩,aP F33 T ,b33,mg_of X G aC_High⟩
 have C_And:CHas l.prog w K mg base 1 c_And "And" ["self","goal","one","other"] (aI K ["goal","one","other"]):=⟨_,_,⟨mk_And,h_And___init__,i33,kc_And⟩,aP F33 T ,b33,mg_of X G aC_And⟩
 have C_Or:CHas l.prog w K mg base 1 c_Or "Or" ["self","goal","one","other"] (aI K ["goal","one","other"]):=⟨_,_,⟨mk_Or,h_Or___init__,i33,kc_Or⟩,aP F33 T ,b33,mg_of X G aC_Or⟩
 have C_Unlike:CHas l.prog w K mg base 1 c_Unlike "Unlike" ["self","goal","one","other"] (aI K ["goal","one","other"]):=⟨_,_,⟨mk_Unlike,h_Unlike___init__,i33,kc_Unlike⟩,aP F33 T ,b33,mg_of X G aC_Unlike⟩
 have C_Under:CHas l.prog w K mg base 1 c_Under "Under" ["self","goal","one","other"] (aI K ["goal","one","other"]):=⟨_,_,⟨mk_Under,h_Under___init__,i33,kc_Under⟩,aP F33 T ,b33,mg_of X G aC_Under⟩
 have C_Left:CHas l.prog w K mg base 1 c_Left "Left" ["self","goal","one","k"] (aI K ["goal","one","k"]):=⟨_,_,⟨mk_Left,a34,i34,kc_Left⟩,bN F34 T ,b34,mg_of X G aC_Left⟩
 have C_Right:CHas l.prog w K mg base 1 c_Right "Right" ["self","goal","one","k"] (aI K ["goal","one","k"]):=⟨_,_,⟨mk_Right,h_Right___init__,i34,kc_Right⟩,bN F34 T ,b34,mg_of X G aC_Right⟩
 have C_Slide:CHas l.prog w K mg base 1 c_Slide "Slide" ["self","goal","one","k"] (aI K ["goal","one","k"]):=⟨_,_,⟨mk_Slide,h_Slide___init__,i34,kc_Slide⟩,bN F34 T ,b34,mg_of X G aC_Slide⟩
 have C_Pick:CHas l.prog w K mg base 1 c_Pick "Pick" ["self","goal","by","one","other"] (aI K ["goal","by","one","other"]):=⟨_,_,⟨mk_Pick,a35,i35,kc_Pick⟩,ir F35 T ,b35,mg_of X G aC_Pick⟩
 have C_Mark:CHas l.prog w K mg base 1 c_Mark "Mark" ["self","line","mark","by"] (aI K ["line","mark","by"]):=⟨_,_,⟨mk_Mark,a36,i36,kc_Mark⟩,im F36 T ,b36,mg_of X G aC_Mark⟩
 have M_Set_told:MHas l.prog w K mg base 1 c_Set "told" ["self"] (bj cc [0]):=⟨T.cl_Set,_,_,⟨a37,i37,k37⟩,nq F37 T ,b37⟩
 have M_Copy_told:MHas l.prog w K mg base 1 c_Copy "told" ["self"] (bj cc [1]):=⟨T.cl_Copy,_,_,⟨a38,i38,k38⟩,mV F38 T ,b38⟩
 have M_Gap_told:MHas l.prog w K mg base 2 c_Gap "told" ["self"] (bj cc [2,3]):=⟨T.cl_Gap,_,_,⟨h_Gap_told,i39,k39⟩,ee F39 T  (fun i hi=>by simp only [List.mem_cons,List.not_mem_nil,or_false] at hi; rcases hi with rfl | rfl <;> first | exact M_Sum_word | exact M_Gap_word),b39⟩
 have M_Carrying_told:MHas l.prog w K mg base 2 c_Sum "told" ["self"] (bj cc [2,3]):=⟨T.cl_Sum,_,_,⟨a39,i39,k39⟩,ee F39 T  (fun i hi=>by simp only [List.mem_cons,List.not_mem_nil,or_false] at hi; rcases hi with rfl | rfl <;> first | exact M_Sum_word | exact M_Gap_word),b39⟩
 have M_High_told:MHas l.prog w K mg base 2 c_High "told" ["self"] (bj cc [4,5,9,10,11,12]):=⟨T.cl_High,_,_,⟨h_High_told,i40,k40⟩,bi F40 T  (fun i hi=>by simp only [List.mem_cons,List.not_mem_nil,or_false] at hi; rcases hi with rfl | rfl | rfl | rfl | rfl | rfl <;> first | exact M_Low_word | exact M_High_word | exact M_And_word | exact M_Or_word | exact M_Unlike_word | exact M_Under_word),b40⟩
 have M_And_told:MHas l.prog w K mg base 2 c_And "told" ["self"] (bj cc [4,5,9,10,11,12]):=⟨T.cl_And,_,_,⟨h_And_told,i40,k40⟩,bi F40 T  (fun i hi=>by simp only [List.mem_cons,List.not_mem_nil,or_false] at hi; rcases hi with rfl | rfl | rfl | rfl | rfl | rfl <;> first | exact M_Low_word | exact M_High_word | exact M_And_word | exact M_Or_word | exact M_Unlike_word | exact M_Under_word),b40⟩
 have M_Or_told:MHas l.prog w K mg base 2 c_Or "told" ["self"] (bj cc [4,5,9,10,11,12]):=⟨T.cl_Or,_,_,⟨h_Or_told,i40,k40⟩,bi F40 T  (fun i hi=>by simp only [List.mem_cons,List.not_mem_nil,or_false] at hi; rcases hi with rfl | rfl | rfl | rfl | rfl | rfl <;> first | exact M_Low_word | exact M_High_word | exact M_And_word | exact M_Or_word | exact M_Unlike_word | exact M_Under_word),b40⟩
 have M_Unlike_told:MHas l.prog w K mg base 2 c_Unlike "told" ["self"] (bj cc [4,5,9,10,11,12]):=⟨T.cl_Unlike,_,_,⟨h_Unlike_told,i40,k40⟩,bi F40 T  (fun i hi=>by simp only [List.mem_cons,List.not_mem_nil,or_false] at hi; rcases hi with rfl | rfl | rfl | rfl | rfl | rfl <;> first | exact M_Low_word | exact M_High_word | exact M_And_word | exact M_Or_word | exact M_Unlike_word | exact M_Under_word),b40⟩
 have M_Under_told:MHas l.prog w K mg base 2 c_Under "told" ["self"] (bj cc [4,5,9,10,11,12]):=⟨T.cl_Under,_,_,⟨h_Under_told,i40,k40⟩,bi F40 T  (fun i hi=>by simp only [List.mem_cons,List.not_mem_nil,or_false] at hi; rcases hi with rfl | rfl | rfl | rfl | rfl | rfl <;> first | exact M_Low_word | exact M_High_word | exact M_And_word | exact M_Or_word | exact M_Unlike_word | exact M_Under_word),b40⟩
 have M_Joining_told:MHas l.prog w K mg base 2 c_Low "told" ["self"] (bj cc [4,5,9,10,11,12]):=⟨T.cl_Low,_,_,⟨a40,i40,k40⟩,bi F40 T  (fun i hi=>by simp only [List.mem_cons,List.not_mem_nil,or_false] at hi; rcases hi with rfl | rfl | rfl | rfl | rfl | rfl <;> first | exact M_Low_word | exact M_High_word | exact M_And_word | exact M_Or_word | exact M_Unlike_word | exact M_Under_word),b40⟩
 have M_Right_told:MHas l.prog w K mg base 2 c_Right "told" ["self"] (bj cc [6,7,8]):=⟨T.cl_Right,_,_,⟨h_Right_told,i41,k41⟩,dn F41 T  (fun i hi=>by simp only [List.mem_cons,List.not_mem_nil,or_false] at hi; rcases hi with rfl | rfl | rfl <;> first | exact M_Left_word | exact M_Right_word | exact M_Slide_word),b41⟩
 have M_Slide_told:MHas l.prog w K mg base 2 c_Slide "told" ["self"] (bj cc [6,7,8]):=⟨T.cl_Slide,_,_,⟨h_Slide_told,i41,k41⟩,dn F41 T  (fun i hi=>by simp only [List.mem_cons,List.not_mem_nil,or_false] at hi; rcases hi with rfl | rfl | rfl <;> first | exact M_Left_word | exact M_Right_word | exact M_Slide_word),b41⟩
 have M_Moving_told:MHas l.prog w K mg base 2 c_Left "told" ["self"] (bj cc [6,7,8]):=⟨T.cl_Left,_,_,⟨a41,i41,k41⟩,dn F41 T  (fun i hi=>by simp only [List.mem_cons,List.not_mem_nil,or_false] at hi; rcases hi with rfl | rfl | rfl <;> first | exact M_Left_word | exact M_Right_word | exact M_Slide_word),b41⟩
 have M_Pick_told:MHas l.prog w K mg base 1 c_Pick "told" ["self"] (bj cc [13]):=⟨T.cl_Pick,_,_,⟨a42,i42,k42⟩,lV F42 T ,b42⟩
 have M_Mark_told:MHas l.prog w K mg base 1 c_Mark "told" ["self"] (bj cc [14]):=⟨T.cl_Mark,_,_,⟨a43,i43,k43⟩,lT F43 T ,b43⟩
 have H_is_whole:Has l.prog w K mg base 1 "is_whole" ["thing"] fD:=⟨_,_,nG F1 T ,b1,k1,mg_of X G a1⟩
 have H_is_between:Has l.prog w K mg base 2 "is_between" ["thing","low","high"] cr:=⟨_,_,kE F2 T H_is_whole,b2,k2,mg_of X G a2⟩
 have H_need_width:Has l.prog w K mg base 3 "need_width" ["width"] df:=⟨_,_,kP F3 T H_is_between,b3,k3,mg_of X G a3⟩
 have H_sum_of:Has l.prog w K mg base 4 "sum_of" ["width","a","b"] spSum:=⟨_,_,qV F5 T H_need_width,b5,k5,mg_of X G a5⟩
 have M_Sum_reckoned:MHas l.prog w K mg base 5 c_Sum "reckoned" ["self","width","a","b"] (rO 2):=⟨T.cl_Sum,_,_,⟨a44,i44,k44⟩,ji F44 T H_sum_of,b44⟩
 have H_gap_of:Has l.prog w K mg base 4 "gap_of" ["width","a","b"] spGap:=⟨_,_,qL F6 T H_need_width,b6,k6,mg_of X G a6⟩
 have M_Gap_reckoned:MHas l.prog w K mg base 5 c_Gap "reckoned" ["self","width","a","b"] (rO 3):=⟨T.cl_Gap,_,_,⟨a45,i45,k45⟩,jz F45 T H_gap_of,b45⟩
 have H_low_product:Has l.prog w K mg base 4 "low_product" ["width","a","b"] spLow:=⟨_,_,jI F7 T H_need_width,b7,k7,mg_of X G a7⟩
 have M_Low_reckoned:MHas l.prog w K mg base 5 c_Low "reckoned" ["self","width","a","b"] (qw 4):=⟨T.cl_Low,_,_,⟨a46,i46,k46⟩,jh F46 T H_low_product,b46⟩
 have H_high_product:Has l.prog w K mg base 4 "high_product" ["width","a","b"] tz:=⟨_,_,jA F8 T H_need_width,b8,k8,mg_of X G a8⟩
 have M_High_reckoned:MHas l.prog w K mg base 5 c_High "reckoned" ["self","width","a","b"] (qw 5):=⟨T.cl_High,_,_,⟨a47,i47,k47⟩,ic F47 T H_high_product,b47⟩
 have M_And_reckoned:MHas l.prog w K mg base 1 c_And "reckoned" ["self","width","a","b"] (qw 9):=⟨T.cl_And,_,_,⟨a48,i48,k48⟩,ja F48 T ,b48⟩
 have M_Or_reckoned:MHas l.prog w K mg base 1 c_Or "reckoned" ["self","width","a","b"] (qw 10):=⟨T.cl_Or,_,_,⟨a49,i49,k49⟩,jQ F49 T ,b49⟩
 have M_Unlike_reckoned:MHas l.prog w K mg base 1 c_Unlike "reckoned" ["self","width","a","b"] (qw 11):=⟨T.cl_Unlike,_,_,⟨a50,i50,k50⟩,gu F50 T ,b50⟩
 have M_Under_reckoned:MHas l.prog w K mg base 1 c_Under "reckoned" ["self","width","a","b"] (qw 12):=⟨T.cl_Under,_,_,⟨a51,i51,k51⟩,g9 F51 T ,b51⟩
 have H_left:Has l.prog w K mg base 4 "left" ["width","a","k"] qY:=⟨_,_,ok_left F9 T H_need_width,b9,k9,mg_of X G a9⟩
 have M_Left_moved:MHas l.prog w K mg base 5 c_Left "moved" ["self","width","a"] (spMv cc 6):=⟨T.cl_Left,_,_,⟨a52,i52,k52⟩,lx F52 T H_left,b52⟩
 have H_right:Has l.prog w K mg base 4 "right" ["width","a","k"] nr:=⟨_,_,ok_right F10 T H_need_width,b10,k10,mg_of X G a10⟩
 have M_Right_moved:MHas l.prog w K mg base 5 c_Right "moved" ["self","width","a"] (spMv cc 7):=⟨T.cl_Right,_,_,⟨a53,i53,k53⟩,jJ F53 T H_right,b53⟩
 have H_slide:Has l.prog w K mg base 4 "slide" ["width","a","k"] nE:=⟨_,_,ok_slide F11 T H_need_width,b11,k11,mg_of X G a11⟩
 have M_Slide_moved:MHas l.prog w K mg base 5 c_Slide "moved" ["self","width","a"] (spMv cc 8):=⟨T.cl_Slide,_,_,⟨a54,i54,k54⟩,jW F54 T H_slide,b54⟩
 have H_is_register:Has l.prog w K mg base 1 "is_register" ["thing"] mO:=⟨_,_,jT F13 T ,b13,k13,mg_of X G a13⟩
 have H_is_word:Has l.prog w K mg base 3 "is_word" ["width","thing"] iC:=⟨_,_,qh F4 T H_is_between,b4,k4,mg_of X G a4⟩
 have M_Set_good_at:MHas l.prog w K mg base 4 c_Set "good_at" ["self","width"] (bg cc [0]):=⟨T.cl_Set,_,_,⟨a55,i55,k55⟩,jL F55 T H_is_register H_is_word,b55⟩
 have H_are_registers:Has l.prog w K mg base 2 "are_registers" ["things"] i7:=⟨_,_,ix F14 T H_is_register,b14,k14,mg_of X G a14⟩
 have M_Copy_good_at:MHas l.prog w K mg base 3 c_Copy "good_at" ["self","width"] (bg cc [1]):=⟨T.cl_Copy,_,_,⟨a56,i56,k56⟩,iR F56 T H_are_registers,b56⟩
 have M_Gap_good_at:MHas l.prog w K mg base 3 c_Gap "good_at" ["self","width"] (bg cc [2,3]):=⟨T.cl_Gap,_,_,⟨h_Gap_good_at,i57,k57⟩,cP F57 T H_are_registers H_is_register,b57⟩
 have M_Carrying_good_at:MHas l.prog w K mg base 3 c_Sum "good_at" ["self","width"] (bg cc [2,3]):=⟨T.cl_Sum,_,_,⟨a57,i57,k57⟩,cP F57 T H_are_registers H_is_register,b57⟩
 have M_High_good_at:MHas l.prog w K mg base 3 c_High "good_at" ["self","width"] (bg cc [4,5,9,10,11,12]):=⟨T.cl_High,_,_,⟨h_High_good_at,i58,k58⟩,aS F58 T H_are_registers,b58⟩
 have M_And_good_at:MHas l.prog w K mg base 3 c_And "good_at" ["self","width"] (bg cc [4,5,9,10,11,12]):=⟨T.cl_And,_,_,⟨h_And_good_at,i58,k58⟩,aS F58 T H_are_registers,b58⟩
 have M_Or_good_at:MHas l.prog w K mg base 3 c_Or "good_at" ["self","width"] (bg cc [4,5,9,10,11,12]):=⟨T.cl_Or,_,_,⟨h_Or_good_at,i58,k58⟩,aS F58 T H_are_registers,b58⟩
 have M_Unlike_good_at:MHas l.prog w K mg base 3 c_Unlike "good_at" ["self","width"] (bg cc [4,5,9,10,11,12]):=⟨T.cl_Unlike,_,_,⟨h_Unlike_good_at,i58,k58⟩,aS F58 T H_are_registers,b58⟩
 have M_Under_good_at:MHas l.prog w K mg base 3 c_Under "good_at" ["self","width"] (bg cc [4,5,9,10,11,12]):=⟨T.cl_Under,_,_,⟨h_Under_good_at,i58,k58⟩,aS F58 T H_are_registers,b58⟩
 have M_Joining_good_at:MHas l.prog w K mg base 3 c_Low "good_at" ["self","width"] (bg cc [4,5,9,10,11,12]):=⟨T.cl_Low,_,_,⟨a58,i58,k58⟩,aS F58 T H_are_registers,b58⟩
 have M_Right_good_at:MHas l.prog w K mg base 3 c_Right "good_at" ["self","width"] (bg cc [6,7,8]):=⟨T.cl_Right,_,_,⟨h_Right_good_at,i59,k59⟩,bY F59 T H_are_registers H_is_between,b59⟩
 have M_Slide_good_at:MHas l.prog w K mg base 3 c_Slide "good_at" ["self","width"] (bg cc [6,7,8]):=⟨T.cl_Slide,_,_,⟨h_Slide_good_at,i59,k59⟩,bY F59 T H_are_registers H_is_between,b59⟩
 have M_Moving_good_at:MHas l.prog w K mg base 3 c_Left "good_at" ["self","width"] (bg cc [6,7,8]):=⟨T.cl_Left,_,_,⟨a59,i59,k59⟩,bY F59 T H_are_registers H_is_between,b59⟩
 have M_Pick_good_at:MHas l.prog w K mg base 3 c_Pick "good_at" ["self","width"] (bg cc [13]):=⟨T.cl_Pick,_,_,⟨a60,i60,k60⟩,jC F60 T H_are_registers,b60⟩
 have M_Mark_good_at:MHas l.prog w K mg base 3 c_Mark "good_at" ["self","width"] (bg cc [14]):=⟨T.cl_Mark,_,_,⟨a61,i61,k61⟩,iJ F61 T H_is_between H_is_register,b61⟩
 have M_Set_act:MHas l.prog w K mg base 1 c_Set "act" ["self","width","words","marks"] (bT cc [0]):=⟨T.cl_Set,_,_,⟨a62,i62,k62⟩,qe F62 T ,b62⟩
 have M_Copy_act:MHas l.prog w K mg base 1 c_Copy "act" ["self","width","words","marks"] (bT cc [1]):=⟨T.cl_Copy,_,_,⟨a63,i63,k63⟩,m6 F63 T ,b63⟩
 have M_Gap_act:MHas l.prog w K mg base 6 c_Gap "act" ["self","width","words","marks"] (bT cc [2,3]):=⟨T.cl_Gap,_,_,⟨h_Gap_act,i64,k64⟩,eV F64 T  (fun i hi=>by simp only [List.mem_cons,List.not_mem_nil,or_false] at hi; rcases hi with rfl | rfl <;> first | exact M_Sum_reckoned.mono (by decide) | exact M_Gap_reckoned.mono (by decide)),b64⟩
 have M_Carrying_act:MHas l.prog w K mg base 6 c_Sum "act" ["self","width","words","marks"] (bT cc [2,3]):=⟨T.cl_Sum,_,_,⟨a64,i64,k64⟩,eV F64 T  (fun i hi=>by simp only [List.mem_cons,List.not_mem_nil,or_false] at hi; rcases hi with rfl | rfl <;> first | exact M_Sum_reckoned.mono (by decide) | exact M_Gap_reckoned.mono (by decide)),b64⟩
 have M_High_act:MHas l.prog w K mg base 6 c_High "act" ["self","width","words","marks"] (bT cc [4,5,9,10,11,12]):=⟨T.cl_High,_,_,⟨h_High_act,i65,k65⟩,bq F65 T  (fun i hi=>by simp only [List.mem_cons,List.not_mem_nil,or_false] at hi; rcases hi with rfl | rfl | rfl | rfl | rfl | rfl <;> first | exact M_Low_reckoned.mono (by decide) | exact M_High_reckoned.mono (by decide) | exact M_And_reckoned.mono (by decide) | exact M_Or_reckoned.mono (by decide) | exact M_Unlike_reckoned.mono (by decide) | exact M_Under_reckoned.mono (by decide)),b65⟩
 have M_And_act:MHas l.prog w K mg base 6 c_And "act" ["self","width","words","marks"] (bT cc [4,5,9,10,11,12]):=⟨T.cl_And,_,_,⟨h_And_act,i65,k65⟩,bq F65 T  (fun i hi=>by simp only [List.mem_cons,List.not_mem_nil,or_false] at hi; rcases hi with rfl | rfl | rfl | rfl | rfl | rfl <;> first | exact M_Low_reckoned.mono (by decide) | exact M_High_reckoned.mono (by decide) | exact M_And_reckoned.mono (by decide) | exact M_Or_reckoned.mono (by decide) | exact M_Unlike_reckoned.mono (by decide) | exact M_Under_reckoned.mono (by decide)),b65⟩
 have M_Or_act:MHas l.prog w K mg base 6 c_Or "act" ["self","width","words","marks"] (bT cc [4,5,9,10,11,12]):=⟨T.cl_Or,_,_,⟨h_Or_act,i65,k65⟩,bq F65 T  (fun i hi=>by simp only [List.mem_cons,List.not_mem_nil,or_false] at hi; rcases hi with rfl | rfl | rfl | rfl | rfl | rfl <;> first | exact M_Low_reckoned.mono (by decide) | exact M_High_reckoned.mono (by decide) | exact M_And_reckoned.mono (by decide) | exact M_Or_reckoned.mono (by decide) | exact M_Unlike_reckoned.mono (by decide) | exact M_Under_reckoned.mono (by decide)),b65⟩
 have M_Unlike_act:MHas l.prog w K mg base 6 c_Unlike "act" ["self","width","words","marks"] (bT cc [4,5,9,10,11,12]):=⟨T.cl_Unlike,_,_,⟨h_Unlike_act,i65,k65⟩,bq F65 T  (fun i hi=>by simp only [List.mem_cons,List.not_mem_nil,or_false] at hi; rcases hi with rfl | rfl | rfl | rfl | rfl | rfl <;> first | exact M_Low_reckoned.mono (by decide) | exact M_High_reckoned.mono (by decide) | exact M_And_reckoned.mono (by decide) | exact M_Or_reckoned.mono (by decide) | exact M_Unlike_reckoned.mono (by decide) | exact M_Under_reckoned.mono (by decide)),b65⟩
 have M_Under_act:MHas l.prog w K mg base 6 c_Under "act" ["self","width","words","marks"] (bT cc [4,5,9,10,11,12]):=⟨T.cl_Under,_,_,⟨h_Under_act,i65,k65⟩,bq F65 T  (fun i hi=>by simp only [List.mem_cons,List.not_mem_nil,or_false] at hi; rcases hi with rfl | rfl | rfl | rfl | rfl | rfl <;> first | exact M_Low_reckoned.mono (by decide) | exact M_High_reckoned.mono (by decide) | exact M_And_reckoned.mono (by decide) | exact M_Or_reckoned.mono (by decide) | exact M_Unlike_reckoned.mono (by decide) | exact M_Under_reckoned.mono (by decide)),b65⟩
 have M_Joining_act:MHas l.prog w K mg base 6 c_Low "act" ["self","width","words","marks"] (bT cc [4,5,9,10,11,12]):=⟨T.cl_Low,_,_,⟨a65,i65,k65⟩,bq F65 T  (fun i hi=>by simp only [List.mem_cons,List.not_mem_nil,or_false] at hi; rcases hi with rfl | rfl | rfl | rfl | rfl | rfl <;> first | exact M_Low_reckoned.mono (by decide) | exact M_High_reckoned.mono (by decide) | exact M_And_reckoned.mono (by decide) | exact M_Or_reckoned.mono (by decide) | exact M_Unlike_reckoned.mono (by decide) | exact M_Under_reckoned.mono (by decide)),b65⟩
 have M_Right_act:MHas l.prog w K mg base 6 c_Right "act" ["self","width","words","marks"] (bT cc [6,7,8]):=⟨T.cl_Right,_,_,⟨h_Right_act,i66,k66⟩,dX F66 T  (fun i hi=>by simp only [List.mem_cons,List.not_mem_nil,or_false] at hi; rcases hi with rfl | rfl | rfl <;> first | exact M_Left_moved.mono (by decide) | exact M_Right_moved.mono (by decide) | exact M_Slide_moved.mono (by decide)),b66⟩
 have M_Slide_act:MHas l.prog w K mg base 6 c_Slide "act" ["self","width","words","marks"] (bT cc [6,7,8]):=⟨T.cl_Slide,_,_,⟨h_Slide_act,i66,k66⟩,dX F66 T  (fun i hi=>by simp only [List.mem_cons,List.not_mem_nil,or_false] at hi; rcases hi with rfl | rfl | rfl <;> first | exact M_Left_moved.mono (by decide) | exact M_Right_moved.mono (by decide) | exact M_Slide_moved.mono (by decide)),b66⟩
 have M_Moving_act:MHas l.prog w K mg base 6 c_Left "act" ["self","width","words","marks"] (bT cc [6,7,8]):=⟨T.cl_Left,_,_,⟨a66,i66,k66⟩,dX F66 T  (fun i hi=>by simp only [List.mem_cons,List.not_mem_nil,or_false] at hi; rcases hi with rfl | rfl | rfl <;> first | exact M_Left_moved.mono (by decide) | exact M_Right_moved.mono (by decide) | exact M_Slide_moved.mono (by decide)),b66⟩
 have M_Pick_act:MHas l.prog w K mg base 1 c_Pick "act" ["self","width","words","marks"] (bT cc [13]):=⟨T.cl_Pick,_,_,⟨a67,i67,k67⟩,nW F67 T ,b67⟩
 have M_Mark_act:MHas l.prog w K mg base 1 c_Mark "act" ["self","width","words","marks"] (bT cc [14]):=⟨T.cl_Mark,_,_,⟨a68,i68,k68⟩,oC F68 T ,b68⟩
 have M_Turns_word:MHas l.prog w K mg base 1 c_Turns "word" ["self"] (d9 "turns"):=⟨T.cl_Turns,_,_,⟨a69,i69,k69⟩,lu F69 T ,b69⟩
 have C_Turns:CHas l.prog w K mg base 1 c_Turns "Turns" ["self","times","steps"] (kF K):=⟨_,_,⟨mk_Turns,a70,i70,kc_Turns⟩,gS F70 T ,b70,mg_of X G aC_Turns⟩
 have M_Turns_good_at:MHas l.prog w K mg base 3 c_Turns "good_at" ["self","width"] (kJ cc):=⟨T.cl_Turns,_,_,⟨a71,i71,k71⟩,iq F71 T H_is_between,b71⟩
 have C_Reading:CHas l.prog w K mg base 1 c_Reading "Reading" ["self"] (spRdI K):=⟨_,_,⟨mk_Reading,a92,i92,kc_Reading⟩,gi F92 T ,b92,mg_of X G aC_Reading⟩
 have H_number_in:Has l.prog w K mg base 1 "number_in" ["figures"] rF:=⟨_,_,lJ F82 T ,b82,k82,mg_of X G a82⟩
 have H_whole_in:Has l.prog w K mg base 2 "whole_in" ["word","most"] rq:=⟨_,_,nN F83 T H_number_in,b83,k83,mg_of X G a83⟩
 have H_number_told:Has l.prog w K mg base 3 "number_told" ["word","low","high"] pM:=⟨_,_,jR F84 T H_whole_in,b84,k84,mg_of X G a84⟩
 have M_Reading_takes_turns:MHas l.prog w K mg base 4 c_Reading "takes_turns" ["self","words"] (spTkT cc):=⟨T.cl_Reading,_,_,⟨a93,i93,k93⟩,eo F93 T H_number_told,b93⟩
 have M_Reading_takes_end:MHas l.prog w K mg base 3 c_Reading "takes_end" ["self"] (spTkE cc):=⟨T.cl_Reading,_,_,⟨a94,i94,k94⟩,fu F94 T C_Turns,b94⟩
 have H_joining_made:Has l.prog w K mg base 3 "joining_made" ["word","goal","one","other"] (spJM cc):=⟨_,_,iK F89 T C_Under C_Low C_High C_And C_Or C_Unlike,b89,k89,mg_of X G a89⟩
 have H_row_made:Has l.prog w K mg base 4 "row_made" ["word","fields"] (spRM cc):=⟨_,_,oU F90 T H_joining_made C_Set C_Copy C_Left C_Right C_Slide C_Mark C_Sum C_Gap C_Pick,b90,k90,mg_of X G a90⟩
 have H_field_told:Has l.prog w K mg base 4 "field_told" ["part","word"] spFT:=⟨_,_,kW F88 T H_number_told,b88,k88,mg_of X G a88⟩
 have H_row_read:Has l.prog w K mg base 5 "row_read" ["words"] (spRR cc):=⟨_,_,nU F91 T H_row_made H_field_told (⟨_,gd_mk (ents:=[("set",kD0_SHAPES,vD0_SHAPES),("copy",kD1_SHAPES,vD1_SHAPES),("sum",kD2_SHAPES,vD2_SHAPES),("gap",kD3_SHAPES,vD3_SHAPES),("low",kD4_SHAPES,vD4_SHAPES),("high",kD5_SHAPES,vD5_SHAPES),("left",kD6_SHAPES,vD6_SHAPES),("right",kD7_SHAPES,vD7_SHAPES),("slide",kD8_SHAPES,vD8_SHAPES),("and",kD9_SHAPES,vD9_SHAPES),("or",kD10_SHAPES,vD10_SHAPES),("unlike",kD11_SHAPES,vD11_SHAPES),("under",kD12_SHAPES,vD12_SHAPES),("pick",kD13_SHAPES,vD13_SHAPES),("mark",kD14_SHAPES,vD14_SHAPES)]) lW_SHAPES (by show (["set","copy","sum","gap","low","high","left","right","slide","and","or","unlike","under","pick","mark"]:List Str).Nodup; decide +kernel) ⟨rfl,rfl,rfl⟩,fun k hk=>match k,hk with | 0,_=>⟨_,rfl,fun H=>.inr ⟨_,_,_,lD0_SHAPES,rfl,rfl,(by show 2<=sizeLine; decide),.cons ⟨_,rfl⟩ (.cons ⟨_,rfl⟩ (.nil))⟩⟩ | 1,_=>⟨_,rfl,fun H=>.inr ⟨_,_,_,lD1_SHAPES,rfl,rfl,(by show 2<=sizeLine; decide),.cons ⟨_,rfl⟩ (.cons ⟨_,rfl⟩ (.nil))⟩⟩ | 2,_=>⟨_,rfl,fun H=>.inr ⟨_,_,_,lD2_SHAPES,rfl,rfl,(by show 4<=sizeLine; decide),.cons ⟨_,rfl⟩ (.cons ⟨_,rfl⟩ (.cons ⟨_,rfl⟩ (.cons ⟨_,rfl⟩ (.nil))))⟩⟩ | 3,_=>⟨_,rfl,fun H=>.inr ⟨_,_,_,lD3_SHAPES,rfl,rfl,(by show 4<=sizeLine; decide),.cons ⟨_,rfl⟩ (.cons ⟨_,rfl⟩ (.cons ⟨_,rfl⟩ (.cons ⟨_,rfl⟩ (.nil))))⟩⟩ | 4,_=>⟨_,rfl,fun H=>.inr ⟨_,_,_,lD4_SHAPES,rfl,rfl,(by show 3<=sizeLine; decide),.cons ⟨_,rfl⟩ (.cons ⟨_,rfl⟩ (.cons ⟨_,rfl⟩ (.nil)))⟩⟩ | 5,_=>⟨_,rfl,fun H=>.inr ⟨_,_,_,lD5_SHAPES,rfl,rfl,(by show 3<=sizeLine; decide),.cons ⟨_,rfl⟩ (.cons ⟨_,rfl⟩ (.cons ⟨_,rfl⟩ (.nil)))⟩⟩ | 6,_=>⟨_,rfl,fun H=>.inr ⟨_,_,_,lD6_SHAPES,rfl,rfl,(by show 3<=sizeLine; decide),.cons ⟨_,rfl⟩ (.cons ⟨_,rfl⟩ (.cons ⟨_,rfl⟩ (.nil)))⟩⟩ | 7,_=>⟨_,rfl,fun H=>.inr ⟨_,_,_,lD7_SHAPES,rfl,rfl,(by show 3<=sizeLine; decide),.cons ⟨_,rfl⟩ (.cons ⟨_,rfl⟩ (.cons ⟨_,rfl⟩ (.nil)))⟩⟩ | 8,_=>⟨_,rfl,fun H=>.inr ⟨_,_,_,lD8_SHAPES,rfl,rfl,(by show 3<=sizeLine; decide),.cons ⟨_,rfl⟩ (.cons ⟨_,rfl⟩ (.cons ⟨_,rfl⟩ (.nil)))⟩⟩ | 9,_=>⟨_,rfl,fun H=>.inr ⟨_,_,_,lD9_SHAPES,rfl,rfl,(by show 3<=sizeLine; decide),.cons ⟨_,rfl⟩ (.cons ⟨_,rfl⟩ (.cons ⟨_,rfl⟩ (.nil)))⟩⟩ | 10,_=>⟨_,rfl,fun H=>.inr ⟨_,_,_,lD10_SHAPES,rfl,rfl,(by show 3<=sizeLine; decide),.cons ⟨_,rfl⟩ (.cons ⟨_,rfl⟩ (.cons ⟨_,rfl⟩ (.nil)))⟩⟩ | 11,_=>⟨_,rfl,fun H=>.inr ⟨_,_,_,lD11_SHAPES,rfl,rfl,(by show 3<=sizeLine; decide),.cons ⟨_,rfl⟩ (.cons ⟨_,rfl⟩ (.cons ⟨_,rfl⟩ (.nil)))⟩⟩ | 12,_=>⟨_,rfl,fun H=>.inr ⟨_,_,_,lD12_SHAPES,rfl,rfl,(by show 3<=sizeLine; decide),.cons ⟨_,rfl⟩ (.cons ⟨_,rfl⟩ (.cons ⟨_,rfl⟩ (.nil)))⟩⟩ | 13,_=>⟨_,rfl,fun H=>.inr ⟨_,_,_,lD13_SHAPES,rfl,rfl,(by show 4<=sizeLine; decide),.cons ⟨_,rfl⟩ (.cons ⟨_,rfl⟩ (.cons ⟨_,rfl⟩ (.cons ⟨_,rfl⟩ (.nil))))⟩⟩ | 14,_=>⟨_,rfl,fun H=>.inr ⟨_,_,_,lD14_SHAPES,rfl,rfl,(by show 3<=sizeLine; decide),.cons ⟨_,rfl⟩ (.cons ⟨_,rfl⟩ (.cons ⟨_,rfl⟩ (.nil)))⟩⟩ | k + 15,h=>absurd h (by lia)⟩) (fun k hk=>match k,hk with | 0,_=>(M_Set_good_at.mono (by decide)).imp fun vs H Q E h=>az (by decide) h | 1,_=>(M_Copy_good_at.mono (by decide)).imp fun vs H Q E h=>az (by decide) h | 2,_=>(M_Carrying_good_at.mono (by decide)).imp fun vs H Q E h=>az (by decide) h | 3,_=>(M_Gap_good_at.mono (by decide)).imp fun vs H Q E h=>az (by decide) h | 4,_=>(M_Joining_good_at.mono (by decide)).imp fun vs H Q E h=>az (by decide) h | 5,_=>(M_High_good_at.mono (by decide)).imp fun vs H Q E h=>az (by decide) h | 6,_=>(M_Moving_good_at.mono (by decide)).imp fun vs H Q E h=>az (by decide) h | 7,_=>(M_Right_good_at.mono (by decide)).imp fun vs H Q E h=>az (by decide) h | 8,_=>(M_Slide_good_at.mono (by decide)).imp fun vs H Q E h=>az (by decide) h | 9,_=>(M_And_good_at.mono (by decide)).imp fun vs H Q E h=>az (by decide) h | 10,_=>(M_Or_good_at.mono (by decide)).imp fun vs H Q E h=>az (by decide) h | 11,_=>(M_Unlike_good_at.mono (by decide)).imp fun vs H Q E h=>az (by decide) h | 12,_=>(M_Under_good_at.mono (by decide)).imp fun vs H Q E h=>az (by decide) h | 13,_=>(M_Pick_good_at.mono (by decide)).imp fun vs H Q E h=>az (by decide) h | 14,_=>(M_Mark_good_at.mono (by decide)).imp fun vs H Q E h=>az (by decide) h | k + 15,h=>absurd h (by lia)),b91,k91,mg_of X G a91⟩
 have M_Reading_takes:MHas l.prog w K mg base 6 c_Reading "takes" ["self","words"] (spTks cc):=⟨T.cl_Reading,_,_,⟨a95,i95,k95⟩,ip F95 T H_row_read (M_Reading_takes_turns.mono (by decide)) (M_Reading_takes_end.mono (by decide)),b95⟩
 have MW:∀ k,k < 15->MHas l.prog w K mg base 1 (fOf cc k) "word" ["self"] (d9 (wOf k)):=fun k hk=>by
  rcases (by lia:k = 0\/k = 1\/k = 2\/k = 3\/k = 4\/k = 5\/k = 6\/k = 7\/k = 8\/k = 9\/k = 10\/k = 11\/k = 12\/k = 13\/k = 14) with rfl | rfl | rfl | rfl | rfl | rfl | rfl | rfl | rfl | rfl | rfl | rfl | rfl | rfl | rfl
  ·exact M_Set_word
  ·exact M_Copy_word
  ·exact M_Sum_word
  ·exact M_Gap_word
  ·exact M_Low_word
  ·exact M_High_word
  ·exact M_Left_word
  ·exact M_Right_word
  ·exact M_Slide_word
  ·exact M_And_word
  ·exact M_Or_word
  ·exact M_Unlike_word
  ·exact M_Under_word
  ·exact M_Pick_word
  ·exact M_Mark_word
 have MG:∀ k,k < 15->MHas l.prog w K mg base 4 (fOf cc k) "good_at" ["self","width"] (bg cc [k]):=fun k hk=>by
  rcases (by lia:k = 0\/k = 1\/k = 2\/k = 3\/k = 4\/k = 5\/k = 6\/k = 7\/k = 8\/k = 9\/k = 10\/k = 11\/k = 12\/k = 13\/k = 14) with rfl | rfl | rfl | rfl | rfl | rfl | rfl | rfl | rfl | rfl | rfl | rfl | rfl | rfl | rfl
  ·exact (M_Set_good_at.mono (by decide)).imp fun vs H Q E h=>az (by decide) h
  ·exact (M_Copy_good_at.mono (by decide)).imp fun vs H Q E h=>az (by decide) h
  ·exact (M_Carrying_good_at.mono (by decide)).imp fun vs H Q E h=>az (by decide) h
  ·exact (M_Gap_good_at.mono (by decide)).imp fun vs H Q E h=>az (by decide) h
  ·exact (M_Joining_good_at.mono (by decide)).imp fun vs H Q E h=>az (by decide) h
  ·exact (M_High_good_at.mono (by decide)).imp fun vs H Q E h=>az (by decide) h
  ·exact (M_Moving_good_at.mono (by decide)).imp fun vs H Q E h=>az (by decide) h
  ·exact (M_Right_good_at.mono (by decide)).imp fun vs H Q E h=>az (by decide) h
  ·exact (M_Slide_good_at.mono (by decide)).imp fun vs H Q E h=>az (by decide) h
  ·exact (M_And_good_at.mono (by decide)).imp fun vs H Q E h=>az (by decide) h
  ·exact (M_Or_good_at.mono (by decide)).imp fun vs H Q E h=>az (by decide) h
  ·exact (M_Unlike_good_at.mono (by decide)).imp fun vs H Q E h=>az (by decide) h
  ·exact (M_Under_good_at.mono (by decide)).imp fun vs H Q E h=>az (by decide) h
  ·exact (M_Pick_good_at.mono (by decide)).imp fun vs H Q E h=>az (by decide) h
  ·exact (M_Mark_good_at.mono (by decide)).imp fun vs H Q E h=>az (by decide) h
 have MA:∀ k,k < 15->MHas l.prog w K mg base 6 (fOf cc k) "act" ["self","width","words","marks"] (bT cc [k]):=fun k hk=>by
  rcases (by lia:k = 0\/k = 1\/k = 2\/k = 3\/k = 4\/k = 5\/k = 6\/k = 7\/k = 8\/k = 9\/k = 10\/k = 11\/k = 12\/k = 13\/k = 14) with rfl | rfl | rfl | rfl | rfl | rfl | rfl | rfl | rfl | rfl | rfl | rfl | rfl | rfl | rfl
  ·exact (M_Set_act.mono (by decide)).imp fun vs H Q E h=>aV (by decide) h
  ·exact (M_Copy_act.mono (by decide)).imp fun vs H Q E h=>aV (by decide) h
  ·exact (M_Carrying_act.mono (by decide)).imp fun vs H Q E h=>aV (by decide) h
  ·exact (M_Gap_act.mono (by decide)).imp fun vs H Q E h=>aV (by decide) h
  ·exact (M_Joining_act.mono (by decide)).imp fun vs H Q E h=>aV (by decide) h
  ·exact (M_High_act.mono (by decide)).imp fun vs H Q E h=>aV (by decide) h
  ·exact (M_Moving_act.mono (by decide)).imp fun vs H Q E h=>aV (by decide) h
  ·exact (M_Right_act.mono (by decide)).imp fun vs H Q E h=>aV (by decide) h
  ·exact (M_Slide_act.mono (by decide)).imp fun vs H Q E h=>aV (by decide) h
  ·exact (M_And_act.mono (by decide)).imp fun vs H Q E h=>aV (by decide) h
  ·exact (M_Or_act.mono (by decide)).imp fun vs H Q E h=>aV (by decide) h
  ·exact (M_Unlike_act.mono (by decide)).imp fun vs H Q E h=>aV (by decide) h
  ·exact (M_Under_act.mono (by decide)).imp fun vs H Q E h=>aV (by decide) h
  ·exact (M_Pick_act.mono (by decide)).imp fun vs H Q E h=>aV (by decide) h
  ·exact (M_Mark_act.mono (by decide)).imp fun vs H Q E h=>aV (by decide) h
 have MT:∀ k,k < 15->MHas l.prog w K mg base 2 (fOf cc k) "told" ["self"] (bj cc [k]):=fun k hk=>by
  rcases (by lia:k = 0\/k = 1\/k = 2\/k = 3\/k = 4\/k = 5\/k = 6\/k = 7\/k = 8\/k = 9\/k = 10\/k = 11\/k = 12\/k = 13\/k = 14) with rfl | rfl | rfl | rfl | rfl | rfl | rfl | rfl | rfl | rfl | rfl | rfl | rfl | rfl | rfl
  ·exact (M_Set_told.mono (by decide)).imp fun vs H Q E h=>aO (by decide) h
  ·exact (M_Copy_told.mono (by decide)).imp fun vs H Q E h=>aO (by decide) h
  ·exact (M_Carrying_told.mono (by decide)).imp fun vs H Q E h=>aO (by decide) h
  ·exact (M_Gap_told.mono (by decide)).imp fun vs H Q E h=>aO (by decide) h
  ·exact (M_Joining_told.mono (by decide)).imp fun vs H Q E h=>aO (by decide) h
  ·exact (M_High_told.mono (by decide)).imp fun vs H Q E h=>aO (by decide) h
  ·exact (M_Moving_told.mono (by decide)).imp fun vs H Q E h=>aO (by decide) h
  ·exact (M_Right_told.mono (by decide)).imp fun vs H Q E h=>aO (by decide) h
  ·exact (M_Slide_told.mono (by decide)).imp fun vs H Q E h=>aO (by decide) h
  ·exact (M_And_told.mono (by decide)).imp fun vs H Q E h=>aO (by decide) h
  ·exact (M_Or_told.mono (by decide)).imp fun vs H Q E h=>aO (by decide) h
  ·exact (M_Unlike_told.mono (by decide)).imp fun vs H Q E h=>aO (by decide) h
  ·exact (M_Under_told.mono (by decide)).imp fun vs H Q E h=>aO (by decide) h
  ·exact (M_Pick_told.mono (by decide)).imp fun vs H Q E h=>aO (by decide) h
  ·exact (M_Mark_told.mono (by decide)).imp fun vs H Q E h=>aO (by decide) h
 have MGU:MHas l.prog w K mg base 4 c_Turns "good_at" ["self","width"] (kJ cc):=M_Turns_good_at.mono (by decide)
 have AT:∀ d,MHas l.prog w K mg base (d + 6) c_Turns "act" ["self","width","words","marks"] (spN (kg cc) d):=fun d=>by
  induction d with
  | zero=>exact ⟨T.cl_Turns,_,_,⟨a72,i72,k72⟩,FnOk.void,b72⟩
  | succ d ih=>exact ⟨T.cl_Turns,_,_,⟨a72,i72,k72⟩,mD F72 T MA ih,b72⟩
 have MTA:MHas l.prog w K mg base 12 c_Turns "act" ["self","width","words","marks"] (spN (kg cc) 5):=(AT 5).mono (by decide)
 have H_is_good:Has l.prog w K mg base 5 "is_good" ["width","thing","about"] (lh cc):=⟨_,_,qd F73 T  MG MGU,b73,k73,mg_of X G a73⟩
 have RP:∀ d,Has l.prog w K mg base (d + 5) "place_behind" ["width","steps","place","about"] (spN (gr cc) d):=fun d=>by
  induction d with
  | zero=>exact ⟨_,_,FnOk.void,b74,k74,mg_of X G a74⟩
  | succ d ih=>exact ⟨_,_,jo F74 T H_is_good ih,b74,k74,mg_of X G a74⟩
 have H_place_behind:Has l.prog w K mg base 12 "place_behind" ["width","steps","place","about"] (gr cc 6):=oA (RP 6) (by decide)
 have RC:∀ d,Has l.prog w K mg base (d + 5) "count_words" ["steps","times","counts"] (spN (gC cc) d):=fun d=>by
  induction d with
  | zero=>exact ⟨_,_,FnOk.void,b75,k75,mg_of X G a75⟩
  | succ d ih=>exact ⟨_,_,jV F75 T  MW M_Turns_word ih,b75,k75,mg_of X G a75⟩
 have H_count_words:Has l.prog w K mg base 12 "count_words" ["steps","times","counts"] (gC cc 6):=oA (RC 6) (by decide)
 have H_field_text:Has l.prog w K mg base 1 "field_text" ["field"] spFX:=⟨_,_,kr F85 T ,b85,k85,mg_of X G a85⟩
 have RL:∀ d,Has l.prog w K mg base (d + 5) "lines_of" ["steps"] (spN (iN cc) d):=fun d=>by
  induction d with
  | zero=>exact ⟨_,_,FnOk.void,b86,k86,mg_of X G a86⟩
  | succ d ih=>exact ⟨_,_,oO F86 T H_field_text MT ih,b86,k86,mg_of X G a86⟩
 have H_lines_of:Has l.prog w K mg base 12 "lines_of" ["steps"] (iN cc 6):=oA (RL 6) (by decide)
 have H__law_begun:Has l.prog w K mg base 1 "_law_begun" ["_law_cell_here"] spBox:=⟨_,_,kK F98 T ,b98,k98,mg_of X G a98⟩
 have H__law_cell:Has l.prog w K mg base 1 "_law_cell" ["_law_script","_law_k"] (rS K):=⟨_,_,lO F97 T ,b97,k97,mg_of X G a97⟩
 have H__law_draw:Has l.prog w K mg base 1 "_law_draw" ["_law_state","_law_many"] iW:=⟨_,_,mo F99 T ,b99,k99,mg_of X G a99⟩
 have H__law_word:Has l.prog w K mg base 2 "_law_word" ["_law_state","_law_width"] spWrd:=⟨_,_,lS F101 T H__law_draw,b101,k101,mg_of X G a101⟩
 have H__law_bit:Has l.prog w K mg base 3 "_law_bit" ["_law_width","_law_n"] (rD cc):=⟨_,_,nS F102 T C_Right C_Left C_Or C_Under C_Unlike C_Gap C_Pick,b102,k102,mg_of X G a102⟩
 have H__law_divided:Has l.prog w K mg base 4 "_law_divided" ["_law_width","_law_n"] (rP cc):=⟨_,_,jr F103 T H__law_bit C_Set C_Copy C_Turns C_Low C_High C_Sum C_Unlike C_Mark C_Slide,b103,k103,mg_of X G a103⟩
 have H_row_words:Has l.prog w K mg base 1 "row_words" [] spRW:=⟨_,_,mh F12 T ,b12,k12,mg_of X G a12⟩
 have H_need_steps:Has l.prog w K mg base 13 "need_steps" ["width","steps"] (iY cc):=⟨_,_,lA F76 T H_need_width H_place_behind H_row_words H_count_words,b76,k76,mg_of X G a76⟩
 have H_need_registers:Has l.prog w K mg base 4 "need_registers" ["width","registers"] oR:=⟨_,_,gJ F78 T H_is_register H_is_word,b78,k78,mg_of X G a78⟩
 have H_run_steps:Has l.prog w K mg base 14 "run_steps" ["width","steps","registers"] (pc cc):=⟨_,_,mZ F79 T H_need_steps H_need_registers MA MTA,b79,k79,mg_of X G a79⟩
 have H_read_steps:Has l.prog w K mg base 10 "read_steps" ["text"] (qX cc):=⟨_,_,kN F96 T C_Reading (M_Reading_takes.mono (by decide)),b96,k96,mg_of X G a96⟩
 have H__law_cost:Has l.prog w K mg base 1 "_law_cost" ["_law_counts"] oh:=⟨_,_,mi F105 T ,b105,k105,mg_of X G a105⟩
 have H_check_steps:Has l.prog w K mg base 14 "check_steps" ["width","steps"] (lF cc):=⟨_,_,jN F77 T H_need_steps,b77,k77,mg_of X G a77⟩
 have H_need_prices:Has l.prog w K mg base 3 "need_prices" ["prices"] spNP0:=⟨_,_,jM F80 T H_is_between,b80,k80,mg_of X G a80⟩
 have H_cost_of:Has l.prog w K mg base 14 "cost_of" ["width","steps","prices"] (nh cc):=⟨_,_,qx F81 T H_need_steps H_need_prices,b81,k81,mg_of X G a81⟩
 have H__law_counted:Has l.prog w K mg base 15 "_law_counted" ["_law_width","_law_steps","_law_counts","_law_due"] (pw cc):=⟨_,_,jB F106 T H__law_cost H_check_steps H_cost_of,b106,k106,mg_of X G a106⟩
 have H_steps_text:Has l.prog w K mg base 13 "steps_text" ["steps"] (lg cc):=⟨_,_,kM F87 T H_lines_of,b87,k87,mg_of X G a87⟩
 have H__law_whole:Has l.prog w K mg base 1 "_law_whole" ["_law_found"] fD:=⟨_,_,kt F100 T ,b100,k100,mg_of X G a100⟩
 have H__law_division:Has l.prog w K mg base 16 "_law_division" ["_law_state","_law_width","_law_n"] (o7 cc):=⟨_,_,ij F107 T H__law_word H__law_divided H_run_steps H__law_draw H_read_steps H__law_counted H_steps_text H__law_whole,b107,k107,mg_of X G a107⟩
 have H__law_product:Has l.prog w K mg base 3 "_law_product" ["_law_n"] (ny cc):=⟨_,_,jp F104 T C_Low C_High C_Set C_Sum,b104,k104,mg_of X G a104⟩
 have H__law_multiplied:Has l.prog w K mg base 16 "_law_multiplied" ["_law_state","_law_width","_law_n"] (rp cc):=⟨_,_,gA F108 T H__law_product H_run_steps H__law_word H__law_counted H__law_whole,b108,k108,mg_of X G a108⟩
 exact ok_law F109 T H__law_begun H__law_cell H__law_draw H__law_division H__law_multiplied
theorem walk {l:PySem.W.OpenLaw} {q:Program} {loose:List Str} {XP:(Str->Option Value)->Heap->Prop} {YP:World->Heap->Prop} {d:DefRec} {K:Params->Frag} (hn:l.most = some 63) (hdf:d.params.defaults = [])
  (hY:∀ (w:World) (h:Heap),YP w h->(K w.params).In h)
  (F:∀ (w:World) (mg:Str->Option Value) (fa:Addr) (h:Heap),(K w.params).In h->h.Ns mainGlobals mg->mg d.name = some (.ref fa) ->
   ∃ fd:FuncData,(∀ (s:Shared) (u:Value),BindsTo s fd ⟨[u],[]⟩ [("_law_script",u)])/\∀ base:Heap,(K w.params).In base->base.Ns mainGlobals mg->FnOk l.prog w (K w.params) mg base CX0 17 fa fd ["_law_script"] (spLaw (K w.params))) :
  PySem.W.WalkO q loose XP YP l.row.toRowW d [] (fun f vs=>PySem.call f vs) :=
 L2.walk_of (n:=63) (k:=17) (x:="_law_script") (CX:=fun _=>CX0) (sp:=fun w=>spLaw (K w.params)) hn (by decide) hdf ⟨rfl,by decide,by decide,rfl⟩ hY F (fun _ _ a ns hl _ hS=>⟨a,ns,rfl,hS,hl,fun _=>rfl⟩) fun _ _ _ _ _ z=>z
end Ow
open PySem PySem.W PyProof.Rows
namespace PySem.W.Fast
theorem tw15204359698284265205:True:=⟨⟩
theorem tw15466246932080971422:True:=⟨⟩
theorem tw14597615738300623251:True:=⟨⟩
theorem tw8592572410446887061:True:=⟨⟩
theorem tw17914293513735334507:True:=⟨⟩
theorem tw1282205940159580255:True:=⟨⟩
theorem tw8136135075096256747:True:=⟨⟩
theorem tw9766496422106607509:True:=⟨⟩
theorem tw17597699378153317076:True:=⟨⟩
theorem tw2648515476623158657:True:=⟨⟩
theorem tw10914941003691058828:True:=⟨⟩
theorem tw15738552330533600868:True:=⟨⟩
theorem tw15993297517234115352:True:=⟨⟩
theorem tw6584029997885868976:True:=⟨⟩
theorem tw11319604360108436557:True:=⟨⟩
theorem tw5282550401124150028:True:=⟨⟩
theorem tw163101149031073152:True:=⟨⟩
theorem tw1672770596472138087:True:=⟨⟩
theorem tw6844236119101383252:True:=⟨⟩
theorem tw3147989713790152841:True:=⟨⟩
theorem tw16397361553259674445:True:=⟨⟩
theorem tw5140923417007700576:True:=⟨⟩
theorem tw6069614605272939185:True:=⟨⟩
theorem tw7002450501985937086:True:=⟨⟩
theorem tw5721310839264101500:True:=⟨⟩
theorem tw17670643466722077501:True:=⟨⟩
theorem tw11138639785719477044:True:=⟨⟩
theorem tw11390777518491176775:True:=⟨⟩
theorem tw1587385204107548798:True:=⟨⟩
theorem tw8917766376118088595:True:=⟨⟩
theorem tw3566088498389800374:True:=⟨⟩
theorem tw4448852958261996865:True:=⟨⟩
theorem tw16200004546028558023:True:=⟨⟩
theorem tw15728479741737329158:True:=⟨⟩
theorem tw14657758875132978234:True:=⟨⟩
theorem tw8446433948350875540:True:=⟨⟩
theorem tw7196746701329725004:True:=⟨⟩
theorem tw1189614737196065578:True:=⟨⟩
theorem tw1267325310263642137:True:=⟨⟩
theorem tw747301853766689749:True:=⟨⟩
theorem tw579735035905274308:True:=⟨⟩
theorem tw8871449788281069424:True:=⟨⟩
theorem tw12716759160867932241:True:=⟨⟩
theorem tw13846529500919736660:True:=⟨⟩
theorem tw17713462983659552732:True:=⟨⟩
theorem tw6305743272024494210:True:=⟨⟩
theorem tw3044982565952063795:True:=⟨⟩
theorem tw6810051694744129628:True:=⟨⟩
theorem tw10337165905336173213:True:=⟨⟩
theorem tw6240741086959096187:True:=⟨⟩
theorem tw17315395030833356460:True:=⟨⟩
theorem tw15696570619362993416:True:=⟨⟩
theorem tw14881259493418615110:True:=⟨⟩
theorem tw11429518312044583099:True:=⟨⟩
theorem tw16237336218762667707:True:=⟨⟩
theorem tw7268034038020902155:True:=⟨⟩
theorem tw10762350462074665966:True:=⟨⟩
theorem tw8260834764082806243:True:=⟨⟩
theorem tw16373544826554822163:True:=⟨⟩
theorem tw1688423569936419298:True:=⟨⟩
theorem tw17795971077496232240:True:=⟨⟩
theorem tw16110721985959954747:True:=⟨⟩
theorem tw1459052673439219446:True:=⟨⟩
theorem tw13146809325508932405:True:=⟨⟩
theorem tw8585894876715345975:True:=⟨⟩
theorem tw7843492263490325536:True:=⟨⟩
theorem tw8369868678050073529:True:=⟨⟩
theorem tw10228263777387837618:True:=⟨⟩
theorem tw14513030288085805559:True:=⟨⟩
theorem tw14841583220411367337:True:=⟨⟩
theorem tw3527564073725798363:True:=⟨⟩
theorem tw4700358038472872588:True:=⟨⟩
theorem tw6762202852721942279:True:=⟨⟩
theorem tw13225290721509120593:True:=⟨⟩
theorem tw6304770155628075379:True:=⟨⟩
theorem tw8068316734779470180:True:=⟨⟩
theorem tw14026657556163626862:True:=⟨⟩
theorem tw4066587800498046103:True:=⟨⟩
theorem tw13763302184083729808:True:=⟨⟩
theorem tw15863411753671050829:True:=⟨⟩
theorem tw17092721835651220725:True:=⟨⟩
theorem tw16132950413835583208:True:=⟨⟩
theorem tw186941843503639768:True:=⟨⟩
theorem tw15341656571161636278:True:=⟨⟩
theorem tw11685018390830185878:True:=⟨⟩
theorem tw10530767599772865895:True:=⟨⟩
theorem tw4015946357053639186:True:=⟨⟩
theorem tw8225527275929016141:True:=⟨⟩
theorem tw1458569340622549824:True:=⟨⟩
theorem tw15732520531323159144:True:=⟨⟩
theorem tw11136158403354803086:True:=⟨⟩
theorem tw17642364581091600282:True:=⟨⟩
theorem tw17910458903047025907:True:=⟨⟩
theorem tw17068734610099142561:True:=⟨⟩
theorem tw2772728937107603408:True:=⟨⟩
theorem tw13221593954480198398:True:=⟨⟩
theorem tw17404166485589660464:True:=⟨⟩
theorem tw12201593452424509186:True:=⟨⟩
theorem tw10726422832325253417:True:=⟨⟩
theorem tw1409546132692289991:True:=⟨⟩
theorem tw12883714622674937253:True:=⟨⟩
theorem tw8944900361066482617:True:=⟨⟩
theorem tw14500451979534993344:True:=⟨⟩
theorem tw4718526277256973263:True:=⟨⟩
theorem tw13111118236344858135:True:=⟨⟩
theorem tw5415774083611691808:True:=⟨⟩
theorem tw8081821831435498926:True:=⟨⟩
theorem tw5585047265074657306:True:=⟨⟩
theorem tw3957204395403187033:True:=⟨⟩
theorem tw18188958299570288894:True:=⟨⟩
theorem tw303465105888551739:True:=⟨⟩
theorem tw11280974016527869204:True:=⟨⟩
theorem tw15531735079745484506:True:=⟨⟩
theorem tw12784309217656473717:True:=⟨⟩
theorem tw12249342682655862312:True:=⟨⟩
theorem tw9332111454849482575:True:=⟨⟩
theorem tw8651423868417786116:True:=⟨⟩
theorem tw10452548431320109621:True:=⟨⟩
theorem tw10297117474823809844:True:=⟨⟩
theorem tw10065452272749166119:True:=⟨⟩
theorem tw15997035725975270437:True:=⟨⟩
theorem tw13089359873181410743:True:=⟨⟩
theorem tw16010686676532163485:True:=⟨⟩
theorem tw13581359678931459043:True:=⟨⟩
theorem tw10557675953632291719:True:=⟨⟩
theorem tw14646962618074488182:True:=⟨⟩
theorem tw4196377503401594935:True:=⟨⟩
theorem tw1508771088119291373:True:=⟨⟩
theorem tw16513536121431548555:True:=⟨⟩
theorem tw3981980922947215515:True:=⟨⟩
theorem tw17385322494408161956:True:=⟨⟩
theorem tw6682555647503725428:True:=⟨⟩
theorem tw5179443713182085887:True:=⟨⟩
theorem tw4879856508946573849:True:=⟨⟩
theorem tw3654989543577110912:True:=⟨⟩
theorem tw1897952165311284104:True:=⟨⟩
theorem tw7215635993843018707:True:=⟨⟩
theorem tw5498367954563577832:True:=⟨⟩
theorem tw5459520797719568982:True:=⟨⟩
theorem tw4983098639191552794:True:=⟨⟩
theorem tw1867986068090039744:True:=⟨⟩
theorem tw17404539366331155015:True:=⟨⟩
theorem tw14630697558532913163:True:=⟨⟩
theorem tw17881427092834970581:True:=⟨⟩
theorem tw4090617699681500136:True:=⟨⟩
theorem tw12217774202864941364:True:=⟨⟩
theorem tw18287098263059209664:True:=⟨⟩
theorem tw11861340350972362188:True:=⟨⟩
theorem tw3106799556181740941:True:=⟨⟩
theorem tw17108741331138299199:True:=⟨⟩
theorem tw4199692120941463612:True:=⟨⟩
theorem tw15489760509605251192:True:=⟨⟩
theorem tw13710816556151867651:True:=⟨⟩
theorem tw9942090522474785533:True:=⟨⟩
theorem tw2536358463388029483:True:=⟨⟩
theorem tw3707391100083529747:True:=⟨⟩
theorem tw6254705350728929873:True:=⟨⟩
theorem tw16452315426021633289:True:=⟨⟩
theorem tw10285412243940911729:True:=⟨⟩
theorem tw9713727525655165002:True:=⟨⟩
theorem tw17740611234499757531:True:=⟨⟩
theorem tw488676360155822076:True:=⟨⟩
theorem tw5305443080638986313:True:=⟨⟩
theorem tw5294530197226910864:True:=⟨⟩
theorem tw11315785544984026697:True:=⟨⟩
theorem tw4000890024394860123:True:=⟨⟩
theorem tw1936542302044493421:True:=⟨⟩
theorem tw12071180023013256768:True:=⟨⟩
theorem tw11629894582992700870:True:=⟨⟩
theorem tw2625523205201686416:True:=⟨⟩
theorem tw14001932165857697284:True:=⟨⟩
theorem tw6987302605540337199:True:=⟨⟩
theorem tw4992219505243430037:True:=⟨⟩
theorem tw10885384986707080320:True:=⟨⟩
theorem tw9348423568570624154:True:=⟨⟩
theorem tw12515659441494488617:True:=⟨⟩
theorem tw644428634764958817:True:=⟨⟩
theorem tw17422803957730515606:True:=⟨⟩
theorem tw4685979834155298001:True:=⟨⟩
theorem tw5176265551908159571:True:=⟨⟩
theorem tw16117492563080974610:True:=⟨⟩
theorem tw6234654324957292216:True:=⟨⟩
theorem tw10017361831285856655:True:=⟨⟩
theorem tw1948167294269200423:True:=⟨⟩
theorem tw12239903620008592265:True:=⟨⟩
theorem tw16303136731930250248:True:=⟨⟩
theorem tw16367515940614221044:True:=⟨⟩
theorem tw15142101087176409053:True:=⟨⟩
theorem tw2536963228404048140:True:=⟨⟩
theorem tw8030003707637131158:True:=⟨⟩
theorem tw11105733331706098207:True:=⟨⟩
theorem tw17991966705030988427:True:=⟨⟩
theorem tw10923489950975713957:True:=⟨⟩
theorem tw319637509419513974:True:=⟨⟩
theorem tw10010760692223809794:True:=⟨⟩
theorem tw8713624706273606765:True:=⟨⟩
theorem tw17225994448295958127:True:=⟨⟩
theorem tw1285308446174811664:True:=⟨⟩
theorem tw10601437279940333538:True:=⟨⟩
theorem tw6059751492116544528:True:=⟨⟩
theorem tw13973268554062265488:True:=⟨⟩
theorem tw15580617500132182468:True:=⟨⟩
theorem tw7832497902572781644:True:=⟨⟩
theorem tw4138962842992546777:True:=⟨⟩
theorem tw7139088703610862441:True:=⟨⟩
theorem tw5743317263554337098:True:=⟨⟩
theorem tw18275894194623240724:True:=⟨⟩
theorem tw357219089805466234:True:=⟨⟩
theorem tw5474230038551014580:True:=⟨⟩
theorem tw12571792573009708681:True:=⟨⟩
theorem tw3372828141078279035:True:=⟨⟩
theorem tw12527201890985689820:True:=⟨⟩
theorem tw3462538452773369695:True:=⟨⟩
theorem tw14465234842353977529:True:=⟨⟩
theorem tw10399946154093358207:True:=⟨⟩
theorem tw13677540331478827851:True:=⟨⟩
theorem tw8893218369927409981:True:=⟨⟩
theorem tw12602869681118002464:True:=⟨⟩
theorem tw3457220205693225727:True:=⟨⟩
theorem tw3208061021601731327:True:=⟨⟩
theorem tw4554451193372598286:True:=⟨⟩
theorem tw4149433345141015586:True:=⟨⟩
theorem tw5508334746142462590:True:=⟨⟩
theorem tw7498904173094879126:True:=⟨⟩
theorem tw7140945499016162129:True:=⟨⟩
theorem tw8133664545521279722:True:=⟨⟩
theorem tw768466172579006569:True:=⟨⟩
theorem tw1632819655970138040:True:=⟨⟩
theorem tw7763881945670317304:True:=⟨⟩
theorem tw1943447953926330723:True:=⟨⟩
theorem tw8799111029634197402:True:=⟨⟩
theorem tw13336242926454512336:True:=⟨⟩
theorem tw1389252520674998664:True:=⟨⟩
theorem tw7471017628179657186:True:=⟨⟩
theorem tw6736360243585594929:True:=⟨⟩
theorem tw5065476980839737334:True:=⟨⟩
theorem tw6651421579825104482:True:=⟨⟩
theorem tw16333180641015450862:True:=⟨⟩
theorem tw6032509125920944320:True:=⟨⟩
theorem tw9713875529898446966:True:=⟨⟩
theorem tw5371888948972857692:True:=⟨⟩
theorem tw16718706256261224959:True:=⟨⟩
theorem tw5299907446864232208:True:=⟨⟩
theorem tw653010236588338888:True:=⟨⟩
theorem tw12598621829873953066:True:=⟨⟩
theorem tw5747004927089420469:True:=⟨⟩
theorem tw18179276425277091095:True:=⟨⟩
theorem tw15068246429597126075:True:=⟨⟩
theorem tw10196715542391694852:True:=⟨⟩
theorem tw9333909064730591157:True:=⟨⟩
theorem tw6817482529379353801:True:=⟨⟩
theorem tw1763607425216489337:True:=⟨⟩
theorem tw6204039160816059260:True:=⟨⟩
theorem tw17390119634739456807:True:=⟨⟩
theorem tw8307994374545379711:True:=⟨⟩
theorem tw1486432440182118500:True:=⟨⟩
theorem tw11285369296185379910:True:=⟨⟩
theorem tw14419356107398881194:True:=⟨⟩
theorem tw10821259146769073306:True:=⟨⟩
theorem tw2757138811509016712:True:=⟨⟩
theorem tw11208029561479485704:True:=⟨⟩
theorem tw5032542384410012197:True:=⟨⟩
theorem tw17682283419261471911:True:=⟨⟩
theorem tw2309177121289430682:True:=⟨⟩
theorem tw8192856164997694072:True:=⟨⟩
theorem tw11514390771739430453:True:=⟨⟩
theorem tw6712845176126770194:True:=⟨⟩
theorem tw17918495266078558369:True:=⟨⟩
theorem tw1678028554348823385:True:=⟨⟩
theorem tw12445419927505723564:True:=⟨⟩
theorem tw12820936263011195607:True:=⟨⟩
theorem tw6909321641495873385:True:=⟨⟩
theorem tw3030341853210880143:True:=⟨⟩
theorem tw9758714372393097131:True:=⟨⟩
theorem tw11851712926593064927:True:=⟨⟩
theorem tw7902614885183951265:True:=⟨⟩
theorem tw14037340341825701241:True:=⟨⟩
theorem tw4106409960703558793:True:=⟨⟩
theorem tw12915115964869450298:True:=⟨⟩
theorem tw10800561753103604387:True:=⟨⟩
theorem tw4964117787255692217:True:=⟨⟩
theorem tw5910705346981202427:True:=⟨⟩
theorem tw11881797711468118645:True:=⟨⟩
theorem tw10285443462019143275:True:=⟨⟩
theorem tw12056652846670911789:True:=⟨⟩
theorem tw4673122713558055438:True:=⟨⟩
theorem tw10128434646238568135:True:=⟨⟩
theorem tw500679685491043838:True:=⟨⟩
theorem tw14144299721906804320:True:=⟨⟩
theorem tw14682480975875708426:True:=⟨⟩
theorem tw8577275129937689901:True:=⟨⟩
theorem tw4524077827249522069:True:=⟨⟩
theorem tw8748835316914947722:True:=⟨⟩
theorem tw9625375003206166929:True:=⟨⟩
theorem tw3283164923247866665:True:=⟨⟩
theorem tw16442232319455860677:True:=⟨⟩
theorem tw16758887907896797186:True:=⟨⟩
theorem tw17978316866044500056:True:=⟨⟩
theorem tw7039250073699845426:True:=⟨⟩
theorem tw5250304414332679856:True:=⟨⟩
theorem tw15524427701689252596:True:=⟨⟩
theorem tw1612386719158981836:True:=⟨⟩
theorem tw4756648395807474086:True:=⟨⟩
theorem tw1673661835376443317:True:=⟨⟩
theorem tw6655005580666694410:True:=⟨⟩
theorem tw8040894677231339366:True:=⟨⟩
theorem tw16265773815938673833:True:=⟨⟩
theorem tw14166705319598441155:True:=⟨⟩
theorem tw3898443968549547828:True:=⟨⟩
theorem tw4824956479621277146:True:=⟨⟩
theorem tw13785544186161065252:True:=⟨⟩
theorem tw14175090020928723687:True:=⟨⟩
theorem tw13405155318513449001:True:=⟨⟩
theorem tw16908658062917888646:True:=⟨⟩
theorem tw3249981258820961193:True:=⟨⟩
theorem tw15385171303037004321:True:=⟨⟩
theorem tw8486115053059084840:True:=⟨⟩
theorem tw3881115245019849933:True:=⟨⟩
theorem tw11180557738844329085:True:=⟨⟩
theorem tw18192695174895577820:True:=⟨⟩
theorem tw601652401929644808:True:=⟨⟩
theorem tw11850404211676699248:True:=⟨⟩
theorem tw1767179054156432226:True:=⟨⟩
theorem tw5431167027870776132:True:=⟨⟩
theorem tw3969949005070110096:True:=⟨⟩
theorem tw7764533707144335226:True:=⟨⟩
theorem tw9247106573489653326:True:=⟨⟩
theorem tw16321460767750857383:True:=⟨⟩
theorem tw16808814465866546185:True:=⟨⟩
theorem tw684667614353477170:True:=⟨⟩
theorem tw1772275836556011042:True:=⟨⟩
theorem tw5475794640460387624:True:=⟨⟩
theorem tw16226607671523367044:True:=⟨⟩
theorem tw11533866877049474131:True:=⟨⟩
theorem tw6614084375020867392:True:=⟨⟩
theorem tw16228623051225227258:True:=⟨⟩
theorem tw15382226812218984053:True:=⟨⟩
theorem tw12371730697358746494:True:=⟨⟩
theorem tw15308847159587452714:True:=⟨⟩
theorem tw13983245613354301182:True:=⟨⟩
theorem tw11270812654819072767:True:=⟨⟩
theorem tw12830111032038664526:True:=⟨⟩
theorem tw15501226591026542932:True:=⟨⟩
theorem tw11685450502239673390:True:=⟨⟩
theorem tw3448311329452626271:True:=⟨⟩
theorem tw5790396327772123399:True:=⟨⟩
theorem tw14953109345112849151:True:=⟨⟩
theorem tw1914966178497169297:True:=⟨⟩
theorem tw1773791806813242897:True:=⟨⟩
theorem tw13363156209216167616:True:=⟨⟩
theorem tw14991693082202250838:True:=⟨⟩
theorem tw18090068716924098474:True:=⟨⟩
theorem tw3502582025890240415:True:=⟨⟩
theorem tw229667612947473935:True:=⟨⟩
theorem tw10068366017975144760:True:=⟨⟩
theorem tw12302934636782764374:True:=⟨⟩
theorem tw1877495953507798777:True:=⟨⟩
theorem tw16194317601769319049:True:=⟨⟩
theorem tw16145938735453039606:True:=⟨⟩
theorem tw7523533392378836770:True:=⟨⟩
theorem tw9779053329768146483:True:=⟨⟩
theorem tw17197227406214951823:True:=⟨⟩
theorem tw16844087018928038062:True:=⟨⟩
theorem tw12268977775733272655:True:=⟨⟩
theorem tw1194778557725255044:True:=⟨⟩
theorem tw1919146799358792109:True:=⟨⟩
theorem tw14036114153379209037:True:=⟨⟩
theorem tw5371059610055513582:True:=⟨⟩
theorem tw6364736183920254788:True:=⟨⟩
theorem tw4441498103289283036:True:=⟨⟩
theorem tw4315205826088378133:True:=⟨⟩
theorem tw12077426125481915157:True:=⟨⟩
end PySem.W.Fast
set_option maxRecDepth 100000 in
set_option maxHeartbeats 0 in
theorem PySem.Challenge.cw_overwise_k76_whole_division_by_rows_holds : PySem.Challenge.rw_overwise_k76_whole_division_by_rows.Holds := by
 w_on; o_law; k_head; (case hw=>w_witness2)
 k_fill
 refine Ow.walk (l:=PySem.Challenge.rw_overwise_k76_whole_division_by_rows) rfl rfl (fun w h Y=>PySem.W.kIn_of Y) ?F
 case F =>
  intro w mg fa h KX G hmg
  refine' Ow.all_mk KX G hmg ?_ ?_ ?_ ?_ ?_ ?_ ?_ ?_ ?_ ?_ ?_ ?_ ?_ ?_ ?_ ?_ ?_ ?_ ?_ ?_ ?_ ?_ ?_ ?_ ?_ ?_ ?_ ?_ ?_ ?_ ?_ ?_ ?_ ?_ ?_ ?_ ?_ ?_ ?_ ?_ ?_ ?_ ?_ ?_ ?_ ?_ ?_ ?_ ?_ ?_ ?_ ?_ ?_ ?_ ?_ ?_ ?_ ?_ ?_ ?_ ?_ ?_ ?_ ?_ ?_ ?_ ?_ ?_ ?_ ?_ ?_ ?_ ?_ ?_ ?_ ?_ ?_ ?_ ?_ ?_ ?_ ?_ ?_ ?_ ?_ ?_ ?_ ?_ ?_ ?_ ?_ ?_ ?_ ?_ ?_ ?_ ?_ ?_ ?_ ?_ ?_ ?_ ?_ ?_ ?_ ?_ ?_ ?_ ?_ ?_ ?_ ?_ ?_ ?_ ?_ ?_ ?_ ?_ ?_ ?_ ?_ ?_ ?_ ?_ ?_ ?_ ?_ ?_ ?_ ?_ ?_ ?_ ?_ ?_ ?_ ?_ ?_ ?_ ?_ ?_ ?_ ?_ ?_ ?_ ?_ ?_ ?_ ?_ ?_ ?_ ?_ ?_ ?_ ?_ ?_ ?_ ?_ ?_ ?_ ?_ ?_ ?_ ?_ ?_ ?_ ?_ ?_ ?_ ?_ ?_ ?_ ?_ ?_ ?_ ?_ ?_ ?_ ?_ ?_ ?_ ?_ ?_ ?_ ?_ ?_ ?_ ?_ ?_ ?_ ?_ ?_ ?_ ?_ ?_ ?_ ?_ ?_ ?_ ?_ ?_ ?_ ?_ ?_ ?_ ?_ ?_ ?_ ?_ ?_ ?_ ?_ ?_ ?_ ?_ ?_ ?_ ?_ ?_ ?_ ?_ ?_ ?_ ?_ ?_ ?_ ?_ ?_ ?_ ?_ ?_ ?_ ?_ ?_ ?_ ?_ ?_ ?_ ?_ ?_ ?_ ?_ ?_ ?_ ?_ ?_ ?_ ?_ ?_ ?_ ?_ ?_ ?_ ?_ ?_ ?_ ?_ ?_ ?_ ?_ ?_ ?_ ?_ ?_ ?_ ?_ ?_ ?_ ?_ ?_ ?_ ?_ ?_ ?_ ?_ ?_ ?_ ?_ ?_ ?_ ?_ ?_ ?_ ?_ ?_ ?_ ?_ ?_ ?_ ?_ ?_ ?_ ?_ ?_ ?_ ?_ ?_ ?_ ?_ ?_ ?_ ?_ ?_ ?_ ?_ ?_ ?_ ?_ ?_ ?_ ?_ ?_ ?_ ?_ ?_ ?_ ?_ ?_ ?_ ?_ ?_ ?_ ?_ ?_ ?_ ?_ ?_ ?_ ?_ ?_ ?_ ?_ ?_ ?_ ?_ ?_ ?_ ?_ ?_ ?_ ?_ ?_ ?_ ?_ ?_ ?_ ?_ ?_ ?_ ?_ ?_ ?_ ?_ ?_ ?_ ?_ ?_ ?_ ?_ ?_ ?_ ?_ ?_ ?_ ?_ ?_ ?_ ?_ ?_ ?_ ?_ ?_ ?_ ?_ ?_ ?_ ?_ ?_ ?_ ?_ ?_ ?_ ?_ ?_ ?_ ?_ ?_ ?_ ?_ ?_ ?_ ?_ ?_ ?_ ?_ ?_ ?_ ?_ ?_ ?_ ?_ ?_ ?_ ?_ ?_ ?_ ?_ ?_ ?_ ?_ ?_ ?_ ?_ ?_ ?_ ?_ ?_ ?_ ?_ ?_ ?_ ?_ ?_ ?_ ?_ ?_ ?_ ?_ ?_ ?_ ?_ ?_ ?_ ?_ ?_ ?_ ?_ ?_ ?_ ?_ ?_ ?_ ?_ ?_ ?_ ?_ ?_ ?_ ?_ ?_ ?_ ?_ ?_ ?_ ?_ ?_ ?_ ?_ ?_ ?_ ?_ ?_ ?_ ?_ ?_ ?_ ?_ ?_ ?_ ?_ ?_ ?_ ?_ ?_ ?_ ?_ ?_ ?_ ?_ ?_ ?_ ?_ ?_ ?_ ?_ ?_ ?_ ?_ ?_ ?_ ?_ ?_ ?_ ?_ ?_ ?_ ?_ ?_ ?_ ?_ ?_ ?_ ?_ ?_ ?_ ?_ ?_ ?_ ?_ ?_ ?_ ?_ ?_ ?_ ?_ ?_ ?_ ?_ ?_ ?_ ?_ ?_ ?_ ?_ ?_ ?_ ?_ ?_ ?_ ?_ ?_ ?_ ?_ ?_ ?_
  any_goals first | (apply Ow.FB.of <;> k_is) | k_is | rfl | decide
  any_goals first | (apply Ow.FB.of <;> k_is) | k_is | rfl | decide
