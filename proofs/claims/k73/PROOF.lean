import PyProof.Rows.All
import Wide.All
import OpenK.AllK
import Wide.FinOn
import Lean
import PyProof.EqAt
import PyProof.EqKinds
import PyProof.TupleCall
import KE.BitLaws
import KE.IntBitsLaws
import KE.KIntText
import PySem.Challenge.RW_overwise_k73_whole_turns_marks_and_cost
set_option Elab.async false
set_option linter.all false
set_option maxRecDepth 100000
open PySem.W (findIn keepIn Frag fnOf codeIn mg_of nsIn isFn kitOne mroIn hasDictIn plainGet plainOver makesIn typeIn mg_none_of isClsIn instObj exmOne)
namespace L2
open PySem PySem.Spec PyProof.Rows
abbrev Key:=Sum Int Str
def qF:Key->Value->Bool
 | .inl k,v=>Value.isInt k v
 | .inr x,v=>Value.isStrOf x v
def keyH (w:World):Key->Int
 | .inl k=>hashInt k
 | .inr x=>hashStr w x
theorem bj:∀ {k:Key} {v:Value},qF k v = true->(∃ i t,k = Sum.inl i/\v = Value.int i t)\/(∃ x t,k = Sum.inr x/\v = Value.str x t)
 | .inl i,v,h=>by
  obtain ⟨t,e⟩:=Value.isInt_shape (k:=i) (v:=v) h
  exact .inl ⟨i,t,rfl,e⟩
 | .inr x,v,h=>by
  obtain ⟨t,e⟩:=Value.isStrOf_shape (x:=x) (v:=v) h
  exact .inr ⟨x,t,rfl,e⟩
theorem tj (i:Int) (t:Tok):qF (.inl i) (.int i t) = true:=by simp [qF,Value.isInt]
theorem tP (x:Str) (t:Tok):qF (.inr x) (.str x t) = true:=by simp [qF,Value.isStrOf]
theorem key_ll (a b:Int):decide ((Sum.inl a:Key) = Sum.inl b) = (a == b):=by
 by_cases e:a = b
 ·subst e; simp
 ·have h:¬ (Sum.inl a:Key) = Sum.inl b:=fun q=>e (Sum.inl.inj q)
  rw [decide_eq_false h]
  exact (beq_eq_false_iff_ne.mpr e).symm
theorem key_rr (a b:Str):decide ((Sum.inr a:Key) = Sum.inr b) = decide (a = b):=by
 by_cases e:a = b
 ·subst e; simp
 ·have h:¬ (Sum.inr a:Key) = Sum.inr b:=fun q=>e (Sum.inr.inj q)
  rw [decide_eq_false h,decide_eq_false e]
theorem key_lr (a:Int) (b:Str):decide ((Sum.inl a:Key) = Sum.inr b) = false:=decide_eq_false (fun q=>nomatch q)
theorem key_rl (a:Str) (b:Int):decide ((Sum.inr a:Key) = Sum.inl b) = false:=decide_eq_false (fun q=>nomatch q)
def aM (prog:Program) (w:World):PySem.KeyKind prog w Key where
 is:=qF
 hash:=keyH w
 inj:=fun v a b ha hb=>by
  rcases bj ha with ⟨i,t,rfl,rfl⟩ | ⟨x,t,rfl,rfl⟩
  ·rcases bj hb with ⟨j,u,rfl,e⟩ | ⟨y,u,rfl,e⟩
   ·injection e with e1 _; rw [e1]
   ·exact nomatch e
  ·rcases bj hb with ⟨j,u,rfl,e⟩ | ⟨y,u,rfl,e⟩
   ·exact nomatch e
   ·injection e with e1 _; rw [e1]
 byValue:=fun k v h=>by
  rcases bj h with ⟨i,t,rfl,rfl⟩ | ⟨x,t,rfl,rfl⟩ <;> rfl
 pyHash:=fun hv h=>by
  rcases bj hv with ⟨i,t,rfl,rfl⟩ | ⟨x,t,rfl,rfl⟩
  ·exact wpAny_pyHash_int h
  ·exact wpAny_pyHash_str h
 eqBool:=fun hu hv h=>by
  rcases bj hu with ⟨i,t,rfl,rfl⟩ | ⟨x,t,rfl,rfl⟩
  ·rcases bj hv with ⟨j,u,rfl,rfl⟩ | ⟨y,u,rfl,rfl⟩
   ·rw [key_ll] at h; exact wpAny_eqBool_int h
   ·rw [key_lr] at h; exact SeqAt.EqAt.int_str i t y u _ _ _ _ h
  ·rcases bj hv with ⟨j,u,rfl,rfl⟩ | ⟨y,u,rfl,rfl⟩
   ·rw [key_rl] at h; exact SeqAt.EqAt.str_int x t j u _ _ _ _ h
   ·rw [key_rr] at h; exact wpAny_eqBool_str h
 «strs»:=fun k x t v h=>by
  rcases bj h with ⟨i,u,rfl,e⟩ | ⟨y,u,rfl,e⟩
  ·exact nomatch e
  ·injection e with e1 _
   subst e1
   cases v <;> rfl
theorem pc (prog:Program) (w:World) (i:Int) (t:Tok):(aM prog w).is (.inl i) (.int i t) = true:=tj i t
theorem oY (prog:Program) (w:World) (x:Str) (t:Tok):(aM prog w).is (.inr x) (.str x t) = true:=tP x t
end L2
namespace L2
open PySem PySem.Spec PyProof.Rows
inductive V where
 | non | bl (b:Bool) | int (i:Int) | str (x:Str) | byt (b:Array UInt8) | flt (b:UInt64) | ref (a:Addr) | ty (n:String)
 deriving DecidableEq
def RelV:V->Value->Prop
 | .non,u=>u = Value.none
 | .bl b,u=>u = Value.bool b
 | .int i,u=>∃ t,u = Value.int i t
 | .str x,u=>∃ t,u = Value.str x t
 | .byt b,u=>∃ t,u = Value.bytes b t
 | .flt b,u=>∃ t,u = Value.float b t
 | .ref a,u=>u = Value.ref a
 | .ty n,u=>u = Value.type n
abbrev Vals:List V->List Value->Prop:=Paired RelV
theorem Vals.length {xs:List V} {us:List Value} (r:Vals xs us):xs.length = us.length:=Paired.length r
theorem Vals.get:∀ {xs:List V} {us:List Value} {i:Nat} {x:V},Vals xs us->xs[i]? = some x->∃ u,us[i]? = some u/\RelV x u
 | _,_,_,_,.nil,e=>by simp at e
 | _,_,0,_,.cons r _,e=>by simp at e; subst e; exact ⟨_,rfl,r⟩
 | _,_,i + 1,x,.cons _ t,e=>by
  obtain ⟨u,h1,h2⟩:=Vals.get (i:=i) (x:=x) t (by simpa using e)
  exact ⟨u,by simpa using h1,h2⟩
theorem Vals.set {x:V} {u:Value} (r:RelV x u):∀ {xs:List V} {us:List Value} (i:Nat),Vals xs us->Vals (xs.set i x) (us.set i u)
 | _,_,_,.nil=>.nil
 | _,_,0,.cons _ t=>.cons r t
 | _,_,i + 1,.cons q t=>.cons q (Vals.set r i t)
theorem Vals.append:∀ {xs ys:List V} {us ws:List Value},Vals xs us->Vals ys ws->Vals (xs ++ ys) (us ++ ws)
 | _,_,_,_,.nil,s=>s
 | _,_,_,_,.cons r t,s=>.cons r (Vals.append t s)
def RelO:Option V->Option Value->Prop
 | some v,some u=>RelV v u
 | none,none=>True
 | _,_=>False
def KV {κ:Type}:List (κ × V)->List (κ × Value)->Prop:=Paired fun (p:κ × V) (q:κ × Value)=>p.1 = q.1/\RelV p.2 q.2
def kV:Key->V
 | .inl i=>.int i
 | .inr x=>.str x
inductive HO where
 /-- a list -/
 | lst (xs:List V)
 /-- a tuple (never changes) -/
 | tup (xs:List V)
 /-- a dict whose keys are ints and texts; one whose keys are tuples of ints and texts (the empty one is both) -/
 | dK (kvs:List (Key × V)) | dT (kvs:List (List Key × V))
 /-- a set of ints: its members,its size -/
 | set (S:Int->Bool) (n:Nat)
 /-- an instance of the class at C,its dict at dx,its attributes -/
 | ins (C dx:Addr) (fs:List (Str × V))
 /-- the dict of the instance at x -/
 | own (x:Addr)
 /-- the dict of an exception -/
 | xd (fs:List (Str × V))
 /-- a bound method,f of x -/
 | met (f x:Addr)
 /-- a range object lo,lo + 1,.. below hi -/
 | rng (lo hi:Int)
 /-- a thing that is known to the object (the script; a dict while a loop walks it): read,never written while it is so -/
 | frz (o:Obj) (u:HO)
 /-- a code object's table -/
 | tbl (ps:Array Value)
 /-- any other thing,by what is true of its one object (a def of one's own: SetO a S n:=HO.ext fun h=>..) -/
 | ext (φ:Heap->Prop)
abbrev Hp:=Addr->Option HO
def upd (H:Hp) (a:Addr) (o:HO):Hp:=fun b=>if b = a then some o else H b
theorem af {H:Hp} {a:Addr} {o:HO}:upd H a o a = some o:=by unfold upd; rw [if_pos rfl]
theorem am {H:Hp} {a b:Addr} {o:HO} (h:b ≠ a):upd H a o b = H b:=by unfold upd; rw [if_neg h]
theorem ne_of {H:Hp} {a b:Addr} {o u:HO} (h:H a = some o) (h':H b = some u) (d:o ≠ u):a ≠ b:=by
 intro e; subst e; rw [h] at h'; exact d (Option.some.inj h')
theorem aw {H:Hp} {a b:Addr} {o:HO} (h:H a = some o) (h':H b = none):a ≠ b:=by
 intro e; subst e; rw [h] at h'; cases h'
section
variable (P:Program) (w:World)
def ObjOk (H:Hp) (h:Heap) (a:Addr):HO->Prop
 | .lst xs=>xs.length<=sizeLine/\∃ (its:List Value) (n:Nat),Vals xs its/\h.get? a = some { cls:=.type "list",data:=.seq its.toArray n }
 | .tup xs=>xs.length<=sizeLine/\∃ its:List Value,Vals xs its/\IsTup h a its.toArray
 | .dK kvs=>kvs.length<=sizeLine/\(a == sysModules) = false/\∃ vs,KV kvs vs/\h.DictOf (aM P w) a vs
 | .dT kvs=>kvs.length<=sizeLine/\(a == sysModules) = false/\∃ xs:List (List Key × Addr × Value),
   Paired (fun (p:List Key × V) (q:List Key × Addr × Value)=>p.1 = q.1/\H q.2.1 = some (.tup (p.1.map kV))/\RelV p.2 q.2.2) kvs xs /\
   ∃ o es ep,h.get? a = some o/\o.ExactDict/\o.data = .dict es ep/\es.toList = xs.map (entryOfKey (tupleKind (aM P w)))/\(xs.map (·.1)).Nodup
 | .set S n=>h.SetOf (intKind P w) a S n
 | .ins C dx fs=>H dx = some (.own a)/\fs.length<=1000/\dx ≠ a/\h.get? a = some (instObj C dx) /\
   ∃ mA,h.Ns1 dx mA/\(∀ f,RelO (fs.lookup f) (mA f))/\PySem.Within mA (fs.map (·.1))
 | .own _=>∃ o,h.get? a = some o
 | .xd fs=>∃ mA,h.Ns1 a mA/\∀ f,RelO (fs.lookup f) (mA f)
 | .rng lo hi=>∃ t u v,h.get? a = some { cls:=.type "range",data:=.fields #[.int lo t,.int hi u,.int 1 v] }
 | .frz o u=>h.get? a = some o/\ObjOk H h a u
 | .tbl ps=>h.get? a = some { cls:=.none,data:=.fields ps }
 | .met f x=>h.get? a = some (PySem.W.methodObj (.ref f) (.ref x))
 | .ext φ=>φ h/\(∃ o,h.get? a = some o)/\∀ h1 h2:Heap,φ h1->(∀ o,h1.get? a = some o->h2.get? a = some o)->φ h2
def HOk (H:Hp) (h:Heap):Prop:=∀ a o,H a = some o->ObjOk P w H h a o
end
section
variable {P:Program} {w:World} {H H':Hp} {h h':Heap} {a:Addr} {o:HO}
theorem ObjOk.lt (x:ObjOk P w H h a o):a < h.objs.size:=by
 cases o with
 | lst xs=>obtain ⟨_,_,_,_,e⟩:=x; exact Heap.lt_size e
 | tup xs=>obtain ⟨_,_,_,p⟩:=x; exact p.lt
 | dK kvs=>obtain ⟨_,_,_,_,o,_,_,e,_⟩:=x; exact Heap.lt_size e
 | dT kvs=>obtain ⟨_,_,_,_,o,_,_,e,_⟩:=x; exact Heap.lt_size e
 | set S n=>obtain ⟨o,_,_,_,e,_⟩:=x; exact Heap.lt_size e
 | ins C dx fs=>obtain ⟨_,_,_,e,_⟩:=x; exact Heap.lt_size e
 | own y=>obtain ⟨_,e⟩:=x; exact Heap.lt_size e
 | xd fs=>obtain ⟨_,⟨_,_,_,e,_⟩,_⟩:=x; exact Heap.lt_size e
 | rng lo hi=>obtain ⟨_,_,_,e⟩:=x; exact Heap.lt_size e
 | frz ob u=>obtain ⟨e,_⟩:=x; exact Heap.lt_size e
 | tbl ps=>exact Heap.lt_size (show h.get? a = some _ from x)
 | met f y=>exact Heap.lt_size (show h.get? a = some _ from x)
 | ext φ=>obtain ⟨_,⟨_,e⟩,_⟩:=x; exact Heap.lt_size e
theorem Paired.mapP {α β:Type} {F G:α->β->Prop}:∀ {l₁:List α} {l₂:List β},Paired F l₁ l₂->(∀ a b,F a b->G a b)->Paired G l₁ l₂
 | _,_,.nil,_=>.nil
 | _,_,.cons r t,f=>.cons (f _ _ r) (Paired.mapP t f)
theorem ObjOk.stay (x:ObjOk P w H h a o) (k:∀ b u,(b = a\/H b = some (.own a))->h.get? b = some u->h'.get? b = some u)
  (ho:∀ b,H b = some (.own a)->H' b = some (.own a)) (ht:∀ b xs,H b = some (.tup xs)->H' b = some (.tup xs)):ObjOk P w H' h' a o:=by
 induction o with
 | lst xs=>obtain ⟨z,its,n,r,e⟩:=x; exact ⟨z,its,n,r,k _ _ (.inl rfl) e⟩
 | tup xs=>obtain ⟨z,its,r,ob,e,c⟩:=x; exact ⟨z,its,r,ob,k _ _ (.inl rfl) e,c⟩
 | dK kvs=>obtain ⟨z,y,vs,r,ob,es,ep,e,c⟩:=x; exact ⟨z,y,vs,r,ob,es,ep,k _ _ (.inl rfl) e,c⟩
 | dT kvs =>
  obtain ⟨z,y,xs,r,ob,es,ep,e,c⟩:=x
  exact ⟨z,y,xs,Paired.mapP r fun p q z=>⟨z.1,ht _ _ z.2.1,z.2.2⟩,ob,es,ep,k _ _ (.inl rfl) e,c⟩
 | set S n=>obtain ⟨ob,es,ep,t,e,c⟩:=x; exact ⟨ob,es,ep,t,k _ _ (.inl rfl) e,c⟩
 | ins C dx fs =>
  obtain ⟨d,z,ne,e,mA,⟨od,es,ep,e2,c⟩,r⟩:=x
  exact ⟨ho _ d,z,ne,k _ _ (.inl rfl) e,mA,⟨od,es,ep,k _ _ (.inr d) e2,c⟩,r⟩
 | own y=>obtain ⟨ob,e⟩:=x; exact ⟨ob,k _ _ (.inl rfl) e⟩
 | xd fs=>obtain ⟨mA,⟨od,es,ep,e,c⟩,r⟩:=x; exact ⟨mA,⟨od,es,ep,k _ _ (.inl rfl) e,c⟩,r⟩
 | rng lo hi=>obtain ⟨t,u,v,e⟩:=x; exact ⟨t,u,v,k _ _ (.inl rfl) e⟩
 | frz ob u ih=>obtain ⟨e,q⟩:=x; exact ⟨k _ _ (.inl rfl) e,ih q⟩
 | tbl ps =>
  have e:h.get? a = some { cls:=.none,data:=.fields ps }:=x
  show h'.get? a = some { cls:=.none,data:=.fields ps }
  exact k a _ (.inl rfl) e
 | met f y =>
  have e:h.get? a = some (PySem.W.methodObj (.ref f) (.ref y)):=x
  show h'.get? a = some (PySem.W.methodObj (.ref f) (.ref y))
  exact k a _ (.inl rfl) e
 | ext φ=>obtain ⟨p,⟨o,e⟩,st⟩:=x; exact ⟨st _ _ p fun o q=>k _ _ (.inl rfl) q,⟨o,k _ _ (.inl rfl) e⟩,st⟩
theorem HOk.lt (x:HOk P w H h) (e:H a = some o):a < h.objs.size:=(x a o e).lt
theorem HOk.fresh (x:HOk P w H h) (e:h.objs.size<=a):H a = none:=by
 cases q:H a with
 | none=>rfl
 | some u=>exact absurd (Nat.lt_of_lt_of_le (x.lt q) e) (Nat.lt_irrefl _)
theorem HOk.kept (x:HOk P w H h) (k:∀ b u,h.get? b = some u->h'.get? b = some u):HOk P w H h':=fun a o e =>
 (x a o e).stay (fun b u _ q=>k b u q) (fun _ q=>q) fun _ _ q=>q
theorem HOk.laid (x:HOk P w H h) (k:∀ b u,h.get? b = some u->h'.get? b = some u) (hp:h.objs.size<=a) (new:ObjOk P w (upd H a o) h' a o):HOk P w (upd H a o) h':=fun b u e=>by
 have hn:=x.fresh hp
 by_cases hb:b = a
 ·subst hb; rw [af] at e; cases e; exact new
 ·rw [am hb] at e
  exact (x b u e).stay (fun c v _ q=>k c v q) (fun c q=>by rw [am (aw q hn)]; exact q) fun c xs q=>by rw [am (aw q hn)]; exact q
end
def Rd (H:Hp) (a:Addr) (u:HO):Prop:=H a = some u\/∃ o,H a = some (.frz o u)
theorem Rd.ok {P:Program} {w:World} {H:Hp} {h:Heap} {a:Addr} {u:HO} (r:Rd H a u) (x:HOk P w H h):ObjOk P w H h a u:=by
 rcases r with r | ⟨o,r⟩
 ·exact x a u r
 ·obtain ⟨_,q⟩:=x a _ r
  exact q
def Mut:Option HO->Prop
 | some (.lst _)=>True
 | some (.dK _)=>True
 | some (.dT _)=>True
 | some (.set _ _)=>True
 | some (.ins _ _ _)=>True
 | some (.ext _)=>True
 | _=>False
section
variable {P:Program} {w:World} {H:Hp} {h h':Heap} {x e:Addr} {o':HO}
theorem HOk.write (ok:HOk P w H h) (mu:Mut (H x)) (he:e = x\/H e = some (.own x)) (k:∀ b u,b ≠ e->h.get? b = some u->h'.get? b = some u) (heo:∃ u,h'.get? e = some u)
  (new:ObjOk P w (upd H x o') h' x o'):HOk P w (upd H x o') h':=fun b u q=>by
 have nown:∀ c y,H c = some (.own y)->c ≠ x:=fun c y r z=>by subst z; rw [r] at mu; exact mu
 have ntup:∀ c xs,H c = some (.tup xs)->c ≠ x:=fun c xs r z=>by subst z; rw [r] at mu; exact mu
 by_cases hb:b = x
 ·subst hb; rw [af] at q; cases q; exact new
 ·rw [am hb] at q
  by_cases hbe:b = e
  ·have q':H b = some (.own x):=by
    rcases he with z | z
    ·exact absurd (hbe.trans z) hb
    ·rw [hbe]; exact z
   rw [q] at q'; cases q'
   obtain ⟨v,hv⟩:=heo
   exact ⟨v,by rw [hbe]; exact hv⟩
  ·refine (ok b u q).stay (fun c v hc r=>k c v ?_ r) (fun c r=>by rw [am (nown c b r)]; exact r) fun c xs r=>by rw [am (ntup c xs r)]; exact r
   rcases hc with rfl | hc
   ·exact hbe
   ·rintro rfl
    rcases he with z | z
    ·exact nown c b hc z
    ·rw [hc] at z; cases z; exact hb rfl
end
structure Un (fs ex:List Addr) (H H':Hp) (h h':Heap):Prop where
 keep:∀ b o,h.get? b = some o->H b = none->b ∉ fs->b ∉ ex->h'.get? b = some o
 slot:∀ b o,h.get? b = some o->H b = none->b ∈ fs->b ∉ ex->∃ sl,h'.get? b = some { o with slots:=sl }
 free:∀ b o,h.get? b = some o->H b = none->b ∉ ex->H' b = none
 there:∀ b o,h.get? b = some o->b ∉ ex->∃ o',h'.get? b = some o'
 tups:∀ b xs,H b = some (.tup xs)->H' b = some (.tup xs)
 frzs:∀ b o u,H b = some (.frz o u)->H' b = some (.frz o u)
 tbls:∀ b ps,H b = some (.tbl ps)->∃ more,H' b = some (.tbl (ps ++ more))
section
variable {fs fs' ex ex':List Addr} {H H1 H2:Hp} {h h1 h2 h':Heap} {a x e:Addr} {o:HO}
theorem Un.any (u:Un fs ex H H1 h h1) {b:Addr} {ob:Obj} (q:h.get? b = some ob) (n:H b = none) (hx:b ∉ ex):∃ sl,h1.get? b = some { ob with slots:=sl }:=by
 by_cases hb:b ∈ fs
 ·exact u.slot b ob q n hb hx
 ·exact ⟨ob.slots,u.keep b ob q n hb hx⟩
theorem Un.kept (k:∀ b u,h.get? b = some u->h'.get? b = some u):Un fs ex H H h h' :=
 ⟨fun b ob q _ _ _=>k b ob q,fun b ob q _ _ _=>⟨ob.slots,k b ob q⟩,fun _ _ _ n _=>n,fun b ob q _=>⟨ob,k b ob q⟩,fun _ _ q=>q,fun _ _ _ q=>q,fun _ ps q=>⟨#[],by rw [q]; simp⟩⟩
theorem Un.refl:Un fs ex H H h h:=Un.kept fun _ _ q=>q
theorem Un.laid (k:∀ b u,h.get? b = some u->h'.get? b = some u) (hp:h.objs.size<=a) (hn:H a = none):Un fs ex H (upd H a o) h h' where
 keep:=fun b u q _ _ _=>k b u q
 slot:=fun b u q _ _ _=>⟨u.slots,k b u q⟩
 free:=fun b u q n _=>by rw [am (Nat.ne_of_lt (Nat.lt_of_lt_of_le (Heap.lt_size q) hp))]; exact n
 there:=fun b u q _=>⟨u,k b u q⟩
 tups:=fun b xs q=>by rw [am (aw q hn)]; exact q
 frzs:=fun b u xs q=>by rw [am (aw q hn)]; exact q
 tbls:=fun b ps q=>⟨#[],by rw [am (aw q hn),q]; simp⟩
theorem Un.write (mu:Mut (H x)) (he:e = x\/H e = some (.own x)) (k:∀ b u,b ≠ e->h.get? b = some u->h'.get? b = some u) (heo:∃ u,h'.get? e = some u):Un fs ex H (upd H x o) h h':=by
 have hx:∀ b,H b = none->b ≠ x:=fun b n z=>by subst z; rw [n] at mu; exact mu
 have hb:∀ b,H b = none->b ≠ e:=fun b n z=>by
  subst z
  rcases he with r | r
  ·exact hx b n r
  ·rw [n] at r; cases r
 have hm:∀ b u,H b = some u->¬ Mut (some u)->b ≠ x:=fun b u q nm z=>by subst z; rw [q] at mu; exact nm mu
 refine ⟨fun b u q n _ _=>k b u (hb b n) q,fun b u q n _ _=>⟨u.slots,k b u (hb b n) q⟩,fun b u q n _=>by rw [am (hx b n)]; exact n,fun b u q _=>?_,
  fun b xs q=>by rw [am (hm b _ q fun z=>z)]; exact q,fun b u xs q=>by rw [am (hm b _ q fun z=>z)]; exact q,fun b ps q=>⟨#[],by rw [am (hm b _ q fun z=>z),q]; simp⟩⟩
 by_cases hbe:b = e
 ·subst hbe; exact heo
 ·exact ⟨u,k b u hbe q⟩
end
def trk (h:Heap) (H:Hp):List Addr:=(List.range h.objs.size).filter fun a=>(H a).isSome
def hidT (h:Heap) (H:Hp):Heap:=PySem.W.hideAll h (trk h H)
theorem tz (h:Heap) (H:Hp):(hidT h H).objs.size = h.objs.size:=PySem.W.hideAll_size _ _
theorem hidT_get {h:Heap} {H:Hp} {b:Addr} {o:Obj} (e:h.get? b = some o) (n:H b = none):(hidT h H).get? b = some o :=
 PySem.W.hideAll_get _ e fun hm=>by
  have q:(H b).isSome = true:=(List.mem_filter.mp hm).2
  rw [n] at q; simp at q
theorem of_hidT {h:Heap} {H:Hp} {b:Addr} {o:Obj} (e:(hidT h H).get? b = some o):h.get? b = some o/\H b = none:=by
 have e':h.get? b = some o:=PySem.W.of_hideAll (trk h H) e
 refine ⟨e',?_⟩
 cases q:H b with
 | none=>rfl
 | some x =>
  have hm:b ∈ trk h H:=List.mem_filter.mpr ⟨List.mem_range.mpr (Heap.lt_size e'),by simp [q]⟩
  have z:(hidT h H).get? b = none:=PySem.W.hideAll_none (trk h H) hm
  rw [z] at e; cases e
end L2
namespace L2
open PySem PySem.Spec PyProof.Rows
structure Mod (K:Frag) (mg:Str->Option Value) (base:Heap):Prop where
 kin:K.In base
 glob:base.Ns mainGlobals mg
 blt:∃ mb,base.Ns builtinsNs mb/\∀ x:Str,x ≠ "__name__"->mb x = bootBuiltins x
 nolimit:base.NoLimit
structure Cx where
 prog:Program
 w:World
 K:Frag
 mg:Str->Option Value
 base:Heap
 A:Around
 N:List Str
 s₀:Shared
 H₀:Hp
 env:Env
 outer:List Env
 stack:List Env
 ex:List Addr
 fn:Str->Bool
 calm:Bool
 pn:List (Addr × Obj)
 xe:Value->Shared->Prop
def frs (l:List Env):List Addr:=l.filterMap (·.frame)
abbrev Cx.fs (X:Cx):List Addr:=frs X.outer
def Vis (sc:Scope) (x:Str):Prop:=sc.names.lookup x = some .local\/sc.names.lookup x = some .cell\/sc.names.lookup x = some .free
def Loc (sc:Scope) (x:Str):Prop:=sc.names.lookup x = some .local\/sc.names.lookup x = some .cell
def Look (env:Env) (h:Heap) (m:Str->Option Value) (x:Str) (u:Value):Prop :=
 (env.kindOf x = some .local/\m x = some u)\/((env.kindOf x = some .cell\/env.kindOf x = some .free)/\∃ c,env.cells.lookup x = some c/\h.IsCell c (some u))
structure Cx.Ok (X:Cx):Prop where
 mod:Mod X.K X.mg X.base
 kind:X.env.scope.kind = .function
 glob:X.env.globals = mainGlobals
 blt:X.env.builtins = builtinsNs
 above:X.s₀.heap.objs.size<=X.env.locals
 inj:∀ x y c,X.env.cells.lookup x = some c->X.env.cells.lookup y = some c->x = y
 has:∀ x,(X.env.kindOf x = some .cell\/X.env.kindOf x = some .free)->∃ c,X.env.cells.lookup x = some c
 cab:∀ x c,X.fn x = true->X.env.cells.lookup x = some c->X.s₀.heap.objs.size<=c
 hd:X.calm = true->X.A.handled = none
 frames:X.A.frames = some X.stack
 stk:X.stack = X.outer\/(X.stack = X.env :: X.outer/\X.env.frame = some X.env.locals)
 exf:∀ b ∈ X.ex,b ≠ X.env.locals/\∀ x c,X.env.cells.lookup x = some c->c ≠ b
 bs:∀ b o,X.base.get? b = some o->X.s₀.heap.get? b = some o/\X.H₀ b = none
 bsz:X.base.objs.size<=X.s₀.heap.objs.size
 noex:∀ b o,X.base.get? b = some o->b ∉ X.ex
 exfs:∀ b ∈ X.ex,b ∉ X.fs
 funs:X.s₀.heap.FunFrames X.base X.outer
 frf:∀ b ∈ X.fs,X.H₀ b = none
structure Inv (X:Cx) (pins:List (Addr × Obj)) (σ:List (Option V)) (H:Hp) (s:Shared):Prop where
 ok:X.Ok
 os:s.os = X.s₀.os
 bare:AllBare s.gens
 base:Un X.fs X.ex X.H₀ H X.s₀.heap s.heap
 loc:∃ m,s.heap.Ns X.env.locals m/\∀ (i:Nat) (x:Str) (v:V),X.N[i]? = some x->σ[i]? = some (some v)->Vis X.env.scope x->∃ u,RelV v u/\Look X.env s.heap m x u
 cell:∀ x c,X.env.cells.lookup x = some c->∃ v,s.heap.IsCell c v
 free:H X.env.locals = none
 freeC:∀ x c,X.env.cells.lookup x = some c->H c = none
 pin:∀ p ∈ X.pn ++ pins,s.heap.get? p.1 = some p.2/\H p.1 = none/\p.1 ≠ X.env.locals/\p.1 ∉ X.fs/\∀ v,p.2.data ≠ .cell v
 hok:HOk X.prog X.w H s.heap
 len:σ.length = X.N.length
section
variable {X:Cx} {pins:List (Addr × Obj)} {σ:List (Option V)} {H H':Hp} {s:Shared} {h':Heap}
theorem Cx.Ok.nofr (ok:X.Ok) {b:Addr} {o:Obj} (e:X.base.get? b = some o):b ∉ X.fs:=fun hb=>by
 have:=(ok.funs.mem hb).1
 rw [e] at this; cases this
theorem Inv.bs (I:Inv X pins σ H s):∀ b o,X.base.get? b = some o->s.heap.get? b = some o/\H b = none:=fun b o e =>
 ⟨I.base.keep b o (I.ok.bs b o e).1 (I.ok.bs b o e).2 (I.ok.nofr e) (I.ok.noex b o e),I.base.free b o (I.ok.bs b o e).1 (I.ok.bs b o e).2 (I.ok.noex b o e)⟩
theorem Inv.bk (I:Inv X pins σ H s):∀ b o,X.base.get? b = some o->s.heap.get? b = some o:=fun b o e=>(I.bs b o e).1
theorem Inv.mod (I:Inv X pins σ H s):Mod X.K X.mg X.base:=I.ok.mod
theorem Inv.kIn (I:Inv X pins σ H s):X.K.In s.heap:=I.ok.mod.kin.keeps I.bk
theorem Inv.lt (I:Inv X pins σ H s):X.env.locals < s.heap.objs.size:=let ⟨_,hn,_⟩:=I.loc; hn.lt
theorem Inv.sz (I:Inv X pins σ H s):X.s₀.heap.objs.size<=s.heap.objs.size:=Nat.le_trans I.ok.above (Nat.le_of_lt I.lt)
theorem Inv.nofs (I:Inv X pins σ H s) {a:Addr} (h:s.heap.objs.size<=a):a ∉ X.fs:=fun hb=>by
 obtain ⟨_,o,ho,_⟩:=I.ok.funs.mem hb
 exact absurd (Nat.lt_of_lt_of_le (Heap.lt_size ho) (Nat.le_trans I.sz h)) (Nat.lt_irrefl _)
theorem Inv.cne (I:Inv X pins σ H s):∀ x c,X.env.cells.lookup x = some c->c ≠ X.env.locals:=fun x c e z=>by
 obtain ⟨v,o,ho,hd⟩:=I.cell x c e
 obtain ⟨m,⟨o',es,ep,ho',hd',_⟩,_⟩:=I.loc
 rw [z,ho'] at ho; cases ho; rw [hd'] at hd; cases hd
theorem Inv.funs (I:Inv X pins σ H s):s.heap.FunFrames X.base X.outer:=by
 have all:∀ (l:List Env),(∀ b ∈ frs l,b ∈ X.fs)->X.s₀.heap.FunFrames X.base l->s.heap.FunFrames X.base l:=by
  intro l
  induction l with
  | nil=>intro _ _; trivial
  | cons env r ih =>
   intro hs hl
   obtain ⟨hk,⟨L,o,hf,hn,ho,hd⟩,hr⟩:=hl
   have hL:L ∈ X.fs:=hs L (by unfold frs; rw [List.filterMap_cons,hf]; exact List.mem_cons_self)
   obtain ⟨sl,e⟩:=I.base.slot L o ho (I.ok.frf L hL) hL fun z=>I.ok.exfs L z hL
   exact ⟨hk,⟨L,_,hf,hn,e,hd⟩,ih (fun b hb=>hs b (by unfold frs; rw [List.filterMap_cons,hf]; exact List.mem_cons_of_mem _ hb)) hr⟩
 exact all X.outer (fun _ hb=>hb) I.ok.funs
theorem Inv.stack (I:Inv X pins σ H s):s.heap.FunFrames X.base X.stack:=by
 rcases I.ok.stk with e | ⟨e,hf⟩
 ·rw [e]; exact I.funs
 ·rw [e]
  obtain ⟨m,hn,_⟩:=I.loc
  refine .cons (by rw [I.ok.kind]; decide) hf hn ?_ I.funs
  exact Heap.get?_none_of_le (Nat.le_trans I.ok.bsz I.ok.above)
theorem Inv.stkSub (I:Inv X pins σ H s):∀ b ∈ frs X.stack,b ∈ X.env.locals :: X.fs:=fun b hb=>by
 rcases I.ok.stk with e | ⟨e,hf⟩
 ·rw [e] at hb; exact List.mem_cons_of_mem _ hb
 ·rw [e] at hb
  unfold frs at hb
  rw [List.filterMap_cons,hf] at hb
  exact hb
theorem Inv.stkFree (I:Inv X pins σ H s):∀ b ∈ frs X.stack,H b = none:=fun b hb=>by
 rcases List.mem_cons.mp (I.stkSub b hb) with e | hb
 ·rw [e]; exact I.free
 ·obtain ⟨_,o,ho,_⟩:=I.ok.funs.mem hb
  exact I.base.free b o ho (I.ok.frf b hb) fun z=>I.ok.exfs b z hb
theorem Inv.step {g':Array GenState} {t':Nat} {d':Drawn} {ch:List Addr} (I:Inv X pins σ H s)
  (hch:∀ b ∈ ch,(b ∈ X.ex\/X.s₀.heap.objs.size<=b)/\b ≠ X.env.locals/\(∀ x c,X.env.cells.lookup x = some c->c ≠ b)/\∀ p ∈ X.pn ++ pins,p.1 ≠ b)
  (keep:∀ b o,b ≠ X.env.locals->b ∉ X.fs->b ∉ ch->s.heap.get? b = some o->H b = none->h'.get? b = some o)
  (slot:∀ b o,b ≠ X.env.locals->b ∈ X.fs->b ∉ ch->s.heap.get? b = some o->H b = none->∃ sl,h'.get? b = some { o with slots:=sl }) (free:∀ b o,b ∉ ch->s.heap.get? b = some o->H b = none->H' b = none)
  (there:∀ b o,b ∉ ch->s.heap.get? b = some o->∃ o',h'.get? b = some o')
  (tups:∀ b xs,H b = some (.tup xs)->H' b = some (.tup xs)) (frzs:∀ b o u,H b = some (.frz o u)->H' b = some (.frz o u)) (tbls:∀ b ps,H b = some (.tbl ps)->∃ more,H' b = some (.tbl (ps ++ more)))
  (ns:∀ m,s.heap.Ns X.env.locals m->h'.Ns X.env.locals m) (hok:HOk X.prog X.w H' h') (hg:AllBare g') :
  Inv X pins σ H' { s with heap:=h',gens:=g',drawn:=d',toks:=t' }:=by
 have neL:∀ b o,X.s₀.heap.get? b = some o->b ≠ X.env.locals:=fun b o e=>Nat.ne_of_lt (Nat.lt_of_lt_of_le (Heap.lt_size e) I.ok.above)
 have neC:∀ b o,X.s₀.heap.get? b = some o->b ∉ X.ex->b ∉ ch:=fun b o e hx hb=>by
  rcases (hch b hb).1 with z | z
  ·exact hx z
  ·exact absurd (Nat.lt_of_lt_of_le (Heap.lt_size e) z) (Nat.lt_irrefl _)
 have cellK:∀ x c,X.env.cells.lookup x = some c->∀ v,s.heap.IsCell c v->h'.IsCell c v:=fun x c e v ⟨o,ho,hd⟩=>by
  have nch:c ∉ ch:=fun z=>(hch c z).2.2.1 x c e rfl
  by_cases hc:c ∈ X.fs
  ·obtain ⟨sl,q⟩:=slot c o (I.cne x c e) hc nch ho (I.freeC x c e)
   exact ⟨_,q,hd⟩
  ·exact ⟨o,keep c o (I.cne x c e) hc nch ho (I.freeC x c e),hd⟩
 refine ⟨I.ok,I.os,hg,⟨fun b o e n hb hx=>?_,fun b o e n hb hx=>?_,fun b o e n hx=>?_,fun b o e hx=>?_,fun b xs e=>tups b xs (I.base.tups b xs e),fun b o xs e=>frzs b o xs (I.base.frzs b o xs e),fun b ps e=>?_⟩,?_,fun x c e=>?_,?_,fun x c e=>?_,fun p hp=>?_,hok,I.len⟩
 ·exact keep b o (neL b o e) hb (neC b o e hx) (I.base.keep b o e n hb hx) (I.base.free b o e n hx)
 ·obtain ⟨sl,e1⟩:=I.base.slot b o e n hb hx
  obtain ⟨sl',e2⟩:=slot b _ (neL b o e) hb (neC b o e hx) e1 (I.base.free b o e n hx)
  exact ⟨sl',e2⟩
 ·obtain ⟨o',e1⟩:=I.base.there b o e hx
  exact free b o' (neC b o e hx) e1 (I.base.free b o e n hx)
 ·obtain ⟨o',e1⟩:=I.base.there b o e hx
  exact there b o' (neC b o e hx) e1
 ·obtain ⟨m1,e1⟩:=I.base.tbls b ps e
  obtain ⟨m2,e2⟩:=tbls b _ e1
  exact ⟨m1 ++ m2,by rw [e2,Array.append_assoc]⟩
 ·obtain ⟨m,hn,hl⟩:=I.loc
  refine ⟨m,ns m hn,fun i x v e1 e2 e3=>?_⟩
  obtain ⟨u,r,l⟩:=hl i x v e1 e2 e3
  refine ⟨u,r,?_⟩
  rcases l with l | ⟨k,c,e,z⟩
  ·exact .inl l
  ·exact .inr ⟨k,c,e,cellK x c e _ z⟩
 ·obtain ⟨v,z⟩:=I.cell x c e
  exact ⟨v,cellK x c e v z⟩
 ·obtain ⟨m,⟨o,_,_,ho,_⟩,_⟩:=I.loc
  exact free _ o (fun z=>(hch _ z).2.1 rfl) ho I.free
 ·obtain ⟨v,o,ho,hd⟩:=I.cell x c e
  exact free c o (fun z=>(hch c z).2.2.1 x c e rfl) ho (I.freeC x c e)
 ·obtain ⟨e,n,ne,nf,d⟩:=I.pin p hp
  have nch:p.1 ∉ ch:=fun z=>(hch p.1 z).2.2.2 p hp rfl
  exact ⟨keep p.1 p.2 ne nf nch e n,free p.1 p.2 nch e n,ne,nf,d⟩
theorem Inv.un {t':Nat} (I:Inv X pins σ H s) (u:Un X.fs [] H H' s.heap h') (hok:HOk X.prog X.w H' h'):Inv X pins σ H' { s with heap:=h',toks:=t' }:=by
 obtain ⟨m,⟨o,es,ep,ho,r⟩,_⟩:=id I.loc
 obtain ⟨sl,hL⟩:=u.any ho I.free (by simp)
 exact I.step (g':=s.gens) (d':=s.drawn) (ch:=[]) (fun _ z=>nomatch z) (fun b o _ hb _ e n=>u.keep b o e n hb (by simp)) (fun b o _ hb _ e n=>u.slot b o e n hb (by simp)) (fun b o _ e n=>u.free b o e n (by simp)) (fun b o _ e=>u.there b o e (by simp)) u.tups u.frzs u.tbls (fun m' hm=>by
  obtain ⟨o',es',ep',ho',r'⟩:=hm
  rw [ho] at ho'; cases ho'
  exact ⟨_,es',ep',hL,r'⟩) hok I.bare
theorem Inv.call {g':Array GenState} {t':Nat} {d':Drawn} {ch:List Addr} (I:Inv X pins σ H s) (u:Un (frs X.stack) ch H H' s.heap h') (hok:HOk X.prog X.w H' h') (hg:AllBare g')
  (hch:∀ b ∈ ch,(b ∈ X.ex\/X.s₀.heap.objs.size<=b)/\b ≠ X.env.locals/\(∀ x c,X.env.cells.lookup x = some c->c ≠ b)/\∀ p ∈ X.pn ++ pins,p.1 ≠ b) :
  Inv X pins σ H' { s with heap:=h',gens:=g',drawn:=d',toks:=t' }:=by
 obtain ⟨m,⟨o,es,ep,ho,r⟩,_⟩:=id I.loc
 obtain ⟨sl,hL⟩:=u.any ho I.free fun z=>(hch _ z).2.1 rfl
 exact I.step (ch:=ch) hch (fun b o hL hb hc e n=>u.keep b o e n (fun z=>(List.mem_cons.mp (I.stkSub b z)).elim hL hb) hc) (fun b o _ _ hc e n=>u.any e n hc) (fun b o hc e n=>u.free b o e n hc) (fun b o hc e=>u.there b o e hc) u.tups u.frzs u.tbls (fun m' hm=>by
  obtain ⟨o',es',ep',ho',r'⟩:=hm
  rw [ho] at ho'; cases ho'
  exact ⟨_,es',ep',hL,r'⟩) hok hg
theorem Inv.turned {t':Nat} {it:Addr} (I:Inv X pins σ H s) (k:∀ b o,b ≠ it->s.heap.get? b = some o->h'.get? b = some o) (hn:H it = none) (hL:it ≠ X.env.locals)
  (h1:it ∈ X.ex\/X.s₀.heap.objs.size<=it) (h2:∀ x c,X.env.cells.lookup x = some c->c ≠ it) (h3:∀ p ∈ X.pn ++ pins,p.1 ≠ it):Inv X pins σ H { s with heap:=h',toks:=t' }:=by
 have nit:∀ b u,H b = some u->b ≠ it:=fun b u e z=>by rw [z,hn] at e; cases e
 refine I.step (g':=s.gens) (d':=s.drawn) (ch:=[it]) (fun b hb=>?_) (fun b o _ _ hc e _=>k b o (fun z=>hc (by simp [z])) e) (fun b o _ _ hc e _=>⟨o.slots,k b o (fun z=>hc (by simp [z])) e⟩) (fun _ _ _ _ n=>n)
  (fun b o hc e=>⟨o,k b o (fun z=>hc (by simp [z])) e⟩) (fun _ _ e=>e) (fun _ _ _ e=>e) (fun b ps e=>⟨#[],by rw [e]; simp⟩) (fun m hm=>?_) (fun b u e=>?_) I.bare
 ·have e:b = it:=by simpa using hb
  subst e
  exact ⟨h1,hL,h2,h3⟩
 ·obtain ⟨o,es,ep,ho,r⟩:=hm
  exact ⟨o,es,ep,k _ o (Ne.symm hL) ho,r⟩
 ·refine (I.hok b u e).stay (fun c v hc q=>k c v ?_ q) (fun _ q=>q) fun _ _ q=>q
  rcases hc with z | z
  ·rw [z]; exact nit b u e
  ·exact nit c _ z
theorem Inv.tok (I:Inv X pins σ H s) (t:Nat):Inv X pins σ H { s with toks:=t }:=I.un (h':=s.heap) (t':=t) Un.refl I.hok
theorem Inv.kept {t':Nat} (I:Inv X pins σ H s) (k:∀ b u,s.heap.get? b = some u->h'.get? b = some u):Inv X pins σ H { s with heap:=h',toks:=t' }:=I.un (Un.kept k) (I.hok.kept k)
theorem Inv.laid {a:Addr} {o:HO} {t':Nat} (I:Inv X pins σ H s) (k:∀ b u,s.heap.get? b = some u->h'.get? b = some u) (hp:s.heap.objs.size<=a) (new:ObjOk X.prog X.w (upd H a o) h' a o) :
  Inv X pins σ (upd H a o) { s with heap:=h',toks:=t' }:=I.un (Un.laid k hp (I.hok.fresh hp)) (I.hok.laid k hp new)
theorem Inv.write {x e:Addr} {o:HO} {t':Nat} (I:Inv X pins σ H s) (mu:Mut (H x)) (he:e = x\/H e = some (.own x)) (k:∀ b u,b ≠ e->s.heap.get? b = some u->h'.get? b = some u) (heo:∃ u,h'.get? e = some u)
  (new:ObjOk X.prog X.w (upd H x o) h' x o):Inv X pins σ (upd H x o) { s with heap:=h',toks:=t' }:=I.un (Un.write mu he k heo) (I.hok.write mu he k heo new)
theorem Inv.pins_of {pins':List (Addr × Obj)} (I:Inv X pins σ H s) (h:∀ p ∈ pins',s.heap.get? p.1 = some p.2/\H p.1 = none/\p.1 ≠ X.env.locals/\p.1 ∉ X.fs/\∀ v,p.2.data ≠ .cell v):Inv X pins' σ H s :=
 ⟨I.ok,I.os,I.bare,I.base,I.loc,I.cell,I.free,I.freeC,fun p hp=>(List.mem_append.mp hp).elim (fun z=>I.pin p (List.mem_append_left _ z)) (h p),I.hok,I.len⟩
theorem lE {N:List Str} (hN:N.Nodup) {i j:Nat} {x:Str} (a:N[i]? = some x) (b:N[j]? = some x):i = j:=by
 obtain ⟨h1,e1⟩:=List.getElem?_eq_some_iff.mp a
 obtain ⟨h2,e2⟩:=List.getElem?_eq_some_iff.mp b
 exact (List.getElem_inj hN).mp (e1.trans e2.symm)
theorem mj {M:Model} {A:Around} {E:Value->Shared->Prop} {i:Nat} {x:Str} {v:V} {u:Value} {Q:Unit->Shared->Prop} (I:Inv X pins σ H s) (hN:X.N.Nodup) (hi:X.N[i]? = some x) (hx:Loc X.env.scope x) (r:RelV v u)
  (h:∀ s',Inv X pins (σ.set i (some v)) H s'->(∃ a,Heap.SameBut a s.heap s'.heap/\(a = X.env.locals\/X.env.cells.lookup x = some a))->Q () s') (hf:X.fn x = true\/X.env.scope.names.lookup x = some .local:=by first | exact .inl rfl | exact .inr rfl | assumption):wpAny M A (storeName X.env x u) Q E s:=by
 obtain ⟨m,hn,hl⟩:=id I.loc
 have hcls:(X.env.scope.kind == .class || (X.env.scope.kind == .module && X.env.locals != X.env.globals)) = false:=by rw [I.ok.kind]; rfl
 have hiσ:i < σ.length:=by rw [I.len]; exact (List.getElem?_eq_some_iff.mp hi).1
 have cne:=I.cne
 have tracked:∀ {a:Addr} {h':Heap},(∃ o,s.heap.get? a = some o/\H a = none)->Heap.SameBut a s.heap h'->HOk X.prog X.w H h':=fun {a h'} ha hs b ob e=>by
  obtain ⟨_,_,hfree⟩:=ha
  refine (I.hok b ob e).stay (fun c w' hc q=>(hs.2 c ?_).trans q) (fun _ q=>q) fun _ _ q=>q
  rintro rfl
  rcases hc with rfl | hc
  ·rw [hfree] at e; cases e
  ·rw [hfree] at hc; cases hc
 rcases hx with hk | hk
 ·refine wpAny_storeName_local hk hn (fun h' hn' hs=>?_) hcls
  obtain ⟨oL,_,_,hoL,_⟩:=id hn
  refine h _ ⟨I.ok,I.os,I.bare,⟨fun b o e n hb hx=>?_,fun b o e n hb hx=>?_,I.base.free,fun b o e hx=>?_,I.base.tups,I.base.frzs,I.base.tbls⟩,⟨_,hn',fun j y v' e1 e2 e3=>?_⟩,fun y c e=>?_,I.free,I.freeC,fun p hp=>?_,tracked ⟨oL,hoL,I.free⟩ hs,by simpa using I.len⟩ ⟨_,hs,.inl rfl⟩
  ·exact (hs.2 b (Nat.ne_of_lt (Nat.lt_of_lt_of_le (Heap.lt_size e) I.ok.above))).trans (I.base.keep b o e n hb hx)
  ·obtain ⟨sl,e1⟩:=I.base.slot b o e n hb hx
   exact ⟨sl,(hs.2 b (Nat.ne_of_lt (Nat.lt_of_lt_of_le (Heap.lt_size e) I.ok.above))).trans e1⟩
  ·obtain ⟨o',e1⟩:=I.base.there b o e hx
   exact ⟨o',(hs.2 b (Nat.ne_of_lt (Nat.lt_of_lt_of_le (Heap.lt_size e) I.ok.above))).trans e1⟩
  ·by_cases hj:j = i
   ·subst hj
    rw [hi] at e1; cases e1
    rw [List.getElem?_set_self hiσ] at e2
    cases e2
    exact ⟨u,r,.inl ⟨hk,by simp⟩⟩
   ·rw [List.getElem?_set_ne (Ne.symm hj)] at e2
    obtain ⟨u',r',q⟩:=hl j y v' e1 e2 e3
    refine ⟨u',r',?_⟩
    rcases q with ⟨k,e⟩ | ⟨k,c,e,z⟩
    ·refine .inl ⟨k,?_⟩
     have:y ≠ x:=fun e=>hj (lE hN e1 (e ▸ hi))
     simp [this,e]
    ·exact .inr ⟨k,c,e,z.sameBut hs (cne y c e)⟩
  ·obtain ⟨w',z⟩:=I.cell y c e
   exact ⟨w',z.sameBut hs (cne y c e)⟩
  ·obtain ⟨e,n,ne,nf,d⟩:=I.pin p hp
   exact ⟨(hs.2 p.1 ne).trans e,n,ne,nf,d⟩
 ·have hfn:X.fn x = true:=by
   rcases hf with z | z
   ·exact z
   ·rw [z] at hk; cases hk
  obtain ⟨c,hc⟩:=I.ok.has x (.inl hk)
  obtain ⟨w',z⟩:=I.cell x c hc
  refine wpAny_storeName_cell I.ok.kind hk hc z (fun h' hc' hs=>?_)
  obtain ⟨oc,hoc,hocd⟩:=id z
  refine h { s with heap:=h' } ⟨I.ok,I.os,I.bare,⟨fun b o e n hb hx=>?_,fun b o e n hb hx=>?_,I.base.free,fun b o e hx=>?_,I.base.tups,I.base.frzs,I.base.tbls⟩,⟨m,hn.sameBut hs (Ne.symm (cne x c hc)),fun j y v' e1 e2 e3=>?_⟩,fun y c' e=>?_,I.free,I.freeC,fun p hp=>?_,tracked ⟨oc,hoc,I.freeC x c hc⟩ hs,by simpa using I.len⟩ ⟨c,hs,.inr hc⟩
  ·exact (hs.2 b (Nat.ne_of_lt (Nat.lt_of_lt_of_le (Heap.lt_size e) (I.ok.cab x c hfn hc)))).trans (I.base.keep b o e n hb hx)
  ·obtain ⟨sl,e1⟩:=I.base.slot b o e n hb hx
   exact ⟨sl,(hs.2 b (Nat.ne_of_lt (Nat.lt_of_lt_of_le (Heap.lt_size e) (I.ok.cab x c hfn hc)))).trans e1⟩
  ·obtain ⟨o',e1⟩:=I.base.there b o e hx
   exact ⟨o',(hs.2 b (Nat.ne_of_lt (Nat.lt_of_lt_of_le (Heap.lt_size e) (I.ok.cab x c hfn hc)))).trans e1⟩
  ·by_cases hj:j = i
   ·subst hj
    rw [hi] at e1; cases e1
    rw [List.getElem?_set_self hiσ] at e2
    cases e2
    exact ⟨u,r,.inr ⟨.inl hk,c,hc,hc'⟩⟩
   ·rw [List.getElem?_set_ne (Ne.symm hj)] at e2
    obtain ⟨u',r',q⟩:=hl j y v' e1 e2 e3
    refine ⟨u',r',?_⟩
    rcases q with q | ⟨k,c',e,z'⟩
    ·exact .inl q
    ·refine .inr ⟨k,c',e,z'.sameBut hs ?_⟩
     rintro rfl
     exact hj (lE hN e1 (I.ok.inj _ _ _ e hc ▸ hi))
  ·by_cases hcc:c' = c
   ·subst hcc; exact ⟨_,hc'⟩
   ·obtain ⟨w2,z2⟩:=I.cell y c' e
    exact ⟨w2,z2.sameBut hs hcc⟩
  ·obtain ⟨e,n,ne,nf,d⟩:=I.pin p hp
   refine ⟨(hs.2 p.1 ?_).trans e,n,ne,nf,d⟩
   intro q
   rw [q,hoc] at e
   have q':oc = p.2:=Option.some.inj e
   exact d w' (by rw [<- q']; exact hocd)
theorem ic {M:Model} {A:Around} {E:Value->Shared->Prop} {i:Nat} {x:Str} {v:V} {u:Value} {Q:Unit->Shared->Prop} (I:Inv X pins σ H s) (hN:X.N.Nodup) (hi:X.N[i]? = some x) (hx:Loc X.env.scope x) (r:RelV v u)
  (h:∀ s',Inv X pins (σ.set i (some v)) H s'->Q () s') (hf:X.fn x = true\/X.env.scope.names.lookup x = some .local:=by first | exact .inl rfl | exact .inr rfl | assumption):wpAny M A (storeName X.env x u) Q E s :=
 mj I hN hi hx r (fun s' I' _=>h s' I') hf
theorem Inv.call' {s':Shared} {ch:List Addr} (I:Inv X pins σ H s) (ho:s'.os = s.os) (u:Un (frs X.stack) ch H H' s.heap s'.heap) (hok:HOk X.prog X.w H' s'.heap) (hg:AllBare s'.gens)
  (hch:∀ b ∈ ch,(b ∈ X.ex\/X.s₀.heap.objs.size<=b)/\b ≠ X.env.locals/\(∀ x c,X.env.cells.lookup x = some c->c ≠ b)/\∀ p ∈ X.pn ++ pins,p.1 ≠ b):Inv X pins σ H' s':=by
 obtain ⟨h',g',d',t',o'⟩:=s'
 have e:o' = s.os:=ho
 subst e
 exact I.call (g':=g') (t':=t') (d':=d') u hok hg hch
end
abbrev XK:=Value->Option Addr->Hp->Prop
abbrev St:=List (Option V)
abbrev VK:=V->Hp->Prop
abbrev TE:=St->Hp->VK->Prop
abbrev TT:=St->Hp->(Bool->Hp->Prop)->Prop
abbrev TA:=St->Hp->(List V->Hp->Prop)->Prop
structure Ends where
 nx:St->Hp->Prop
 rt:VK
 bk:St->Hp->Prop:=fun _ _=>False
 ct:St->Hp->Prop:=fun _ _=>False
abbrev TS:=Ends->St->Hp->Prop
def EP (X:Cx) (pins:List (Addr × Obj)) (σ:St) (Q:VK) (u:Value) (s':Shared):Prop:=∃ v H',Inv X pins σ H' s'/\RelV v u/\Q v H'
def TP (X:Cx) (pins:List (Addr × Obj)) (σ:St) (Q:Bool->Hp->Prop) (b:Bool) (s':Shared):Prop:=∃ H',Inv X pins σ H' s'/\Q b H'
def AP (X:Cx) (pins:List (Addr × Obj)) (σ:St) (Q:List V->Hp->Prop) (us:List Value) (s':Shared):Prop:=∃ vs H',Inv X pins σ H' s'/\Vals vs us/\Q vs H'
def SP (X:Cx) (pins:List (Addr × Obj)) (D:Ends) (f:Flow) (s':Shared):Prop :=
 match f with
 | .next=>∃ σ' H',Inv X pins σ' H' s'/\D.nx σ' H'
 | .brk=>∃ σ' H',Inv X pins σ' H' s'/\D.bk σ' H'
 | .cont=>∃ σ' H',Inv X pins σ' H' s'/\D.ct σ' H'
 | .ret u=>∃ v σ' H',Inv X pins σ' H' s'/\RelV v u/\D.rt v H'
def PE (X:Cx) (e:Expr) (t:TE):Prop :=
 ∀ (pins:List (Addr × Obj)) (s:Shared) (σ:St) (H:Hp) (Q:VK),Inv X pins σ H s->t σ H Q->wpAny (model X.prog X.w) X.A (eval e X.env) (EP X pins σ Q) X.xe s
def PT (X:Cx) (e:Expr) (t:TT):Prop :=
 ∀ (pins:List (Addr × Obj)) (s:Shared) (σ:St) (H:Hp) (Q:Bool->Hp->Prop),Inv X pins σ H s->t σ H Q->wpAny (model X.prog X.w) X.A (isTrue e X.env (eval e X.env)) (TP X pins σ Q) X.xe s
def PW (X:Cx) (e:Expr) (t:TT):Prop :=
 ∀ (whole:Sem Value) (pins:List (Addr × Obj)) (s:Shared) (σ:St) (H:Hp) (Q:Bool->Hp->Prop),Inv X pins σ H s->t σ H Q->wpAny (model X.prog X.w) X.A (isTrue e X.env whole) (TP X pins σ Q) X.xe s
theorem PW.pt {X:Cx} {e:Expr} {t:TT} (h:PW X e t):PT X e t:=h _
def PA (X:Cx) (es:List Expr) (t:TA):Prop :=
 ∀ (pos:Pos) (pins:List (Addr × Obj)) (s:Shared) (σ:St) (H:Hp) (Q:List V->Hp->Prop),Inv X pins σ H s->t σ H Q->wpAny (model X.prog X.w) X.A (spliced (backTo pos (starEach es X.env))) (AP X pins σ Q) X.xe s
def PS (X:Cx) (st:Stmt) (t:TS):Prop :=
 ∀ (pins:List (Addr × Obj)) (s:Shared) (σ:St) (H:Hp) (D:Ends),Inv X pins σ H s->t D σ H->wpAny (model X.prog X.w) X.A (exec st X.env) (SP X pins D) X.xe s
def PSs (X:Cx) (st:List Stmt) (t:TS):Prop :=
 ∀ (pins:List (Addr × Obj)) (s:Shared) (σ:St) (H:Hp) (D:Ends),Inv X pins σ H s->t D σ H->wpAny (model X.prog X.w) X.A (execs st X.env) (SP X pins D) X.xe s
theorem thn {α:Type} {t:Sem α} {Q Q':α->Shared->Prop} {M:Model} {A:Around} {E:Value->Shared->Prop} {s:Shared} (h:wpAny M A t Q E s) (hQ:∀ a s,Q a s->Q' a s):wpAny M A t Q' E s:=wpAny_mono h hQ fun _ _ x=>x
end L2
namespace L2
open PySem PySem.Spec PyProof.Rows
section
variable {X:Cx}
def tVar (i:Nat):TE:=fun σ H Q=>∃ v,σ[i]? = some (some v)/\Q v H
def tC (v:V):TE:=fun _ H Q=>Q v H
theorem pe_var {i:Nat} {x:Str} {pos:Pos} (hN:X.N[i]? = some x) (hv:Vis X.env.scope x) (hd:(x == ("__debug__":Str)) = false:=by decide) (hcd:(x == ("__classdict__":Str)) = false:=by decide):PE X (.Name x pos) (tVar i):=by
 intro pins s σ H Q I h
 obtain ⟨v,e,h⟩:=h
 obtain ⟨m,hn,hl⟩:=I.loc
 obtain ⟨u,r,l⟩:=hl i x v hN e hv
 have fin:EP X pins σ Q u s:=⟨v,H,I,r,h⟩
 rcases l with ⟨hk,hm⟩ | ⟨hk,c,hc,hcell⟩
 ·exact wpAny_Name (wpAny_loadName_local I.ok.kind hk hn hm fin) hd
 ·rcases hk with hk | hk
  ·exact wpAny_Name (wpAny_loadName_cell I.ok.kind hk hc hcell fin) hd
  ·exact wpAny_Name (wpAny_loadName_free I.ok.kind hk hc hcell fin hcd) hd
theorem ag {i j pos}:PE X (.Constant (.int i) j pos) (tC (.int i)):=fun _ _ _ H _ I h=>wpAny_Constant_int ⟨.int i,H,I.tok _,⟨_,rfl⟩,h⟩
theorem hX {b j pos}:PE X (.Constant (.bool b) j pos) (tC (.bl b)):=fun _ _ _ H _ I h=>Constant_bool ⟨.bl b,H,I,rfl,h⟩
theorem mV {j pos}:PE X (.Constant .none j pos) (tC .non):=fun _ _ _ H _ I h=>Constant_none ⟨.non,H,I,rfl,h⟩
theorem ar {x j pos}:PE X (.Constant (.str x) j pos) (tC (.str x)):=fun _ _ _ H _ I h=>Calls.Constant_str ⟨.str x,H,I.tok _,⟨_,rfl⟩,h⟩
def Gl (X:Cx) (x:Str):Prop:=X.env.kindOf x = some .globalImplicit
theorem gy {E:Value->Shared->Prop} {pins:List (Addr × Obj)} {s:Shared} {σ:St} {H:Hp} {x:Str} {u:Value} {pos:Pos} {Q:Value->Shared->Prop} (I:Inv X pins σ H s) (hg:Gl X x) (hm:X.mg x = some u) (h:Q u s)
  (hd:(x == ("__debug__":Str)) = false:=by decide):wpAny (model X.prog X.w) X.A (eval (.Name x pos) X.env) Q E s :=
 Calls.Name_function_global I.ok.kind hg (Calls.loadGlobal_global (by rw [I.ok.glob]; exact I.mod.glob.keeps I.bk) hm h) hd
theorem p7 {E:Value->Shared->Prop} {pins:List (Addr × Obj)} {s:Shared} {σ:St} {H:Hp} {x:Str} {u:Value} {pos:Pos} {Q:Value->Shared->Prop} (I:Inv X pins σ H s) (hg:Gl X x) (hm:X.mg x = none) (hv:bootBuiltins x = some u) (h:Q u s)
  (hn:x ≠ "__name__":=by decide) (hd:(x == ("__debug__":Str)) = false:=by decide):wpAny (model X.prog X.w) X.A (eval (.Name x pos) X.env) Q E s:=by
 obtain ⟨mb,h1,h2⟩:=I.mod.blt
 exact Calls.Name_function_global I.ok.kind hg (Calls.loadGlobal_builtin (by rw [I.ok.glob]; exact I.mod.glob.keeps I.bk) hm (by rw [I.ok.blt]; exact h1.keeps I.bk) ((h2 x hn).trans hv) h) hd
theorem pO {x:Str} {v:V} {u:Value} {pos:Pos} (hg:Gl X x) (hm:X.mg x = some u) (r:RelV v u) (hd:(x == ("__debug__":Str)) = false:=by decide):PE X (.Name x pos) (tC v) :=
 fun _ _ _ H _ I h=>gy I hg hm ⟨v,H,I,r,h⟩ hd
theorem pe_bltn {x:Str} {v:V} {u:Value} {pos:Pos} (hg:Gl X x) (hm:X.mg x = none) (hv:bootBuiltins x = some u) (r:RelV v u) (hn:x ≠ "__name__":=by decide) (hd:(x == ("__debug__":Str)) = false:=by decide):PE X (.Name x pos) (tC v) :=
 fun _ _ _ H _ I h=>p7 I hg hm hv ⟨v,H,I,r,h⟩ hn hd
variable {a b:Expr} {ta tb:TE} {pos:Pos}
def tB (t:TE):TT:=fun σ H Q=>t σ H fun x H1=>∃ c,x = .bl c/\Q c H1
theorem bC {e:Expr} {t:TE} (h:PE X e t) (he:∀ whole,isTrue e X.env whole = (do let v <- whole; standAt e.pos; holding [v] (truthy v)):=by intro _; rfl):PT X e (tB t):=by
 intro pins s σ H Q I hw
 refine isTrue_plain (thn (h pins s σ H _ I hw) fun v s1 ⟨x,H1,I1,r1,q1⟩=>?_) (he _)
 obtain ⟨d,rfl,q⟩:=q1
 cases r1
 exact wpAny_truthy_bool ⟨H1,I1,q⟩
variable {tA tB':TT} {rest:List Expr}
def tAnd (t u:TT):TT:=fun σ H Q=>t σ H fun c H1=>if c = true then u σ H1 Q else Q false H1
def tOr (t u:TT):TT:=fun σ H Q=>t σ H fun c H1=>if c = true then Q true H1 else u σ H1 Q
def tNot (t:TT):TT:=fun σ H Q=>t σ H fun c H1=>Q (!c) H1
theorem pB (ha:PT X a tA):PW X (.BoolOp .And [a] pos) tA:=by
 intro wh pins s σ H Q I h
 refine isTrue_and (thn (ha pins s σ H Q I h) fun c s1 e=>?_)
 cases c with
 | true=>exact isTrue_and_nil e
 | false=>exact e
theorem fk (ha:PT X a tA):PW X (.BoolOp .Or [a] pos) tA:=by
 intro wh pins s σ H Q I h
 refine isTrue_or (thn (ha pins s σ H Q I h) fun c s1 e=>?_)
 cases c with
 | false=>exact isTrue_or_nil e
 | true=>exact e
theorem p9 (ha:PT X a tA) (hb:PW X (.BoolOp .And (b :: rest) pos) tB'):PW X (.BoolOp .And (a :: b :: rest) pos) (tAnd tA tB'):=by
 intro wh pins s σ H Q I h
 refine isTrue_and (thn (ha pins s σ H _ I h) fun c s1 ⟨H1,I1,q1⟩=>?_)
 cases c with
 | true=>exact hb wh pins s1 σ H1 Q I1 q1
 | false=>exact ⟨H1,I1,q1⟩
theorem eQ (ha:PT X a tA) (hb:PW X (.BoolOp .Or (b :: rest) pos) tB'):PW X (.BoolOp .Or (a :: b :: rest) pos) (tOr tA tB'):=by
 intro wh pins s σ H Q I h
 refine isTrue_or (thn (ha pins s σ H _ I h) fun c s1 ⟨H1,I1,q1⟩=>?_)
 cases c with
 | true=>exact ⟨H1,I1,q1⟩
 | false=>exact hb wh pins s1 σ H1 Q I1 q1
theorem bJ (ha:PT X a tA):PT X (.UnaryOp .Not a pos) (tNot tA):=by
 intro pins s σ H Q I h
 exact isTrue_not (ha pins s σ H (fun c H1=>Q (!c) H1) I h)
def tAndV (ta tb:TE):TE:=fun σ H Q=>ta σ H fun x H1=>∃ c,x = .bl c/\if c = true then tb σ H1 Q else Q (.bl false) H1
def tOrV (ta tb:TE):TE:=fun σ H Q=>ta σ H fun x H1=>∃ c,x = .bl c/\if c = true then Q (.bl true) H1 else tb σ H1 Q
def tNotV (ta:TE):TE:=fun σ H Q=>ta σ H fun x H1=>∃ c,x = .bl c/\Q (.bl (!c)) H1
theorem dN {op} {t:TE} (h:PE X a t):PE X (.BoolOp op [a] pos) t:=fun pins s σ H Q I hw=>BoolOp_one (h pins s σ H Q I hw)
theorem df (ha:PE X a ta) (hb:PE X (.BoolOp .And (b :: rest) pos) tb):PE X (.BoolOp .And (a :: b :: rest) pos) (tAndV ta tb):=by
 intro pins s σ H Q I h
 refine BoolOp_and (thn (ha pins s σ H _ I h) fun v s1 ⟨x,H1,I1,r1,q1⟩=>?_)
 obtain ⟨c,rfl,q1⟩:=q1
 cases r1
 refine wpAny_truthy_bool ?_
 cases c with
 | true=>exact hb pins s1 σ H1 Q I1 q1
 | false=>exact ⟨.bl false,H1,I1,rfl,q1⟩
theorem pe_or (ha:PE X a ta) (hb:PE X (.BoolOp .Or (b :: rest) pos) tb):PE X (.BoolOp .Or (a :: b :: rest) pos) (tOrV ta tb):=by
 intro pins s σ H Q I h
 refine BoolOp_or (thn (ha pins s σ H _ I h) fun v s1 ⟨x,H1,I1,r1,q1⟩=>?_)
 obtain ⟨c,rfl,q1⟩:=q1
 cases r1
 refine wpAny_truthy_bool ?_
 cases c with
 | false=>exact hb pins s1 σ H1 Q I1 q1
 | true=>exact ⟨.bl true,H1,I1,rfl,q1⟩
theorem qx (ha:PE X a ta):PE X (.UnaryOp .Not a pos) (tNotV ta):=by
 intro pins s σ H Q I h
 refine UnaryOp_ (thn (ha pins s σ H _ I h) fun v s1 ⟨x,H1,I1,r1,q1⟩=>?_)
 obtain ⟨c,rfl,q1⟩:=q1
 cases r1
 exact not_of (wpAny_truthy_bool ⟨.bl (!c),H1,I1,rfl,q1⟩)
def tIf (t:TT) (ta tb:TE):TE:=fun σ H Q=>t σ H fun c H1=>if c = true then ta σ H1 Q else tb σ H1 Q
theorem fJ {c:Expr} (hc:PT X c tA) (ha:PE X a ta) (hb:PE X b tb):PE X (.IfExp c a b pos) (tIf tA ta tb):=by
 intro pins s σ H Q I h
 refine wpAny_IfExp (thn (hc pins s σ H _ I h) fun d s1 ⟨H1,I1,q1⟩=>?_)
 cases d with
 | true=>exact ha pins s1 σ H1 Q I1 q1
 | false=>exact hb pins s1 σ H1 Q I1 q1
end
end L2
namespace L2
open PySem PySem.Spec PyProof.Rows
def SqL (K:Frag) (H:Hp) (a:Addr) (xs:List V):Prop :=
 Rd H a (.lst xs) \/
  ∃ (o:Obj) (its:Array Value) (n:Nat),K.lookup a = some o/\o.cls = .type "list"/\o.dict = none/\o.data = .seq its n/\its.size<=sizeLine/\Vals xs its.toList
def SqT (K:Frag) (H:Hp) (a:Addr) (xs:List V):Prop :=
 Rd H a (.tup xs) \/
  ∃ (o:Obj) (its:Array Value) (n:Nat),K.lookup a = some o/\o.cls = .type "tuple"/\o.data = .seq its n/\its.size<=sizeLine/\Vals xs its.toList
def absV:Value->Option V
 | .none=>some .non
 | .bool b=>some (.bl b)
 | .int i _=>some (.int i)
 | .str x _=>some (.str x)
 | .bytes b _=>some (.byt b)
 | .float b _=>some (.flt b)
 | .ref a=>some (.ref a)
 | .type n=>some (.ty n)
 | _=>none
theorem RelV.abs {x:V} {u:Value} (r:RelV x u):absV u = some x:=by
 cases x with
 | non=>cases r; rfl
 | bl _=>cases r; rfl
 | int _=>obtain ⟨t,rfl⟩:=r; rfl
 | str _=>obtain ⟨t,rfl⟩:=r; rfl
 | byt _=>obtain ⟨t,rfl⟩:=r; rfl
 | flt _=>obtain ⟨t,rfl⟩:=r; rfl
 | ref _=>cases r; rfl
 | ty _=>cases r; rfl
theorem RelV.inj {x y:V} {u:Value} (r:RelV x u) (q:RelV y u):x = y:=Option.some.inj (r.abs.symm.trans q.abs)
theorem Vals.inj:∀ {xs ys:List V} {us:List Value},Vals xs us->Vals ys us->xs = ys
 | _,_,_,.nil,.nil=>rfl
 | _,_,_,.cons r t,.cons r' t'=>by rw [r.inj r',Vals.inj t t']
section
variable {X:Cx} {pins:List (Addr × Obj)} {σ:St} {H:Hp} {s:Shared} {a:Addr} {xs ys:List V}
theorem SqL.of {K:Frag} (h:H a = some (.lst xs)):SqL K H a xs:=.inl (.inl h)
theorem SqT.of {K:Frag} (h:H a = some (.tup xs)):SqT K H a xs:=.inl (.inl h)
theorem Inv.list (I:Inv X pins σ H s) (h:SqL X.K H a xs):∃ its:List Value,Vals xs its/\PlainL s.heap a its.toArray/\xs.length<=sizeLine:=by
 rcases h with h | ⟨o,its,n,hk,hc,hd,hs,hz,r⟩
 ·obtain ⟨z,its,n,r,e⟩:=h.ok I.hok
  exact ⟨its,r,⟨_,n,e,rfl,rfl,rfl⟩,z⟩
 ·refine ⟨its.toList,r,⟨o,n,I.kIn a o hk,hc,hd,by simpa using hs⟩,?_⟩
  have e:=r.length
  simp only [Array.length_toList] at e
  omega
theorem Inv.tuple (I:Inv X pins σ H s) (h:SqT X.K H a xs):∃ its:List Value,Vals xs its/\IsTup s.heap a its.toArray/\xs.length<=sizeLine:=by
 rcases h with h | ⟨o,its,n,hk,hc,hs,hz,r⟩
 ·obtain ⟨z,its,r,p⟩:=h.ok I.hok
  exact ⟨its,r,p,z⟩
 ·refine ⟨its.toList,r,⟨o,I.kIn a o hk,hc,n,by simpa using hs⟩,?_⟩
  have e:=r.length
  simp only [Array.length_toList] at e
  omega
theorem Inv.list_inj (I:Inv X pins σ H s) (h:SqL X.K H a xs) (h':SqL X.K H a ys):xs = ys:=by
 obtain ⟨its,r,⟨o,n,e,_,_,d⟩,_⟩:=I.list h
 obtain ⟨its',r',⟨o',n',e',_,_,d'⟩,_⟩:=I.list h'
 rw [e] at e'; cases e'
 rw [d] at d'
 injection d' with d1 _
 have:its = its':=by simpa using congrArg Array.toList d1
 subst this
 exact r.inj r'
theorem Inv.tuple_inj (I:Inv X pins σ H s) (h:SqT X.K H a xs) (h':SqT X.K H a ys):xs = ys:=by
 obtain ⟨its,r,⟨o,e,_,n,d⟩,_⟩:=I.tuple h
 obtain ⟨its',r',⟨o',e',_,n',d'⟩,_⟩:=I.tuple h'
 rw [e] at e'; cases e'
 rw [d] at d'
 injection d' with d1 _
 have:its = its':=by simpa using congrArg Array.toList d1
 subst this
 exact r.inj r'
end
abbrev Cx.wish (X:Cx) (E:Value->Shared->Prop):Cx:={ X with xe:=E }
abbrev Cx.nox (X:Cx):Cx:=X.wish fun _ _=>False
theorem Cx.Ok.wish {X:Cx} (ok:X.Ok) (E:Value->Shared->Prop):(X.wish E).Ok :=
 ⟨ok.mod,ok.kind,ok.glob,ok.blt,ok.above,ok.inj,ok.has,ok.cab,ok.hd,ok.frames,ok.stk,ok.exf,ok.bs,ok.bsz,ok.noex,ok.exfs,ok.funs,ok.frf⟩
theorem Cx.Ok.unwish {X:Cx} {E:Value->Shared->Prop} (ok:(X.wish E).Ok):X.Ok :=
 ⟨ok.mod,ok.kind,ok.glob,ok.blt,ok.above,ok.inj,ok.has,ok.cab,ok.hd,ok.frames,ok.stk,ok.exf,ok.bs,ok.bsz,ok.noex,ok.exfs,ok.funs,ok.frf⟩
section
variable {X:Cx} {pins:List (Addr × Obj)} {σ:St} {H:Hp} {s:Shared} {E:Value->Shared->Prop}
theorem Inv.wish (I:Inv X pins σ H s) (E:Value->Shared->Prop):Inv (X.wish E) pins σ H s:=⟨I.ok.wish E,I.os,I.bare,I.base,I.loc,I.cell,I.free,I.freeC,I.pin,I.hok,I.len⟩
theorem Inv.unwish (I:Inv (X.wish E) pins σ H s):Inv X pins σ H s:=⟨I.ok.unwish,I.os,I.bare,I.base,I.loc,I.cell,I.free,I.freeC,I.pin,I.hok,I.len⟩
theorem SP.unwish {D:Ends} {f:Flow} {s':Shared} (h:SP (X.wish E) pins D f s'):SP X pins D f s':=by
 cases f with
 | next=>obtain ⟨σ',H',I,q⟩:=h; exact ⟨σ',H',I.unwish,q⟩
 | brk=>obtain ⟨σ',H',I,q⟩:=h; exact ⟨σ',H',I.unwish,q⟩
 | cont=>obtain ⟨σ',H',I,q⟩:=h; exact ⟨σ',H',I.unwish,q⟩
 | ret u=>obtain ⟨v,σ',H',I,r,q⟩:=h; exact ⟨v,σ',H',I.unwish,r,q⟩
theorem PSs.nox {st:List Stmt} {t:TS} (h:PSs X.nox st t):PSs X st t:=fun pins s σ H D I hw =>
 wpAny_mono (h pins s σ H D (I.wish _) hw) (fun _ _ q=>q.unwish) fun _ _ z=>False.elim z
end
section
variable {X:Cx} {st:Stmt} {rest:List Stmt} {t u:TS} {e:Expr} {te:TE} {pos:Pos}
def tNext:TS:=fun D σ H=>D.nx σ H
def tSeq (t u:TS):TS:=fun D σ H=>t { D with nx:=u D } σ H
theorem aG:PSs X [] tNext:=fun _ _ σ H _ I h=>wpAny_execs_nil ⟨σ,H,I,h⟩
theorem ai (h1:PS X st t) (h2:PSs X rest u):PSs X (st :: rest) (tSeq t u):=by
 intro pins s σ H D I h
 refine wpAny_execs_cons (thn (h1 pins s σ H { D with nx:=u D } I h) fun f s1 q=>?_)
 cases f with
 | next =>
  obtain ⟨σ',H',I',q⟩:=q
  exact h2 pins s1 σ' H' D I' q
 | ret v=>exact q
 | brk=>exact q
 | cont=>exact q
theorem aj (h1:PS X st t):PSs X [st] t:=by
 intro pins s σ H D I h
 refine wpAny_execs_cons (thn (h1 pins s σ H D I h) fun f s1 q=>?_)
 cases f with
 | next=>exact wpAny_execs_nil q
 | ret v=>exact q
 | brk=>exact q
 | cont=>exact q
theorem Inv.quiet {pins:List (Addr × Obj)} {σ:St} {H:Hp} {s:Shared} (I:Inv X pins σ H s):interactive X.env = false:=by simp [interactive,I.ok.kind]
def tDrop (te:TE):TS:=fun D σ H=>te σ H fun _ H1=>D.nx σ H1
theorem aL (he:PE X e te) (hs:swapsWith e none pos.line X.env = pure false:=by rfl):PS X (.Expr e pos) (tDrop te):=by
 intro pins s σ H D I h
 exact wpAny_Expr_any (thn (he pins s σ H _ I h) fun v s1 ⟨x,H1,I1,r1,q1⟩=>⟨σ,H1,I1,q1⟩) I.quiet hs
def tRet (te:TE):TS:=fun D σ H=>te σ H D.rt
theorem ao (he:PE X e te):PS X (.Return (some e) pos) (tRet te):=by
 intro pins s σ H D I h
 exact wpAny_Return_some (thn (he pins s σ H _ I h) fun v s1 ⟨x,H1,I1,r1,q1⟩=>⟨x,σ,H1,I1,r1,q1⟩)
def tIfS (c:TT) (t u:TS):TS:=fun D σ H=>c σ H fun b H1=>if b = true then t D σ H1 else u D σ H1
theorem aQ {c:Expr} {a b:List Stmt} {tc:TT} (hc:PT X c tc) (ha:PSs X a t) (hb:PSs X b u):PS X (.If c a b pos) (tIfS tc t u):=by
 intro pins s σ H D I h
 refine wpAny_If (thn (hc pins s σ H _ I h) fun d s1 ⟨H1,I1,q1⟩=>?_)
 cases d with
 | true=>exact ha pins s1 σ H1 D I1 q1
 | false=>exact hb pins s1 σ H1 D I1 q1
def tNever:TS:=fun _ _ _=>False
theorem fQ:PS X st tNever:=fun _ _ _ _ _ _ h=>h.elim
end
abbrev TG:=V->St->Hp->(St->Hp->Prop)->Prop
def PG (X:Cx) (target:Expr) (t:TG):Prop :=
 ∀ (pins:List (Addr × Obj)) (s:Shared) (σ:St) (H:Hp) (v:V) (u:Value) (Q:St->Hp->Prop),Inv X pins σ H s->RelV v u->t v σ H Q ->
  wpAny (model X.prog X.w) X.A (assign target X.env u) (fun _ s'=>∃ σ' H',Inv X pins σ' H' s'/\Q σ' H') X.xe s
abbrev TSet:=V->V->V->Hp->(Hp->Prop)->Prop
def PSet (X:Cx) (t:TSet):Prop :=
 ∀ (pins:List (Addr × Obj)) (s:Shared) (σ:St) (H:Hp) (o i v:V) (ov iv u:Value) (Q:Hp->Prop),Inv X pins σ H s->RelV o ov->RelV i iv->RelV v u->t o i v H Q ->
  wpAny (model X.prog X.w) X.A (setItem ov iv u) (fun _ s'=>∃ H',Inv X pins σ H' s'/\Q H') X.xe s
section
variable {X:Cx} {pos:Pos}
def sR (i:Nat):TG:=fun v σ H Q=>Q (σ.set i (some v)) H
theorem bF {i:Nat} {x:Str} (hN:X.N.Nodup) (hi:X.N[i]? = some x) (hx:Loc X.env.scope x) (hf:X.fn x = true\/X.env.scope.names.lookup x = some .local:=by first | exact .inl rfl | exact .inr rfl | assumption):PG X (.Name x pos) (sR i):=by
 intro pins s σ H v u Q I r h
 exact wpAny_assign_Name (ic I hN hi hx r (fun s' I'=>⟨_,H,I',h⟩) hf)
def gSub (to ti:TE) (t:TSet):TG:=fun v σ H Q=>to σ H fun o H1=>ti σ H1 fun i H2=>t o i v H2 fun H3=>Q σ H3
theorem pg_sub {o i:Expr} {to ti:TE} {t:TSet} (ho:PE X o to) (hi:PE X i ti) (hs:PSet X t)
  (ha:∀ v,assign (.Subscript o i pos) X.env v = (do
   let ov <- holding [v] (eval o X.env)
   let iv <- holding [v,ov] (eval i X.env)
   standAt pos
   holding [v,ov,iv] (setItem ov iv v)
   release [v,ov,iv] []):=by intro _; rfl):PG X (.Subscript o i pos) (gSub to ti t):=by
 intro pins s σ H v u Q I r h
 rw [ha]
 refine wpAny_bind (wpAny_holding (thn (ho pins s σ H _ I h) fun ov s1 ⟨x,H1,I1,r1,q1⟩=>?_))
 refine wpAny_bind (wpAny_holding (thn (hi pins s1 σ H1 _ I1 q1) fun iv s2 ⟨y,H2,I2,r2,q2⟩=>?_))
 refine wpAny_bind (wpAny_standAt (wpAny_bind (wpAny_holding (thn (hs pins s2 σ H2 x y v ov iv u _ I2 r1 r2 r q2) fun _ s3 ⟨H3,I3,q3⟩=>?_))))
 exact wpAny_release ⟨σ,H3,I3,q3⟩
def tAsg (te:TE) (g:TG):TS:=fun D σ H=>te σ H fun x H1=>g x σ H1 D.nx
theorem ps_asg {tg e:Expr} {te:TE} {g:TG} (he:PE X e te) (hg:PG X tg g) (hs:swapsWithSole [tg] e pos.line X.env = pure false:=by rfl) (hw:swappedStores [tg] e X.env = pure none:=by rfl)
  (h1:(assignEach [tg] X.env).map (·.2) = [assign tg X.env]:=by rfl):PS X (.Assign [tg] e pos) (tAsg te g):=by
 intro pins s σ H D I h
 refine wpAny_Assign_stores (thn (he pins s σ H _ I h) fun v s1 ⟨x,H1,I1,r1,q1⟩=>?_) hs hw
 rw [h1]
 exact thn (hg pins s1 σ H1 x v _ I1 r1 q1) fun _ s2 q=>q
theorem aH {i:Nat} {x:Str} {e:Expr} {te:TE} {pos':Pos} (hN:X.N.Nodup) (hi:X.N[i]? = some x) (hx:Loc X.env.scope x) (he:PE X e te) (hs:swapsWith e (some (.Name x pos')) pos.line X.env = pure false:=by rfl) (hf:X.fn x = true\/X.env.scope.names.lookup x = some .local:=by first | exact .inl rfl | exact .inr rfl | assumption) :
  PS X (.Assign [.Name x pos'] e pos) (tAsg te (sR i)):=by
 intro pins s σ H D I h
 refine wpAny_Assign_Name (thn (he pins s σ H _ I h) fun v s1 ⟨y,H1,I1,r1,q1⟩=>?_) hs
 exact ic I1 hN hi hx r1 (fun s2 I2=>⟨_,H1,I2,q1⟩) hf
end
section
variable {X:Cx} {pos:Pos}
def tWhile (c:TT) (tb:TS):TS:=fun D σ H=>∃ W:Nat->St->Hp->Prop,(∃ m,W m σ H)/\∀ m σ H,W m σ H ->
 c σ H fun b H1=>if b = true then ∃ N:St->Hp->Prop,(∀ σ' H',N σ' H'->∃ m',m' < m/\W m' σ' H')/\tb { D with nx:=N,ct:=N,bk:=D.nx } σ H1 else D.nx σ H1
theorem ps_while {c:Expr} {body:List Stmt} {tc:TT} {tb:TS} (hp:PassesOwn (model X.prog X.w) X.A X.env X.xe) (hc:PT X c tc) (hb:PSs X body tb):PS X (.While c body [] pos) (tWhile tc tb):=by
 intro pins s σ H D I h
 obtain ⟨W,⟨m0,w0⟩,turn⟩:=h
 refine wpAny_While (codeAny_whileLoop (fun n s'=>∃ σ' H',Inv X pins σ' H' s'/\W n σ' H') ?_ m0 ⟨σ,H,I,w0⟩)
 rintro n s1 ⟨σ1,H1,I1,w1⟩
 refine wpAny_passesOwn hp (thn (hc pins s1 σ1 H1 _ I1 (turn n σ1 H1 w1)) fun b s2 ⟨H2,I2,q2⟩=>?_)
 cases b with
 | true =>
  obtain ⟨N,hN,q2⟩:=q2
  rw [if_pos rfl]
  refine wpAny_passesOwn hp (thn (hb pins s2 σ1 H2 _ I2 q2) fun f s3 q3=>?_)
  cases f with
  | next =>
   obtain ⟨σ3,H3,I3,n3⟩:=q3
   obtain ⟨m',hm,w3⟩:=hN σ3 H3 n3
   exact ⟨m',hm,σ3,H3,I3,w3⟩
  | cont =>
   obtain ⟨σ3,H3,I3,n3⟩:=q3
   obtain ⟨m',hm,w3⟩:=hN σ3 H3 n3
   exact ⟨m',hm,σ3,H3,I3,w3⟩
  | brk=>exact q3
  | ret v=>exact q3
 | false =>
  rw [if_neg Bool.false_ne_true]
  exact wpAny_execs_nil ⟨σ1,H2,I2,q2⟩
end
structure It where
 go:Nat->Hp->Prop
 yld:Nat->Hp->V->Hp->Prop
 stop:Nat->Hp->Prop
def FpOk (X:Cx) (pins:List (Addr × Obj)) (H:Hp) (b:Addr):Prop :=
 H b = none/\b ≠ X.env.locals/\b ∉ X.fs/\(b ∈ X.ex\/X.s₀.heap.objs.size<=b)/\(∀ x c,X.env.cells.lookup x = some c->c ≠ b)/\∀ p ∈ X.pn ++ pins,p.1 ≠ b
theorem Inv.fpOk {X:Cx} {pins:List (Addr × Obj)} {σ:St} {H H':Hp} {s:Shared} {b:Addr} (I:Inv X pins σ H s) (hb:s.heap.objs.size<=b) (hn:H' b = none):FpOk X pins H' b:=by
 refine ⟨hn,Nat.ne_of_gt (Nat.lt_of_lt_of_le I.lt hb),I.nofs hb,.inr (Nat.le_trans I.sz hb),fun x c e z=>?_,fun p hp z=>?_⟩
 ·obtain ⟨v,q⟩:=I.cell x c e
  exact absurd (Nat.lt_of_lt_of_le q.lt (by rw [z]; exact hb)) (Nat.lt_irrefl _)
 ·exact absurd (Nat.lt_of_lt_of_le (Heap.lt_size (I.pin p hp).1) (by rw [z]; exact hb)) (Nat.lt_irrefl _)
structure Turn (P:Program) (w:World) (K:Frag) (tg:Expr) (J:It) (fp:List Addr) (it:Addr) (tn:Nat->Heap->Prop):Prop where
 mem:it ∈ fp
 obj:∀ i h,tn i h->∀ b ∈ fp,∃ o,h.get? b = some o/\∀ v,o.data ≠ .cell v
 keep:∀ i h h',tn i h->(∀ b ∈ fp,∀ o,h.get? b = some o->h'.get? b = some o)->tn i h'
 item:∀ (X:Cx),X.prog = P->X.w = w->X.K = K->X.calm = true->∀ (i:Nat) (pins:List (Addr × Obj)) (s:Shared) (σ:St) (H:Hp) (E:Value->Shared->Prop),Inv X pins σ H s->(∀ b ∈ fp,FpOk X pins H b)->tn i s.heap->J.go i H ->
  wpAny (model P w) X.A (pyNext (.ref it)) (fun r s1=>∃ u,r = some u /\
   wpAny (model P w) X.A (letOwnedTupleGo tg (.ref it) u) (fun _ s2=>∃ x H',Inv X pins σ H' s2/\RelV x u/\J.yld i H x H'/\tn (i + 1) s2.heap/\∀ b ∈ fp,H' b = none) E s1) E s
 done:∀ (X:Cx),X.prog = P->X.w = w->X.K = K->X.calm = true->∀ (i:Nat) (pins:List (Addr × Obj)) (s:Shared) (σ:St) (H:Hp) (E:Value->Shared->Prop),Inv X pins σ H s->(∀ b ∈ fp,FpOk X pins H b)->tn i s.heap->J.stop i H ->
  wpAny (model P w) X.A (pyNext (.ref it)) (fun r s1=>r = none/\Inv X pins σ H s1) E s
 self:∀ (A:Around) (i:Nat) (s:Shared) (Q:Value->Shared->Prop) (E:Value->Shared->Prop),tn i s.heap->Q (.ref it) s->wpAny (model P w) A (pyIter (.ref it)) Q E s
abbrev TI:=St->Hp->(It->Hp->Prop)->Prop
def PIE (X:Cx) (pins:List (Addr × Obj)) (σ:St) (tg:Expr) (R:It->Hp->Prop) (itv:Value) (s2:Shared):Prop :=
 ∃ (it:Addr) (fp:List Addr) (tn:Nat->Heap->Prop) (J:It) (H':Hp),itv = .ref it/\Inv X pins σ H' s2/\Turn X.prog X.w X.K tg J fp it tn/\tn 0 s2.heap/\(∀ b ∈ fp,FpOk X pins H' b)/\R J H'
def PI (X:Cx) (tg iter:Expr) (wi:TI):Prop :=
 ∀ (pins:List (Addr × Obj)) (s:Shared) (σ:St) (H:Hp) (R:It->Hp->Prop),Inv X pins σ H s->wi σ H R ->
  wpAny (model X.prog X.w) X.A (eval iter X.env) (fun v s1=>wpAny (model X.prog X.w) X.A (pyIter v) (PIE X pins σ tg R) X.xe s1) X.xe s
theorem rD {M:Model} {A:Around} {E:Value->Shared->Prop} {s:Shared} {tg:Expr} {it:Addr} {u:Value} {o:Obj} {n:String} {vs:Array Value} {Q:Unit->Shared->Prop} (ho:s.heap.get? it = some o) (hc:o.cls = .type n) (hd:o.data = .fields vs)
  (hn:["enumerate", "zip", "dict_itemiterator", "dict_reverseitemiterator", "odict_iterator", "itertools.zip_longest", "itertools.pairwise"].contains n = false) (hQ:Q () s):wpAny M A (letOwnedTupleGo tg (.ref it) u) Q E s:=by
 unfold letOwnedTupleGo
 cases tg <;> first
  | exact wpAny_pure hQ
  | (cases u <;> first
    | exact wpAny_pure hQ
    | (refine wpAny_bind (wpAny_load ho ?_)
       rw [hc,hd]
       show wpAny M A (if (["enumerate", "zip", "dict_itemiterator", "dict_reverseitemiterator", "odict_iterator", "itertools.zip_longest", "itertools.pairwise"].contains n && vs[0]? == some (rawInt _)) = true then _ else _) Q E s
       rw [if_neg (by intro h; rw [hn,Bool.false_and] at h; cases h)]
       exact wpAny_pure hQ))
def Itl (K:Frag) (a:Addr):It :=
 ⟨fun i H=>∃ xs x,SqL K H a xs/\xs[i]? = some x,fun i H x H'=>H' = H/\∀ xs,SqL K H a xs->xs[i]? = some x,fun i H=>∃ xs,SqL K H a xs/\xs.length<=i⟩
def Itt (K:Frag) (a:Addr):It :=
 ⟨fun i H=>∃ xs x,SqT K H a xs/\xs[i]? = some x,fun i H x H'=>H' = H/\∀ xs,SqT K H a xs->xs[i]? = some x,fun i H=>∃ xs,SqT K H a xs/\xs.length<=i⟩
def Itr (lo:Int) (n:Nat):It:=⟨fun i _=>i < n,fun i H x H'=>H' = H/\x = .int (lo + i),fun i _=>n<=i⟩
theorem sY {P:Program} {w:World} {K:Frag} {tg:Expr} (a it:Addr):Turn P w K tg (Itl K a) [it] it (fun i h=>h.IsListIter it a i) where
 mem:=by simp
 obj:=fun i h st b hb=>by
  have e:b = it:=by simpa using hb
  subst e
  obtain ⟨o,e,c,d⟩:=st
  exact ⟨o,e,fun v z=>by rw [d] at z; cases z⟩
 keep:=fun i h h' st k=>st.at fun o e=>k it (by simp) o e
 item:=by
  intro X hP hw hK hc i pins s σ H E I hf st hg
  subst hP hw hK
  obtain ⟨xs,x,hq,hx⟩:=hg
  obtain ⟨its,rv,p,hz⟩:=I.list hq
  obtain ⟨u,hu,ru⟩:=rv.get hx
  obtain ⟨f0,f1,f2,f3,f4,f5⟩:=hf it (by simp)
  refine wpAny_pyNext_list_item st p.isList (x:=u) (by simpa using hu) fun h' st' sb=>?_
  have I1:Inv X pins σ H { s with heap:=h' }:=I.turned (t':=s.toks) (fun b o hb e=>(sb.2 b hb).trans e) f0 f1 f3 f4 f5
  obtain ⟨o,e,c,d⟩:=id st'
  exact ⟨u,rfl,rD (s:={ s with heap:=h' }) e c d (by decide) ⟨x,H,I1,ru,⟨rfl,fun ys hy=>by rw [I.list_inj hy hq]; exact hx⟩,st',fun b hb=>(hf b hb).1⟩⟩
 done:=by
  intro X hP hw hK hc i pins s σ H E I hf st hg
  subst hP hw hK
  obtain ⟨xs,hq,hx⟩:=hg
  obtain ⟨its,rv,p,hz⟩:=I.list hq
  obtain ⟨f0,f1,f2,f3,f4,f5⟩:=hf it (by simp)
  have hl:=rv.length
  exact wpAny_pyNext_list_end (I.ok.hd hc) st p.isList (by simp; omega) fun h' eb=>⟨rfl,I.turned (t':=s.toks) (fun b o hb e=>eb b o hb e) f0 f1 f3 f4 f5⟩
 self:=fun _ _ _ _ _ st h=>wpAny_pyIter_listiter st h
theorem rf {P:Program} {w:World} {K:Frag} {tg:Expr} (a it:Addr):Turn P w K tg (Itt K a) [it] it (fun i h=>h.IsTupleIter it a i) where
 mem:=by simp
 obj:=fun i h st b hb=>by
  have e:b = it:=by simpa using hb
  subst e
  obtain ⟨o,e,c,d⟩:=st
  exact ⟨o,e,fun v z=>by rw [d] at z; cases z⟩
 keep:=fun i h h' st k=>st.at fun o e=>k it (by simp) o e
 item:=by
  intro X hP hw hK hc i pins s σ H E I hf st hg
  subst hP hw hK
  obtain ⟨xs,x,hq,hx⟩:=hg
  obtain ⟨its,rv,p,hz⟩:=I.tuple hq
  obtain ⟨u,hu,ru⟩:=rv.get hx
  obtain ⟨f0,f1,f2,f3,f4,f5⟩:=hf it (by simp)
  refine wpAny_pyNext_tuple_item st (show s.heap.IsTuple a its.toArray from p) (x:=u) (by simpa using hu) fun h' st' sb=>?_
  have I1:Inv X pins σ H { s with heap:=h' }:=I.turned (t':=s.toks) (fun b o hb e=>(sb.2 b hb).trans e) f0 f1 f3 f4 f5
  obtain ⟨o,e,c,d⟩:=id st'
  exact ⟨u,rfl,rD (s:={ s with heap:=h' }) e c d (by decide) ⟨x,H,I1,ru,⟨rfl,fun ys hy=>by rw [I.tuple_inj hy hq]; exact hx⟩,st',fun b hb=>(hf b hb).1⟩⟩
 done:=by
  intro X hP hw hK hc i pins s σ H E I hf st hg
  subst hP hw hK
  obtain ⟨xs,hq,hx⟩:=hg
  obtain ⟨its,rv,p,hz⟩:=I.tuple hq
  obtain ⟨f0,f1,f2,f3,f4,f5⟩:=hf it (by simp)
  have hl:=rv.length
  exact wpAny_pyNext_tuple_end (I.ok.hd hc) st (show s.heap.IsTuple a its.toArray from p) (by simp; omega) fun h' eb=>⟨rfl,I.turned (t':=s.toks) (fun b o hb e=>eb b o hb e) f0 f1 f3 f4 f5⟩
 self:=fun _ _ _ _ _ st h=>wpAny_pyIter_tupleiter st h
theorem qL {P:Program} {w:World} {K:Frag} {tg:Expr} (it:Addr) (lo:Int) (n:Nat):Turn P w K tg (Itr lo n) [it] it (fun i h=>IsRangeIter h it (lo + (i:Nat) * 1) ((n:Int) - (i:Nat)) 1) where
 mem:=by simp
 obj:=fun i h st b hb=>by
  have e:b = it:=by simpa using hb
  subst e
  exact ⟨_,st,fun v z=>by
   have z':Data.fields _ = Data.cell v:=z
   cases z'⟩
 keep:=fun i h h' st k=>k it (by simp) _ st
 item:=by
  intro X hP hw hK hc i pins s σ H E I hf st hg
  subst hP hw hK
  obtain ⟨f0,f1,f2,f3,f4,f5⟩:=hf it (by simp)
  have W:=Walks.range (prog:=X.prog) (w:=X.w) (I.ok.hd hc) it lo 1 n
  refine W.item i s _ _ hg st fun v h' tk hv st' kk=>?_
  obtain ⟨t,rfl⟩:=hv
  have I1:Inv X pins σ H { s with heap:=h',toks:=tk }:=I.turned (fun b o hb e=>kk b o (by simpa using hb) e) f0 f1 f3 f4 f5
  refine ⟨_,rfl,rD (s:={ s with heap:=h',toks:=tk }) (n:="range_iterator") st' rfl rfl (by decide) ⟨.int (lo + i),H,I1,⟨t,?_⟩,⟨rfl,rfl⟩,st',fun b hb=>(hf b hb).1⟩⟩
  rw [Int.mul_one]
 done:=by
  intro X hP hw hK hc i pins s σ H E I hf st hg
  subst hP hw hK
  obtain ⟨f0,f1,f2,f3,f4,f5⟩:=hf it (by simp)
  exact wpAny_pyNext_range_end (I.ok.hd hc) st (by have:n<=i:=hg; omega) fun h' eb=>⟨rfl,I.turned (t':=s.toks) (fun b o hb e=>eb b o hb e) f0 f1 f3 f4 f5⟩
 self:=fun _ _ _ _ _ st h=>wpAny_pyIter_rangeiter st h
end L2
namespace L2
open PySem PySem.Spec PyProof.Rows
section
variable {X:Cx} {tg:Expr}
def iList (K:Frag) (tl:TE):TI:=fun σ H R=>tl σ H fun x H1=>∃ a,x = .ref a/\(∃ xs,SqL K H1 a xs)/\R (Itl K a) H1
def iTup (K:Frag) (tl:TE):TI:=fun σ H R=>tl σ H fun x H1=>∃ a,x = .ref a/\(∃ xs,SqT K H1 a xs)/\R (Itt K a) H1
theorem bn {l:Expr} {tl:TE} (hl:PE X l tl):PI X tg l (iList X.K tl):=by
 intro pins s σ H R I h
 refine thn (hl pins s σ H _ I h) fun v s1 ⟨x,H1,I1,r1,q1⟩=>?_
 obtain ⟨a,e,⟨xs,hq⟩,q⟩:=q1
 subst e
 cases r1
 obtain ⟨its,rv,p,hz⟩:=I1.list hq
 refine wpAny_pyIter_list p.isList ?_
 refine ⟨s1.heap.objs.size,[s1.heap.objs.size],_,_,H1,rfl,I1.kept (t':=s1.toks) fun b o e=>Heap.get?_push_of_some _ e,sY a _,⟨_,Heap.get?_push_size _ rfl,rfl,rfl⟩,fun b hb=>?_,q⟩
 have e:b = s1.heap.objs.size:=by simpa using hb
 subst e
 exact I1.fpOk (Nat.le_refl _) (I1.hok.fresh (Nat.le_refl _))
theorem pi_tup {l:Expr} {tl:TE} (hl:PE X l tl):PI X tg l (iTup X.K tl):=by
 intro pins s σ H R I h
 refine thn (hl pins s σ H _ I h) fun v s1 ⟨x,H1,I1,r1,q1⟩=>?_
 obtain ⟨a,e,⟨xs,hq⟩,q⟩:=q1
 subst e
 cases r1
 obtain ⟨its,rv,p,hz⟩:=I1.tuple hq
 refine wpAny_pyIter_tuple (show s1.heap.IsTuple a its.toArray from p) ?_
 refine ⟨s1.heap.objs.size,[s1.heap.objs.size],_,_,H1,rfl,I1.kept (t':=s1.toks) fun b o e=>Heap.get?_push_of_some _ e,rf a _,⟨_,Heap.get?_push_size _ rfl,rfl,rfl⟩,fun b hb=>?_,q⟩
 have e:b = s1.heap.objs.size:=by simpa using hb
 subst e
 exact I1.fpOk (Nat.le_refl _) (I1.hok.fresh (Nat.le_refl _))
theorem range_it {pins:List (Addr × Obj)} {σ:St} {H:Hp} {s:Shared} {R:It->Hp->Prop} {E:Value->Shared->Prop} {lo hi:Int} {t u v:Tok} {tk:Nat} (I:Inv X pins σ H s) (h1:-(2 ^ 62)<=lo) (h2:lo < 2 ^ 62) (h3:-(2 ^ 62)<=hi) (h4:hi < 2 ^ 62)
  (q:R (Itr lo (hi - lo).toNat) H):wpAny (model X.prog X.w) X.A (pyIter (.ref s.heap.objs.size)) (PIE X pins σ tg R) E { s with heap:=s.heap.push { cls:=.type "range",data:=.fields #[.int lo t,.int hi u,.int 1 v] },toks:=tk }:=by
 refine wpAny_pyIter_range (IsRange.new ..) (small_one h1 h2 h3 h4) ?_
 have I1:Inv X pins σ H { s with heap:=s.heap.push { cls:=.type "range",data:=.fields #[.int lo t,.int hi u,.int 1 v] },toks:=tk }:=I.kept fun b o e=>Heap.get?_push_of_some _ e
 refine ⟨(s.heap.push { cls:=.type "range",data:=.fields #[.int lo t,.int hi u,.int 1 v] }).objs.size,[(s.heap.push { cls:=.type "range",data:=.fields #[.int lo t,.int hi u,.int 1 v] }).objs.size],_,_,H,rfl,
  I1.kept (t':=tk) fun b o e=>Heap.get?_push_of_some _ e,qL _ lo (hi - lo).toNat,?_,fun b hb=>?_,q⟩
 ·have e1:lo + ((0:Nat):Int) * 1 = lo:=by simp
  have e2:(((hi - lo).toNat:Nat):Int) - ((0:Nat):Int) = Builtin.Range.rangeSize lo hi 1:=by rw [rangeSize_one]; split <;> omega
  show IsRangeIter _ _ (lo + ((0:Nat):Int) * 1) ((((hi - lo).toNat:Nat):Int) - ((0:Nat):Int)) 1
  rw [e1,e2]
  exact Heap.get?_push_size _ rfl
 ·have e:b = (s.heap.push { cls:=.type "range",data:=.fields #[.int lo t,.int hi u,.int 1 v] }).objs.size:=by simpa using hb
  subst e
  exact I1.fpOk (Nat.le_refl _) (I1.hok.fresh (Nat.le_refl _))
def iRng1 (ta:TA):TI:=fun σ H R=>ta σ H fun vs H1=>∃ j:Int,vs = [.int j]/\-(2 ^ 62)<=j/\j < 2 ^ 62/\R (Itr 0 j.toNat) H1
theorem eN {a:Expr} {ta:TA} {p pos:Pos} (hg:Gl X "range") (hm:X.mg "range" = none) (ha:PA X [a] ta) (hs:starEach [a] X.env = [(false,eval a X.env)]:=by rfl):PI X tg (.Call (.Name "range" p) [a] [] pos) (iRng1 ta):=by
 intro pins s σ H R I h
 refine Call_ (p7 I hg hm boot_range (PyProof.Rows.callWith_type1 (thn (ha pos pins s σ H _ I h) fun us s1 ⟨vs,H1,I1,r1,q1⟩=>?_) hs rfl))
 obtain ⟨j,e,q1,q2,q⟩:=q1
 subst e
 cases r1 with
 | cons r rr =>
  cases rr
  obtain ⟨t,rfl⟩:=r
  exact call_range_1 (range_it I1 (by omega) (by omega) q1 q2 (by simpa using q))
def tFor (wi:TI) (g:TG) (tb:TS):TS:=fun D σ H=>wi σ H fun J H1=>∃ W:Nat->Nat->St->Hp->Prop,(∃ m,W 0 m σ H1)/\∀ i m σ H,W i m σ H ->
 (J.stop i H/\D.nx σ H)\/(J.go i H/\∃ N:St->Hp->Prop,(∀ σ' H',N σ' H'->∃ m',m' < m/\W (i + 1) m' σ' H')/\∀ x H',J.yld i H x H'->g x σ H' fun σ2 H2=>tb { D with nx:=N,ct:=N,bk:=D.nx } σ2 H2)
def qa (fp:List Addr) (h:Heap):List (Addr × Obj):=fp.filterMap fun b=>(h.get? b).map fun o=>(b,o)
theorem cM {fp:List Addr} {h:Heap} {b:Addr} {o:Obj} (hb:b ∈ fp) (e:h.get? b = some o):(b,o) ∈ qa fp h:=List.mem_filterMap.mpr ⟨b,hb,by rw [e]; rfl⟩
theorem sW {fp:List Addr} {h:Heap} {p:Addr × Obj} (hp:p ∈ qa fp h):p.1 ∈ fp/\h.get? p.1 = some p.2:=by
 obtain ⟨b,hb,e⟩:=List.mem_filterMap.mp hp
 cases q:h.get? b with
 | none=>rw [q] at e; cases e
 | some o =>
  rw [q] at e
  have e':(b,o) = p:=Option.some.inj e
  subst e'
  exact ⟨hb,q⟩
theorem Inv.pinned {pins:List (Addr × Obj)} {σ:St} {H:Hp} {s:Shared} {fp:List Addr} (I:Inv X pins σ H s) (hf:∀ b ∈ fp,FpOk X pins H b) (ho:∀ b ∈ fp,∃ o,s.heap.get? b = some o/\∀ v,o.data ≠ .cell v):Inv X (pins ++ qa fp s.heap) σ H s :=
 I.pins_of fun p hp=>(List.mem_append.mp hp).elim (fun z=>I.pin p (List.mem_append_right _ z)) fun z=>by
  obtain ⟨hb,e⟩:=sW z
  obtain ⟨f0,f1,f2,_⟩:=hf p.1 hb
  obtain ⟨o,e',d⟩:=ho p.1 hb
  rw [e] at e'; cases e'
  exact ⟨e,f0,f1,f2,d⟩
theorem Inv.unpinned {pins pl:List (Addr × Obj)} {σ:St} {H:Hp} {s:Shared} (I:Inv X (pins ++ pl) σ H s):Inv X pins σ H s:=I.pins_of fun p hp=>I.pin p (List.mem_append_right _ (List.mem_append_left _ hp))
theorem cI {iter:Expr} {body:List Stmt} {wi:TI} {g:TG} {tb:TS} {pos:Pos} (hp:PassesOwn (model X.prog X.w) X.A X.env X.xe) (hc:X.calm = true) (hi:PI X tg iter wi) (hg:PG X tg g) (hb:PSs X body tb)
  (hs:∀ x,foldedSetIterable iter X.env x = pure x:=by intro _; rfl):PS X (.For tg iter body [] pos) (tFor wi g tb):=by
 intro pins s σ H D I h
 refine wpAny_For (thn (hi pins s σ H _ I h) fun v s1 h1=>thn h1 fun itv s2 h2=>?_) hs
 obtain ⟨it,fp,tn,J,H2,e,I2,T,st2,f2,W,⟨m0,w0⟩,turn⟩:=h2
 subst e
 have stat:∀ {H':Hp},(∀ b ∈ fp,H' b = none)->∀ b ∈ fp,FpOk X pins H' b:=fun hn b hb=>⟨hn b hb,(f2 b hb).2⟩
 refine codeAny_forLoop_any (fun n s'=>∃ i σ' H',Inv X pins σ' H' s'/\tn i s'.heap/\(∀ b ∈ fp,H' b = none)/\W i n σ' H') ?_ m0 ⟨0,σ,H2,I2,st2,fun b hb=>(f2 b hb).1,w0⟩
 rintro n s3 ⟨i,σ3,H3,I3,st3,fr3,w3⟩
 rcases turn i n σ3 H3 w3 with ⟨stop,qn⟩ | ⟨go,N,hN,step⟩
 ·refine wpAny_passesOwn hp (thn (T.done X rfl rfl rfl hc i pins s3 σ3 H3 X.xe I3 (stat fr3) st3 stop) fun r s4 ⟨hr,I4⟩=>?_)
  subst hr
  exact wpAny_execs_nil ⟨σ3,H3,I4,qn⟩
 ·refine wpAny_passesOwn hp (thn (T.item X rfl rfl rfl hc i pins s3 σ3 H3 X.xe I3 (stat fr3) st3 go) fun r s4 ⟨u,hr,h4⟩=>?_)
  subst hr
  refine wpAny_passesOwn hp (thn h4 fun _ s5 ⟨x,H5,I5,r5,y5,st5,fr5⟩=>?_)
  have I5':=I5.pinned (stat fr5) (T.obj _ _ st5)
  refine wpAny_passesOwn hp (thn (hg _ s5 σ3 H5 x u _ I5' r5 (step x H5 y5)) fun _ s6 ⟨σ6,H6,I6,q6⟩=>?_)
  refine wpAny_passesOwn hp (thn (hb _ s6 σ6 H6 _ I6 q6) fun f s7 q7=>?_)
  have again:∀ {σ7:St} {H7:Hp},Inv X (pins ++ qa fp s5.heap) σ7 H7 s7->N σ7 H7->∃ m,m < n/\∃ i σ' H',Inv X pins σ' H' s7/\tn i s7.heap/\(∀ b ∈ fp,H' b = none)/\W i m σ' H':=fun {σ7 H7} I7 n7=>by
   obtain ⟨m',hm,w7⟩:=hN σ7 H7 n7
   refine ⟨m',hm,i + 1,σ7,H7,I7.unpinned,T.keep _ _ _ st5 fun b hb o e=>(I7.pin (b,o) (List.mem_append_right _ (List.mem_append_right _ (cM hb e)))).1,fun b hb=>?_,w7⟩
   obtain ⟨o,e,d⟩:=T.obj _ _ st5 b hb
   exact (I7.pin (b,o) (List.mem_append_right _ (List.mem_append_right _ (cM hb e)))).2.1
  cases f with
  | next=>obtain ⟨σ7,H7,I7,n7⟩:=q7; exact again I7 n7
  | cont=>obtain ⟨σ7,H7,I7,n7⟩:=q7; exact again I7 n7
  | brk=>obtain ⟨σ7,H7,I7,q7⟩:=q7; exact ⟨σ7,H7,I7.unpinned,q7⟩
  | ret v=>obtain ⟨x7,σ7,H7,I7,r7,q7⟩:=q7; exact ⟨x7,σ7,H7,I7.unpinned,r7,q7⟩
end
theorem bT {K:Frag} {a:Addr} {xs:List V} {g:TG} {tb:TS} {D:Ends} {σ:St} {H:Hp} (Pv:Nat->St->Hp->Prop) (h0:Pv 0 σ H) (hl:∀ i σ H,i<=xs.length->Pv i σ H->SqL K H a xs)
  (hs:∀ i x σ H,xs[i]? = some x->Pv i σ H->g x σ H fun σ2 H2=>tb { D with nx:=Pv (i + 1),ct:=Pv (i + 1),bk:=D.nx } σ2 H2) (hd:∀ σ H,Pv xs.length σ H->D.nx σ H) :
  ∃ W:Nat->Nat->St->Hp->Prop,(∃ m,W 0 m σ H)/\∀ i m σ H,W i m σ H ->
   ((Itl K a).stop i H/\D.nx σ H)\/((Itl K a).go i H/\∃ N:St->Hp->Prop,(∀ σ' H',N σ' H'->∃ m',m' < m/\W (i + 1) m' σ' H')/\∀ x H',(Itl K a).yld i H x H'->g x σ H' fun σ2 H2=>tb { D with nx:=N,ct:=N,bk:=D.nx } σ2 H2):=by
 refine ⟨fun i m σ H=>m = xs.length - i/\i<=xs.length/\Pv i σ H,⟨xs.length,by simp,Nat.zero_le _,h0⟩,?_⟩
 rintro i m σ H ⟨rfl,hi,p⟩
 have q:=hl i σ H hi p
 by_cases hlt:i < xs.length
 ·refine .inr ⟨⟨xs,xs[i],q,by simp [hlt]⟩,Pv (i + 1),fun σ' H' p'=>⟨xs.length - (i + 1),by omega,rfl,hlt,p'⟩,fun x H' y=>?_⟩
  obtain ⟨e,y⟩:=y
  subst e
  exact hs i x σ _ (y xs q) p
 ·have e:i = xs.length:=by omega
  subst e
  exact .inl ⟨⟨xs,q,Nat.le_refl _⟩,hd σ H p⟩
theorem for_tup {K:Frag} {a:Addr} {xs:List V} {g:TG} {tb:TS} {D:Ends} {σ:St} {H:Hp} (Pv:Nat->St->Hp->Prop) (h0:Pv 0 σ H) (hl:∀ i σ H,i<=xs.length->Pv i σ H->SqT K H a xs)
  (hs:∀ i x σ H,xs[i]? = some x->Pv i σ H->g x σ H fun σ2 H2=>tb { D with nx:=Pv (i + 1),ct:=Pv (i + 1),bk:=D.nx } σ2 H2) (hd:∀ σ H,Pv xs.length σ H->D.nx σ H) :
  ∃ W:Nat->Nat->St->Hp->Prop,(∃ m,W 0 m σ H)/\∀ i m σ H,W i m σ H ->
   ((Itt K a).stop i H/\D.nx σ H)\/((Itt K a).go i H/\∃ N:St->Hp->Prop,(∀ σ' H',N σ' H'->∃ m',m' < m/\W (i + 1) m' σ' H')/\∀ x H',(Itt K a).yld i H x H'->g x σ H' fun σ2 H2=>tb { D with nx:=N,ct:=N,bk:=D.nx } σ2 H2):=by
 refine ⟨fun i m σ H=>m = xs.length - i/\i<=xs.length/\Pv i σ H,⟨xs.length,by simp,Nat.zero_le _,h0⟩,?_⟩
 rintro i m σ H ⟨rfl,hi,p⟩
 have q:=hl i σ H hi p
 by_cases hlt:i < xs.length
 ·refine .inr ⟨⟨xs,xs[i],q,by simp [hlt]⟩,Pv (i + 1),fun σ' H' p'=>⟨xs.length - (i + 1),by omega,rfl,hlt,p'⟩,fun x H' y=>?_⟩
  obtain ⟨e,y⟩:=y
  subst e
  exact hs i x σ _ (y xs q) p
 ·have e:i = xs.length:=by omega
  subst e
  exact .inl ⟨⟨xs,q,Nat.le_refl _⟩,hd σ H p⟩
theorem eT {lo:Int} {n:Nat} {g:TG} {tb:TS} {D:Ends} {σ:St} {H:Hp} (Pv:Nat->St->Hp->Prop) (h0:Pv 0 σ H)
  (hs:∀ i σ H,i < n->Pv i σ H->g (.int (lo + i)) σ H fun σ2 H2=>tb { D with nx:=Pv (i + 1),ct:=Pv (i + 1),bk:=D.nx } σ2 H2) (hd:∀ σ H,Pv n σ H->D.nx σ H) :
  ∃ W:Nat->Nat->St->Hp->Prop,(∃ m,W 0 m σ H)/\∀ i m σ H,W i m σ H ->
   ((Itr lo n).stop i H/\D.nx σ H)\/((Itr lo n).go i H/\∃ N:St->Hp->Prop,(∀ σ' H',N σ' H'->∃ m',m' < m/\W (i + 1) m' σ' H')/\∀ x H',(Itr lo n).yld i H x H'->g x σ H' fun σ2 H2=>tb { D with nx:=N,ct:=N,bk:=D.nx } σ2 H2):=by
 refine ⟨fun i m σ H=>m = n - i/\i<=n/\Pv i σ H,⟨n,by simp,Nat.zero_le _,h0⟩,?_⟩
 rintro i m σ H ⟨rfl,hi,p⟩
 by_cases hlt:i < n
 ·refine .inr ⟨hlt,Pv (i + 1),fun σ' H' p'=>⟨n - (i + 1),by omega,rfl,hlt,p'⟩,fun x H' y=>?_⟩
  obtain ⟨e,y⟩:=y
  subst e y
  exact hs i σ _ hlt p
 ·have e:i = n:=by omega
  subst e
  exact .inl ⟨Nat.le_refl _,hd σ H p⟩
theorem while_by {c:TT} {tb:TS} {D:Ends} {σ:St} {H:Hp} (Pv:St->Hp->Prop) (μ:St->Hp->Nat) (h0:Pv σ H)
  (hs:∀ σ H,Pv σ H->c σ H fun b H1=>if b = true then tb { D with nx:=fun σ' H'=>Pv σ' H'/\μ σ' H' < μ σ H,ct:=fun σ' H'=>Pv σ' H'/\μ σ' H' < μ σ H,bk:=D.nx } σ H1 else D.nx σ H1)
  (mono:∀ σ H Q Q',(∀ b H1,Q b H1->Q' b H1)->c σ H Q->c σ H Q'):tWhile c tb D σ H:=by
 refine ⟨fun m σ H=>m = μ σ H/\Pv σ H,⟨_,rfl,h0⟩,?_⟩
 rintro m σ H ⟨rfl,p⟩
 refine mono σ H _ _ (fun b H1 q=>?_) (hs σ H p)
 cases b with
 | true=>exact ⟨_,fun σ' H' ⟨p',l⟩=>⟨_,l,rfl,p'⟩,q⟩
 | false=>exact q
end L2
namespace L2
open PySem PySem.Spec PyProof.Rows
abbrev R2:=V->V->Hp->VK->Prop
def OpR (X:Cx) (f:Value->Value->Sem Value) (r:R2):Prop :=
 ∀ (pins:List (Addr × Obj)) (s:Shared) (σ:St) (H:Hp) (x y:V) (v u:Value) (Q:VK),Inv X pins σ H s->RelV x v->RelV y u->r x y H Q ->
  wpAny (model X.prog X.w) X.A (f v u) (EP X pins σ Q) X.xe s
def UnR (X:Cx) (f:Value->Sem Value) (r:V->Hp->VK->Prop):Prop :=
 ∀ (pins:List (Addr × Obj)) (s:Shared) (σ:St) (H:Hp) (x:V) (v:Value) (Q:VK),Inv X pins σ H s->RelV x v->r x H Q ->
  wpAny (model X.prog X.w) X.A (f v) (EP X pins σ Q) X.xe s
def fi (X:Cx) (f:Value) (r:List V->Hp->VK->Prop):Prop :=
 ∀ (pins:List (Addr × Obj)) (s:Shared) (σ:St) (H:Hp) (xs:List V) (us:List Value) (Q:VK),Inv X pins σ H s->Vals xs us->r xs H Q ->
  wpAny (model X.prog X.w) X.A (call f us) (EP X pins σ Q) X.xe s
def tOp (r:R2) (ta tb:TE):TE:=fun σ H Q=>ta σ H fun x H1=>tb σ H1 fun y H2=>r x y H2 Q
def tUn (r:V->Hp->VK->Prop) (ta:TE):TE:=fun σ H Q=>ta σ H fun x H1=>r x H1 Q
def rI (C:Int->Int->Prop) (g:Int->Int->V):R2:=fun x y H Q=>∃ i j,x = .int i/\y = .int j/\C i j/\Q (g i j) H
def rI0 (g:Int->Int->V):R2:=fun x y H Q=>∃ i j,x = .int i/\y = .int j/\Q (g i j) H
def rU (g:Int->V):V->Hp->VK->Prop:=fun x H Q=>∃ i,x = .int i/\Q (g i) H
section
variable {X:Cx} {a b c:Expr} {ta tb tc:TE} {pos:Pos}
theorem binT (ha:PE X a ta) (hb:PE X b tb) {pins:List (Addr × Obj)} {s:Shared} {σ:St} {H:Hp} {R:V->V->Hp->Prop} (I:Inv X pins σ H s)
  (h:ta σ H fun x H1=>tb σ H1 fun y H2=>R x y H2) {Q:Value->Shared->Prop} {f:Value->Value->Sem Value}
  (hf:∀ v u s2 x y H2,Inv X pins σ H2 s2->RelV x v->RelV y u->R x y H2->wpAny (model X.prog X.w) X.A (f v u) Q X.xe s2) :
  wpAny (model X.prog X.w) X.A (eval a X.env) (fun v s₁=>wpAny (model X.prog X.w) X.A (eval b X.env) (fun u s₂=>wpAny (model X.prog X.w) X.A (f v u) Q X.xe s₂) X.xe s₁) X.xe s:=by
 refine thn (ha pins s σ H _ I h) fun v s1 ⟨x,H1,I1,r1,q1⟩=>?_
 refine thn (hb pins s1 σ H1 _ I1 q1) fun u s2 ⟨y,H2,I2,r2,q2⟩=>?_
 exact hf v u s2 x y H2 I2 r1 r2 q2
theorem aE {op:Operator} {r:R2} (ho:OpR X (binaryOp op) r) (ha:PE X a ta) (hb:PE X b tb):PE X (.BinOp a op b pos) (tOp r ta tb):=by
 intro pins s σ H Q I h
 exact wpAny_BinOp (binT ha hb I h fun v u s2 x y H2 I2 rx ry q=>ho pins s2 σ H2 x y v u Q I2 rx ry q)
theorem ny {op:UnaryOp} {r:V->Hp->VK->Prop} (ho:UnR X (unaryOp op) r) (ha:PE X a ta):PE X (.UnaryOp op a pos) (tUn r ta):=by
 intro pins s σ H Q I h
 exact UnaryOp_ (thn (ha pins s σ H _ I h) fun v s1 ⟨x,H1,I1,r1,q1⟩=>ho pins s1 σ H1 x v Q I1 r1 q1)
theorem opI {f:Value->Value->Sem Value} {C:Int->Int->Prop} {g:Int->Int->Int}
  (rule:∀ (i j:Int) (t u:Tok) (s:Shared) (Q:Value->Shared->Prop) (E:Value->Shared->Prop),C i j->Q (.int (g i j) s.toks) { s with toks:=s.toks + 1 }->wpAny (model X.prog X.w) X.A (f (.int i t) (.int j u)) Q E s) :
  OpR X f (rI C fun i j=>.int (g i j)):=by
 intro pins s σ H x y v u Q I rx ry h
 obtain ⟨i,j,rfl,rfl,hc,q⟩:=h
 obtain ⟨t,rfl⟩:=rx
 obtain ⟨t',rfl⟩:=ry
 exact rule i j t t' s _ _ hc ⟨.int (g i j),H,I.tok _,⟨_,rfl⟩,q⟩
theorem opI0 {f:Value->Value->Sem Value} {g:Int->Int->Int}
  (rule:∀ (i j:Int) (t u:Tok) (s:Shared) (Q:Value->Shared->Prop) (E:Value->Shared->Prop),Q (.int (g i j) s.toks) { s with toks:=s.toks + 1 }->wpAny (model X.prog X.w) X.A (f (.int i t) (.int j u)) Q E s) :
  OpR X f (rI0 fun i j=>.int (g i j)):=by
 intro pins s σ H x y v u Q I rx ry h
 obtain ⟨i,j,rfl,rfl,q⟩:=h
 obtain ⟨t,rfl⟩:=rx
 obtain ⟨t',rfl⟩:=ry
 exact rule i j t t' s _ _ ⟨.int (g i j),H,I.tok _,⟨_,rfl⟩,q⟩
theorem opB0 {f:Value->Value->Sem Value} {g:Int->Int->Bool}
  (rule:∀ (i j:Int) (t u:Tok) (s:Shared) (Q:Value->Shared->Prop) (E:Value->Shared->Prop),Q (.bool (g i j)) s->wpAny (model X.prog X.w) X.A (f (.int i t) (.int j u)) Q E s) :
  OpR X f (rI0 fun i j=>.bl (g i j)):=by
 intro pins s σ H x y v u Q I rx ry h
 obtain ⟨i,j,rfl,rfl,q⟩:=h
 obtain ⟨t,rfl⟩:=rx
 obtain ⟨t',rfl⟩:=ry
 exact rule i j t t' s _ _ ⟨.bl (g i j),H,I,rfl,q⟩
def CPow (i j:Int):Prop:=0<=j/\j<=1000000/\i.natAbs < 2 ^ 64
def CMul (i j:Int):Prop:=(-(2 ^ 64) < i/\i < 2 ^ 64)\/(-(2 ^ 64) < j/\j < 2 ^ 64)
theorem CMul.ok {i j:Int} (h:CMul i j):IntMulOk i j:=by
 rcases h with ⟨h1,h2⟩ | ⟨h1,h2⟩
 ·exact .of_left (intBits_le_64 h1 h2)
 ·exact .of_right (intBits_le_64 h1 h2)
theorem qE (k:Nat):(0:Int)<=2 ^ k:=by
 rw [two_pow_cast]
 exact Int.natCast_nonneg _
theorem bY:OpR X (binaryOp .Add) (rI0 fun i j=>.int (i + j)):=opI0 fun _ _ _ _ _ _ _ q=>add_int q
theorem eY:OpR X (binaryOp .Sub) (rI0 fun i j=>.int (i - j)):=opI0 fun _ _ _ _ _ _ _ q=>sub_int q
theorem cG:OpR X (binaryOp .Mult) (rI CMul fun i j=>.int (i * j)):=opI fun _ _ _ _ _ _ _ hc q=>mul_int q hc.ok
theorem bM:OpR X (binaryOp .Mod) (rI (fun _ j=>0 < j) fun i j=>.int (i % j)):=opI fun i j _ _ _ _ _ hc q=>by
 have h1:(0:Int) < j:=hc
 exact mod_int' (by omega) (by rw [Int.fmod_eq_emod_of_nonneg i (by omega)]; exact q)
theorem op_pow:OpR X (binaryOp .Pow) (rI CPow fun i j=>.int (i ^ j.toNat)):=opI fun _ _ _ _ _ _ _ hc q=>pow_int_small hc.1 hc.2.1 hc.2.2 q
theorem fV:OpR X (binaryOp .LShift) (rI CPow fun i j=>.int (i * 2 ^ j.toNat)):=opI fun _ _ _ _ _ _ _ hc q=>lshift_int_small hc.1 hc.2.1 hc.2.2 q
theorem qu:OpR X (binaryOp .RShift) (rI (fun _ j=>0<=j) fun i j=>.int (i / 2 ^ j.toNat)):=opI fun i j _ _ _ _ _ hc q =>
 rshift_int hc (by rw [Int.fdiv_eq_ediv_of_nonneg i (qE _)]; exact q)
theorem op_and:OpR X (binaryOp .BitAnd) (rI0 fun i j=>.int (Builtin.bitAnd i j)):=opI0 fun _ _ _ _ _ _ _ q=>and_int q
theorem op_or:OpR X (binaryOp .BitOr) (rI0 fun i j=>.int (Builtin.bitOr i j)):=opI0 fun _ _ _ _ _ _ _ q=>or_int q
theorem op_xor:OpR X (binaryOp .BitXor) (rI0 fun i j=>.int (Builtin.bitXor i j)):=opI0 fun _ _ _ _ _ _ _ q=>xor_int q
theorem unI {f:Value->Sem Value} {g:Int->Int}
  (rule:∀ (i:Int) (t:Tok) (s:Shared) (Q:Value->Shared->Prop) (E:Value->Shared->Prop),Q (.int (g i) s.toks) { s with toks:=s.toks + 1 }->wpAny (model X.prog X.w) X.A (f (.int i t)) Q E s) :
  UnR X f (rU fun i=>.int (g i)):=by
 intro pins s σ H x v Q I rx h
 obtain ⟨i,rfl,q⟩:=h
 obtain ⟨t,rfl⟩:=rx
 exact rule i t s _ _ ⟨.int (g i),H,I.tok _,⟨_,rfl⟩,q⟩
theorem iR:UnR X (unaryOp .USub) (rU fun i=>.int (-i)):=unI fun _ _ _ _ _ q=>neg_int q
end
def scal:V->V->Bool
 | .non,.non=>true | .non,.int _=>true | .int _,.non=>true | .non,.bl _=>true | .bl _,.non=>true | .non,.str _=>true | .str _,.non=>true
 | .int _,.int _=>true | .bl _,.bl _=>true | .str _,.str _=>true | .byt _,.byt _=>true
 | .int _,.str _=>true | .str _,.int _=>true | .bl _,.str _=>true | .str _,.bl _=>true
 | _,_=>false
def rEq:R2:=fun x y H Q=>scal x y = true/\Q (.bl (decide (x = y))) H
def rNe:R2:=fun x y H Q=>scal x y = true/\Q (.bl (!decide (x = y))) H
theorem sU {i j:Int}:decide (V.int i = V.int j) = (i == j):=by
 rw [Bool.eq_iff_iff]
 simp
theorem dec_bl {i j:Bool}:decide (V.bl i = V.bl j) = (i == j):=by
 rw [Bool.eq_iff_iff]
 simp
theorem tO {i j:Str}:decide (V.str i = V.str j) = (i == j):=by
 rw [Bool.eq_iff_iff]
 simp
theorem rW {i j:Array UInt8}:decide (V.byt i = V.byt j) = (i.toList == j.toList):=by
 rw [Bool.eq_iff_iff]
 cases i
 cases j
 simp
section
variable {X:Cx} {a b c:Expr} {ta tb tc:TE} {pos:Pos}
theorem aY {pins:List (Addr × Obj)} {σ:St} {H:Hp} {s:Shared} {Q:VK} {k k':Bool} (I:Inv X pins σ H s) (q:Q (.bl k) H) (e:k = k'):EP X pins σ Q (.bool k') s:=by
 subst e
 exact ⟨.bl k,H,I,rfl,q⟩
theorem bc:OpR X (compareOp .Eq) rEq:=by
 intro pins s σ H x y v u Q I rx ry h
 obtain ⟨hs,q⟩:=h
 cases x with
 | non =>
  cases rx
  cases y with
  | non=>cases ry; exact PySem.EqNone.eq_none_none (aY I q (by simp))
  | bl j=>cases ry; exact PySem.EqNone.eq_none_bool (aY I q (by simp))
  | int j=>obtain ⟨t',rfl⟩:=ry; exact PySem.EqNone.eq_none_int (aY I q (by simp))
  | str j=>obtain ⟨t',rfl⟩:=ry; exact PySem.EqNone.eq_none_str (aY I q (by simp))
  | _=>exact absurd (show false = true from hs) Bool.false_ne_true
 | bl i =>
  cases rx
  cases y with
  | non=>cases ry; exact PySem.EqNone.eq_bool_none (aY I q (by simp))
  | bl j=>cases ry; exact eq_bool (aY I q dec_bl)
  | str j=>obtain ⟨t',rfl⟩:=ry; exact PySem.EqMixed.eq_bool_str (aY I q (by simp))
  | _=>exact absurd (show false = true from hs) Bool.false_ne_true
 | int i =>
  obtain ⟨t,rfl⟩:=rx
  cases y with
  | non=>cases ry; exact PySem.EqNone.eq_int_none (aY I q (by simp))
  | int j=>obtain ⟨t',rfl⟩:=ry; exact eq_int (aY I q sU)
  | str j=>obtain ⟨t',rfl⟩:=ry; exact PySem.EqMixed.eq_int_str (aY I q (by simp))
  | _=>exact absurd (show false = true from hs) Bool.false_ne_true
 | str i =>
  obtain ⟨t,rfl⟩:=rx
  cases y with
  | non=>cases ry; exact PySem.EqNone.eq_str_none (aY I q (by simp))
  | bl j=>cases ry; exact PySem.EqMixed.eq_str_bool (aY I q (by simp))
  | int j=>obtain ⟨t',rfl⟩:=ry; exact PySem.EqMixed.eq_str_int (aY I q (by simp))
  | str j=>obtain ⟨t',rfl⟩:=ry; exact eq_str (aY I q tO)
  | _=>exact absurd (show false = true from hs) Bool.false_ne_true
 | byt i =>
  obtain ⟨t,rfl⟩:=rx
  cases y with
  | byt j=>obtain ⟨t',rfl⟩:=ry; exact PySem.W.eq_bytes (aY I q rW)
  | _=>exact absurd (show false = true from hs) Bool.false_ne_true
 | _=>cases y <;> exact absurd (show false = true from hs) Bool.false_ne_true
theorem sL:OpR X (compareOp .NotEq) rNe:=by
 intro pins s σ H x y v u Q I rx ry h
 obtain ⟨hs,q⟩:=h
 cases x with
 | non =>
  cases rx
  cases y with
  | non=>cases ry; exact PySem.EqNone.ne_none_none (aY I q (by simp))
  | bl j=>cases ry; exact PySem.EqNone.ne_none_bool (aY I q (by simp))
  | int j=>obtain ⟨t',rfl⟩:=ry; exact PySem.EqNone.ne_none_int (aY I q (by simp))
  | str j=>obtain ⟨t',rfl⟩:=ry; exact PySem.EqNone.ne_none_str (aY I q (by simp))
  | _=>exact absurd (show false = true from hs) Bool.false_ne_true
 | bl i =>
  cases rx
  cases y with
  | non=>cases ry; exact PySem.EqNone.ne_bool_none (aY I q (by simp))
  | bl j=>cases ry; exact ne_bool (aY I q (congrArg not dec_bl))
  | str j=>obtain ⟨t',rfl⟩:=ry; exact PySem.EqMixed.ne_bool_str (aY I q (by simp))
  | _=>exact absurd (show false = true from hs) Bool.false_ne_true
 | int i =>
  obtain ⟨t,rfl⟩:=rx
  cases y with
  | non=>cases ry; exact PySem.EqNone.ne_int_none (aY I q (by simp))
  | int j=>obtain ⟨t',rfl⟩:=ry; exact ne_int (aY I q (congrArg not sU))
  | str j=>obtain ⟨t',rfl⟩:=ry; exact PySem.EqMixed.ne_int_str (aY I q (by simp))
  | _=>exact absurd (show false = true from hs) Bool.false_ne_true
 | str i =>
  obtain ⟨t,rfl⟩:=rx
  cases y with
  | non=>cases ry; exact PySem.EqNone.ne_str_none (aY I q (by simp))
  | bl j=>cases ry; exact PySem.EqMixed.ne_str_bool (aY I q (by simp))
  | int j=>obtain ⟨t',rfl⟩:=ry; exact PySem.EqMixed.ne_str_int (aY I q (by simp))
  | str j=>obtain ⟨t',rfl⟩:=ry; exact ne_str (aY I q (congrArg not tO))
  | _=>exact absurd (show false = true from hs) Bool.false_ne_true
 | byt i =>
  obtain ⟨t,rfl⟩:=rx
  cases y with
  | byt j=>obtain ⟨t',rfl⟩:=ry; exact PySem.W.ne_bytes (aY I q (congrArg not rW))
  | _=>exact absurd (show false = true from hs) Bool.false_ne_true
 | _=>cases y <;> exact absurd (show false = true from hs) Bool.false_ne_true
theorem kr:OpR X (compareOp .Lt) (rI0 fun i j=>.bl (decide (i < j))):=opB0 fun _ _ _ _ _ _ _ q=>lt_int q
theorem qS:OpR X (compareOp .LtE) (rI0 fun i j=>.bl (decide (i<=j))):=opB0 fun _ _ _ _ _ _ _ q=>le_int q
theorem qZ:OpR X (compareOp .Gt) (rI0 fun i j=>.bl (decide (j < i))):=opB0 fun _ _ _ _ _ _ _ q=>gt_int q
theorem op_ge:OpR X (compareOp .GtE) (rI0 fun i j=>.bl (decide (j<=i))):=opB0 fun _ _ _ _ _ _ _ q=>ge_int q
theorem sy:OpR X (compareOp .In) (fun x y H Q=>∃ i j,x = .str i/\y = .str j/\Q (.bl (!(Builtin.Str.occurrences j i 0 j.length 1).isEmpty)) H):=by
 intro pins s σ H x y v u Q I rx ry h
 obtain ⟨i,j,rfl,rfl,q⟩:=h
 obtain ⟨t,rfl⟩:=rx
 obtain ⟨t',rfl⟩:=ry
 exact in_str (aY I q rfl)
theorem op_isN:OpR X (compareOp .Is) (fun x y H Q=>y = .non/\Q (.bl (decide (x = .non))) H):=by
 intro pins s σ H x y v u Q I rx ry h
 obtain ⟨rfl,q⟩:=h
 cases ry
 refine is_none_gen (aY I q ?_)
 cases x <;> first
  | (cases rx; rfl)
  | (obtain ⟨t,rfl⟩:=rx; rfl)
theorem tE:OpR X (compareOp .IsNot) (fun x y H Q=>y = .non/\Q (.bl (!decide (x = .non))) H):=by
 intro pins s σ H x y v u Q I rx ry h
 obtain ⟨rfl,q⟩:=h
 cases ry
 refine isnot_none_gen (aY I q ?_)
 cases x <;> first
  | (cases rx; rfl)
  | (obtain ⟨t,rfl⟩:=rx; rfl)
theorem ay (b:Expr) {op:CmpOp} (h:op ≠ .In:=by decide) (h2:op ≠ .NotIn:=by decide):behindInMarks op b = false:=by
 have e1:(op == CmpOp.In) = false:=by cases op <;> first | rfl | exact absurd rfl h
 have e2:(op == CmpOp.NotIn) = false:=by cases op <;> first | rfl | exact absurd rfl h2
 cases b <;> simp [behindInMarks,e1,e2]
theorem cy {op:CmpOp} {r:R2} (ho:OpR X (compareOp op) r) (ha:PE X a ta) (hb:PE X b tb) (hm:behindInMarks op b = false):PE X (.Compare a [op] [b] pos) (tOp r ta tb):=by
 intro pins s σ H Q I h
 exact wpAny_Compare1 (binT ha hb I h fun v u s2 x y H2 I2 rx ry q=>ho pins s2 σ H2 x y v u Q I2 rx ry q) hm
def tTest (t:TE):TT:=fun σ H Q=>t σ H fun x H'=>∃ k,x = .bl k/\Q k H'
theorem au {op:CmpOp} {r:R2} (ho:OpR X (compareOp op) r) (ha:PE X a ta) (hb:PE X b tb) (hm:behindInMarks op b = false):PT X (.Compare a [op] [b] pos) (tTest (tOp r ta tb)):=by
 intro pins s σ H Q I h
 refine wpAny_isTrue_Compare1 (thn (ha pins s σ H _ I h) fun v s1 ⟨x,H1,I1,r1,q1⟩=>thn (hb pins s1 σ H1 _ I1 q1) fun u s2 ⟨y,H2,I2,r2,q2⟩ =>
  thn (ho pins s2 σ H2 x y v u _ I2 r1 r2 q2) fun c s3 ⟨z,H3,I3,r3,k,e,q3⟩=>?_) hm
 subst e
 cases r3
 exact wpAny_truthy_bool ⟨H3,I3,q3⟩
def tChain (r r':R2) (ta tb tc:TE):TE:=fun σ H Q=>ta σ H fun x H1=>tb σ H1 fun y H2=>r x y H2 fun z H3=>∃ k,z = .bl k /\
 (if k = true then tc σ H3 fun w' H4=>r' y w' H4 Q else Q (.bl false) H3)
theorem p6 {op op':CmpOp} {r r':R2} (ho:OpR X (compareOp op) r) (ho':OpR X (compareOp op') r') (ha:PE X a ta) (hb:PE X b tb) (hc:PE X c tc)
  (hm:lastMarks [op,op'] [b,c] = false:=by with_unfolding_all rfl):PE X (.Compare a [op,op'] [b,c] pos) (tChain r r' ta tb tc):=by
 intro pins s σ H Q I h
 refine Compare_chain (thn (ha pins s σ H _ I h) fun v s1 ⟨x,H1,I1,r1,q1⟩=>chain_link (thn (hb pins s1 σ H1 _ I1 q1) fun u s2 ⟨y,H2,I2,r2,q2⟩ =>
  thn (ho pins s2 σ H2 x y v u _ I2 r1 r2 q2) fun d s3 ⟨z,H3,I3,r3,k,e,q3⟩=>?_)) hm
 subst e
 cases r3
 refine wpAny_truthy_bool ?_
 cases k with
 | false=>exact ite_ff ⟨.bl false,H3,I3,rfl,q3⟩
 | true=>exact ite_tt (chain_last (thn (hc pins s3 σ H3 _ I3 q3) fun w' s4 ⟨z',H4,I4,r4,q4⟩=>ho' pins s4 σ H4 y z' u w' Q I4 r2 r4 q4))
theorem pt_chain {op op':CmpOp} {r r':R2} (ho:OpR X (compareOp op) r) (ho':OpR X (compareOp op') r') (ha:PE X a ta) (hb:PE X b tb) (hc:PE X c tc)
  (hm:lastMarks [op,op'] [b,c] = false:=by with_unfolding_all rfl):PT X (.Compare a [op,op'] [b,c] pos) (tTest (tChain r r' ta tb tc)):=by
 intro pins s σ H Q I h
 refine isTrue_chain (thn (ha pins s σ H _ I h) fun v s1 ⟨x,H1,I1,r1,q1⟩=>test_link (thn (hb pins s1 σ H1 _ I1 q1) fun u s2 ⟨y,H2,I2,r2,q2⟩ =>
  thn (ho pins s2 σ H2 x y v u _ I2 r1 r2 q2) fun d s3 ⟨z,H3,I3,r3,k,e,q3⟩=>?_)) hm
 subst e
 cases r3
 refine wpAny_truthy_bool ?_
 cases k with
 | false =>
  obtain ⟨k',e',q'⟩:=q3
  cases e'
  exact ite_ff ⟨H3,I3,q'⟩
 | true =>
  refine ite_tt (test_last (thn (hc pins s3 σ H3 _ I3 q3) fun w' s4 ⟨z',H4,I4,r4,q4⟩=>thn (ho' pins s4 σ H4 y z' u w' _ I4 r2 r4 q4) fun d' s5 ⟨z2,H5,I5,r5,k2,e2,q5⟩=>?_))
  subst e2
  cases r5
  exact wpAny_truthy_bool ⟨H5,I5,q5⟩
theorem kG:(sizeLine:Nat) < 2 ^ 63:=by rw [sizeLine_eq]; decide
theorem qM:OpR X (binaryOp .Add) (fun x y H Q=>∃ i j,x = .str i/\y = .str j/\i.length + j.length<=sizeLine/\Q (.str (i ++ j)) H):=by
 intro pins s σ H x y v u Q I rx ry h
 obtain ⟨i,j,rfl,rfl,hz,q⟩:=h
 obtain ⟨t,rfl⟩:=rx
 obtain ⟨t',rfl⟩:=ry
 exact add_str (fun t' tk=>⟨.str (i ++ j),H,I.tok _,⟨_,rfl⟩,q⟩) hz
theorem pN {x:V} {us:List Value} (r:Vals [x] us):∃ u,us = [u]/\RelV x u:=by
 cases r with
 | cons r1 r2=>cases r2; exact ⟨_,rfl,r1⟩
theorem vals2 {x y:V} {us:List Value} (r:Vals [x,y] us):∃ u w',us = [u,w']/\RelV x u/\RelV y w':=by
 cases r with
 | cons r1 r2 =>
  cases r2 with
  | cons r3 r4=>cases r4; exact ⟨_,_,rfl,r1,r3⟩
theorem sN (hc:X.calm = true):fi X (.builtin "max") (fun xs H Q=>∃ i j,xs = [.int i,.int j]/\Q (.int (if j > i then j else i)) H):=by
 intro pins s σ H xs us Q I r h
 obtain ⟨i,j,rfl,q⟩:=h
 obtain ⟨u,w',rfl,⟨t,rfl⟩,⟨t',rfl⟩⟩:=vals2 r
 refine max_two_ints (I.ok.hd hc) fun h' tk k=>⟨_,H,I.kept k,?_,q⟩
 by_cases hj:j > i
 ·rw [if_pos hj,if_pos hj]; exact ⟨_,rfl⟩
 ·rw [if_neg hj,if_neg hj]; exact ⟨_,rfl⟩
theorem tX (hc:X.calm = true):fi X (.builtin "min") (fun xs H Q=>∃ i j,xs = [.int i,.int j]/\Q (.int (if j < i then j else i)) H):=by
 intro pins s σ H xs us Q I r h
 obtain ⟨i,j,rfl,q⟩:=h
 obtain ⟨u,w',rfl,⟨t,rfl⟩,⟨t',rfl⟩⟩:=vals2 r
 refine min_two_ints (I.ok.hd hc) fun h' tk k=>⟨_,H,I.kept k,?_,q⟩
 by_cases hj:j < i
 ·rw [if_pos hj,if_pos hj]; exact ⟨_,rfl⟩
 ·rw [if_neg hj,if_neg hj]; exact ⟨_,rfl⟩
theorem hR:fi X (.type "int") (fun xs H Q=>(∃ i,xs = [.int i]/\Q (.int i) H)\/∃ k,xs = [.bl k]/\Q (.int (if k then 1 else 0)) H):=by
 intro pins s σ H xs us Q I r h
 rcases h with ⟨i,rfl,q⟩ | ⟨k,rfl,q⟩
 ·obtain ⟨u,rfl,t,rfl⟩:=pN r
  exact call_int_int ⟨.int i,H,I,⟨_,rfl⟩,q⟩
 ·obtain ⟨u,rfl,r1⟩:=pN r
  cases r1
  exact call_int_bool ⟨.int (if k then 1 else 0),H,I.tok _,⟨_,rfl⟩,q⟩
end
end L2
namespace L2
open PySem PySem.Spec PyProof.Rows
structure ObjM (h:Heap) (x dx C:Addr) (mA:Str->Option Value):Prop where
 obj:h.get? x = some (instObj C dx)
 ns:h.Ns1 dx mA
 ne:dx ≠ x
theorem mZ {h:Heap} {dx:Addr} {mA:Str->Option Value} (n:h.Ns1 dx mA):∃ od,h.get? dx = some od/\∀ name,PySem.W.lookIn name od = some (mA name):=by
 obtain ⟨o,es,ep,ho,hd,hk,_,hm⟩:=n
 refine ⟨o,ho,fun name=>?_⟩
 have e:=hm name
 unfold nsFind findBy at e
 rw [<- Array.find?_toList] at e
 unfold PySem.W.lookIn
 rw [hd]
 dsimp only
 split
 ·rename_i y q
  rw [q] at e
  exact congrArg some e
 ·rename_i q
  rw [q] at e
  have a:es.toList.any (·.refKey) = false:=by
   rw [List.any_eq_false]
   intro y hy
   obtain ⟨z,t,hkey⟩:=hk y (Array.mem_toList_iff.mp hy)
   simp [DictEntry.refKey,hkey]
  have a':¬ es.toList.any (·.refKey) = true:=by rw [a]; exact Bool.false_ne_true
  rw [if_neg a']
  exact congrArg some e
theorem ObjM.look {h:Heap} {x dx C:Addr} {mA:Str->Option Value} (I:ObjM h x dx C mA):∃ od,PySem.W.InstAt h x (instObj C dx) C (some od)/\∀ name,PySem.W.lookIn name od = some (mA name) :=
 let ⟨od,ho,hl⟩:=mZ I.ns
 ⟨od,⟨I.obj,rfl,rfl,ho⟩,hl⟩
section
variable {prog:Program} {w:World} {A:Around} {E:Value->Shared->Prop} {s:Shared} {K:Frag} {x dx C f:Addr} {mA:Str->Option Value} {name:Str} {v:Value}
theorem get_map {expr:Bool} {Q:Value->Shared->Prop} (X:K.In s.heap) (I:ObjM s.heap x dx C mA) (hg:plainGet K C name = true) (hh:hasDictIn K C = true)
  (ha:findIn K (.ref C) name = some none) (hv:mA name = some v) (hv':PySem.W.handedIn v = true) (h:Q v { s with toks:=s.toks + 1 }) :
  wpAny (model prog w) A (getAttr (.ref x) name expr) Q E s:=by
 obtain ⟨od,J,hl⟩:=I.look
 exact PySem.W.get_value X J (PySem.W.plainGet_of hg).1 (PySem.W.findObj_own hh ha rfl (by rw [hl,hv])) hv' h
theorem get_meth {pl:Sem Bool} {Q:Value × List Value->Shared->Prop} (X:K.In s.heap) (I:ObjM s.heap x dx C mA) (hg:plainGet K C name = true)
  (hf:findIn K (.ref C) name = some (some (.ref f))) (ht:isFn K (.ref f) = true) (hv:mA name = none) (h:Q (.ref f,[.ref x]) s) :
  wpAny (model prog w) A (getMethod (.ref x) name pl) Q E s:=by
 obtain ⟨od,J,hl⟩:=I.look
 exact PySem.W.method_fn X J (PySem.W.plainGet_of hg).1 (PySem.W.plainGet_of hg).2 hf (beq_iff_eq.mp ht) (by show (PySem.W.lookIn name od).map (·.isSome) = some false; rw [hl,hv]; rfl) h
theorem set_map {ns:List Str} {Q:Unit->Shared->Prop} (X:K.In s.heap) (I:ObjM s.heap x dx C mA)
  (hs:findIn K (.ref C) "__setattr__" = some (some (.builtin "object.__setattr__"))) (hp:plainOver K C = true) (ht:PySem.W.takerIn K C name = some none) (hh:hasDictIn K C = true)
  (hw:PySem.Within mA ns) (hsz:ns.length<=sizeLine)
  (h:∀ h',ObjM h' x dx C (fun y=>if y = name then some v else mA y)->Heap.SameBut dx s.heap h'->Q () { s with heap:=h',toks:=s.toks + 2 }) :
  wpAny (model prog w) A (setAttr (.ref x) name v) Q E s:=by
 obtain ⟨od,J,hl⟩:=I.look
 refine PySem.W.set_plain X J hs (PySem.W.osa_open (s:={ s with toks:=s.toks + 1 }) (r:=none) X J hp ht fun b=>?_)
 obtain ⟨cd,hc,hd'⟩:=PySem.W.any_some hh
 have hx:s.heap.get? x = some ⟨.ref C,some dx,.plain,#[]⟩:=I.obj
 refine wpAny_bind (wpAny_pure (wpAny_bind (wpAny_bind (wpAny_loadPart hx (wpAny_bind (PySem.W.Looks.here (s:={ s with toks:=s.toks + 1 }) (PySem.W.looks_clsIn X hc) ?_))))))
 rw [hd']
 refine wpAny_pure (a:=some dx) (wpAny_bind (wpAny_pure (wpAny_bind ?_)))
 refine wpAny_nsSet1 (s:={ s with toks:=s.toks + 1 }) I.ns fun h' hn2 hs2=>?_
 obtain ⟨oD,esD,epD,hoD,hdD,hcD⟩:=hn2.count (PySem.Within.cons name v hw)
 refine wpAny_bind (wpAny_lookBehind hoD (by rw [hdD]; exact pastItsLine_dict (Nat.le_trans hcD (by rw [List.length_cons]; omega))) ?_)
 exact wpAny_pure (h _ ⟨(hs2.2 _ (Ne.symm I.ne)).trans I.obj,hn2,I.ne⟩ hs2)
theorem make_map {R:Result->Shared->Prop} {vs:List Value} {kw:List (Str × Value)} (X:K.In s.heap) (hm:makesIn K C = true)
  (hi:findIn K (.ref C) "__init__" = some (some (.ref f))) (hf:typeIn K (.ref f) = some (.type "function"))
  (h:codeAny (model prog w) (A.under (.builtin "type.__call__" ⟨.ref C :: vs,kw⟩)) (.call (.ref f) ⟨.ref (s.heap.objs.size + 1) :: vs,kw⟩) (PySem.W.InitBack (s.heap.objs.size + 1) R)
   { s with heap:=(s.heap.push PySem.W.emptyDict).push (instObj C s.heap.objs.size) }) :
  codeAny (model prog w) A (.call (.ref C) ⟨vs,kw⟩) R s:=by
 obtain ⟨hh,g,d,t,os⟩:=s
 exact PySem.W.make_core (PySem.W.makes_of X hm) (PySem.W.looks_findIn X hi) (fun self=>PySem.W.bind_fn X self hf) (.inl rfl) h
end
def n4 (f:Str) (v:V):List (Str × V)->List (Str × V)
 | []=>[(f,v)]
 | (g,x) :: r=>if g = f then (g,v) :: r else (g,x) :: n4 f v r
theorem jJ (f g:Str) (v:V):∀ fs:List (Str × V),(n4 f v fs).lookup g = if g = f then some v else fs.lookup g
 | []=>by
  show List.lookup g [(f,v)] = _
  by_cases h:g = f
  ·have hb:(g == f) = true:=beq_iff_eq.mpr h
   simp only [List.lookup,hb,if_pos h]
  ·have hb:(g == f) = false:=beq_eq_false_iff_ne.mpr h
   simp only [List.lookup,hb,if_neg h]
 | (k,x) :: r=>by
  have ih:=jJ f g v r
  rw [show n4 f v ((k,x) :: r) = (if k = f then (k,v) :: r else (k,x) :: n4 f v r) from rfl]
  by_cases hk:k = f
  ·rw [if_pos hk]
   by_cases h:g = k
   ·have hb:(g == k) = true:=beq_iff_eq.mpr h
    simp only [List.lookup,hb,if_pos (h.trans hk)]
   ·have hb:(g == k) = false:=beq_eq_false_iff_ne.mpr h
    simp only [List.lookup,hb,if_neg (fun e:g = f=>h (e.trans hk.symm))]
  ·rw [if_neg hk]
   by_cases h:g = k
   ·have hb:(g == k) = true:=beq_iff_eq.mpr h
    simp only [List.lookup,hb,if_neg (fun e:g = f=>hk (h.symm.trans e))]
   ·have hb:(g == k) = false:=beq_eq_false_iff_ne.mpr h
    simp only [List.lookup,hb]
    exact ih
theorem jA (f:Str) (v:V):∀ fs:List (Str × V),f ∈ (n4 f v fs).map (·.1)/\∀ g,g ∈ fs.map (·.1)->g ∈ (n4 f v fs).map (·.1)
 | []=>⟨by simp [n4],fun g h=>by simp at h⟩
 | (k,x) :: r=>by
  obtain ⟨i1,i2⟩:=jA f v r
  rw [show n4 f v ((k,x) :: r) = (if k = f then (k,v) :: r else (k,x) :: n4 f v r) from rfl]
  by_cases hk:k = f
  ·rw [if_pos hk]
   subst hk
   exact ⟨by simp,fun g h=>by simpa using h⟩
  ·rw [if_neg hk]
   refine ⟨?_,fun g h=>?_⟩
   ·rw [List.map_cons]
    exact List.mem_cons_of_mem _ i1
   ·rw [List.map_cons] at h ⊢
    rcases List.mem_cons.mp h with e | e
    ·exact List.mem_cons.mpr (.inl e)
    ·exact List.mem_cons_of_mem _ (i2 g e)
theorem jH (f:Str) (v:V):∀ fs:List (Str × V),(n4 f v fs).length<=fs.length + 1
 | []=>by simp [n4]
 | (k,x) :: r=>by
  have ih:=jH f v r
  rw [show n4 f v ((k,x) :: r) = (if k = f then (k,v) :: r else (k,x) :: n4 f v r) from rfl]
  by_cases hk:k = f
  ·rw [if_pos hk,List.length_cons,List.length_cons]; omega
  ·rw [if_neg hk,List.length_cons,List.length_cons]; omega
theorem RelO.some_of {v:V} {o:Option Value} (r:RelO (some v) o):∃ u,o = some u/\RelV v u:=by
 cases o with
 | none=>exact (show False from r).elim
 | some u=>exact ⟨u,rfl,r⟩
theorem RelO.none_of {o:Option Value} (r:RelO none o):o = none:=by
 cases o with
 | none=>rfl
 | some u=>exact (show False from r).elim
theorem mW {v:V} {u:Value} (r:RelV v u):PySem.W.handedIn u = true:=by
 cases v with
 | non=>cases (show u = Value.none from r); rfl
 | bl b=>cases (show u = Value.bool b from r); rfl
 | int i=>obtain ⟨t,e⟩:=(show ∃ t,u = Value.int i t from r); cases e; rfl
 | str x=>obtain ⟨t,e⟩:=(show ∃ t,u = Value.str x t from r); cases e; rfl
 | byt b=>obtain ⟨t,e⟩:=(show ∃ t,u = Value.bytes b t from r); cases e; rfl
 | flt b=>obtain ⟨t,e⟩:=(show ∃ t,u = Value.float b t from r); cases e; rfl
 | ref a=>cases (show u = Value.ref a from r); rfl
 | ty n=>cases (show u = Value.type n from r); rfl
section
variable {P:Program} {w:World} {H H':Hp} {h h':Heap} {a C dx:Addr} {fs fs':List (Str × V)}
theorem lK (hok:HOk P w H h) (e:H a = some (.ins C dx fs)):∃ mA,ObjM h a dx C mA/\(∀ f,RelO (fs.lookup f) (mA f))/\PySem.Within mA (fs.map (·.1))/\fs.length<=1000/\H dx = some (.own a):=by
 obtain ⟨d,z,ne,ob,mA,n,r,q⟩:=(show ObjOk P w H h a (.ins C dx fs) from hok a _ e)
 exact ⟨mA,⟨ob,n,ne⟩,r,q,z,d⟩
end
structure Cls (K:Frag) (C:Addr):Prop where
 pg:plainGet K C Str.empty = true
 hd:hasDictIn K C = true
 po:plainOver K C = true
 sa:findIn K (.ref C) "__setattr__" = some (some (.builtin "object.__setattr__"))
theorem Cls.get {K:Frag} {C:Addr} (c:Cls K C) (f:Str):plainGet K C f = true:=c.pg
def NoAttr (K:Frag) (C:Addr) (f:Str):Prop:=findIn K (.ref C) f = some none
theorem NoAttr.taker {K:Frag} {C:Addr} {f:Str} (n:NoAttr K C f):PySem.W.takerIn K C f = some none:=by
 unfold PySem.W.takerIn
 rw [show findIn K (.ref C) f = some none from n]
 rfl
structure Meth (K:Frag) (C:Addr) (m:Str) (f:Addr):Prop where
 at_:findIn K (.ref C) m = some (some (.ref f))
 fn:isFn K (.ref f) = true
 kp:keepIn K (.ref f) = true
section
variable {X:Cx} {pins:List (Addr × Obj)} {σ:St} {H:Hp} {s:Shared} {a C dx:Addr} {fs:List (Str × V)} {f:Str} {v:V} {A:Around} {E:Value->Shared->Prop}
theorem rC {b:Bool} {Q:Value->Shared->Prop} (I:Inv X pins σ H s) (e:H a = some (.ins C dx fs)) (c:Cls X.K C) (n:NoAttr X.K C f) (l:fs.lookup f = some v)
  (h:∀ u s',Inv X pins σ H s'->RelV v u->Q u s'):wpAny (model X.prog X.w) A (getAttr (.ref a) f b) Q E s:=by
 obtain ⟨mA,O,r,_,_,_⟩:=lK I.hok e
 obtain ⟨u,hu,ru⟩:=RelO.some_of (v:=v) (o:=mA f) (by rw [<- l]; exact r f)
 exact get_map I.kIn O (c.get f) c.hd n hu (mW ru) (h u _ (I.tok _) ru)
theorem kI {m:Str} {g:Addr} {pl:Sem Bool} {Q:Value × List Value->Shared->Prop} (I:Inv X pins σ H s) (e:H a = some (.ins C dx fs)) (c:Cls X.K C) (k:Meth X.K C m g) (l:fs.lookup m = none)
  (h:Q (.ref g,[.ref a]) s):wpAny (model X.prog X.w) A (getMethod (.ref a) m pl) Q E s:=by
 obtain ⟨mA,O,r,_,_,_⟩:=lK I.hok e
 have hn:mA m = none:=RelO.none_of (by rw [<- l]; exact r m)
 exact get_meth I.kIn O (c.get m) k.at_ k.fn hn h
theorem qH {y:V} {u:Value} {Q:Unit->Shared->Prop} (I:Inv X pins σ H s) (e:H a = some (.ins C dx fs)) (c:Cls X.K C) (n:NoAttr X.K C f) (hl:fs.length < 1000) (ry:RelV y u)
  (h:∀ s',Inv X pins σ (upd H a (.ins C dx (n4 f y fs))) s'->Q () s'):wpAny (model X.prog X.w) A (setAttr (.ref a) f u) Q E s:=by
 obtain ⟨mA,O,r,wi,_,ho⟩:=lK I.hok e
 have hz:(fs.map (·.1)).length<=sizeLine:=by rw [List.length_map,sizeLine_eq]; omega
 refine set_map I.kIn O c.sa c.po n.taker c.hd wi hz fun h' O' sb=>h _ ?_
 have hd:∃ o,h'.get? dx = some o:=let ⟨o,_,_,e',_⟩:=O'.ns; ⟨o,e'⟩
 refine I.write (x:=a) (e:=dx) (by rw [e]; exact True.intro) (.inr ho) (fun b q hb z=>(sb.2 b hb).trans z) hd ?_
 refine ⟨by rw [am O.ne]; exact ho,?_,O.ne,O'.obj,_,O'.ns,fun g=>?_,fun g hg=>?_⟩
 ·have:=jH f y fs; omega
 ·show RelO ((n4 f y fs).lookup g) (if g = f then some u else mA g)
  rw [jJ]
  by_cases q:g = f
  ·rw [if_pos q,if_pos q]; exact ry
  ·rw [if_neg q,if_neg q]; exact r g
 ·by_cases q:g = f
  ·rw [q]; exact (jA f y fs).1
  ·refine (jA f y fs).2 g (wi g fun z=>hg ?_)
   show (if g = f then some u else mA g) = none
   rw [if_neg q]; exact z
theorem Inv.made (I:Inv X pins σ H s):Inv X pins σ (upd (upd H s.heap.objs.size (.own (s.heap.objs.size + 1))) (s.heap.objs.size + 1) (.ins C s.heap.objs.size []))
  { s with heap:=(s.heap.push PySem.W.emptyDict).push (instObj C s.heap.objs.size) }:=by
 have e1:(s.heap.push PySem.W.emptyDict).get? s.heap.objs.size = some PySem.W.emptyDict:=Heap.get?_push_size s.heap rfl
 have e2:((s.heap.push PySem.W.emptyDict).push (instObj C s.heap.objs.size)).get? (s.heap.objs.size + 1) = some (instObj C s.heap.objs.size):=by
  have:=Heap.get?_push_size (s.heap.push PySem.W.emptyDict) (o:=instObj C s.heap.objs.size) rfl
  rwa [Heap.size_push] at this
 have e3:(s.heap.push PySem.W.emptyDict).Ns s.heap.objs.size (fun _=>none):=⟨PySem.W.emptyDict,#[],_,e1,rfl,(fun e he=>absurd he (by simp)),fun _=>rfl⟩
 have I1:=I.laid (a:=s.heap.objs.size) (o:=.own (s.heap.objs.size + 1)) (h':=s.heap.push PySem.W.emptyDict) (t':=s.toks) (fun b u q=>Heap.get?_push_of_some _ q) (Nat.le_refl _) ⟨_,e1⟩
 refine I1.laid (a:=s.heap.objs.size + 1) (o:=.ins C s.heap.objs.size []) (t':=s.toks) (fun b u q=>Heap.get?_push_of_some _ q) (Nat.le_of_eq (Heap.size_push _ _)) ?_
 have ne:s.heap.objs.size ≠ s.heap.objs.size + 1:=Nat.ne_of_lt (Nat.lt_succ_self _)
 refine ⟨by rw [am ne,af],Nat.zero_le _,ne,e2,fun _=>none,(Heap.Ns1.of_empty e3).at fun o q=>Heap.get?_push_of_some _ q,fun _=>True.intro,fun y hy=>absurd rfl hy⟩
theorem sw {prog:Program} {w:World} {env:Env} {e:Expr} {f:Str} {pos:Pos} {s:Shared} {Q:Value->Shared->Prop} (hb:attributeBase e f env (eval e env) = eval e env)
  (h:wpAny (model prog w) A (eval e env) (fun o s₁=>wpAny (model prog w) A (getAttr o f true) Q E s₁) E s):wpAny (model prog w) A (eval (.Attribute e f pos) env) Q E s :=
 Attribute_any_ h (by rw [arm_eval_Attribute,hb])
end
def tFld (K:Frag) (ta:TE) (f:Str):TE:=fun σ H Q=>ta σ H fun x H1=>∃ a C dx fs v,x = .ref a/\H1 a = some (.ins C dx fs)/\Cls K C/\NoAttr K C f/\fs.lookup f = some v/\Q v H1
def sFld (K:Frag) (ta tv:TE) (f:Str):TS:=fun D σ H=>tv σ H fun y H1=>ta σ H1 fun x H2=>∃ a C dx fs,x = .ref a/\H2 a = some (.ins C dx fs)/\Cls K C/\NoAttr K C f/\fs.length < 1000 /\
 D.nx σ (upd H2 a (.ins C dx (n4 f y fs)))
section
variable {X:Cx} {o e value:Expr} {f:Str} {pos pos' tpos:Pos} {ta tv:TE}
theorem aB (he:PE X e ta) (hb:attributeBase e f X.env (eval e X.env) = eval e X.env):PE X (.Attribute e f pos) (tFld X.K ta f):=by
 intro pins s σ H Q I h
 refine sw hb (thn (he pins s σ H _ I h) fun u s1 ⟨x,H1,I1,rx,a,C,dx,fs,v,ex,ea,c,n,l,q⟩=>?_)
 subst ex
 obtain rfl:u = Value.ref a:=rx
 exact rC I1 ea c n l fun u' s2 I2 ru=>⟨v,H1,I2,ru,q⟩
theorem bH (ha:PE X o ta) (hv:PE X value tv) (hs:swapsWith value (some (.Attribute o f pos')) pos.line X.env = pure false):PS X (.Assign [.Attribute o f pos'] value pos) (sFld X.K ta tv f):=by
 intro pins s σ H D I h
 refine plainObj_wpAny_Assign_Attribute (thn (hv pins s σ H _ I h) fun u s1 ⟨y,H1,I1,ry,q⟩=>thn (ha pins s1 σ H1 _ I1 q) fun ov s2 ⟨x,H2,I2,rx,a,C,dx,fs,ex,ea,c,n,l,q2⟩=>?_) hs
 subst ex
 obtain rfl:ov = Value.ref a:=rx
 exact qH I2 ea c n l ry fun s3 I3=>⟨σ,_,I3,q2⟩
end
section
variable {X:Cx} {pins:List (Addr × Obj)} {σ:St} {H:Hp} {s:Shared} {A:Around} {E:Value->Shared->Prop} {Q:Value->Shared->Prop} {c:Value} {b:Bool}
inductive TyOf (K:Frag) (H:Hp):V->Value->Prop where
 | non:TyOf K H .non (.type "NoneType")
 | bl (x:Bool):TyOf K H (.bl x) (.type "bool")
 | int (i:Int):TyOf K H (.int i) (.type "int")
 | str (x:Str):TyOf K H (.str x) (.type "str")
 | flt (x:UInt64):TyOf K H (.flt x) (.type "float")
 | lst {a:Addr} {xs:List V} (e:H a = some (.lst xs)):TyOf K H (.ref a) (.type "list")
 | frz {a:Addr} {o:Obj} {xs:List V} (e:H a = some (.frz o (.lst xs))):TyOf K H (.ref a) (.type "list")
 | tup {a:Addr} {xs:List V} (e:H a = some (.tup xs)):TyOf K H (.ref a) (.type "tuple")
 | dK {a:Addr} {kvs:List (Key × V)} (e:H a = some (.dK kvs)):TyOf K H (.ref a) (.type "dict")
 | dT {a:Addr} {kvs:List (List Key × V)} (e:H a = some (.dT kvs)):TyOf K H (.ref a) (.type "dict")
 | ins {a C dx:Addr} {fs:List (Str × V)} (e:H a = some (.ins C dx fs)) (cl:Cls K C) (ha:findIn K (.ref C) "__class__" = some (some (.builtin "object.__class__")))
   (hn:PySem.W.specialIn K (.builtin "object.__class__") "__get__" = some (some (.builtin "getset_descriptor.__get__"))) (htk:PySem.W.takesIn K (.builtin "object.__class__") = some true)
   (hm:mroIn K C (.type "object") = some true):TyOf K H (.ref a) (.ref C)
theorem tQ {x:V} {u t:Value} (I:Inv X pins σ H s) (rx:RelV x u) (ty:TyOf X.K H x t) (e:kitOne X.K t c = some b) (h:∀ tk,Q (.bool b) { s with toks:=tk }) :
  wpAny (model X.prog X.w) A (call (.builtin "isinstance") [u,c]) Q E s:=by
 cases ty with
 | non=>cases (show u = Value.none from rx); exact PySem.W.kia_one PySem.W.kitx_none I.kIn True.intro e (fun z=>nomatch z) h
 | bl y=>cases (show u = Value.bool y from rx); exact PySem.W.kia_one PySem.W.kitx_bool I.kIn True.intro e (fun z=>nomatch z) h
 | int i=>obtain ⟨t,q⟩:=(show ∃ t,u = Value.int i t from rx); cases q; exact PySem.W.kia_one PySem.W.kitx_int I.kIn True.intro e (fun z=>nomatch z) h
 | str y=>obtain ⟨t,q⟩:=(show ∃ t,u = Value.str y t from rx); cases q; exact PySem.W.kia_one PySem.W.kitx_str I.kIn True.intro e (fun z=>nomatch z) h
 | flt y=>obtain ⟨t,q⟩:=(show ∃ t,u = Value.float y t from rx); cases q; exact PySem.W.kia_one PySem.W.kitx_float I.kIn True.intro e (fun z=>nomatch z) h
 | @lst a xs ea =>
  cases (show u = Value.ref a from rx)
  obtain ⟨_,_,n,_,h1⟩:=(show ObjOk X.prog X.w H s.heap a (.lst xs) from I.hok a _ ea)
  exact PySem.W.kia_one PySem.W.kitx_list I.kIn ⟨_,h1,rfl⟩ e (fun z=>nomatch z) h
 | @frz a ob xs ea =>
  cases (show u = Value.ref a from rx)
  obtain ⟨_,_,_,n,_,h1⟩:=(show ObjOk X.prog X.w H s.heap a (.frz ob (.lst xs)) from I.hok a _ ea)
  exact PySem.W.kia_one PySem.W.kitx_list I.kIn ⟨_,h1,rfl⟩ e (fun z=>nomatch z) h
 | @tup a xs ea =>
  cases (show u = Value.ref a from rx)
  obtain ⟨_,_,_,p⟩:=(show ObjOk X.prog X.w H s.heap a (.tup xs) from I.hok a _ ea)
  obtain ⟨o,h1,h2,_⟩:=p
  exact PySem.W.kia_one PySem.W.kitx_tuple I.kIn ⟨o,h1,h2⟩ e (fun z=>nomatch z) h
 | @dK a kvs ea =>
  cases (show u = Value.ref a from rx)
  obtain ⟨_,_,vs,_,p⟩:=(show ObjOk X.prog X.w H s.heap a (.dK kvs) from I.hok a _ ea)
  obtain ⟨o,es,ep,h1,h2,_⟩:=p
  exact PySem.W.kia_one PySem.W.kitx_dict I.kIn ⟨o,h1,h2.1⟩ e (fun z=>nomatch z) h
 | @dT a kvs ea =>
  cases (show u = Value.ref a from rx)
  obtain ⟨_,_,xs,_,o,es,ep,h1,h2,_⟩:=(show ObjOk X.prog X.w H s.heap a (.dT kvs) from I.hok a _ ea)
  exact PySem.W.kia_one PySem.W.kitx_dict I.kIn ⟨o,h1,h2.1⟩ e (fun z=>nomatch z) h
 | @ins a C dx fs ea cl ha hn htk hm =>
  cases (show u = Value.ref a from rx)
  obtain ⟨mA,O,_⟩:=lK I.hok ea
  obtain ⟨od,J,_⟩:=O.look
  exact PySem.W.kia_one (PySem.W.kitx_own (cl.get _) cl.hd ha hn htk hm) I.kIn J e (fun z=>nomatch z) h
end
end L2
namespace L2
open PySem PySem.Spec PyProof.Rows
structure Room (k:Nat) (A:Around):Prop where
 hd:A.handled = none
 dp:A.depth + 3 * k + 5 < recursionLimit
 un:A.units + 16 * k + 200 < cLine
 gd:A.guards = some []
theorem Room.mono {j k:Nat} {A:Around} (r:Room k A) (h:j<=k):Room j A:=⟨r.hd,by have:=r.dp; omega,by have:=r.un; omega,r.gd⟩
theorem Room.deeper {k:Nat} {A:Around} (r:Room (k + 1) A) (env:Env):Room k (A.deeper env) :=
 ⟨r.hd,by have:=r.dp; show A.depth + 1 + 3 * k + 5 < _; omega,by have:=r.un; show A.units + 3 + 16 * k + 200 < _; omega,r.gd⟩
theorem qN {A:Around} {C:Addr} {us:List Value} {kw:List (Str × Value)}:(A.under (.builtin "type.__call__" ⟨.ref C :: us,kw⟩)).depth = A.depth + 1:=by
 first | rfl | simp [Around.under,Code.weight,Code.isCreation,Code.isGuard,Code.isCaller,Code.frames,Code.isFrame,guardIds]
theorem re {A:Around} {C:Addr} {us:List Value} {kw:List (Str × Value)}:(A.under (.builtin "type.__call__" ⟨.ref C :: us,kw⟩)).units = A.units + 1:=by
 first | rfl | simp [Around.under,Code.cUnits,Code.frames,Code.isFrame]
theorem Room.make {k:Nat} {A:Around} (r:Room (k + 1) A) (C:Addr) (us:List Value) (kw:List (Str × Value)):Room k (A.under (.builtin "type.__call__" ⟨.ref C :: us,kw⟩)) :=
 ⟨r.hd,by have:=r.dp; rw [qN]; omega,by have:=r.un; rw [re]; omega,r.gd⟩
theorem Room.depth {k:Nat} {A:Around} (r:Room k A):A.depth < recursionLimit:=by have:=r.dp; omega
theorem Room.units {k:Nat} {A:Around} (r:Room k A):A.units + 64 < cLine:=by have:=r.un; omega
def tNil:TA:=fun _ H Q=>Q [] H
def tCons (ta:TE) (tr:TA):TA:=fun σ H Q=>ta σ H fun x H1=>tr σ H1 fun xs H2=>Q (x :: xs) H2
section
variable {X:Cx} {e:Expr} {es:List Expr} {te:TE} {t:TA} {pos:Pos}
theorem ah:PA X [] tNil:=fun _ _ _ _ H Q I h=>Calls.spliced_nil ⟨[],H,I,.nil,h⟩
theorem ae (ha:PE X e te) (hr:PA X es t) (hs:starEach (e :: es) X.env = (false,eval e X.env) :: starEach es X.env:=by rfl):PA X (e :: es) (tCons te t):=by
 intro pos pins s σ H Q I h
 rw [hs]
 show wpAny _ _ (spliced ((false,eval e X.env) :: backTo pos (starEach es X.env))) _ _ s
 refine Calls.spliced_cons (thn (ha pins s σ H _ I h) fun u s1 ⟨x,H1,I1,r1,q1⟩=>?_)
 exact thn (hr pos pins s1 σ H1 _ I1 q1) fun us s2 ⟨xs,H2,I2,r2,q2⟩=>⟨x :: xs,H2,I2,.cons r1 r2,q2⟩
def tTup (t:TA):TE:=fun σ H Q=>t σ H fun xs H1=>xs.length<=sizeLine/\∀ p,H1 p = none->Q (.ref p) (upd H1 p (.tup xs))
def tLst (t:TA):TE:=fun σ H Q=>t σ H fun xs H1=>xs.length<=sizeLine/\∀ p,H1 p = none->Q (.ref p) (upd H1 p (.lst xs))
theorem bK {x1} (h:PA X es t):PE X (.Tuple es x1 pos) (tTup t):=by
 intro pins s σ H Q I hq
 refine wpAny_Tuple_spliced (thn (h pos pins s σ H _ I hq) fun us s1 ⟨xs,H1,I1,r,z,q⟩=>⟨by rw [<- r.length]; exact z,?_⟩)
 have hf:H1 s1.heap.objs.size = none:=I1.hok.fresh (Nat.le_refl _)
 refine ⟨.ref s1.heap.objs.size,upd H1 s1.heap.objs.size (.tup xs),I1.laid (t':=s1.toks) (fun b u e=>Heap.get?_push_of_some _ e) (Nat.le_refl _) ?_,rfl,q _ hf⟩
 exact ⟨z,us,r,⟨_,Heap.get?_push_size _ rfl,rfl,_,rfl⟩⟩
theorem bt (h:PA X es t):PE X (.List es pos) (tLst t):=by
 intro pins s σ H Q I hq
 refine wpAny_List_spliced (thn (h pos pins s σ H _ I hq) fun us s1 ⟨xs,H1,I1,r,z,q⟩=>⟨by rw [<- r.length]; exact z,?_⟩)
 have hf:H1 s1.heap.objs.size = none:=I1.hok.fresh (Nat.le_refl _)
 refine ⟨.ref s1.heap.objs.size,upd H1 s1.heap.objs.size (.lst xs),I1.laid (t':=s1.toks) (fun b u e=>Heap.get?_push_of_some _ e) (Nat.le_refl _) ?_,rfl,q _ hf⟩
 exact ⟨z,us,0,r,Heap.get?_push_size _ rfl⟩
end
abbrev Sp:=List V->Hp->VK->XK->Prop
abbrev CXT:=List Env->Hp->Shared->XK->Value->Shared->Prop
structure Env0 (P:Program) (w:World) (K:Frag) (mg:Str->Option Value) (base:Heap) (A:Around) (outer:List Env) (s:Shared) (H:Hp):Prop where
 frames:A.frames = some outer
 mod:Mod K mg base
 bs:∀ b o,base.get? b = some o->s.heap.get? b = some o/\H b = none
 bsz:base.objs.size<=s.heap.objs.size
 funs:s.heap.FunFrames base outer
 frf:∀ b ∈ frs outer,H b = none
 hok:HOk P w H s.heap
 bare:AllBare s.gens
def CE (outer:List Env) (P:Program) (w:World) (H:Hp) (s:Shared) (Q:VK) (u:Value) (s':Shared):Prop :=
 ∃ v H',s'.os = s.os/\AllBare s'.gens/\Un (frs outer) [] H H' s.heap s'.heap/\HOk P w H' s'.heap/\RelV v u/\Q v H'
def CR (CX:CXT) (outer:List Env) (P:Program) (w:World) (H:Hp) (s:Shared) (Q:VK) (E:XK) (r:Result) (s':Shared):Prop :=
 match r with
 | .ok (.ret u)=>CE outer P w H s Q u s'
 | .ok _=>False
 | .error e=>CX outer H s E e s'
structure FnOk (P:Program) (w:World) (K:Frag) (mg:Str->Option Value) (base:Heap) (CX:CXT) (k:Nat) (f:Addr) (fd:FuncData) (ps:List Str) (sp:Sp):Prop where
 len:∀ vs H Q E,sp vs H Q E->vs.length = ps.length
 run:∀ (A:Around) (outer:List Env) (s:Shared) (H:Hp) (args:Args) (us:List Value) (vs:List V) (Q:VK) (E:XK),Room k A->Env0 P w K mg base A outer s H->BindsTo s fd args (ps.zip us)->Vals vs us->sp vs H Q E ->
  codeAny (model P w) A (.call (.ref f) args) (CR CX outer P w H s Q E) s
theorem FnOk.mono {P:Program} {w:World} {K:Frag} {mg:Str->Option Value} {base:Heap} {CX:CXT} {j k:Nat} {f:Addr} {fd:FuncData} {ps:List Str} {sp:Sp} (F:FnOk P w K mg base CX j f fd ps sp) (h:j<=k) :
  FnOk P w K mg base CX k f fd ps sp:=⟨F.len,fun A outer s H args us vs Q E hr=>F.run A outer s H args us vs Q E (hr.mono h)⟩
theorem FnOk.imp {P:Program} {w:World} {K:Frag} {mg:Str->Option Value} {base:Heap} {CX:CXT} {k:Nat} {f:Addr} {fd:FuncData} {ps:List Str} {sp sp':Sp} (F:FnOk P w K mg base CX k f fd ps sp)
  (h:∀ vs H Q E,sp' vs H Q E->sp vs H Q E):FnOk P w K mg base CX k f fd ps sp' :=
 ⟨fun vs H Q E q=>F.len vs H Q E (h _ _ _ _ q),fun A outer s H args us vs Q E hr he hb hv hs=>F.run A outer s H args us vs Q E hr he hb hv (h _ _ _ _ hs)⟩
theorem Env0.make {P:Program} {w:World} {K:Frag} {mg:Str->Option Value} {base:Heap} {A:Around} {outer:List Env} {s:Shared} {H:Hp} (e:Env0 P w K mg base A outer s H) (C:Addr) (us:List Value) (kw:List (Str × Value)) :
  Env0 P w K mg base (A.under (.builtin "type.__call__" ⟨.ref C :: us,kw⟩)) outer s H:=⟨by first | exact e.frames | (simpa [Around.under,Code.envs,Code.isFrame,pushEnvs] using e.frames),e.mod,e.bs,e.bsz,e.funs,e.frf,e.hok,e.bare⟩
section
variable {X:Cx} {pins:List (Addr × Obj)} {σ:St} {H:Hp} {s s':Shared}
theorem Inv.env0 (I:Inv X pins σ H s):Env0 X.prog X.w X.K X.mg X.base X.A X.stack s H :=
 ⟨I.ok.frames,I.ok.mod,I.bs,Nat.le_trans I.ok.bsz I.sz,I.stack,I.stkFree,I.hok,I.bare⟩
theorem Inv.after {Q:VK} {u:Value} (I:Inv X pins σ H s) (h:CE X.stack X.prog X.w H s Q u s'):EP X pins σ Q u s':=by
 obtain ⟨v,H',os,bare,un,hok,r,q⟩:=h
 obtain ⟨hh,g,d,t,os'⟩:=s'
 obtain rfl:os' = s.os:=os
 exact ⟨v,H',I.call (h':=hh) (g':=g) (d':=d) (t':=t) (ch:=[]) un hok bare (fun b z=>absurd z (by simp)),r,q⟩
end
def rB (sp:Sp) (dvs:List V) (E:XK) (t:TA):TE:=fun σ H Q=>t σ H fun vs H1=>sp (vs ++ dvs) H1 Q E
def tMake (C:Addr) (sp:Sp) (dvs:List V) (E:XK) (t:TA):TE:=fun σ H Q=>t σ H fun vs H1=>∀ x dx,H1 x = none->H1 dx = none->dx ≠ x ->
 sp (.ref x :: (vs ++ dvs)) (upd (upd H1 dx (.own x)) x (.ins C dx [])) (fun v H2=>v = .non/\Q (.ref x) H2) E
def Binds (K:Frag) (fd:FuncData) (ps:List Str) (ds:List Value):Prop :=
 ∀ (s:Shared) (us:List Value),K.In s.heap->(us ++ ds).length = ps.length->BindsTo s fd ⟨us,[]⟩ (ps.zip (us ++ ds))
theorem Binds.all {K:Frag} {fd:FuncData} {ps:List Str} (h:∀ us:List Value,us.length = ps.length->bindArgs fd ⟨us,[]⟩ = pure (ps.zip us)):Binds K fd ps []:=fun s us _ hl=>by
 rw [List.append_nil] at hl ⊢
 exact .of_eq (h us hl)
def iP (CX:CXT) (X:Cx) (E:XK):Prop:=∀ (pins:List (Addr × Obj)) (σ:St) (H:Hp) (s:Shared) (e:Value) (s':Shared),Inv X pins σ H s->CX X.stack H s E e s'->X.xe e s'
section
variable {X:Cx} {CX:CXT} {k:Nat} {f C:Addr} {fd:FuncData} {ps:List Str} {sp:Sp} {dvs:List V} {ds:List Value} {E:XK} {x m:Str} {p pos apos:Pos} {e o:Expr} {es:List Expr} {ta:TE} {t:TA}
theorem qk {pins:List (Addr × Obj)} {σ:St} {H:Hp} {s:Shared} {Q:VK} {us:List Value} {vs:List V} (F:FnOk X.prog X.w X.K X.mg X.base CX k f fd ps sp) (hr:Room k X.A) (hb:Binds X.K fd ps ds) (hd:Vals dvs ds) (hx:iP CX X E)
  (I:Inv X pins σ H s) (r:Vals vs us) (h:sp (vs ++ dvs) H Q E):wpAny (model X.prog X.w) X.A (call (.ref f) us) (EP X pins σ Q) X.xe s:=by
 have r2:Vals (vs ++ dvs) (us ++ ds):=r.append hd
 have hl:(us ++ ds).length = ps.length:=by rw [<- r2.length]; exact F.len _ _ _ _ h
 refine wpAny_call (codeAny_mono (F.run X.A X.stack s H ⟨us,[]⟩ (us ++ ds) (vs ++ dvs) Q E hr I.env0 (hb s us I.kIn hl) r2 h) fun r s' hq=>?_)
 cases r with
 | error e=>exact hx pins σ H s e s' I hq
 | ok fl =>
  cases fl with
  | ret u=>exact I.after hq
  | next=>exact False.elim hq
  | brk=>exact False.elim hq
  | cont=>exact False.elim hq
theorem oH (F:FnOk X.prog X.w X.K X.mg X.base CX k f fd ps sp) (hr:Room k X.A) (hg:Gl X x) (hm:X.mg x = some (.ref f)) (hk:keepIn X.K (.ref f) = true) (hb:Binds X.K fd ps ds) (hd:Vals dvs ds) (hx:iP CX X E)
  (ha:PA X (e :: es) t) (hdb:(x == ("__debug__":Str)) = false:=by decide) (he:starEach (e :: es) X.env = (false,eval e X.env) :: starEach es X.env:=by rfl) (hpl:(backTo pos (starEach es X.env)).any (·.1) = false:=by rfl) :
  PE X (.Call (.Name x p) (e :: es) [] pos) (rB sp dvs E t):=by
 intro pins s σ H Q I h
 refine wpAny_Call_Name_kw (gy I hg hm ?_ hdb)
 refine PySem.W.callWith_K (h₀:=X.base) I.ok.mod.kin hk (thn (ha pos pins s σ H _ I h) fun us s1 ⟨vs,H1,I1,r,q⟩=>⟨I1.kIn,?_⟩) he hpl
 exact qk F hr hb hd hx I1 r q
theorem pe_call0 (F:FnOk X.prog X.w X.K X.mg X.base CX k f fd ps sp) (hr:Room k X.A) (hg:Gl X x) (hm:X.mg x = some (.ref f)) (hk:keepIn X.K (.ref f) = true) (hb:Binds X.K fd ps ds) (hd:Vals dvs ds) (hx:iP CX X E)
  (hdb:(x == ("__debug__":Str)) = false:=by decide):PE X (.Call (.Name x p) [] [] pos) (rB sp dvs E tNil):=by
 intro pins s σ H Q I h
 refine wpAny_Call_Name_kw (gy I hg hm ?_ hdb)
 exact PySem.W.callWith_K0 I.kIn hk (qk (us:=[]) F hr hb hd hx I .nil h)
structure Mk (K:Frag) (C f:Addr):Prop where
 makes:makesIn K C = true
 init:findIn K (.ref C) "__init__" = some (some (.ref f))
 fn:isFn K (.ref f) = true
 kp:keepIn K (.ref C) = true
theorem run_make {pins:List (Addr × Obj)} {σ:St} {H:Hp} {s:Shared} {Q:VK} {us:List Value} {vs:List V} (M:Mk X.K C f) (F:FnOk X.prog X.w X.K X.mg X.base CX k f fd ps sp) (hr:Room (k + 1) X.A) (hb:Binds X.K fd ps ds) (hd:Vals dvs ds)
  (hx:iP CX X E) (I:Inv X pins σ H s) (r:Vals vs us)
  (h:∀ x dx,H x = none->H dx = none->dx ≠ x->sp (.ref x :: (vs ++ dvs)) (upd (upd H dx (.own x)) x (.ins C dx [])) (fun v H2=>v = .non/\Q (.ref x) H2) E) :
  wpAny (model X.prog X.w) X.A (call (.ref C) us) (EP X pins σ Q) X.xe s:=by
 have hq:=h (s.heap.objs.size + 1) s.heap.objs.size (I.hok.fresh (Nat.le_succ _)) (I.hok.fresh (Nat.le_refl _)) (Nat.ne_of_lt (Nat.lt_succ_self _))
 have I2:=Inv.made (C:=C) I
 have r2:Vals (V.ref (s.heap.objs.size + 1) :: (vs ++ dvs)) (Value.ref (s.heap.objs.size + 1) :: (us ++ ds)):=.cons rfl (r.append hd)
 have hl:(Value.ref (s.heap.objs.size + 1) :: us ++ ds).length = ps.length:=by
  have e:=r2.length
  rw [F.len _ _ _ _ hq] at e
  exact e.symm
 refine wpAny_call (make_map (f:=f) I.kIn M.makes M.init (beq_iff_eq.mp M.fn) (codeAny_mono (F.run _ X.stack _ _ ⟨Value.ref (s.heap.objs.size + 1) :: us,[]⟩ (Value.ref (s.heap.objs.size + 1) :: (us ++ ds)) _ _ E (hr.make C us [])
  (I2.env0.make C us []) (hb _ (Value.ref (s.heap.objs.size + 1) :: us) I2.kIn hl) r2 hq) fun r s' hq'=>?_))
 cases r with
 | error e=>exact hx pins σ _ _ e s' I2 hq'
 | ok fl =>
  cases fl with
  | ret u =>
   obtain ⟨v,H',I3,rv,ev,q3⟩:=I2.after hq'
   subst ev
   exact ⟨rv,⟨V.ref (s.heap.objs.size + 1),H',I3,rfl,q3⟩⟩
  | next=>exact False.elim hq'
  | brk=>exact False.elim hq'
  | cont=>exact False.elim hq'
theorem pe_make (M:Mk X.K C f) (F:FnOk X.prog X.w X.K X.mg X.base CX k f fd ps sp) (hr:Room (k + 1) X.A) (hg:Gl X x) (hm:X.mg x = some (.ref C)) (hb:Binds X.K fd ps ds) (hd:Vals dvs ds) (hx:iP CX X E)
  (ha:PA X (e :: es) t) (hdb:(x == ("__debug__":Str)) = false:=by decide) (he:starEach (e :: es) X.env = (false,eval e X.env) :: starEach es X.env:=by rfl) (hpl:(backTo pos (starEach es X.env)).any (·.1) = false:=by rfl) :
  PE X (.Call (.Name x p) (e :: es) [] pos) (tMake C sp dvs E t):=by
 intro pins s σ H Q I h
 refine wpAny_Call_Name_kw (gy I hg hm ?_ hdb)
 refine PySem.W.callWith_K (h₀:=X.base) I.ok.mod.kin M.kp (thn (ha pos pins s σ H _ I h) fun us s1 ⟨vs,H1,I1,r,q⟩=>⟨I1.kIn,?_⟩) he hpl
 exact run_make M F hr hb hd hx I1 r q
end
section
variable {X:Cx} {CX:CXT} {k:Nat} {f C:Addr} {fd:FuncData} {ps ks:List Str} {sp:Sp} {E:XK} {x m:Str} {p pos apos kpos:Pos} {e o:Expr} {es:List Expr} {kws:List Keyword} {te ta:TE} {t tk:TA} {nm:Option Str}
variable {g:List Value->List Value->List Value} {gV:List V->List V->List V}
end
structure FnScope (N P:List Str) (sc:Scope):Prop where
 kind:sc.kind = .function
 co:sc.isCoroutine = false
 gen:sc.isGenerator = false
 nd:N.Nodup
 pre:N.take P.length = P
 par:∀ x ∈ P,sc.names.lookup x = some .local\/sc.names.lookup x = some .cell
 nofree:∀ y ∈ sc.names,y.2 ≠ .free
theorem mJ {kindOf:Str->Option NameKind} {x:Str}:∀ {binds:List (Str × Value)} {m:Str->Option Value},(∀ v,(x,v) ∉ binds)->bindL kindOf binds m x = m x
 | [],_,_=>rfl
 | (n,v) :: r,m,h=>by
  unfold bindL
  rw [mJ fun w hw=>h w (List.mem_cons_of_mem _ hw)]
  split
  ·have:x ≠ n:=by rintro rfl; exact h v List.mem_cons_self
   simp [this]
  ·rfl
theorem mx {kindOf:Str->Option NameKind} {x:Str}:∀ {binds:List (Str × Value)} {m:Str->Option Value},(∀ v,(x,v) ∉ binds)->bindC kindOf binds m x = m x
 | [],_,_=>rfl
 | (n,v) :: r,m,h=>by
  unfold bindC
  rw [mx fun w hw=>h w (List.mem_cons_of_mem _ hw)]
  split
  ·rfl
  ·have:x ≠ n:=by rintro rfl; exact h v List.mem_cons_self
   simp [this]
theorem mD {kindOf:Str->Option NameKind} {x:Str} {v:Value}:∀ {P:List Str} {vs:List Value} {i:Nat} {m:Str->Option Value},P.Nodup->P[i]? = some x->vs[i]? = some v->kindOf x = some .local ->
  bindL kindOf (P.zip vs) m x = some v
 | [],_,_,_,_,h,_,_=>by simp at h
 | _ :: _,[],_,_,_,_,h,_=>by simp at h
 | p :: P,w :: vs,0,m,nd,h1,h2,hk=>by
  simp at h1 h2; subst h1; subst h2
  show bindL kindOf ((p,w) :: P.zip vs) m p = _
  unfold bindL
  rw [mJ fun v hv=>(List.nodup_cons.mp nd).1 (List.of_mem_zip hv).1,if_pos hk]
  simp
 | p :: P,w :: vs,i + 1,m,nd,h1,h2,hk=>by
  show bindL kindOf ((p,w) :: P.zip vs) m x = _
  unfold bindL
  exact mD (i:=i) (List.nodup_cons.mp nd).2 (by simpa using h1) (by simpa using h2) hk
theorem mh {kindOf:Str->Option NameKind} {x:Str} {v:Value}:∀ {P:List Str} {vs:List Value} {i:Nat} {m:Str->Option Value},P.Nodup->P[i]? = some x->vs[i]? = some v->kindOf x ≠ some .local ->
  bindC kindOf (P.zip vs) m x = some v
 | [],_,_,_,_,h,_,_=>by simp at h
 | _ :: _,[],_,_,_,_,h,_=>by simp at h
 | p :: P,w :: vs,0,m,nd,h1,h2,hk=>by
  simp at h1 h2; subst h1; subst h2
  show bindC kindOf ((p,w) :: P.zip vs) m p = _
  unfold bindC
  rw [mx fun v hv=>(List.nodup_cons.mp nd).1 (List.of_mem_zip hv).1,if_neg hk]
  simp
 | p :: P,w :: vs,i + 1,m,nd,h1,h2,hk=>by
  show bindC kindOf ((p,w) :: P.zip vs) m x = _
  unfold bindC
  exact mh (i:=i) (List.nodup_cons.mp nd).2 (by simpa using h1) (by simpa using h2) hk
def kT (N:List Str) (vs:List V):St:=vs.map some ++ List.replicate (N.length - vs.length) none
def ig (CX:CXT) (P:Program) (w:World) (K:Frag) (mg:Str->Option Value) (base:Heap) (N:List Str) (qual:Str) (scope:Scope) (f:Addr) (cd:Value) (A:Around) (outer:List Env) (s:Shared) (H:Hp) (E:XK):Cx where
 prog:=P
 w:=w
 K:=K
 mg:=mg
 base:=base
 A:=A.deeper (envOfC qual scope s.heap.objs.size f cd)
 N:=N
 s₀:=s
 H₀:=H
 env:=envOfC qual scope s.heap.objs.size f cd
 outer:=outer
 stack:=envOfC qual scope s.heap.objs.size f cd :: outer
 ex:=[]
 calm:=true
 fn:=fun _=>true
 pn:=[]
 xe:=fun e s'=>wpAny (model P w) (A.deeper (envOfC qual scope s.heap.objs.size f cd)) (leaving (envOfC qual scope s.heap.objs.size f cd) e) (fun _ s''=>CX outer H s E e s'') (fun e' s''=>CX outer H s E e' s'') s'
theorem qi {sc:Scope} {n:Nat} {x:Str} (h:sc.names.lookup x = some .cell):∃ c,(cellsFrom n sc.names []).lookup x = some c:=by
 have q:=PySem.W.cellsFrom_some sc.names n [] (.inl h)
 exact Option.isSome_iff_exists.mp q
theorem tu {CX:CXT} {P:Program} {w:World} {K:Frag} {mg:Str->Option Value} {base:Heap} {N ps:List Str} {qual:Str} {scope:Scope} {f:Addr} {cd:Value} {A:Around} {outer:List Env} {s s1:Shared} {H:Hp} {E:XK} {us:List Value} {vs:List V}
  (S:FnScope N ps scope) (hd:A.handled = none) (e0:Env0 P w K mg base A outer s H) (hl:vs.length = ps.length) (r:Vals vs us)
  (x:InCallC s s.heap.objs.size (bindL (envOfC qual scope s.heap.objs.size f cd).kindOf (ps.zip us) fun _=>none) (cellsFrom (s.heap.objs.size + 1) scope.names []) (bindC (envOfC qual scope s.heap.objs.size f cd).kindOf (ps.zip us) fun _=>none) s1) :
  Inv (ig CX P w K mg base N qual scope f cd A outer s H E) [] (kT N vs) H s1:=by
 have hpl:ps.length<=N.length:=by have:=congrArg List.length S.pre; rw [List.length_take] at this; omega
 obtain ⟨h1,tk,rfl,hk⟩:=x.done
 have noA:∀ b:Addr,b ∉ (ig CX P w K mg base N qual scope f cd A outer s H E).ex:=fun b z=>absurd (show b ∈ ([]:List Addr) from z) (by simp)
 refine ⟨⟨e0.mod,S.kind,rfl,rfl,Nat.le_refl _,fun y z c h1 h2=>?_,fun y hy=>?_,fun y c _ h=>?_,fun _=>hd,Around.frames_deeper e0.frames,.inr ⟨rfl,rfl⟩,fun b z=>absurd z (noA b),e0.bs,e0.bsz,fun b _ _=>noA b,fun b z=>absurd z (noA b),e0.funs,e0.frf⟩,
  rfl,e0.bare,Un.kept hk,⟨_,x.toInCall.ns,fun i y v h1 h2 h3=>?_⟩,fun y c h=>⟨_,x.cell y c h⟩,e0.hok.fresh (Nat.le_refl _),fun y c h=>?_,fun p hp=>absurd (show p ∈ ([]:List (Addr × Obj)) from hp) (by simp),e0.hok.kept hk,?_⟩
 ·exact name_of_addr x.apart (PySem.mem_of_lookup h1) (PySem.mem_of_lookup h2)
 ·have hy:scope.names.lookup y = some .cell\/scope.names.lookup y = some .free:=hy
  rcases hy with hy | hy
  ·exact qi hy
  ·exact absurd rfl (S.nofree _ (PySem.mem_of_lookup hy))
 ·exact Nat.le_of_lt (x.above y c (PySem.mem_of_lookup h))
 ·have hi:i < vs.length:=by
   unfold kT at h2
   by_cases hi:i < vs.length
   ·exact hi
   ·rw [List.getElem?_append_right (by simpa using hi)] at h2
    rw [List.getElem?_replicate] at h2
    split at h2 <;> cases h2
  have ha:vs[i]? = some v:=by
   unfold kT at h2
   rw [List.getElem?_append_left (by simpa using hi),List.getElem?_map] at h2
   cases e:vs[i]? with
   | none=>rw [e] at h2; cases h2
   | some a=>rw [e] at h2; cases h2; rfl
  obtain ⟨u,hu,rv⟩:=r.get ha
  have hp:ps[i]? = some y:=by
   rw [<- S.pre,List.getElem?_take_of_lt (by omega)]; exact h1
  have ndP:ps.Nodup:=by rw [<- S.pre]; exact S.nd.sublist (List.take_sublist _ _)
  refine ⟨u,rv,?_⟩
  rcases S.par y (List.mem_of_getElem? hp) with k | k
  ·exact .inl ⟨k,mD ndP hp hu k⟩
  ·obtain ⟨c,e⟩:=qi (n:=s.heap.objs.size + 1) k
   refine .inr ⟨.inl k,c,e,?_⟩
   have q:=x.cell y c e
   rw [mh ndP hp hu (by show scope.names.lookup y ≠ _; rw [k]; decide)] at q
   exact q
 ·exact e0.hok.fresh (Nat.le_of_lt (x.above y c (PySem.mem_of_lookup h)))
 ·unfold kT
  show _ = N.length
  rw [List.length_append,List.length_map,List.length_replicate]
  omega
theorem fn_of {CX:CXT} {P:Program} {w:World} {K:Frag} {mg:Str->Option Value} {base:Heap} {k:Nat} {f:Addr} {name qual:Str} {params:Arguments} {body:List Stmt} {scope:Scope} {dV kV doc pm cdv ct oc:Value} {an od:Option Addr}
  {osl:Array (Option Value)} {N ps:List Str} {sp:Sp} (lk:K.lookup f = some ⟨oc,od,.func (fnOf name qual params body scope dV kV doc pm an cdv ct),osl⟩) (hcd:codeIn K cdv qual = true) (S:FnScope N ps scope)
  (len:∀ vs H Q E,sp vs H Q E->vs.length = ps.length)
  (hbody:∀ (A:Around) (outer:List Env) (s:Shared) (H:Hp) (vs:List V) (Q:VK) (E:XK),Room k (A.deeper (envOfC qual scope s.heap.objs.size f cdv))->sp vs H Q E ->
   ∃ t,PSs (ig CX P w K mg base N qual scope f cdv A outer s H E) body t/\t { nx:=fun _ H'=>Q .non H',rt:=Q } (kT N vs) H) :
  FnOk P w K mg base CX (k + 1) f (fnOf name qual params body scope dV kV doc pm an cdv ct) ps sp:=by
 refine ⟨len,fun A outer s H args us vs Q E hr e0 hb r hsp=>?_⟩
 have hl:=len _ _ _ _ hsp
 have KX:K.In s.heap:=e0.mod.kin.keeps fun b o e=>(e0.bs b o e).1
 have lim:s.heap.NoLimit:=e0.mod.nolimit.keeps fun b o e=>(e0.bs b o e).1
 have hkind:∀ y ∈ ps.zip us,scope.names.lookup y.1 = some .local\/(scope.names.lookup y.1 = some .cell/\((cellsFrom (s.heap.objs.size + 1) scope.names []).lookup y.1).isSome = true):=fun ⟨n,v⟩ hy=>by
  rcases S.par n (List.of_mem_zip hy).1 with q | q
  ·exact .inl q
  ·exact .inr ⟨q,PySem.W.cellsFrom_some _ _ _ (.inl q)⟩
 refine codeAny_call_function hr.depth (KX _ _ lk) rfl S.co S.gen rfl (PySem.W.codeRec_of KX hcd) (hb _ _ _ _ ?_)
 refine wpAny_newFunctionEnv_cells S.kind hkind fun env he s1 x=>?_
 subst he
 refine ⟨lim.keeps x.toInCall.keep,codeAny_func ?_⟩
 obtain ⟨t,ht,hq⟩:=hbody A outer s H vs Q E (hr.deeper _) hsp
 have I:Inv (ig CX P w K mg base N qual scope f cdv A outer s H E) [] (kT N vs) H s1:=tu S hr.hd e0 hl r x
 refine wpAny_mono (ht [] s1 (kT N vs) H _ I hq) (fun fl s' hs=>?_) fun e s' hs=>hs
 have fin:∀ {σ':St} {H':Hp} {v:V} {u:Value},Inv (ig CX P w K mg base N qual scope f cdv A outer s H E) [] σ' H' s'->RelV v u->Q v H'->CE outer P w H s Q u s' :=
  fun {σ' H' v u} J rv q=>⟨v,H',J.os,J.bare,J.base,J.hok,rv,q⟩
 cases fl with
 | ret u =>
  obtain ⟨v,σ',H',J,rv,q⟩:=hs
  exact fin J rv q
 | next =>
  obtain ⟨σ',H',J,q⟩:=hs
  exact fin (v:=V.non) (u:=Value.none) J rfl q
 | brk =>
  obtain ⟨_,_,_,q⟩:=hs
  exact False.elim q
 | cont =>
  obtain ⟨_,_,_,q⟩:=hs
  exact False.elim q
end L2
namespace L2
open PySem PySem.Spec PyProof.Rows
section
variable {X:Cx} {x:Str} {p pos:Pos} {e:Expr} {es:List Expr} {t:TA} {id T:String} {r:List V->Hp->VK->Prop}
def tCB (r:List V->Hp->VK->Prop) (t:TA):TE:=fun σ H Q=>t σ H fun vs H1=>r vs H1 Q
theorem aD (hc:fi X (.builtin id) r) (hg:Gl X x) (hm:X.mg x = none) (hv:bootBuiltins x = some (.builtin id)) (ha:PA X (e :: es) t) (hn:x ≠ "__name__":=by decide) (hdb:(x == ("__debug__":Str)) = false:=by decide)
  (he:starEach (e :: es) X.env = (false,eval e X.env) :: starEach es X.env:=by rfl) (hpl:(backTo pos (starEach es X.env)).any (·.1) = false:=by rfl):PE X (.Call (.Name x p) (e :: es) [] pos) (tCB r t):=by
 intro pins s σ H Q I h
 refine wpAny_Call_Name_kw (p7 I hg hm hv ?_ hn hdb)
 exact PyProof.Rows.callWith_builtin1 (thn (ha pos pins s σ H _ I h) fun us s1 ⟨vs,H1,I1,r1,q1⟩=>hc pins s1 σ H1 vs us Q I1 r1 q1) he hpl
theorem bh (hc:fi X (.type T) r) (hg:Gl X x) (hm:X.mg x = none) (hv:bootBuiltins x = some (.type T)) (ha:PA X (e :: es) t) (hn:x ≠ "__name__":=by decide) (hdb:(x == ("__debug__":Str)) = false:=by decide)
  (he:starEach (e :: es) X.env = (false,eval e X.env) :: starEach es X.env:=by rfl) (hpl:(backTo pos (starEach es X.env)).any (·.1) = false:=by rfl):PE X (.Call (.Name x p) (e :: es) [] pos) (tCB r t):=by
 intro pins s σ H Q I h
 refine wpAny_Call_Name_kw (p7 I hg hm hv ?_ hn hdb)
 exact PyProof.Rows.callWith_type1 (thn (ha pos pins s σ H _ I h) fun us s1 ⟨vs,H1,I1,r1,q1⟩=>hc pins s1 σ H1 vs us Q I1 r1 q1) he hpl
end
end L2
namespace HT
open PySem PyProof.Rows
section
open PySem.SeqAt
open PySem.AutoSeq1 (wpAny_loadPart')
open PySem.MeetsSeq PySem.MeetsSeq2 PySem.MeetsSeq3
end
section
variable {prog:Program} {w:World} {A:Around} {E:Value->Shared->Prop} {s:Shared}
end
end HT
namespace L2
open PySem PySem.Spec PyProof.Rows
section
variable {X:Cx} {e:Expr} {te:TE} {lo hi:Option Expr} {tl th:TO} {pos p2:Pos}
end
end L2
namespace L2
open PySem PySem.Spec PyProof.Rows
def ixN (n:Nat) (i:Int):Option Nat:=if 0<=i then (if i < n then some i.toNat else none) else if -(n:Int)<=i then some (i + n).toNat else none
def atI {α:Type} (xs:List α) (i:Int):Option α:=(ixN xs.length i).bind fun j=>xs[j]?
theorem tY {n:Nat} {i:Int} {j:Nat} (h:ixN n i = some j):seqIndex? i n = some j/\j < n/\-(n:Int)<=i/\i < n:=by
 unfold ixN at h
 by_cases h0:0<=i
 ·rw [if_pos h0] at h
  by_cases h1:i < n
  ·rw [if_pos h1] at h
   have e:i.toNat = j:=Option.some.inj h
   exact ⟨by rw [seqIndex_of h0 h1,e],by omega,by omega,h1⟩
  ·rw [if_neg h1] at h; cases h
 ·rw [if_neg h0] at h
  by_cases h1:-(n:Int)<=i
  ·rw [if_pos h1] at h
   have e:(i + n).toNat = j:=Option.some.inj h
   exact ⟨by rw [seqIndex_neg (by omega) h1,e],by omega,h1,by omega⟩
  ·rw [if_neg h1] at h; cases h
theorem oK {α:Type} {xs:List α} {i:Int} {v:α} (h:atI xs i = some v):∃ j,seqIndex? i xs.length = some j/\xs[j]? = some v/\j < xs.length/\-(xs.length:Int)<=i/\i < xs.length:=by
 unfold atI at h
 cases e:ixN xs.length i with
 | none=>rw [e] at h; cases h
 | some j =>
  rw [e] at h
  obtain ⟨h1,h2,h3,h4⟩:=tY e
  exact ⟨j,h1,h,h2,h3,h4⟩
theorem fF {α:Type} {xs:List α} {j:Nat} {v:α} (h:xs[j]? = some v):atI xs (j:Int) = some v:=by
 have hj:j < xs.length:=(List.getElem?_eq_some_iff.mp h).1
 have e:ixN xs.length (j:Int) = some j:=by
  unfold ixN
  rw [if_pos (by omega),if_pos (by omega)]; simp
 unfold atI; rw [e]; exact h
theorem bI {α:Type} (xs:List α) (v:α):atI (xs ++ [v]) (-1) = some v:=by
 have hl:(xs ++ [v]).length = xs.length + 1:=by simp
 have e:ixN (xs ++ [v]).length (-1) = some xs.length:=by
  unfold ixN
  rw [hl,if_neg (by decide),if_pos (by omega)]
  congr 1
  omega
 unfold atI
 rw [e]
 show (xs ++ [v])[xs.length]? = some v
 simp
def tq (b:Expr):Prop:=∀ o i,subscripted b false o i = operate [o,i] (getItem o i)
def IxR (X:Cx) (r:R2):Prop :=
 ∀ (value slice:Expr) (pins:List (Addr × Obj)) (s:Shared) (σ:St) (H:Hp) (x y:V) (v u:Value) (Q:VK),Inv X pins σ H s->RelV x v->RelV y u->r x y H Q ->
  subscripted slice false v u = operate [v,u] (getItem v u)->wpAny (model X.prog X.w) X.A (subscriptTail value slice v u) (EP X pins σ Q) X.xe s
def MtR (X:Cx) (id:String) (r:V->List V->Hp->VK->Prop):Prop :=
 ∀ (pins:List (Addr × Obj)) (s:Shared) (σ:St) (H:Hp) (x:V) (xs:List V) (v:Value) (us:List Value) (Q:VK),Inv X pins σ H s->RelV x v->Vals xs us->r x xs H Q ->
  wpAny (model X.prog X.w) X.A (call (.builtin id) (v :: us)) (EP X pins σ Q) X.xe s
section
variable {X:Cx} {a b:Expr} {ta tb:TE} {pos:Pos}
theorem av {r:R2} (hr:IxR X r) (ha:PE X a ta) (hb:PE X b tb) (hs:tq b):PE X (.Subscript a b pos) (tOp r ta tb):=by
 intro pins s σ H Q I h
 exact Subscript_ (binT ha hb I h fun v u s2 x y H2 I2 rx ry q=>hr a b pins s2 σ H2 x y v u Q I2 rx ry q (hs _ _))
def rIxL (K:Frag):R2:=fun x y H Q=>∃ p xs i v,x = .ref p/\y = .int i/\SqL K H p xs/\atI xs i = some v/\Q v H
def rIxT (K:Frag):R2:=fun x y H Q=>∃ p xs i v,x = .ref p/\y = .int i/\SqT K H p xs/\atI xs i = some v/\Q v H
def rIxS:R2:=fun x y H Q=>∃ z i c,x = .str z/\y = .int i/\z.length<=sizeLine/\atI z.cps.toList i = some c/\Q (.str ⟨#[c]⟩) H
theorem aK:IxR X (rIxL X.K):=by
 intro value slice pins s σ H x y v u Q I rx ry h hs
 obtain ⟨p,xs,i,z,rfl,rfl,hq,he,q⟩:=h
 cases rx
 obtain ⟨t,rfl⟩:=ry
 obtain ⟨its,r,pl,hz⟩:=I.list hq
 obtain ⟨j,h1,h2,h3,h4,h5⟩:=oK he
 obtain ⟨w,ew,rw'⟩:=r.get h2
 have hl:=r.length
 have hn:=kG
 have fin:EP X pins σ Q w s:=⟨z,H,I,rw',q⟩
 by_cases h0:0<=i
 ·have hj:i.toNat = j:=by
   rw [seqIndex_of h0 h5] at h1
   exact Option.some.inj h1
  exact item_listR pl.isList h0 (by omega) (by rw [hj]; simpa using ew) fin hs
 ·have hj:(i + (its.toArray.size:Int)).toNat = j:=by
   rw [seqIndex_neg (by omega) h4] at h1
   rw [List.size_toArray,<- hl]
   exact Option.some.inj h1
  exact subscriptTail_builtinR (x:=w) pl.isList.typeIs slot_list_getitem.lookup
   (wpAny_getItem_list_neg (Q:=fun r s'=>r = w/\EP X pins σ Q r s') pl.isList (by omega) (by rw [List.size_toArray] <;> omega) (by omega) (by rw [hj]; simpa using ew) ⟨rfl,fin⟩) hs
theorem aq:IxR X (rIxT X.K):=by
 intro value slice pins s σ H x y v u Q I rx ry h hs
 obtain ⟨p,xs,i,z,rfl,rfl,hq,he,q⟩:=h
 cases rx
 obtain ⟨t,rfl⟩:=ry
 obtain ⟨its,r,pl,hz⟩:=I.tuple hq
 obtain ⟨j,h1,h2,h3,h4,h5⟩:=oK he
 obtain ⟨w,ew,rw'⟩:=r.get h2
 have hl:=r.length
 have hn:=kG
 have fin:EP X pins σ Q w s:=⟨z,H,I,rw',q⟩
 exact subscriptTail_builtinR (x:=w) pl.typeIs slot_tuple_getitem.lookup
  (getItem_tuple (j:=j) (Q:=fun r s'=>r = w/\EP X pins σ Q r s') pl (by omega) (by omega) (by rw [List.size_toArray,<- hl]; exact h1) (by simpa using ew) ⟨rfl,fin⟩) hs
theorem rZ:IxR X rIxS:=by
 intro value slice pins s σ H x y v u Q I rx ry h hs
 obtain ⟨z,i,c,rfl,rfl,hz,he,q⟩:=h
 obtain ⟨t,rfl⟩:=rx
 obtain ⟨t',rfl⟩:=ry
 obtain ⟨j,h1,h2,h3,h4,h5⟩:=oK he
 have hl:z.cps.toList.length = z.length:=by simp [Str.length]
 rw [hl] at h1 h4 h5
 have hn:=kG
 exact tail_any (typeIs_str s z t) slot_str_getitem.lookup (getItem_str (c:=c) (by
  have e1:decide (i < -(2 ^ 63:Int)) = false:=decide_eq_false (by omega)
  have e2:decide (i ≥ 2 ^ 63) = false:=decide_eq_false (by omega)
  rw [e1,e2,Bool.or_false]) (by rw [h1]; simpa using h2) ⟨.str ⟨#[c]⟩,H,I.tok _,⟨_,rfl⟩,q⟩) hs
theorem qU (its:List Value) (n j:Nat) (u:Value):Obj.mapSeq (·.setIfInBounds j u) { cls:=.type "list",data:=.seq its.toArray n } = { cls:=.type "list",data:=.seq (its.set j u).toArray n }:=by
 simp [Obj.mapSeq]
theorem Inv.lst {pins:List (Addr × Obj)} {σ:St} {H:Hp} {s:Shared} {p:Addr} {xs:List V} (I:Inv X pins σ H s) (h:H p = some (.lst xs)) :
  ∃ (its:List Value) (n:Nat),Vals xs its/\s.heap.get? p = some { cls:=.type "list",data:=.seq its.toArray n }/\xs.length<=sizeLine:=by
 obtain ⟨z,its,n,r,e⟩:=I.hok p _ h
 exact ⟨its,n,r,e,z⟩
theorem Inv.lstUpd {pins:List (Addr × Obj)} {σ:St} {H:Hp} {s:Shared} {p:Addr} {xs ys:List V} {its its':List Value} {n n':Nat} {f:Obj->Obj} (I:Inv X pins σ H s) (h:H p = some (.lst xs))
  (ho:s.heap.get? p = some { cls:=.type "list",data:=.seq its.toArray n }) (hf:f { cls:=.type "list",data:=.seq its.toArray n } = { cls:=.type "list",data:=.seq its'.toArray n' }) (r:Vals ys its') (hz:ys.length<=sizeLine) (t:Nat) :
  Inv X pins σ (upd H p (.lst ys)) { s with heap:=s.heap.update p f,toks:=t }:=by
 have e:(s.heap.update p f).get? p = some { cls:=.type "list",data:=.seq its'.toArray n' }:=by
  rw [Heap.get?_update_self f ho (by rw [hf] <;> rfl),hf]
 refine I.write (x:=p) (e:=p) (by rw [h]; trivial) (.inl rfl) (fun b u hb q=>(Heap.get?_update_other _ _ (Ne.symm hb)).trans q) ⟨_,e⟩ ?_
 exact ⟨hz,its',n',r,e⟩
def rSetL:V->V->V->Hp->(Hp->Prop)->Prop:=fun o i v H Q=>∃ p xs k j,o = .ref p/\i = .int k/\H p = some (.lst xs)/\ixN xs.length k = some j/\Q (upd H p (.lst (xs.set j v)))
theorem qw:PSet X rSetL:=by
 intro pins s σ H o i v ov iv u Q I ro ri rv h
 obtain ⟨p,xs,k,j,rfl,rfl,hp,hj,q⟩:=h
 cases ro
 obtain ⟨t,rfl⟩:=ri
 obtain ⟨its,n,r,ho,hz⟩:=I.lst hp
 obtain ⟨h1,h2,h3,h4⟩:=tY hj
 have hl:=r.length
 have hn:=kG
 have I':Inv X pins σ (upd H p (.lst (xs.set j v))) { s with heap:=s.heap.update p (Obj.mapSeq (·.setIfInBounds j u)) } :=
  I.lstUpd hp ho (qU its n j u) (r.set rv j) (by rw [List.length_set]; exact hz) s.toks
 by_cases h0:0<=k
 ·have hk:k.toNat = j:=by
   rw [seqIndex_of h0 h4] at h1
   exact Option.some.inj h1
  exact PySem.W.ki_setAt ho h0 (by omega) (by rw [List.size_toArray,<- hl]; exact h4) (by rw [hk]; exact ⟨_,I',q⟩)
 ·have hk:(k + (its.toArray.size:Int)).toNat = j:=by
   rw [seqIndex_neg (by omega) h3] at h1
   rw [List.size_toArray,<- hl]
   exact Option.some.inj h1
  exact PySem.W.ki_setBack ho (by omega) (by rw [List.size_toArray,<- hl]; exact h3) (by omega) (by rw [hk]; exact ⟨_,I',q⟩)
def cq:V->Bool
 | .non=>true
 | .bl _=>true
 | .int _=>true
 | .str _=>true
 | _=>false
def eqV:V->V->Bool
 | .non,.non=>true
 | .bl a,.bl b=>a == b
 | .bl a,.int b=>(if a then 1 else 0) == b
 | .int a,.bl b=>a == (if b then 1 else 0)
 | .int a,.int b=>a == b
 | .str a,.str b=>a == b
 | _,_=>false
theorem eqAt_V {A:Around} {s:Shared} {y x:V} {u v:Value} (ry:RelV y u) (rx:RelV x v) (fy:cq y = true) (fx:cq x = true):SeqAt.EqAt A s u v (eqV y x):=by
 cases y with
 | non =>
  cases ry
  cases x with
  | non=>cases rx; exact SeqAt.EqAt.same _
  | bl b=>cases rx; exact SeqAt.EqAt.none_bool b
  | int b=>obtain ⟨t,rfl⟩:=rx; exact SeqAt.EqAt.none_int b t
  | str b=>obtain ⟨t,rfl⟩:=rx; exact SeqAt.EqAt.none_str b t
  | _=>exact absurd (show false = true from fx) Bool.false_ne_true
 | bl a =>
  cases ry
  cases x with
  | non=>cases rx; exact SeqAt.EqAt.bool_none a
  | bl b=>cases rx; exact SeqAt.EqAt.bool_bool a b
  | int b=>obtain ⟨t,rfl⟩:=rx; exact SeqAt.EqAt.bool_int a b t
  | str b=>obtain ⟨t,rfl⟩:=rx; exact SeqAt.EqAt.bool_str a b t
  | _=>exact absurd (show false = true from fx) Bool.false_ne_true
 | int a =>
  obtain ⟨t',rfl⟩:=ry
  cases x with
  | non=>cases rx; exact SeqAt.EqAt.int_none a t'
  | bl b=>cases rx; exact SeqAt.EqAt.int_bool a t' b
  | int b=>obtain ⟨t,rfl⟩:=rx; exact SeqAt.EqAt.int_int a t' b t
  | str b=>obtain ⟨t,rfl⟩:=rx; exact SeqAt.EqAt.int_str a t' b t
  | _=>exact absurd (show false = true from fx) Bool.false_ne_true
 | str a =>
  obtain ⟨t',rfl⟩:=ry
  cases x with
  | non=>cases rx; exact SeqAt.EqAt.str_none a t'
  | bl b=>cases rx; exact SeqAt.EqAt.str_bool a t' b
  | int b=>obtain ⟨t,rfl⟩:=rx; exact SeqAt.EqAt.str_int a t' b t
  | str b=>obtain ⟨t,rfl⟩:=rx; exact SeqAt.EqAt.str_str a t' b t
  | _=>exact absurd (show false = true from fx) Bool.false_ne_true
 | _=>exact absurd (show false = true from fy) Bool.false_ne_true
def eqU (x:V) (u:Value):Bool:=match u with
 | .none=>eqV .non x
 | .bool b=>eqV (.bl b) x
 | .int i _=>eqV (.int i) x
 | .str z _=>eqV (.str z) x
 | _=>false
theorem eqU_of {x y:V} {u:Value} (r:RelV y u) (f:cq y = true):eqU x u = eqV y x:=by
 cases y with
 | non=>cases r; rfl
 | bl b=>cases r; rfl
 | int i=>obtain ⟨t,rfl⟩:=r; rfl
 | str z=>obtain ⟨t,rfl⟩:=r; rfl
 | _=>exact absurd (show false = true from f) Bool.false_ne_true
theorem pP {x:V}:∀ {xs:List V} {us:List Value},Vals xs us->xs.all cq = true->us.any (eqU x) = xs.any fun y=>eqV y x
 | _,_,.nil,_=>rfl
 | y :: xs,u :: us,.cons r t,f=>by
  rw [List.all_cons,Bool.and_eq_true] at f
  rw [List.any_cons,List.any_cons,eqU_of r f.1,pP t f.2]
theorem lF {A:Around} {s:Shared} {x:V} {v:Value} (rx:RelV x v) (fx:cq x = true):∀ {xs:List V} {us:List Value},Vals xs us->xs.all cq = true->∀ u ∈ us,SeqAt.EqAt A s u v (eqU x u)
 | _,_,.nil,_=>fun u hu=>by cases hu
 | y :: xs,u :: us,.cons r t,f=>fun u' hu=>by
  rw [List.all_cons,Bool.and_eq_true] at f
  rcases List.mem_cons.mp hu with rfl | hu
  ·rw [eqU_of r f.1]; exact eqAt_V r rx f.1 fx
  ·exact lF rx fx t f.2 u' hu
def inV (x:V) (xs:List V):Bool:=xs.any fun y=>eqV y x
def rIn (K:Frag) (neg:Bool):R2:=fun x y H Q=>∃ p xs,y = .ref p/\(SqL K H p xs\/SqT K H p xs)/\cq x = true/\xs.all cq = true/\Q (.bl (if neg then !inV x xs else inV x xs)) H
theorem mQ:OpR X (compareOp .In) (rIn X.K false):=by
 intro pins s σ H x y v u Q I rx ry h
 obtain ⟨p,xs,rfl,hq,fx,fs,q⟩:=h
 cases ry
 rcases hq with hq | hq
 ·obtain ⟨its,r,pl,hz⟩:=I.list hq
  refine SeqAt.in_listAt (eqU x) pl.isList (fun w hw=>lF rx fx r fs w (by simpa using hw)) ⟨.bl _,H,I,rfl,?_⟩
  rw [show its.toArray.any (eqU x) = its.any (eqU x) by simp,pP r fs]
  exact q
 ·obtain ⟨its,r,pl,hz⟩:=I.tuple hq
  refine SeqAt.in_tupleAt (eqU x) pl (fun w hw=>lF rx fx r fs w (by simpa using hw)) ⟨.bl _,H,I,rfl,?_⟩
  rw [show its.toArray.any (eqU x) = its.any (eqU x) by simp,pP r fs]
  exact q
theorem mX:OpR X (compareOp .NotIn) (fun x y H Q=>∃ i j,x = .str i/\y = .str j/\Q (.bl (!(!(Builtin.Str.occurrences j i 0 j.length 1).isEmpty))) H):=by
 intro pins s σ H x y v u Q I rx ry h
 obtain ⟨i,j,rfl,rfl,q⟩:=h
 obtain ⟨t,rfl⟩:=rx
 obtain ⟨t',rfl⟩:=ry
 exact notIn_str ⟨.bl _,H,I,rfl,q⟩
theorem aW:fi X (.builtin "len") (fun xs H Q=>∃ p ys,xs = [.ref p]/\(SqL X.K H p ys\/SqT X.K H p ys)/\Q (.int ys.length) H):=by
 intro pins s σ H xs us Q I r h
 obtain ⟨p,ys,rfl,hq,q⟩:=h
 obtain ⟨u,rfl,rx⟩:=pN r
 cases rx
 have hn:=kG
 rcases hq with hq | hq
 ·obtain ⟨its,r',pl,hz⟩:=I.list hq
  have hlen:=r'.length
  exact Calls.call_len_list pl.isList (by simp only [List.size_toArray] <;> omega) ⟨.int ys.length,H,I.tok _,⟨s.toks + 1,by rw [List.size_toArray,hlen]⟩,q⟩
 ·obtain ⟨its,r',pl,hz⟩:=I.tuple hq
  have hlen:=r'.length
  exact len_tuple pl (by simp only [List.size_toArray] <;> omega) ⟨.int ys.length,H,I.tok _,⟨s.toks + 1,by rw [List.size_toArray,hlen]⟩,q⟩
theorem mC:fi X (.builtin "len") (fun xs H Q=>∃ z,xs = [.str z]/\z.length<=sizeLine/\Q (.int z.length) H):=by
 intro pins s σ H xs us Q I r h
 obtain ⟨z,rfl,hz,q⟩:=h
 obtain ⟨u,rfl,t,rfl⟩:=pN r
 have hn:=kG
 exact len_str (by omega) ⟨.int z.length,H,I.tok _,⟨_,rfl⟩,q⟩
theorem iQ:fi X (.type "list") (fun xs H Q=>∃ p ys,xs = [.ref p]/\(SqL X.K H p ys\/SqT X.K H p ys)/\∀ l,H l = none->Q (.ref l) (upd H l (.lst ys))):=by
 intro pins s σ H xs us Q I r h
 obtain ⟨p,ys,rfl,hq,q⟩:=h
 obtain ⟨u,rfl,rx⟩:=pN r
 cases rx
 have fin:∀ (its:List Value),Vals ys its->ys.length<=sizeLine->∀ (h':Heap) (c':Nat),(∀ b o',s.heap.get? b = some o'->h'.get? b = some o') ->
   h'.get? s.heap.objs.size = some { cls:=.type "list",dict:=none,data:=.seq its.toArray c',slots:=#[] }->EP X pins σ Q (.ref s.heap.objs.size) { s with heap:=h' }:=fun its r' hz h' c' kp e =>
  ⟨.ref s.heap.objs.size,_,I.laid (t':=s.toks) kp (Nat.le_refl _) (show ObjOk X.prog X.w _ h' _ (.lst ys) from ⟨hz,its,c',r',e⟩),rfl,q _ (I.hok.fresh (Nat.le_refl _))⟩
 rcases hq with hq | hq
 ·obtain ⟨its,r',pl,hz⟩:=I.list hq
  have hlen:=r'.length
  obtain ⟨o,ho,hc,n,hd⟩:=pl.isList
  exact call_list_seq p (.inl rfl) ho hc hd (fun h' c' kp e=>fin its r' hz h' c' kp e) (by simp only [List.size_toArray] <;> omega)
 ·obtain ⟨its,r',pl,hz⟩:=I.tuple hq
  have hlen:=r'.length
  obtain ⟨o,ho,hc,n,hd⟩:=pl
  exact call_list_seq p (.inr rfl) ho hc hd (fun h' c' kp e=>fin its r' hz h' c' kp e) (by simp only [List.size_toArray] <;> omega)
def tyV (K:Frag) (T:String) (x:V) (H:Hp):Prop:=match x with
 | .str _=>T = "str"
 | .int _=>T = "int"
 | .ref p=>(T = "list"/\∃ xs,SqL K H p xs)\/(T = "tuple"/\∃ o,K.lookup p = some o/\o.cls = .type "tuple"/\o.dict = none) \/
   (T = "dict"/\((∃ kvs,H p = some (.dK kvs))\/∃ kvs,H p = some (.dT kvs)))\/(T = "set"/\∃ S n,H p = some (.set S n))
 | _=>False
theorem tyV_is {pins:List (Addr × Obj)} {σ:St} {H:Hp} {s:Shared} {T:String} {x:V} {v:Value} (I:Inv X pins σ H s) (r:RelV x v) (ty:tyV X.K T x H) :
  s.TypeIs v T/\∀ a,v = .ref a->∃ ob,s.heap.get? a = some ob/\ob.dict = none:=by
 cases x with
 | str z =>
  obtain ⟨t,rfl⟩:=r
  cases (show T = "str" from ty)
  exact ⟨typeIs_str s z t,fun _ e=>nomatch e⟩
 | int i =>
  obtain ⟨t,rfl⟩:=r
  cases (show T = "int" from ty)
  exact ⟨typeIs_int s i t,fun _ e=>nomatch e⟩
 | ref p =>
  cases r
  rcases ty with ⟨rfl,xs,hq⟩ | ⟨rfl,o,hk,hc,hd⟩ | ⟨rfl,hk⟩ | ⟨rfl,S,n,hk⟩
  ·obtain ⟨its,_,pl,_⟩:=I.list hq
   refine ⟨pl.isList.typeIs,fun a e=>?_⟩
   cases e
   obtain ⟨o,n,e,c,hd,_⟩:=pl
   exact ⟨o,e,hd⟩
  ·refine ⟨⟨o,I.kIn p o hk,hc⟩,fun a e=>?_⟩
   cases e
   exact ⟨o,I.kIn _ o hk,hd⟩
  ·have z:∃ o,s.heap.get? p = some o/\o.ExactDict:=by
    rcases hk with ⟨kvs,hk⟩ | ⟨kvs,hk⟩
    ·obtain ⟨_,_,_,_,o,_,_,e,ex,_⟩:=I.hok p _ hk
     exact ⟨o,e,ex⟩
    ·obtain ⟨_,_,_,_,o,_,_,e,ex,_⟩:=I.hok p _ hk
     exact ⟨o,e,ex⟩
   obtain ⟨o,e,ex⟩:=z
   refine ⟨⟨o,e,ex.1⟩,fun a e2=>?_⟩
   cases e2
   exact ⟨o,e,ex.2.1⟩
  ·obtain ⟨o,_,_,_,e,ex,_⟩:=I.hok p _ hk
   refine ⟨⟨o,e,ex.1⟩,fun a e2=>?_⟩
   cases e2
   exact ⟨o,e,ex.2.1⟩
 | _=>exact False.elim ty
def tBM0 (K:Frag) (T:String) (r:V->List V->Hp->VK->Prop) (to:TE):TE:=fun σ H Q=>to σ H fun x H1=>tyV K T x H1/\r x [] H1 Q
def tBM (K:Frag) (T:String) (r:V->List V->Hp->VK->Prop) (to:TE) (t:TA):TE:=fun σ H Q=>to σ H fun x H1=>tyV K T x H1/\t σ H1 fun xs H2=>r x xs H2 Q
variable {o e:Expr} {es:List Expr} {to:TE} {t:TA} {name:Str} {apos cpos:Pos} {T id:String} {r:V->List V->Hp->VK->Prop}
theorem eF (pa:PlainAttrs T) (slot:Slot T name id) (hty:typeOf (.builtin id) = pure (.type "method_descriptor")) (hm:MtR X id r) (ho:PE X o to)
  (hbase:attributeBase o name X.env (eval o X.env) = eval o X.env:=by rfl) (hline:(apos.endLine == cpos.line) = true:=by rfl):PE X (.Call (.Attribute o name apos) [] [] cpos) (tBM0 X.K T r to):=by
 intro pins s σ H Q I h
 refine wpAny_Call_method0_late hbase hline (thn (ho pins s σ H _ I h) fun v s1 ⟨x,H1,I1,r1,ty,q1⟩=>?_)
 obtain ⟨h1,h2⟩:=tyV_is I1 r1 ty
 exact ⟨T,id,pa,slot,hty,h1,h2,Calls.callWith_builtin rfl (PySem.evalArgs_none (hm pins s1 σ H1 x [] v [] Q I1 r1 .nil q1))⟩
theorem lY (pa:PlainAttrs T) (slot:Slot T name id) (hty:typeOf (.builtin id) = pure (.type "method_descriptor")) (hm:MtR X id r) (ho:PE X o to) (ha:PA X (e :: es) t)
  (hbase:attributeBase o name X.env (eval o X.env) = eval o X.env:=by rfl)
  (hfew:((backTo cpos (starEach (e :: es) X.env)).all (fun x=>!x.1) && (backToKw cpos (keywordEach [] X.env)).all (fun x=>x.1.isSome)
   && decide ((e :: es).length + ([]:List Keyword).length + (if ([]:List Keyword).isEmpty then 0 else 1) < 30)) = true:=by rfl)
  (hline:(apos.endLine == cpos.line) = true:=by rfl) (hs:starEach (e :: es) X.env = (false,eval e X.env) :: starEach es X.env:=by rfl) (hplain:(backTo cpos (starEach es X.env)).any (·.1) = false:=by rfl) :
  PE X (.Call (.Attribute o name apos) (e :: es) [] cpos) (tBM X.K T r to t):=by
 intro pins s σ H Q I h
 refine wpAny_Call_method_late hbase hfew hline rfl (thn (ho pins s σ H _ I h) fun v s1 ⟨x,H1,I1,r1,ty,q1⟩=>?_)
 obtain ⟨h1,h2⟩:=tyV_is I1 r1 ty
 refine ⟨T,id,pa,slot,hty,h1,h2,?_⟩
 have hA:=ha cpos pins s1 σ H1 _ I1 q1
 rw [hs] at hA ⊢
 refine Calls.callWith_builtin (by show (false || (backTo cpos (starEach es X.env)).any (·.1)) = false; rw [hplain] <;> rfl) (Calls.evalArgs_plain ?_)
 exact thn hA fun us s2 ⟨vs,H2,I2,r2,q2⟩=>hm pins s2 σ H2 x vs v us Q I2 r1 r2 q2
/- xs.append(e),list.index on a module's tuple .. are MtR facts of 06m -/
end
end L2
namespace L2
open PySem PySem.Spec PyProof.Rows
def MtM (X:Cx) (id:String) (r:V->List V->Hp->VK->Prop):Prop :=
 ∀ (pins:List (Addr × Obj)) (s:Shared) (σ:St) (H:Hp) (x:V) (xs:List V) (v:Value) (us:List Value) (Q:VK),Inv X pins σ H s->RelV x v->Vals xs us->r x xs H Q ->
  wpAny (model X.prog X.w) X.A (call (.builtin id) (v :: us)) (EP X pins σ Q) X.xe s
theorem Vals.one:∀ {x:V} {us:List Value},Vals [x] us->∃ u,us = [u]/\RelV x u
 | _,_,.cons r .nil=>⟨_,rfl,r⟩
theorem Vals.zero:∀ {us:List Value},Vals [] us->us = []
 | _,.nil=>rfl
theorem Vals.dropLast {xs:List V} {us:List Value} (h:Vals xs us):Vals xs.dropLast us.dropLast:=by
 induction h with
 | nil=>exact .nil
 | cons r t ih =>
  cases t with
  | nil=>exact .nil
  | cons q t'=>exact .cons r ih
theorem Vals.reverse {xs:List V} {us:List Value} (h:Vals xs us):Vals xs.reverse us.reverse:=by
 induction h with
 | nil=>exact .nil
 | cons r t ih=>rw [List.reverse_cons,List.reverse_cons]; exact Vals.append ih (.cons r .nil)
theorem Vals.rep {xs:List V} {us:List Value} (h:Vals xs us):∀ k:Nat,Vals (List.replicate k xs).flatten (List.replicate k us).flatten
 | 0=>.nil
 | k + 1=>by
  rw [List.replicate_succ,List.replicate_succ,List.flatten_cons,List.flatten_cons]
  exact Vals.append h (Vals.rep h k)
theorem qR {α:Type} (l:List α):l.eraseIdx (l.length - 1) = l.dropLast:=by
 induction l with
 | nil=>rfl
 | cons a r ih =>
  cases r with
  | nil=>rfl
  | cons b r =>
   have e:(a :: b :: r).length - 1 = ((b :: r).length - 1) + 1:=by
    have h1:(a :: b :: r).length = r.length + 2:=rfl
    have h2:(b :: r).length = r.length + 1:=rfl
    omega
   rw [e,List.eraseIdx_cons_succ,ih]
   all_goals rfl
theorem mI (its:List Value):∀ (k:Nat) (acc:List Value),
  List.foldl (fun x1 x2=>x1 ++ x2) acc.toArray (List.replicate k its.toArray) = (acc ++ (List.replicate k its).flatten).toArray
 | 0,acc=>by simp
 | k + 1,acc=>by
  have e:acc.toArray ++ its.toArray = (acc ++ its).toArray:=by simp
  have e2:(acc ++ its) ++ (List.replicate k its).flatten = acc ++ (List.replicate (k + 1) its).flatten:=by
   rw [List.replicate_succ,List.flatten_cons,List.append_assoc]
  rw [<- e2,<- mI its k (acc ++ its),<- e,List.replicate_succ,List.foldl_cons]
section
variable {X:Cx} {pins:List (Addr × Obj)} {σ:St} {H:Hp} {s:Shared} {l b:Addr} {xs ys zs:List V}
theorem Inv.lset {its its':List Value} {n:Nat} {f:Array Value->Array Value} {t':Nat} (I:Inv X pins σ H s) (hH:H l = some (.lst xs))
  (e:s.heap.get? l = some { cls:=.type "list",data:=.seq its.toArray n }) (hf:f its.toArray = its'.toArray) (hv:Vals ys its') (hz:ys.length<=sizeLine) :
  Inv X pins σ (upd H l (.lst ys)) { s with heap:=s.heap.update l (Obj.mapSeq f),toks:=t' }:=by
 have q:=PySem.IsL.update e f
 rw [hf] at q
 refine I.write (x:=l) (e:=l) (by rw [hH]; exact trivial) (.inl rfl) (fun b' u hb hu=>(Heap.get?_update_other s.heap (Obj.mapSeq f) (Ne.symm hb)).trans hu) ⟨_,q⟩ ?_
 exact ⟨hz,its',_,hv,q⟩
theorem Inv.lnew {its:List Value} {t':Nat} (I:Inv X pins σ H s) (hv:Vals ys its) (hz:ys.length<=sizeLine) :
  Inv X pins σ (upd H s.heap.objs.size (.lst ys)) { s with heap:=s.heap.push { cls:=.type "list",data:=.seq its.toArray },toks:=t' } :=
 I.laid (fun _ _ q=>Heap.get?_push_of_some _ q) (Nat.le_refl _) ⟨hz,its,0,hv,Heap.get?_push_size _ rfl⟩
theorem Inv.fresh (I:Inv X pins σ H s):H s.heap.objs.size = none:=I.hok.fresh (Nat.le_refl _)
theorem Inv.lstM (I:Inv X pins σ H s) (hH:H l = some (.lst xs)):xs.length<=sizeLine/\∃ (its:List Value) (n:Nat),Vals xs its/\xs.length = its.length/\s.heap.get? l = some { cls:=.type "list",data:=.seq its.toArray n }:=by
 obtain ⟨z,its,n,r,e⟩:=I.hok l _ hH
 exact ⟨z,its,n,r,r.length,e⟩
theorem notLongL {n:Nat} (h:n<=sizeLine):Builtin.List.listTooLong n = false:=by
 unfold Builtin.List.listTooLong
 exact decide_eq_false (by omega)
end
section
variable {X:Cx}
def rAppend:V->List V->Hp->VK->Prop:=fun x vs H Q=>∃ l xs y,x = .ref l/\vs = [y]/\H l = some (.lst xs)/\xs.length < sizeLine/\Q .non (upd H l (.lst (xs ++ [y])))
theorem bB:MtM X "list.append" rAppend:=by
 intro pins s σ H x vs v us Q I rx rv h
 obtain ⟨l,xs,y,rfl,rfl,hH,hz,q⟩:=h
 cases rx
 obtain ⟨u,rfl,ru⟩:=rv.one
 obtain ⟨z,its,n,r,hl,e⟩:=I.lstM hH
 refine call_meets F.slot_list_append ⟨_,e,rfl⟩ F.entry_list_append (F.args_list_append_2 _ _) (PySem.list_append l its.toArray n u (by rw [List.size_toArray]; omega)) ⟨e,?_⟩
 refine ⟨.non,_,I.lset (its':=its ++ [u]) hH e (by simp) (r.append (.cons ru .nil)) ?_,rfl,q⟩
 rw [List.length_append,List.length_singleton]
 omega
def rPop:V->List V->Hp->VK->Prop:=fun x vs H Q=>∃ l xs y,x = .ref l/\vs = []/\H l = some (.lst xs)/\xs[xs.length - 1]? = some y/\Q y (upd H l (.lst xs.dropLast))
theorem tw:MtM X "list.pop" rPop:=by
 intro pins s σ H x vs v us Q I rx rv h
 obtain ⟨l,xs,y,rfl,rfl,hH,hy,q⟩:=h
 cases rx
 have hus:=rv.zero
 subst hus
 obtain ⟨z,its,n,r,hl,e⟩:=I.lstM hH
 obtain ⟨u,hu,ru⟩:=r.get hy
 have hy':its.toArray[its.toArray.size - 1]? = some u:=by
  show its.toArray[its.length - 1]? = some u
  rw [<- Array.getElem?_toList,<- hl]
  exact hu
 refine call_meets F.slot_list_pop ⟨_,e,rfl⟩ F.entry_list_pop (F.args_list_pop_1 _) (MeetsSeq.list_pop_last l its.toArray n u hy' (by rw [List.size_toArray]; omega)) ⟨e,?_⟩
 refine ⟨y,_,I.lset (its':=its.dropLast) hH e ?_ r.dropLast ?_,ru,q⟩
 ·show its.toArray.eraseIdxIfInBounds (its.toArray.size - 1) = its.dropLast.toArray
  rw [List.size_toArray,List.eraseIdxIfInBounds_toArray,qR]
 ·rw [List.length_dropLast]
  omega
def rRep:R2:=fun x y H Q=>∃ l k xs,x = .ref l/\y = .int k/\H l = some (.lst xs)/\-(2 ^ 63)<=k/\k < 2 ^ 63/\xs.length * k.toNat<=sizeLine /\
 ∀ p,H p = none->Q (.ref p) (upd H p (.lst (List.replicate k.toNat xs).flatten))
theorem sD {α:Type} (xs:List α) (k:Nat):(List.replicate k xs).flatten.length = k * xs.length:=by
 induction k with
 | zero=>simp
 | succ k ih=>rw [List.replicate_succ,List.flatten_cons,List.length_append,ih,Nat.succ_mul,Nat.add_comm]
theorem op_rep:OpR X (binaryOp .Mult) rRep:=by
 intro pins s σ H x y v u Q I rx ry h
 obtain ⟨l,k,xs,rfl,rfl,hH,h1,h2,hz,q⟩:=h
 cases rx
 obtain ⟨t,rfl⟩:=ry
 obtain ⟨z,its,n,r,hl,e⟩:=I.lstM hH
 have hlen:its.toArray.size * k.toNat<=sizeLine:=by rw [List.size_toArray,<- hl]; exact hz
 have hcap:¬ its.toArray.size * k.toNat > (2 ^ 63 - 1) / 8:=by
  have:(sizeLine:Nat)<=(2 ^ 63 - 1) / 8:=by decide
  omega
 have hfit:¬ (!Builtin.List.listFitsIndex k) = true:=by
  rw [fitsIndex_both h1 h2]
  exact Bool.false_ne_true
 have hlong:¬ Builtin.List.listTooLong (its.toArray.size * k.toNat) = true:=by
  rw [notLongL hlen]
  exact Bool.false_ne_true
 have hnew:List.foldl (fun x1 x2=>x1 ++ x2) #[] (List.replicate (if its.toArray.isEmpty = true then 0 else k.toNat) its.toArray) = (List.replicate k.toNat its).flatten.toArray:=by
  have f0:∀ m:Nat,List.foldl (fun x1 x2=>x1 ++ x2) #[] (List.replicate m its.toArray) = (List.replicate m its).flatten.toArray:=fun m=>by
   have:=mI its m []
   rw [List.nil_append] at this
   exact this
  rw [f0]
  cases its with
  | nil=>simp
  | cons a r'=>rw [if_neg (by simp)]
 refine wpAny_binaryOp_repeat_ref (T:="list") (U:="int") (by decide) ⟨_,e,rfl⟩ (fun s'=>typeIs_int s' k t) noFill_list_mul F.fills_int_mul F.slot_int_rmul repeat_list F.slot_int_index.lookup
  (call_meets F.slot_int_rmul (typeIs_int s k t) F.entry_int_rmul (F.args_int_rmul_2 _ _) (int___rmul___int_list k t l its.toArray n)
   ⟨e,rfl,⟨_,e,rfl⟩,call_meets F.slot_list_mul ⟨_,e,rfl⟩ F.entry_list_mul (F.args_list_mul_2 _ _) (AutoListH.list___mul___list_int_3 l its.toArray n k t hfit hcap hlong) ⟨e,?_⟩⟩)
 rw [hnew]
 exact ⟨.ref _,_,I.lnew (t':=s.toks) (r.rep k.toNat) (by rw [sD,Nat.mul_comm]; exact hz),rfl,q _ I.fresh⟩
end
section
variable {prog:Program} {w:World} {A:Around} {E:Value->Shared->Prop} {s:Shared}
set_option maxRecDepth 100000 in
end
section
variable {X:Cx}
end
end L2
namespace Att
open PySem PySem.W PySem.Calls PyProof.Rows
theorem jp {P:Params} {h:Heap}:∀ (ns:List Int) (vs:List Value),WellAll P h vs (ns.map WData.int)->IntsAre vs ns:=by
 intro ns
 induction ns with
 | nil =>
  intro vs w
  rw [List.map_nil] at w
  cases w
  exact .nil
 | cons n ns ih =>
  intro vs w
  rw [List.map_cons] at w
  cases w with
  | cons a b =>
   cases a
   exact .cons _ _ (ih _ b)
theorem sB {l:OpenLaw} {n:Nat} (hn:l.most = some n) {P:Params} {h:Heap} {args:List WData} {vals:List Value}
  (hpre:l.row.toRowW.claim.pre args = true) (hwl:WellAll P h vals args) :
  ∃ a vs ns,vals = [Value.ref a]/\args = [WData.list (ns.map WData.int)]/\h.get? a = some { cls:=.type "list",data:=.seq vs.toArray }/\IntsAre vs ns/\ns.length<=n:=by
 have hsh:WShape.hasAll [] args [.list .int] = true:=(pre_splitW hpre).1
 have hc:l.pre.holds [] { args:=args } = true:=(pre_splitW hpre).2
 obtain ⟨d,r,rfl,h1,h2⟩:=hasAllW_cons hsh
 obtain rfl:=hasAllW_nil h2
 obtain ⟨xs,rfl,h3⟩:=hasW_list h1
 obtain ⟨ns,rfl⟩:=items_int h3
 have hlen:ns.length<=n:=by
  unfold OpenLaw.pre at hc
  have h4:(WTm.not (.lt (.lit (.int (n:Int))) (.len (.arg 0)))).holds [] { args:=[.list (ns.map .int)] } = true:=by
   have h4:=(holds_andW hc).1
   rw [hn] at h4
   exact h4
  have h5:=condW_of h4 (w_not (w_lt w_lit (w_len_list (w_arg rfl))))
  rw [List.length_map] at h5
  refine Nat.le_of_not_lt fun q=>?_
  have q':(n:Int) < ((ns.length:Nat):Int):=by omega
  first
   | (rw [decide_eq_true q'] at h5; exact absurd h5 (by decide))
   | (simp at h5; omega)
 cases hwl with
 | cons w1 w2 =>
  cases w2
  cases w1 with
  | list ho hall=>exact ⟨_,_,ns,rfl,rfl,ho,jp ns _ hall,hlen⟩
theorem r6 (l:OpenLaw) (args:List WData):l.row.toRowW.claim.post args (.bool true) args = true :=
 postW_of (r:=l.row.toRowW) (X:=(true == true))
  (show WShape.has [] (.bool true) .bool = true by first | rfl | decide | simp [WShape.has,WShape.arms,WShape.armsAll])
  (show (WTm.eq .res (.lit (.bool true))).value [] { args:=args,res:=some (.bool true),after:=args } = some (.bool (true == true)) from w_eq_bool (w_res rfl) w_lit) rfl
theorem attach_call {l:OpenLaw} {n:Nat} {q:Program} {loose:List Str} {XP:(Str->Option Value)->Heap->Prop} {YP:World->Heap->Prop} {d:DefRec}
  (hn:l.most = some n) (hdf:d.params.defaults = [])
  (call:∀ (w:World) (s₀ s₁:Shared) (mg mb:Str->Option Value) (fa:Addr) (o:Obj) (pm cd doc:Value) (a:Addr) (vs:List Value) (ns:List Int),
   Ground q loose [] XP w s₀ mg mb s₁.heap->YP w s₁.heap ->
   s₁.heap.get? fa = some o->o.data = .func (docDef d.name d.params d.body d.scope pm cd doc)->s₁.heap.CodeRec cd d.name->mg d.name = some (.ref fa) ->
   s₁.heap.get? a = some { cls:=.type "list",data:=.seq vs.toArray }->IntsAre vs ns->ns.length<=n->s₁.gens = #[] ->
   codeAny (model l.prog w) callerA (.call (.ref fa) ⟨[.ref a],[]⟩) (fun r s'=>r = .ok (.ret (.bool true))/\OldK s₁.heap s'.heap/\s'.os = s₁.os/\AllBare s'.gens) s₁) :
  WalkO q loose XP YP l.row.toRowW d [] (fun f vs=>PySem.call f vs):=by
 intro w s₀ s₁ mg mb G Y fa o pm cd doc dV kV ho hd hcd hD hmg hg args vals as hpre hlay hrd hwl hlo
 obtain rfl:dV = .none:=Dflts.none hD hdf
 obtain rfl:kV = .none:=Dflts.noKw hD
 obtain ⟨a,vs,ns,rfl,rfl,hobj,hints,hlen⟩:=sB hn hpre hwl
 refine enter_call (codeAny_mono (call w s₀ s₁ mg mb fa o pm cd doc a vs ns G Y ho (fd_plain hd) hcd hmg hobj hints hlen hg) fun r s' hq=>?_)
 obtain ⟨rfl,h2,h3,h4⟩:=hq
 exact ⟨.inl ⟨.bool true,.bool true,[],rfl,fun _=>rfl,.bool true,r6 l _,fun _=>⟨List.Pairwise.nil,fun _ hm=>(nomatch hm)⟩⟩,h2,h3,h4⟩
section
variable {prog:Program} {w:World} {A:Around} {E:Value->Shared->Prop} {s:Shared} {K:Frag}
end
end Att
namespace L2
open PySem PySem.Spec PyProof.Rows
theorem mn:∀ {vs:List Value} {ns:List Int},IntsAre vs ns->Vals (ns.map V.int) vs
 | _,_,.nil=>.nil
 | _,_,.cons n t h=>.cons ⟨t,rfl⟩ (mn h)
def Only (H:Hp):Prop:=∀ b,H b = none\/∃ o xs,H b = some (.frz o (.lst xs))
theorem law_call {P:Program} {w:World} {K:Frag} {mg mb:Str->Option Value} {CX:CXT} {k:Nat} {fa a:Addr} {fd:FuncData} {x:Str} {sp:Sp} {s₁:Shared} {vs:List Value} {ns:List Int}
  (KX:K.In s₁.heap) (hns:s₁.heap.Ns mainGlobals mg) (hb:s₁.heap.Ns builtinsNs mb) (hbb:∀ x:Str,x ≠ "__name__"->mb x = bootBuiltins x) (hlim:s₁.heap.NoLimit) (hg:s₁.gens = #[])
  (ha:s₁.heap.get? a = some { cls:=.type "list",data:=.seq vs.toArray }) (hi:IntsAre vs ns) (hl:ns.length<=sizeLine) (hr:Room k callerA)
  (F:∀ base:Heap,K.In base->base.Ns mainGlobals mg->FnOk P w K mg base CX k fa fd [x] sp) (hbind:∀ (s:Shared) (u:Value),BindsTo s fd ⟨[u],[]⟩ [(x,u)])
  (hsp:∀ H:Hp,Only H->SqL K H a (ns.map V.int)->sp [.ref a] H (fun v _=>v = .bl true) fun _ _ _=>False)
  (hCX:∀ H e s',CX [] H s₁ (fun _ _ _=>False) e s'->False) :
  codeAny (model P w) callerA (.call (.ref fa) ⟨[.ref a],[]⟩) (fun r s'=>r = .ok (.ret (.bool true))/\OldK s₁.heap s'.heap/\s'.os = s₁.os/\AllBare s'.gens) s₁:=by
 have rv:=mn hi
 have lenV:=hi.length
 have core:∀ H:Hp,Only H->SqL K H a (ns.map V.int)->HOk P w H s₁.heap->(∀ b,H b ≠ none->b = a)->(H a ≠ none->K.lookup a = none) ->
   codeAny (model P w) callerA (.call (.ref fa) ⟨[.ref a],[]⟩) (fun r s'=>r = .ok (.ret (.bool true))/\OldK s₁.heap s'.heap/\s'.os = s₁.os/\AllBare s'.gens) s₁:=by
  intro H hO hS hok hA hK
  have base_of:∀ {b:Addr} {o:Obj},s₁.heap.get? b = some o->H b = none->(hidT s₁.heap H).get? b = some o:=fun e n=>hidT_get e n
  have noA:∀ {b:Addr} {o:Obj} {es:Array DictEntry} {ep:Nat},s₁.heap.get? b = some o->o.data = .dict es ep->H b = none:=fun {b o es ep} e d=>by
   cases q:H b with
   | none=>rfl
   | some u =>
    have e':b = a:=hA b (by rw [q]; simp)
    subst e'
    rw [ha] at e; cases e
    have d':Data.seq vs.toArray _ = Data.dict es ep:=d
    cases d'
  have nsK:∀ {b:Addr} {m:Str->Option Value},s₁.heap.Ns b m->(hidT s₁.heap H).Ns b m:=fun {b m} ⟨o,es,ep,e,d,r⟩=>⟨o,es,ep,base_of e (noA e d),d,r⟩
  have hKb:K.In (hidT s₁.heap H):=fun b o e=>base_of (KX b o e) (by
   cases q:H b with
   | none=>rfl
   | some u =>
    have e':b = a:=hA b (by rw [q]; simp)
    subst e'
    rw [hK (by rw [q]; simp)] at e; cases e)
  have hM:Mod K mg (hidT s₁.heap H):=⟨hKb,nsK hns,⟨mb,nsK hb,hbb⟩,let ⟨mc,h1,h2⟩:=hlim; ⟨mc,nsK h1,h2⟩⟩
  have e0:Env0 P w K mg (hidT s₁.heap H) callerA [] s₁ H:=⟨rfl,hM,fun b o e=>of_hidT e,Nat.le_of_eq (tz _ _),trivial,fun b hb=>absurd (show b ∈ ([]:List Addr) from hb) (by simp),hok,.of_eq hg⟩
  refine codeAny_mono ((F _ hKb (nsK hns)).run callerA [] s₁ H ⟨[.ref a],[]⟩ [.ref a] [.ref a] _ _ hr e0 (hbind s₁ (.ref a)) (.cons rfl .nil) (hsp H hO hS)) fun r s' h=>?_
  cases r with
  | error e=>exact (hCX H e s' h).elim
  | ok fl =>
   cases fl with
   | next=>exact False.elim h
   | brk=>exact False.elim h
   | cont=>exact False.elim h
   | ret u =>
    obtain ⟨v,H',os,bare,un,hok',r',q⟩:=h
    have q':v = .bl true:=q
    subst q'
    obtain rfl:u = Value.bool true:=r'
    refine ⟨rfl,OldK.of_keep fun b o e=>?_,os,bare⟩
    cases q:H b with
    | none=>exact un.keep b o e q (by intro z; exact absurd (show b ∈ ([]:List Addr) from z) (by simp)) (by simp)
    | some u =>
     rcases hO b with z | ⟨ob,xs,z⟩
     ·rw [q] at z; cases z
     ·have z2:=un.frzs b ob _ z
      obtain ⟨e1,_⟩:=hok b _ z
      obtain ⟨e2,_⟩:=hok' b _ z2
      rw [e] at e1; cases e1
      exact e2
 cases hk:K.lookup a with
 | some o =>
  have e:=KX a o hk
  rw [ha] at e
  cases e
  refine core (fun _=>none) (fun _=>.inl rfl) (.inr ⟨_,vs.toArray,_,hk,rfl,rfl,rfl,by rw [List.size_toArray,lenV]; exact hl,by simpa using rv⟩) (fun b u z=>by have z':(none:Option HO) = some u:=z; cases z') (fun b z=>absurd rfl z) fun z=>absurd rfl z
 | none =>
  refine core (fun b=>if b = a then some (.frz { cls:=.type "list",data:=.seq vs.toArray } (.lst (ns.map V.int))) else none) (fun b=>?_) (.inl (.inr ⟨{ cls:=.type "list",data:=.seq vs.toArray },if_pos rfl⟩)) (fun b u z=>?_) (fun b z=>?_) fun _=>hk
  ·by_cases hb:b = a
   ·exact .inr ⟨_,_,if_pos hb⟩
   ·exact .inl (if_neg hb)
  ·by_cases hb:b = a
   ·have z':=(if_pos hb).symm.trans z
    cases z'
    subst hb
    exact ⟨ha,by rw [List.length_map]; exact hl,vs,_,rv,ha⟩
   ·have z':=(if_neg hb).symm.trans z
    cases z'
  ·by_cases hb:b = a
   ·exact hb
   ·exact absurd (if_neg hb) z
end L2
namespace L2
open PySem PySem.Spec PyProof.Rows
theorem walk_of {l:PySem.W.OpenLaw} {n k:Nat} {q:Program} {loose:List Str} {XP:(Str->Option Value)->Heap->Prop} {YP:World->Heap->Prop} {d:DefRec} {K:Params->Frag} {CX:World->CXT} {sp:World->Sp} {x:Str}
  (hn:l.most = some n) (hn2:n<=sizeLine) (hdf:d.params.defaults = []) (hr:Room k callerA)
  (hY:∀ (w:World) (h:Heap),YP w h->(K w.params).In h)
  (F:∀ (w:World) (mg:Str->Option Value) (fa:Addr) (h:Heap),(K w.params).In h->h.Ns mainGlobals mg->mg d.name = some (.ref fa) ->
   ∃ fd:FuncData,(∀ (s:Shared) (u:Value),BindsTo s fd ⟨[u],[]⟩ [(x,u)]) /\
    ∀ base:Heap,(K w.params).In base->base.Ns mainGlobals mg->FnOk l.prog w (K w.params) mg base (CX w) k fa fd [x] (sp w))
  (hsp:∀ (w:World) (H:Hp) (a:Addr) (ns:List Int),ns.length<=n->Only H->SqL (K w.params) H a (ns.map V.int)->sp w [.ref a] H (fun v _=>v = .bl true) fun _ _ _=>False)
  (hCX:∀ (w:World) (H:Hp) (s:Shared) (e:Value) (s':Shared),CX w [] H s (fun _ _ _=>False) e s'->False) :
  PySem.W.WalkO q loose XP YP l.row.toRowW d [] (fun f vs=>PySem.call f vs):=by
 refine Att.attach_call hn hdf fun w s₀ s₁ mg mb fa o pm cd doc a vs ns G Y ho hd hcd hmg hobj hints hlen hg=>?_
 have KX:=hY w _ Y
 obtain ⟨fd,hb,hF⟩:=F w mg fa _ KX G.T.g hmg
 exact law_call KX G.T.g G.T.b G.T.builtins G.T.nolimit hg hobj hints (Nat.le_trans hlen hn2) hr hF hb (fun H hO hS=>hsp w H a ns hlen hO hS) fun H e s'=>hCX w H s₁ e s'
end L2
namespace L2
open PySem PySem.Spec PyProof.Rows
def az (s:Stmt) (j:Nat):Stmt:=match s with
 | .ClassDef _ _ _ body _ _ _ _ _ _ _=>body.getD j (.Pass ⟨0,0,0,0⟩)
 | _=>.Pass ⟨0,0,0,0⟩
def fe (s:Stmt):Arguments:=match s with
 | .FunctionDef _ a _ _ _ _ _ _ _ _=>a
 | _=>{ posonlyargs:=[],args:=[],vararg:=none,kwonlyargs:=[],kw_defaults:=[],kwarg:=none,defaults:=[] }
def dH (s:Stmt):List Stmt:=match s with
 | .FunctionDef _ _ b _ _ _ _ _ _ _=>b
 | _=>[]
def ak (s:Stmt):Scope:=match s with
 | .FunctionDef _ _ _ _ _ _ sc _ _ _=>sc
 | _=>{ kind:=.function,names:=[],isGenerator:=false,isCoroutine:=false }
abbrev CX0:CXT:=fun _ _ _ _ _ _=>False
abbrev E0:XK:=fun _ _ _=>False
theorem rO {X:Cx}:iP CX0 X E0:=fun _ _ _ _ _ _ _ h=>h.elim
structure Fun (K:Frag) (x qual:Str) (st:Stmt) (f:Addr) (fd:FuncData):Prop where
 ex:∃ (oc:Value) (od:Option Addr) (kV doc pm:Value) (an:Option Addr) (cdv ct:Value) (osl:Array (Option Value)),
  fd = fnOf x qual (fe st) (dH st) (ak st) .none kV doc pm an cdv ct/\K.lookup f = some ⟨oc,od,.func fd,osl⟩/\codeIn K cdv qual = true
 kp:keepIn K (.ref f) = true
section
variable {P:Program} {w:World} {K:Frag} {mg:Str->Option Value} {base:Heap}
theorem Fun.ok {x qual:Str} {st:Stmt} {f:Addr} {fd:FuncData} {N ps:List Str} {k:Nat} {sp:Sp} (F:Fun K x qual st f fd) (S:FnScope N ps (ak st)) (len:∀ vs H Q E,sp vs H Q E->vs.length = ps.length)
  (hbody:∀ (cdv:Value) (A:Around) (outer:List Env) (s:Shared) (H:Hp) (vs:List V) (Q:VK) (E:XK),Room k (A.deeper (envOfC qual (ak st) s.heap.objs.size f cdv))->sp vs H Q E ->
   ∃ t,PSs (ig CX0 P w K mg base N qual (ak st) f cdv A outer s H E).nox (dH st) t/\t { nx:=fun _ H'=>Q .non H',rt:=Q } (kT N vs) H):FnOk P w K mg base CX0 (k + 1) f fd ps sp:=by
 obtain ⟨oc,od,kV,doc,pm,an,cdv,ct,osl,rfl,lk,hcd⟩:=F.ex
 refine fn_of lk hcd S len fun A outer s H vs Q E hr hsp=>?_
 obtain ⟨t,h,q⟩:=hbody cdv A outer s H vs Q E hr hsp
 exact ⟨t,h.nox,q⟩
theorem Fun.binds {x qual:Str} {st:Stmt} {f:Addr} {fd:FuncData} {ps:List Str} (F:Fun K x qual st f fd)
  (h:∀ (kV doc pm:Value) (an:Option Addr) (cdv ct:Value) (us:List Value),us.length = ps.length->bindArgs (fnOf x qual (fe st) (dH st) (ak st) .none kV doc pm an cdv ct) ⟨us,[]⟩ = pure (ps.zip us)):Binds K fd ps []:=by
 obtain ⟨oc,od,kV,doc,pm,an,cdv,ct,osl,rfl,lk,hcd⟩:=F.ex
 exact .all (h kV doc pm an cdv ct)
theorem fun_mk {x qual:Str} {st:Stmt} {f:Addr} {oc:Value} {od an:Option Addr} {osl:Array (Option Value)} {kV doc pm cdv ct:Value} (l:K.lookup f = some ⟨oc,od,.func (fnOf x qual (fe st) (dH st) (ak st) .none kV doc pm an cdv ct),osl⟩)
  (c:codeIn K cdv qual = true) (k:keepIn K (.ref f) = true):Fun K x qual st f (fnOf x qual (fe st) (dH st) (ak st) .none kV doc pm an cdv ct):=⟨⟨oc,od,kV,doc,pm,an,cdv,ct,osl,rfl,l,c⟩,k⟩
end
theorem aN {A:Around} {k:Nat} (hr:Room k A):A.units + 1 < cLine:=Nat.lt_of_le_of_lt (Nat.add_le_add_left (by decide:1<=64) _) hr.units
section
variable {X:Cx}
theorem pv (i:Nat) {x:Str} {pos:Pos} (hN:X.N[i]? = some x:=by rfl) (hv:Vis X.env.scope x:=by first | exact Or.inl rfl | exact Or.inr (Or.inl rfl) | exact Or.inr (Or.inr rfl)) (hd:(x == ("__debug__":Str)) = false:=by decide)
  (hcd:(x == ("__classdict__":Str)) = false:=by decide):PE X (.Name x pos) (tVar i):=pe_var hN hv hd hcd
end
theorem cE {A B:Prop} (h:B):if false = true then A else B:=by
 rw [if_neg Bool.false_ne_true]
 exact h
theorem eG {A B:Prop} (h:A):if true = true then A else B:=by
 rw [if_pos rfl]
 exact h
theorem nZ {c A B:Prop} [Decidable c] (hc:c) (h:B):if (!decide c) = true then A else B:=by
 rw [decide_eq_true hc]
 exact cE h
def Same (H H':Hp):Prop:=∀ b o,H b = some o->H' b = some o
theorem Same.refl (H:Hp):Same H H:=fun _ _ h=>h
theorem Same.trans {H H1 H2:Hp} (a:Same H H1) (b:Same H1 H2):Same H H2:=fun c o h=>b c o (a c o h)
theorem Same.seq {K:Frag} {H H':Hp} {a:Addr} {xs:List V} (e:Same H H') (h:SqL K H a xs):SqL K H' a xs:=by
 rcases h with (h | ⟨o,h⟩) | h
 ·exact .inl (.inl (e _ _ h))
 ·exact .inl (.inr ⟨o,e _ _ h⟩)
 ·exact .inr h
end L2
set_option maxHeartbeats 4000000
namespace Ow
open PySem PySem.Spec PyProof.Rows L2
structure Has (P:Program) (w:World) (K:Frag) (mg:Str->Option Value) (base:Heap) (k:Nat) (x:Str) (ps:List Str) (sp:Sp):Prop where
 ex:∃ (f:Addr) (fd:FuncData),FnOk P w K mg base CX0 k f fd ps sp/\Binds K fd ps []/\keepIn K (.ref f) = true/\mg x = some (.ref f)
section
variable {X:Cx} {k:Nat} {x:Str} {ps:List Str} {sp:Sp} {p pos:Pos} {e:Expr} {es:List Expr} {t:TA}
theorem aC (h:Has X.prog X.w X.K X.mg X.base k x ps sp) (hr:Room k X.A) (hg:Gl X x) (ha:PA X (e :: es) t) (hdb:(x == ("__debug__":Str)) = false:=by decide)
  (he:starEach (e :: es) X.env = (false,eval e X.env) :: starEach es X.env:=by rfl) (hpl:(backTo pos (starEach es X.env)).any (·.1) = false:=by rfl) :
  PE X (.Call (.Name x p) (e :: es) [] pos) (rB sp [] E0 t):=by
 obtain ⟨f,fd,F,b,kp,m⟩:=h.ex
 exact oH F hr hg m kp b .nil rO ha hdb he hpl
theorem iO (h:Has X.prog X.w X.K X.mg X.base k x ps sp) (hr:Room k X.A) (hg:Gl X x) (hdb:(x == ("__debug__":Str)) = false:=by decide) :
  PE X (.Call (.Name x p) [] [] pos) (rB sp [] E0 tNil):=by
 obtain ⟨f,fd,F,b,kp,m⟩:=h.ex
 exact pe_call0 F hr hg m kp b .nil rO hdb
theorem gM {T:String} (hg:Gl X x) (hm:X.mg x = none) (hv:bootBuiltins x = some (.type T)) (hn:x ≠ "__name__":=by decide) (hd:(x == ("__debug__":Str)) = false:=by decide):PE X (.Name x pos) (tC (.ty T)):=pe_bltn (v:=.ty T) hg hm hv rfl hn hd
theorem iS {C:Addr} (hg:Gl X x) (hm:X.mg x = some (.ref C)) (hd:(x == ("__debug__":Str)) = false:=by decide):PE X (.Name x pos) (tC (.ref C)):=pO (v:=.ref C) hg hm rfl hd
def clsV:V->Option Value
 | .ty n=>some (.type n)
 | .ref C=>some (.ref C)
 | _=>none
theorem clsV_rel {c:V} {u cv:Value} (r:RelV c u) (h:clsV c = some cv):u = cv:=by
 cases c with
 | ty n=>cases h; exact r
 | ref C=>cases h; exact r
 | _=>cases h
theorem aJ:fi X (.builtin "isinstance") (fun xs H Q=>∃ x c t cv b,xs = [x,c]/\clsV c = some cv/\TyOf X.K H x t/\kitOne X.K t cv = some b/\Q (.bl b) H):=by
 intro pins s σ H xs us Q I r h
 obtain ⟨x,c,t,cv,b,rfl,hc,ty,e,q⟩:=h
 obtain ⟨u,u',rfl,rx,rc⟩:=vals2 r
 cases clsV_rel rc hc
 exact tQ I rx ty e fun tk=>⟨.bl b,H,I.tok _,rfl,q⟩
theorem fN:OpR X (binaryOp .FloorDiv) (rI (fun _ j=>0 < j/\j.natAbs.log2 < 9000) fun i j=>.int (i / j)):=opI fun i j _ _ _ _ _ hc q=>by
 have h1:(0:Int) < j:=hc.1
 exact floordiv_int (by omega) (by rw [Int.fdiv_eq_ediv_of_nonneg i (by omega)]; exact q) (.inl (PyProof.noPylong_of_log2 hc.2))
theorem iI:OpR X (binaryOp .Mult) (rI (fun i j=>Builtin.Int.intBits i<=100000/\Builtin.Int.intBits j<=100000) fun i j=>.int (i * j)):=opI fun _ _ _ _ _ _ _ hc q =>
 mul_int q (IntMulOk.of_bits (Nat.le_trans hc.1 (by decide)) (Nat.le_trans hc.2 (by decide)))
theorem jj:OpR X (binaryOp .LShift) (rI (fun i j=>0<=j/\j<=100000/\Builtin.Int.intBits i<=100000) fun i j=>.int (i * 2 ^ j.toNat)):=opI fun i j _ _ _ _ _ hc q =>
 lshift_int hc.1 (by have h1:=hc.2.1; have h2:Builtin.Int.intBits i<=100000:=hc.2.2; have h3:(2:Int) ^ 27 = 134217728:=(by decide); rw [h3]; omega) q
end
theorem fX (K:Frag):kitOne K (.type "int") (.type "int") = some true:=rfl
theorem fE (K:Frag):kitOne K (.type "int") (.type "bool") = some false:=by with_unfolding_all rfl
theorem rq (K:Frag):kitOne K (.type "bool") (.type "int") = some true:=by with_unfolding_all rfl
theorem tS (K:Frag):kitOne K (.type "bool") (.type "bool") = some true:=rfl
theorem bP {c A B:Prop} [Decidable c] (hc:c) (h:A):if decide c = true then A else B:=by
 rw [if_pos (decide_eq_true hc)]
 exact h
theorem aI {c A B:Prop} [Decidable c] (hc:¬ c) (h:B):if decide c = true then A else B:=by
 rw [if_neg (by rw [decide_eq_false hc]; decide)]
 exact h
theorem iteN {c A B:Prop} [Decidable c] (hc:¬ c) (h:A):if (!decide c) = true then A else B:=by
 rw [decide_eq_false hc]
 exact eG h
theorem bS (n:Nat):(0:Int) < 1 * 2 ^ n:=by
 rw [Int.one_mul]
 exact Int.pow_pos (by decide)
theorem p_pos (n:Nat):(0:Int) < 2 ^ n:=Int.pow_pos (by decide)
theorem p_mono {m n:Nat} (h:m<=n):(2:Int) ^ m<=2 ^ n:=by
 have e:n = m + (n - m):=by omega
 rw [e,Int.pow_add]
 have h1:=p_pos m
 have h2:(1:Int)<=2 ^ (n - m):=p_pos (n - m)
 have h3:=Int.mul_le_mul_of_nonneg_left h2 (Int.le_of_lt h1)
 rw [Int.mul_one] at h3
 exact h3
def SameX (p:Addr) (H H':Hp):Prop:=∀ b o,b ≠ p->H b = some o->H' b = some o
theorem SameX.refl (p:Addr) (H:Hp):SameX p H H:=fun _ _ _ h=>h
theorem SameX.trans {p:Addr} {H H1 H2:Hp} (a:SameX p H H1) (b:SameX p H1 H2):SameX p H H2:=fun c o n h=>b c o n (a c o n h)
theorem SameX.of {p:Addr} {H H':Hp} (a:Same H H'):SameX p H H':=fun c o _ h=>a c o h
theorem SameX.upd {p:Addr} {H:Hp} {o:HO}:SameX p H (upd H p o):=fun c u n h=>by rw [am n]; exact h
theorem ap {H:Hp} {p:Addr} (h:H p = none) (o:HO):Same H (L2.upd H p o):=fun b u q=>by rw [am (aw q h)]; exact q
def Box (H:Hp) (p:Addr):Prop:=∃ r s c:Int,H p = some (.lst [.int r,.int s,.int c])
theorem Box.same {H H':Hp} {p:Addr} (b:Box H p) (s:Same H H'):Box H' p:=by
 obtain ⟨r,s',c,h⟩:=b
 exact ⟨r,s',c,s _ _ h⟩
theorem getI (ns:List Int) (k:Nat) (h:k < ns.length):atI (ns.map V.int) (k:Int) = some (.int ns[k]):=fF (by rw [List.getElem?_map,List.getElem?_eq_getElem h] <;> rfl)
end Ow
namespace Ow
open PySem PySem.Spec PyProof.Rows L2
structure MHas (P:Program) (w:World) (K:Frag) (mg:Str->Option Value) (base:Heap) (k:Nat) (C:Addr) (m:Str) (ps:List Str) (sp:Sp):Prop where
 cl:Cls K C
 ex:∃ (f:Addr) (fd:FuncData),Meth K C m f/\FnOk P w K mg base CX0 k f fd ps sp/\Binds K fd ps []
def tMethP (X:Cx) (k:Nat) (m:Str) (ta:TE) (t:TA):TE:=fun σ H Q=>ta σ H fun x H1=>∃ (a C dx:Addr) (fs:List (Str × V)) (ps:List Str) (sp:Sp),x = .ref a/\H1 a = some (.ins C dx fs)/\fs.lookup m = none /\
 MHas X.prog X.w X.K X.mg X.base k C m ps sp/\t σ H1 fun vs H2=>sp (x :: (vs ++ [])) H2 Q E0
section
variable {X:Cx} {k:Nat} {x m:Str} {C:Addr} {p pos apos:Pos} {o e:Expr} {es:List Expr} {ta:TE} {t:TA}
theorem fK {pl:Sem Bool} (he:PE X o ta) (hr:Room k X.A) (ha:PA X (e :: es) t)
  (hst:starEach (e :: es) X.env = (false,eval e X.env) :: starEach es X.env:=by rfl) (hpl:(backTo pos (starEach es X.env)).any (·.1) = false:=by rfl)
  (ht:eval (.Call (.Attribute o m apos) (e :: es) [] pos) X.env = (do
   let ov <- eval o X.env
   standAt apos.atName
   let (f,first) <- holding [ov] (getMethod ov m pl)
   callWith pos f first (backTo pos (starEach (e :: es) X.env)) (backToKw pos (keywordEach [] X.env))):=by rfl) :
  PE X (.Call (.Attribute o m apos) (e :: es) [] pos) (tMethP X k m ta t):=by
 intro pins s σ H Q I h
 refine PySem.W.methodCall_KW (pl:=pl) (thn (he pins s σ H _ I h) fun u s1 ⟨x,H1,I1,rx,a,C,dx,fs,ps,sp,ex,ea,l,M,q⟩=>?_) ht
 subst ex
 obtain rfl:u = Value.ref a:=rx
 obtain ⟨f,fd,hm,F,hb⟩:=M.ex
 refine kI I1 ea M.cl hm l ?_
 refine PySem.W.callWith_K (first:=[.ref a]) (h₀:=X.base) I.ok.mod.kin hm.kp (thn (ha pos pins s1 σ H1 _ I1 q) fun us s2 ⟨vs,H2,I2,r,q2⟩=>⟨I2.kIn,?_⟩) hst hpl
 exact qk (us:=.ref a :: us) (vs:=.ref a :: vs) F hr hb .nil rO I2 (.cons rfl r) q2
theorem dO {pl:Sem Bool} (he:PE X o ta) (hr:Room k X.A)
  (ht:eval (.Call (.Attribute o m apos) [] [] pos) X.env = (do
   let ov <- eval o X.env
   standAt apos.atName
   let (f,first) <- holding [ov] (getMethod ov m pl)
   callWith pos f first (backTo pos (starEach [] X.env)) (backToKw pos (keywordEach [] X.env))):=by rfl) :
  PE X (.Call (.Attribute o m apos) [] [] pos) (tMethP X k m ta tNil):=by
 intro pins s σ H Q I h
 refine PySem.W.methodCall_KW (pl:=pl) (thn (he pins s σ H _ I h) fun u s1 ⟨x,H1,I1,rx,a,C,dx,fs,ps,sp,ex,ea,l,M,q⟩=>?_) ht
 subst ex
 obtain rfl:u = Value.ref a:=rx
 obtain ⟨f,fd,hm,F,hb⟩:=M.ex
 refine kI I1 ea M.cl hm l ?_
 exact PySem.W.callWith_K0 (first:=[.ref a]) I1.kIn hm.kp (qk (us:=[.ref a]) (vs:=[.ref a]) F hr hb .nil rO I1 (.cons rfl .nil) q)
end
end Ow
namespace Ow
open PySem PySem.Spec PyProof.Rows L2
def bU (X:Cx) (N:List Str) (scope:Scope) (cl:List (Str × Addr)) (C:Addr) (s2:Shared) (H2:Hp) (fp:List Addr):Cx where
 prog:=X.prog
 w:=X.w
 K:=X.K
 mg:=X.mg
 base:=X.base
 A:=X.A
 N:=N
 s₀:=s2
 H₀:=H2
 env:=compEnvC scope cl C X.env
 outer:=X.stack
 stack:=X.stack
 ex:=fp
 calm:=true
 fn:=fun _=>false
 pn:=[]
 xe:=fun _ _=>False
def rM (wi:TI) (te:TE) (cap:L2.St->L2.St):TE:=fun σ H Q=>wi σ H fun J H1=>∀ D,H1 D = none->∃ W:Nat->Nat->Hp->Prop,(∃ m,W 0 m (upd H1 D (.lst [])))/\∀ i m H,W i m H ->
 (J.stop i H/\Q (.ref D) H)\/(J.go i H/\∀ x H',J.yld i H x H'->te (some x :: cap σ) H' fun y H2=>∃ ys,H2 D = some (.lst ys)/\ys.length < sizeLine/\∃ m',m' < m/\W (i + 1) m' (upd H2 D (.lst (ys ++ [y]))))
section
variable {X:Cx} {elt iter:Expr} {x:Str} {px pos:Pos} {scope:Scope} {wi:TI} {te:TE} {N:List Str} {cl:List (Str × Addr)} {cap:L2.St->L2.St}
theorem rV (hc:X.calm = true) (hclos:closureFor scope X.env = pure cl) (hsub:∀ n c,cl.lookup n = some c->X.env.cells.lookup n = some c)
  (hcell:∀ y ∈ scope.names,y.2 ≠ .cell) (hkind:scope.kind = .function) (hnames:∀ y ∈ scope.names,y.2 = .local->scope.names.lookup y.1 = some .local) (hx:scope.names.lookup x = some .local)
  (hhas:∀ y,(Env.kindOf (compEnvC scope cl 0 X.env) y = some .cell\/Env.kindOf (compEnvC scope cl 0 X.env) y = some .free)->∃ c,cl.lookup y = some c)
  (hN:(x :: N).Nodup) (hcapl:∀ σ,(cap σ).length = N.length)
  (hcap:∀ (σ:L2.St) (i:Nat) (y:Str) (v:V),σ.length = X.N.length->N[i]? = some y->(cap σ)[i]? = some (some v)->(Env.kindOf (compEnvC scope cl 0 X.env) y = some .cell\/Env.kindOf (compEnvC scope cl 0 X.env) y = some .free)/\X.env.kindOf y = some .cell/\∃ j:Nat,X.N[j]? = some y/\σ[j]? = some (some v))
  (hi:PI X (.Name x px) iter wi) (he:∀ C s2 H2 fp,PE (bU X (x :: N) scope cl C s2 H2 fp) elt te)
  (hs:∀ z,foldedSetIterable iter X.env z = pure z:=by intro _; rfl) :
  PE X (.ListComp elt [⟨.Name x px,iter,[],0⟩] scope pos) (rM wi te cap):=by
 intro pins s σ H Q I h
 rw [eval_ListComp]
 refine wpAny_comprehension_free (use:=none) rfl hs hclos hkind hnames (thn (hi pins s σ H _ I h) fun xv s1 h1=>thn h1 fun itv s2 h2=>?_)
 obtain ⟨it,fp,tn,J,H2,e,I2,T,st2,f2,hW⟩:=h2
 subst e
 have hD:H2 s2.heap.objs.size = none:=I2.hok.fresh (Nat.le_refl _)
 obtain ⟨W,⟨m0,w0⟩,turn⟩:=hW s2.heap.objs.size hD
 refine wpAny_newObj_type (wpAny_newFunctionEnv hcell (by intro y hy; simp at hy) (fun h4 hns4 hsb4=>?_) hkind) (by show 0<=sizeLine; decide)
 dsimp only at hns4 hsb4 ⊢
 generalize hH3:s2.heap.push { cls:=.type "list",dict:=none,data:=.seq ([]:List Value).toArray } = H3 at hns4 hsb4 ⊢
 have hCz:H3.objs.size = s2.heap.objs.size + 1:=by rw [<- hH3,Heap.size_push]
 have old3:∀ b o,s2.heap.get? b = some o->H3.get? b = some o:=fun b o e=>hH3 ▸ Heap.get?_push_of_some _ e
 have eD3:H3.get? s2.heap.objs.size = some { cls:=.type "list",dict:=none,data:=.seq ([]:List Value).toArray }:=hH3 ▸ Heap.get?_push_size _ rfl
 have old4:∀ b o,H3.get? b = some o->h4.get? b = some o:=fun b o e=>hsb4.extBut b o (Nat.ne_of_lt (Heap.lt_size e)) (Heap.get?_push_of_some _ e)
 have old:∀ b o,s2.heap.get? b = some o->h4.get? b = some o:=fun b o e=>old4 b o (old3 b o e)
 have szC:s2.heap.objs.size < H3.objs.size:=by rw [hCz]; exact Nat.lt_succ_self _
 have fpC:∀ b ∈ fp,b ≠ H3.objs.size:=fun b hb=>by
  obtain ⟨o,ho,_⟩:=T.obj 0 _ st2 b hb
  exact Nat.ne_of_lt (Nat.lt_trans (Heap.lt_size ho) szC)
 have ok':(bU X (x :: N) scope cl H3.objs.size s2 H2 fp).Ok:=by
  refine ⟨I2.ok.mod,hkind,I2.ok.glob,I2.ok.blt,(Nat.le_of_lt szC),fun a b c e1 e2=>I2.ok.inj a b c (hsub a c e1) (hsub b c e2),fun y hy=>hhas y hy,fun y c z _=>absurd (show false = true from z) (by decide),
   fun _=>I2.ok.hd hc,I2.ok.frames,.inl rfl,fun b hb=>⟨fpC b hb,fun y c e=>(f2 b hb).2.2.2.2.1 y c (hsub y c e)⟩,I2.bs,Nat.le_trans I2.ok.bsz I2.sz,fun b o e hb=>?_,fun b hb z=>?_,I2.stack,I2.stkFree⟩
  ·rcases (f2 b hb).2.2.2.1 with q | q
   ·exact I2.ok.noex b o e q
   ·exact absurd (Nat.lt_of_lt_of_le (Heap.lt_size e) (Nat.le_trans I2.ok.bsz q)) (Nat.lt_irrefl _)
  ·rcases List.mem_cons.mp (I2.stkSub b z) with q | q
   ·exact (f2 b hb).2.1 q
   ·exact (f2 b hb).2.2.1 q
 have okD:ObjOk X.prog X.w (upd H2 s2.heap.objs.size (.lst [])) h4 s2.heap.objs.size (.lst []):=⟨Nat.zero_le _,[],0,.nil,old4 _ _ eD3⟩
 have I4:Inv (bU X (x :: N) scope cl H3.objs.size s2 H2 fp) [] (none :: cap σ) (upd H2 s2.heap.objs.size (.lst [])) { s2 with heap:=h4,toks:=s2.toks + ([]:List (Str × Value)).length }:=by
  refine ⟨ok',rfl,I2.bare,Un.laid old (Nat.le_refl _) hD,⟨_,hns4,fun i y v e1 e2 _=>?_⟩,fun y c e=>?_,?_,fun y c e=>?_,fun p hp=>absurd hp (by show p ∉ ([] ++ []:List (Addr × Obj)); simp),I2.hok.laid old (Nat.le_refl _) okD,?_⟩
  ·cases i with
   | zero=>simp at e2
   | succ i =>
    obtain ⟨k1,k2,j,e3,e4⟩:=hcap σ i y v I2.len (show N[i]? = some y from e1) (show (cap σ)[i]? = some (some v) from e2)
    obtain ⟨m,_,hl⟩:=I2.loc
    obtain ⟨u,ru,lk⟩:=hl j y v e3 e4 (.inr (.inl k2))
    refine ⟨u,ru,.inr ⟨k1,?_⟩⟩
    rcases lk with ⟨z,_⟩ | ⟨_,c,e5,hcl⟩
    ·rw [k2] at z; cases z
    ·obtain ⟨c',e6⟩:=hhas y k1
     have:c' = c:=by
      have:=hsub y c' e6
      rw [e5] at this
      exact (Option.some.inj this).symm
     subst this
     obtain ⟨oc,ho,hd⟩:=hcl
     exact ⟨c',e6,oc,old _ _ ho,hd⟩
  ·obtain ⟨v,oc,ho,hd⟩:=I2.cell y c (hsub y c e)
   exact ⟨v,oc,old _ _ ho,hd⟩
  ·show upd H2 s2.heap.objs.size (.lst []) H3.objs.size = none
   rw [am (Nat.ne_of_gt szC)]
   exact I2.hok.fresh (Nat.le_of_lt szC)
  ·have h1:=I2.freeC y c (hsub y c e)
   obtain ⟨v,oc,ho,_⟩:=I2.cell y c (hsub y c e)
   rw [am (Nat.ne_of_lt (Heap.lt_size ho))]
   exact h1
  ·show (none :: cap σ).length = (x :: N).length
   simp [hcapl]
 have stat:∀ {H':Hp},(∀ b ∈ fp,H' b = none)->∀ b ∈ fp,FpOk (bU X (x :: N) scope cl H3.objs.size s2 H2 fp) [] H' b:=fun {H'} hn b hb =>
  ⟨hn b hb,(ok'.exf b hb).1,ok'.exfs b hb,.inl hb,(ok'.exf b hb).2,fun p hp=>absurd hp (by show p ∉ ([] ++ []:List (Addr × Obj)); simp)⟩
 have loop:codeAny (model X.prog X.w) X.A (.compLoop (.ListComp elt [⟨.Name x px,iter,[],0⟩] scope pos) 0 (.ref it) (.ref s2.heap.objs.size) (compEnvC scope cl H3.objs.size X.env))
   (compPost (model X.prog X.w) X.A X.xe none (EP X pins σ Q) (.ref s2.heap.objs.size) H3.objs.size) { s2 with heap:=h4,toks:=s2.toks + ([]:List (Str × Value)).length }:=by
  refine codeAny_compLoop_list (fun n s'=>∃ (i:Nat) (z0:Option V) (H':Hp),Inv (bU X (x :: N) scope cl H3.objs.size s2 H2 fp) [] (z0 :: cap σ) H' s'/\tn i s'.heap/\(∀ b ∈ fp,H' b = none)/\W i n H') ?_ m0
   ⟨0,none,_,I4,T.keep 0 _ _ st2 (fun b _ o e=>old b o e),fun b hb=>?_,w0⟩
  ·rintro n s5 ⟨i,z0,H5,I5,st5,fr5,w5⟩
   rcases turn i n H5 w5 with ⟨stop,qn⟩ | ⟨go,step⟩
   ·refine wpAny_mono (T.done (bU X (x :: N) scope cl H3.objs.size s2 H2 fp) rfl rfl rfl rfl i [] s5 _ H5 _ I5 (stat fr5) st5 stop) (fun r s6 ⟨hr,I6⟩=>?_) fun _ _ z=>z
    subst hr
    obtain ⟨m,hn6,_⟩:=id I6.loc
    refine ⟨m,hn6,fun h' sb=>⟨.ref s2.heap.objs.size,H5,?_,rfl,qn⟩⟩
    have kp:∀ b o,b ≠ H3.objs.size->s6.heap.get? b = some o->h'.get? b = some o:=fun b o hb e=>sb.extBut b o hb e
    have nC:∀ b o,s2.heap.get? b = some o->b ≠ H3.objs.size:=fun b o e=>Nat.ne_of_lt (Nat.lt_trans (Heap.lt_size e) szC)
    have fC:H5 H3.objs.size = none:=I6.free
    refine I2.call' (ch:=fp) (s':={ s6 with heap:=h' }) I6.os ?_ ?_ I6.bare fun b hb=>⟨(f2 b hb).2.2.2.1,(f2 b hb).2.1,(f2 b hb).2.2.2.2.1,(f2 b hb).2.2.2.2.2⟩
    ·have U:Un (frs X.stack) fp H2 H5 s2.heap s6.heap:=I6.base
     exact ⟨fun b o e n1 n2 n3=>kp b o (nC b o e) (U.keep b o e n1 n2 n3),fun b o e n1 n2 n3=>by
       obtain ⟨sl,q⟩:=U.slot b o e n1 n2 n3
       exact ⟨sl,kp b _ (nC b o e) q⟩,U.free,fun b o e n3=>by
       obtain ⟨o',q⟩:=U.there b o e n3
       exact ⟨o',kp b _ (nC b o e) q⟩,U.tups,U.frzs,U.tbls⟩
    ·intro b u e
     refine (I6.hok b u e).stay (fun c v hc q=>kp c v (fun z=>?_) q) (fun _ q=>q) fun _ _ q=>q
     rcases hc with y | y
     ·rw [<- y,z,fC] at e
      cases e
     ·rw [z,fC] at y
      cases y
   ·refine wpAny_mono (T.item (bU X (x :: N) scope cl H3.objs.size s2 H2 fp) rfl rfl rfl rfl i [] s5 _ H5 _ I5 (stat fr5) st5 go) (fun r s6 ⟨u,hr,h6⟩=>?_) fun _ _ z=>z
    subst hr
    have key:(letOwnedTupleGo (.Name x px) (.ref it) u >>= fun _=>assign (.Name x px) (compEnvC scope cl H3.objs.size X.env) u) = assign (.Name x px) (compEnvC scope cl H3.objs.size X.env) u:=by first | rfl | exact pure_bind _ _
    dsimp only
    rw [<- key]
    refine wpAny_bind (wpAny_mono h6 (fun _ s7 ⟨v,H7,I7,r7,y7,st7,fr7⟩=>?_) fun _ _ z=>z)
    have I7':=I7.pinned (stat fr7) (T.obj _ _ st7)
    refine wpAny_assign_Name (ic (i:=0) I7' hN rfl (.inl (lookup_relabel_local hx)) r7 (fun s8 I8=>?_) (.inr (lookup_relabel_local hx)))
    refine wpAny_mono (he H3.objs.size s2 H2 fp _ s8 (some v :: cap σ) H7 _ I8 (step v H7 y7)) (fun w9 s9 ⟨y,H9,I9,r9,ys,hys,hlt,m',hm,w9'⟩=>?_) fun _ _ z=>z.elim
    refine wpAny_mono (bB (X:=bU X (x :: N) scope cl H3.objs.size s2 H2 fp) _ s9 _ H9 (.ref s2.heap.objs.size) [y] _ [w9] (fun _ Hn=>Hn = upd H9 s2.heap.objs.size (.lst (ys ++ [y]))) I9 rfl (.cons r9 .nil) ⟨_,ys,y,rfl,rfl,hys,hlt,rfl⟩) (fun _ s10 ⟨_,H10,I10,_,e10⟩=>?_) fun _ _ z=>z.elim
    subst e10
    refine ⟨m',hm,i + 1,some v,_,I10.unpinned,T.keep _ _ _ st7 fun b hb o e=>(I10.pin (b,o) (List.mem_append_right _ (List.mem_append_right _ (cM hb e)))).1,fun b hb=>?_,w9'⟩
    obtain ⟨o,e,d⟩:=T.obj _ _ st7 b hb
    exact (I10.pin (b,o) (List.mem_append_right _ (List.mem_append_right _ (cM hb e)))).2.1
  ·obtain ⟨o,ho,_⟩:=T.obj 0 _ st2 b hb
   rw [am (Nat.ne_of_lt (Heap.lt_size ho))]
   exact (f2 b hb).1
 exact codeAny_compStart_list loop (T.self X.A 0 _ _ _ (T.keep 0 _ _ st2 (fun b _ o e=>old b o e)) loop)
theorem cY (hc:X.calm = true) (hclos:closureFor scope X.env = pure []) (hno:∀ p ∈ scope.names,p.2 ≠ .cell/\p.2 ≠ .free) (hkind:scope.kind = .function)
  (hnames:∀ y ∈ scope.names,y.2 = .local->scope.names.lookup y.1 = some .local) (hx:scope.names.lookup x = some .local)
  (hi:PI X (.Name x px) iter wi) (he:∀ C s2 H2 fp,PE (bU X [x] scope [] C s2 H2 fp) elt te)
  (hs:∀ z,foldedSetIterable iter X.env z = pure z:=by intro _; rfl) :
  PE X (.ListComp elt [⟨.Name x px,iter,[],0⟩] scope pos) (rM wi te fun _=>[]):=by
 refine rV (N:=[]) (cl:=[]) hc hclos (fun _ _ e=>nomatch e) (fun y hy=>(hno y hy).1) hkind hnames hx (fun y hy=>?_) (by simp) (fun _=>rfl) (fun _ i y v _ e _=>by simp at e) hi he hs
 exfalso
 have sub:∀ (l:List (Str × NameKind)),(∀ p ∈ l,p.2 ≠ .cell/\p.2 ≠ .free)->∀ p ∈ (l.map fun (n,k)=>if (k == NameKind.free && X.env.scope.kind == ScopeKind.function && X.env.kindOf n == some NameKind.cell) then (n,NameKind.cell) else (n,k)),p.2 ≠ .cell/\p.2 ≠ .free:=by
  intro l hl p hp
  obtain ⟨q,hq,e⟩:=List.mem_map.mp hp
  have h1:=hl q hq
  obtain ⟨n,k⟩:=q
  have hf:(k == NameKind.free) = false:=by
   cases k <;> first | rfl | exact absurd rfl h1.2
  rw [<- e]
  dsimp only
  rw [hf,Bool.false_and,Bool.false_and,if_neg (by decide)]
  exact h1
 have mem:∀ k,Env.kindOf (compEnvC scope [] 0 X.env) y = some k->k ≠ .cell/\k ≠ .free:=fun k e=>sub scope.names hno (y,k) (PySem.mem_of_lookup e)
 rcases hy with z | z
 ·exact (mem _ z).1 rfl
 ·exact (mem _ z).2 rfl
theorem ps_comp {i:Nat} {y:Str} {py spos:Pos} (hNX:X.N.Nodup) (hiy:X.N[i]? = some y) (hly:Loc X.env.scope y) (hsw:swapsWith (.ListComp elt [⟨.Name x px,iter,[],0⟩] scope pos) (some (.Name y py)) spos.line X.env = pure true) (hc:X.calm = true) (hclos:closureFor scope X.env = pure cl) (hsub:∀ n c,cl.lookup n = some c->X.env.cells.lookup n = some c)
  (hcell:∀ y ∈ scope.names,y.2 ≠ .cell) (hkind:scope.kind = .function) (hnames:∀ y ∈ scope.names,y.2 = .local->scope.names.lookup y.1 = some .local) (hx:scope.names.lookup x = some .local)
  (hhas:∀ y,(Env.kindOf (compEnvC scope cl 0 X.env) y = some .cell\/Env.kindOf (compEnvC scope cl 0 X.env) y = some .free)->∃ c,cl.lookup y = some c)
  (hN:(x :: N).Nodup) (hcapl:∀ σ,(cap σ).length = N.length)
  (hcap:∀ (σ:L2.St) (i:Nat) (y:Str) (v:V),σ.length = X.N.length->N[i]? = some y->(cap σ)[i]? = some (some v)->(Env.kindOf (compEnvC scope cl 0 X.env) y = some .cell\/Env.kindOf (compEnvC scope cl 0 X.env) y = some .free)/\X.env.kindOf y = some .cell/\∃ j:Nat,X.N[j]? = some y/\σ[j]? = some (some v))
  (hi:PI X (.Name x px) iter wi) (he:∀ C s2 H2 fp,PE (bU X (x :: N) scope cl C s2 H2 fp) elt te)
  (hs:∀ z,foldedSetIterable iter X.env z = pure z:=by intro _; rfl) (hf:X.fn y = true\/X.env.scope.names.lookup y = some .local:=by first | exact .inl rfl | exact .inr rfl | assumption) :
  PS X (.Assign [.Name y py] (.ListComp elt [⟨.Name x px,iter,[],0⟩] scope pos) spos) (tAsg (rM wi te cap) (sR i)):=by
 intro pins s σ H DD I h
 rw [exec_Assign_Name_used _ _ _ _ hsw]
 refine wpAny_bind (wpAny_standAt (wpAny_bind ?_))
 show wpAny _ X.A (do let _ <- comprehension (.ListComp elt [⟨.Name x px,iter,[],0⟩] scope pos) scope X.env _ (newList []) false (eval iter X.env) (some (assign (.Name y py) X.env))) _ _ s
 refine wpAny_bind (wpAny_mono (wpAny_comprehension_free (use:=some (assign (.Name y py) X.env)) (Q:=fun _ s'=>SP X pins DD .next s') rfl hs hclos hkind hnames (thn (hi pins s σ H _ I h) fun xv s1 h1=>thn h1 fun itv s2 h2=>?_)) (fun _ s' hq=>wpAny_pure (wpAny_pure hq)) fun _ _ e=>e)
 obtain ⟨it,fp,tn,J,H2,e,I2,T,st2,f2,hW⟩:=h2
 subst e
 have hD:H2 s2.heap.objs.size = none:=I2.hok.fresh (Nat.le_refl _)
 obtain ⟨W,⟨m0,w0⟩,turn⟩:=hW s2.heap.objs.size hD
 refine wpAny_newObj_type (wpAny_newFunctionEnv hcell (by intro y hy; simp at hy) (fun h4 hns4 hsb4=>?_) hkind) (by show 0<=sizeLine; decide)
 dsimp only at hns4 hsb4 ⊢
 generalize hH3:s2.heap.push { cls:=.type "list",dict:=none,data:=.seq ([]:List Value).toArray } = H3 at hns4 hsb4 ⊢
 have hCz:H3.objs.size = s2.heap.objs.size + 1:=by rw [<- hH3,Heap.size_push]
 have old3:∀ b o,s2.heap.get? b = some o->H3.get? b = some o:=fun b o e=>hH3 ▸ Heap.get?_push_of_some _ e
 have eD3:H3.get? s2.heap.objs.size = some { cls:=.type "list",dict:=none,data:=.seq ([]:List Value).toArray }:=hH3 ▸ Heap.get?_push_size _ rfl
 have old4:∀ b o,H3.get? b = some o->h4.get? b = some o:=fun b o e=>hsb4.extBut b o (Nat.ne_of_lt (Heap.lt_size e)) (Heap.get?_push_of_some _ e)
 have old:∀ b o,s2.heap.get? b = some o->h4.get? b = some o:=fun b o e=>old4 b o (old3 b o e)
 have szC:s2.heap.objs.size < H3.objs.size:=by rw [hCz]; exact Nat.lt_succ_self _
 have fpC:∀ b ∈ fp,b ≠ H3.objs.size:=fun b hb=>by
  obtain ⟨o,ho,_⟩:=T.obj 0 _ st2 b hb
  exact Nat.ne_of_lt (Nat.lt_trans (Heap.lt_size ho) szC)
 have ok':(bU X (x :: N) scope cl H3.objs.size s2 H2 fp).Ok:=by
  refine ⟨I2.ok.mod,hkind,I2.ok.glob,I2.ok.blt,(Nat.le_of_lt szC),fun a b c e1 e2=>I2.ok.inj a b c (hsub a c e1) (hsub b c e2),fun y hy=>hhas y hy,fun y c z _=>absurd (show false = true from z) (by decide),
   fun _=>I2.ok.hd hc,I2.ok.frames,.inl rfl,fun b hb=>⟨fpC b hb,fun y c e=>(f2 b hb).2.2.2.2.1 y c (hsub y c e)⟩,I2.bs,Nat.le_trans I2.ok.bsz I2.sz,fun b o e hb=>?_,fun b hb z=>?_,I2.stack,I2.stkFree⟩
  ·rcases (f2 b hb).2.2.2.1 with q | q
   ·exact I2.ok.noex b o e q
   ·exact absurd (Nat.lt_of_lt_of_le (Heap.lt_size e) (Nat.le_trans I2.ok.bsz q)) (Nat.lt_irrefl _)
  ·rcases List.mem_cons.mp (I2.stkSub b z) with q | q
   ·exact (f2 b hb).2.1 q
   ·exact (f2 b hb).2.2.1 q
 have okD:ObjOk X.prog X.w (upd H2 s2.heap.objs.size (.lst [])) h4 s2.heap.objs.size (.lst []):=⟨Nat.zero_le _,[],0,.nil,old4 _ _ eD3⟩
 have I4:Inv (bU X (x :: N) scope cl H3.objs.size s2 H2 fp) [] (none :: cap σ) (upd H2 s2.heap.objs.size (.lst [])) { s2 with heap:=h4,toks:=s2.toks + ([]:List (Str × Value)).length }:=by
  refine ⟨ok',rfl,I2.bare,Un.laid old (Nat.le_refl _) hD,⟨_,hns4,fun i y v e1 e2 _=>?_⟩,fun y c e=>?_,?_,fun y c e=>?_,fun p hp=>absurd hp (by show p ∉ ([] ++ []:List (Addr × Obj)); simp),I2.hok.laid old (Nat.le_refl _) okD,?_⟩
  ·cases i with
   | zero=>simp at e2
   | succ i =>
    obtain ⟨k1,k2,j,e3,e4⟩:=hcap σ i y v I2.len (show N[i]? = some y from e1) (show (cap σ)[i]? = some (some v) from e2)
    obtain ⟨m,_,hl⟩:=I2.loc
    obtain ⟨u,ru,lk⟩:=hl j y v e3 e4 (.inr (.inl k2))
    refine ⟨u,ru,.inr ⟨k1,?_⟩⟩
    rcases lk with ⟨z,_⟩ | ⟨_,c,e5,hcl⟩
    ·rw [k2] at z; cases z
    ·obtain ⟨c',e6⟩:=hhas y k1
     have:c' = c:=by
      have:=hsub y c' e6
      rw [e5] at this
      exact (Option.some.inj this).symm
     subst this
     obtain ⟨oc,ho,hd⟩:=hcl
     exact ⟨c',e6,oc,old _ _ ho,hd⟩
  ·obtain ⟨v,oc,ho,hd⟩:=I2.cell y c (hsub y c e)
   exact ⟨v,oc,old _ _ ho,hd⟩
  ·show upd H2 s2.heap.objs.size (.lst []) H3.objs.size = none
   rw [am (Nat.ne_of_gt szC)]
   exact I2.hok.fresh (Nat.le_of_lt szC)
  ·have h1:=I2.freeC y c (hsub y c e)
   obtain ⟨v,oc,ho,_⟩:=I2.cell y c (hsub y c e)
   rw [am (Nat.ne_of_lt (Heap.lt_size ho))]
   exact h1
  ·show (none :: cap σ).length = (x :: N).length
   simp [hcapl]
 have stat:∀ {H':Hp},(∀ b ∈ fp,H' b = none)->∀ b ∈ fp,FpOk (bU X (x :: N) scope cl H3.objs.size s2 H2 fp) [] H' b:=fun {H'} hn b hb =>
  ⟨hn b hb,(ok'.exf b hb).1,ok'.exfs b hb,.inl hb,(ok'.exf b hb).2,fun p hp=>absurd hp (by show p ∉ ([] ++ []:List (Addr × Obj)); simp)⟩
 have loop:codeAny (model X.prog X.w) X.A (.compLoop (.ListComp elt [⟨.Name x px,iter,[],0⟩] scope pos) 0 (.ref it) (.ref s2.heap.objs.size) (compEnvC scope cl H3.objs.size X.env))
   (compPost (model X.prog X.w) X.A X.xe (some (assign (.Name y py) X.env)) (fun _ s'=>SP X pins DD .next s') (.ref s2.heap.objs.size) H3.objs.size) { s2 with heap:=h4,toks:=s2.toks + ([]:List (Str × Value)).length }:=by
  refine codeAny_compLoop_list (fun n s'=>∃ (i:Nat) (z0:Option V) (H':Hp),Inv (bU X (x :: N) scope cl H3.objs.size s2 H2 fp) [] (z0 :: cap σ) H' s'/\tn i s'.heap/\(∀ b ∈ fp,H' b = none)/\W i n H') ?_ m0
   ⟨0,none,_,I4,T.keep 0 _ _ st2 (fun b _ o e=>old b o e),fun b hb=>?_,w0⟩
  ·rintro n s5 ⟨i,z0,H5,I5,st5,fr5,w5⟩
   rcases turn i n H5 w5 with ⟨stop,qn⟩ | ⟨go,step⟩
   ·refine wpAny_mono (T.done (bU X (x :: N) scope cl H3.objs.size s2 H2 fp) rfl rfl rfl rfl i [] s5 _ H5 _ I5 (stat fr5) st5 stop) (fun r s6 ⟨hr,I6⟩=>?_) fun _ _ z=>z
    subst hr
    obtain ⟨m,hn6,_⟩:=id I6.loc
    have I6X:Inv X pins σ H5 s6:=I2.call' (ch:=fp) (s':=s6) I6.os I6.base I6.hok I6.bare fun b hb=>⟨(f2 b hb).2.2.2.1,(f2 b hb).2.1,(f2 b hb).2.2.2.2.1,(f2 b hb).2.2.2.2.2⟩
    have fC:H5 H3.objs.size = none:=I6.free
    have nL:H3.objs.size ≠ X.env.locals:=Ne.symm (Nat.ne_of_lt (Nat.lt_trans I2.lt szC))
    have nCl:∀ z c,X.env.cells.lookup z = some c->c ≠ H3.objs.size:=fun z c e=>by
     obtain ⟨v,oc,ho,_⟩:=I2.cell z c e
     exact Nat.ne_of_lt (Nat.lt_trans (Heap.lt_size ho) szC)
    refine wpAny_assign_Name (mj I6X hNX hiy hly (v:=.ref s2.heap.objs.size) rfl (fun s7 I7 ⟨ad,sb7,had⟩=>?_) hf)
    have nA:H3.objs.size ≠ ad:=by
     rcases had with e | e
     ·rw [e]; exact nL
     ·exact Ne.symm (nCl _ _ e)
    refine ⟨m,hn6.sameBut sb7 nA,fun h' sb=>⟨_,H5,?_,qn⟩⟩
    refine I7.turned (it:=H3.objs.size) (t':=s7.toks) (fun b o hb e=>sb.extBut b o hb e) fC nL (.inr (Nat.le_trans I2.sz (Nat.le_of_lt szC))) nCl fun p hp=>?_
    exact Nat.ne_of_lt (Nat.lt_trans (Heap.lt_size (I2.pin p hp).1) szC)
   ·refine wpAny_mono (T.item (bU X (x :: N) scope cl H3.objs.size s2 H2 fp) rfl rfl rfl rfl i [] s5 _ H5 _ I5 (stat fr5) st5 go) (fun r s6 ⟨u,hr,h6⟩=>?_) fun _ _ z=>z
    subst hr
    have key:(letOwnedTupleGo (.Name x px) (.ref it) u >>= fun _=>assign (.Name x px) (compEnvC scope cl H3.objs.size X.env) u) = assign (.Name x px) (compEnvC scope cl H3.objs.size X.env) u:=by first | rfl | exact pure_bind _ _
    dsimp only
    rw [<- key]
    refine wpAny_bind (wpAny_mono h6 (fun _ s7 ⟨v,H7,I7,r7,y7,st7,fr7⟩=>?_) fun _ _ z=>z)
    have I7':=I7.pinned (stat fr7) (T.obj _ _ st7)
    refine wpAny_assign_Name (ic (i:=0) I7' hN rfl (.inl (lookup_relabel_local hx)) r7 (fun s8 I8=>?_) (.inr (lookup_relabel_local hx)))
    refine wpAny_mono (he H3.objs.size s2 H2 fp _ s8 (some v :: cap σ) H7 _ I8 (step v H7 y7)) (fun w9 s9 ⟨yv,H9,I9,r9,ys,hys,hlt,m',hm,w9'⟩=>?_) fun _ _ z=>z.elim
    refine wpAny_mono (bB (X:=bU X (x :: N) scope cl H3.objs.size s2 H2 fp) _ s9 _ H9 (.ref s2.heap.objs.size) [yv] _ [w9] (fun _ Hn=>Hn = upd H9 s2.heap.objs.size (.lst (ys ++ [yv]))) I9 rfl (.cons r9 .nil) ⟨_,ys,yv,rfl,rfl,hys,hlt,rfl⟩) (fun _ s10 ⟨_,H10,I10,_,e10⟩=>?_) fun _ _ z=>z.elim
    subst e10
    refine ⟨m',hm,i + 1,some v,_,I10.unpinned,T.keep _ _ _ st7 fun b hb o e=>(I10.pin (b,o) (List.mem_append_right _ (List.mem_append_right _ (cM hb e)))).1,fun b hb=>?_,w9'⟩
    obtain ⟨o,e,d⟩:=T.obj _ _ st7 b hb
    exact (I10.pin (b,o) (List.mem_append_right _ (List.mem_append_right _ (cM hb e)))).2.1
  ·obtain ⟨o,ho,_⟩:=T.obj 0 _ st2 b hb
   rw [am (Nat.ne_of_lt (Heap.lt_size ho))]
   exact (f2 b hb).1
 exact codeAny_compStart_list loop (T.self X.A 0 _ _ _ (T.keep 0 _ _ st2 (fun b _ o e=>old b o e)) loop)
theorem ps_comp0 {i:Nat} {y:Str} {py spos:Pos} (hNX:X.N.Nodup) (hiy:X.N[i]? = some y) (hly:Loc X.env.scope y) (hsw:swapsWith (.ListComp elt [⟨.Name x px,iter,[],0⟩] scope pos) (some (.Name y py)) spos.line X.env = pure true) (hc:X.calm = true) (hclos:closureFor scope X.env = pure []) (hno:∀ p ∈ scope.names,p.2 ≠ .cell/\p.2 ≠ .free) (hkind:scope.kind = .function)
  (hnames:∀ y ∈ scope.names,y.2 = .local->scope.names.lookup y.1 = some .local) (hx:scope.names.lookup x = some .local)
  (hi:PI X (.Name x px) iter wi) (he:∀ C s2 H2 fp,PE (bU X [x] scope [] C s2 H2 fp) elt te)
  (hs:∀ z,foldedSetIterable iter X.env z = pure z:=by intro _; rfl) (hf:X.fn y = true\/X.env.scope.names.lookup y = some .local:=by first | exact .inl rfl | exact .inr rfl | assumption) :
  PS X (.Assign [.Name y py] (.ListComp elt [⟨.Name x px,iter,[],0⟩] scope pos) spos) (tAsg (rM wi te fun _=>[]) (sR i)):=by
 refine ps_comp hNX hiy hly hsw (N:=[]) (cl:=[]) hc hclos (fun _ _ e=>nomatch e) (fun z hy=>(hno z hy).1) hkind hnames hx (fun z0 hy=>?_) (by simp) (fun _=>rfl) (fun _ i y v _ e _=>by simp at e) hi he hs hf
 exfalso
 have sub:∀ (l:List (Str × NameKind)),(∀ p ∈ l,p.2 ≠ .cell/\p.2 ≠ .free)->∀ p ∈ (l.map fun (n,k)=>if (k == NameKind.free && X.env.scope.kind == ScopeKind.function && X.env.kindOf n == some NameKind.cell) then (n,NameKind.cell) else (n,k)),p.2 ≠ .cell/\p.2 ≠ .free:=by
  intro l hl p hp
  obtain ⟨q,hq,e⟩:=List.mem_map.mp hp
  have h1:=hl q hq
  obtain ⟨n,k⟩:=q
  have hf:(k == NameKind.free) = false:=by
   cases k <;> first | rfl | exact absurd rfl h1.2
  rw [<- e]
  dsimp only
  rw [hf,Bool.false_and,Bool.false_and,if_neg (by decide)]
  exact h1
 have mem:∀ k,Env.kindOf (compEnvC scope [] 0 X.env) z0 = some k->k ≠ .cell/\k ≠ .free:=fun k e=>sub scope.names hno (z0,k) (PySem.mem_of_lookup e)
 rcases hy with z | z
 ·exact (mem _ z).1 rfl
 ·exact (mem _ z).2 rfl
theorem bN {K:Frag} {a D:Addr} {xs:List V} {te':TE} {tl:L2.St} {G:Hp->Prop} {H1:Hp} (Pv:Nat->Hp->Prop) (h0:Pv 0 (upd H1 D (.lst []))) (hl:∀ i H,i<=xs.length->Pv i H->SqL K H a xs)
  (hs:∀ i x H,xs[i]? = some x->Pv i H->te' (some x :: tl) H fun y H2=>∃ ys,H2 D = some (.lst ys)/\ys.length < sizeLine/\∃ m',m' < xs.length - i/\(m' = xs.length - (i + 1)/\i + 1<=xs.length/\Pv (i + 1) (upd H2 D (.lst (ys ++ [y])))))
  (hd:∀ H,Pv xs.length H->G H) :
  ∃ W:Nat->Nat->Hp->Prop,(∃ m,W 0 m (upd H1 D (.lst [])))/\∀ i m H,W i m H ->
   ((Itl K a).stop i H/\G H)\/((Itl K a).go i H/\∀ x H',(Itl K a).yld i H x H'->te' (some x :: tl) H' fun y H2=>∃ ys,H2 D = some (.lst ys)/\ys.length < sizeLine/\∃ m',m' < m/\W (i + 1) m' (upd H2 D (.lst (ys ++ [y])))):=by
 refine ⟨fun i m H=>m = xs.length - i/\i<=xs.length/\Pv i H,⟨xs.length,by simp,Nat.zero_le _,h0⟩,?_⟩
 rintro i m H ⟨rfl,hi,p⟩
 have q:=hl i H hi p
 by_cases hlt:i < xs.length
 ·refine .inr ⟨⟨xs,xs[i],q,by simp [hlt]⟩,fun x H' y=>?_⟩
  obtain ⟨e,y⟩:=y
  subst e
  exact hs i x _ (y xs q) p
 ·have e:i = xs.length:=by omega
  subst e
  exact .inl ⟨⟨xs,q,Nat.le_refl _⟩,hd H p⟩
end
def tJoin (t u:TS):TS:=fun D σ H=>∃ J:L2.St->Hp->Prop,t { D with nx:=J } σ H/\∀ σ' H',J σ' H'->u D σ' H'
theorem lQ {X:Cx} {st:Stmt} {rest:List Stmt} {t u:TS} (h1:PS X st t) (h2:PSs X rest u):PSs X (st :: rest) (tJoin t u):=by
 intro pins s σ H D I h
 obtain ⟨J,h,hJ⟩:=h
 refine wpAny_execs_cons (thn (h1 pins s σ H { D with nx:=J } I h) fun f s1 q=>?_)
 cases f with
 | next =>
  obtain ⟨σ',H',I',q⟩:=q
  exact h2 pins s1 σ' H' D I' (hJ _ _ q)
 | ret v=>exact q
 | brk=>exact q
 | cont=>exact q
end Ow
namespace Ow
open PySem PySem.Spec PyProof.Rows L2
section
variable {X:Cx}
theorem eZ {xs:List V} {us:List Value} (r:Vals xs us) {j:Nat} (h1:j < us.length):RelV (xs.getD j .non) us[j]:=by
 have hl:=r.length
 have hj:j < xs.length:=by omega
 obtain ⟨u,hu,ru⟩:=r.get (i:=j) (x:=xs[j]) (List.getElem?_eq_getElem hj)
 rw [List.getElem?_eq_getElem h1] at hu
 rw [List.getD_eq_getElem?_getD,List.getElem?_eq_getElem hj]
 cases hu
 exact ru
def rEq0 (K:Frag) (neg:Bool):R2:=fun x y H Q=>∃ p q xs,x = .ref p/\y = .ref q/\SqL K H p xs/\SqL K H q []/\Q (.bl (if neg then !xs.isEmpty else xs.isEmpty)) H
theorem op_eq0 (hu:X.A.units < cLine):OpR X (compareOp .Eq) (rEq0 X.K false):=by
 intro pins s σ H x y v u Q I rx ry h
 obtain ⟨p,q,xs,rfl,rfl,hp,hq,k⟩:=h
 cases rx
 cases ry
 obtain ⟨its,r,pl,hz⟩:=I.list hp
 obtain ⟨its2,r2,pl2,hz2⟩:=I.list hq
 cases r2
 have hl:=r.length
 cases xs with
 | nil =>
  cases r
  exact SeqAt.eq_listAt (e:=fun _=>true) pl.isList pl2.isList rfl hu (fun j h1 _=>absurd h1 (by simp)) ⟨.bl _,H,I,rfl,k⟩
 | cons z zs =>
  refine SeqAt.eq_list_lengthsAt pl.isList pl2.isList ?_ hu ⟨.bl _,H,I,rfl,k⟩
  rw [List.length_cons] at hl
  simp only [List.size_toArray,<- hl]
  rfl
theorem op_ne0 (hu:X.A.units < cLine):OpR X (compareOp .NotEq) (rEq0 X.K true):=by
 intro pins s σ H x y v u Q I rx ry h
 obtain ⟨p,q,xs,rfl,rfl,hp,hq,k⟩:=h
 cases rx
 cases ry
 obtain ⟨its,r,pl,hz⟩:=I.list hp
 obtain ⟨its2,r2,pl2,hz2⟩:=I.list hq
 cases r2
 have hl:=r.length
 cases xs with
 | nil =>
  cases r
  exact SeqAt.RcNeAt.lists (e:=fun _=>true) pl.isList pl2.isList rfl hu (fun j h1 _=>absurd h1 (by simp)) X.prog X.w X.xe _ ⟨.bl _,H,I,rfl,k⟩
 | cons z zs =>
  refine SeqAt.RcNeAt.lists_lengths pl.isList pl2.isList ?_ hu X.prog X.w X.xe _ ⟨.bl _,H,I,rfl,k⟩
  rw [List.length_cons] at hl
  simp only [List.size_toArray,<- hl]
  rfl
def tRev (K:Frag) (te:TE):TE:=fun σ H Q=>te σ H fun x H1=>∃ a xs,x = .ref a/\SqL K H1 a xs/\∀ p,H1 p = none->Q (.ref p) (upd H1 p (.lst xs.reverse))
theorem pe_rev {e:Expr} {te:TE} {j:Nat} {p1 p2 p3 pos:Pos} (he:PE X e te):PE X (.Subscript e (.Slice none none (some (.UnaryOp .USub (.Constant (.int 1) j p1) p3)) p2) pos) (tRev X.K te):=by
 intro pins s σ H Q I h
 refine Subscript_ (thn (he pins s σ H _ I h) fun v s1 ⟨x,H1,I1,r1,a,xs,ex,hx,q⟩=>?_)
 subst ex
 cases r1
 refine wpAny_Slice ?_
 rw [evalPart_none]
 refine wpAny_pure (wpAny_pure ?_)
 rw [evalPart_some]
 refine thn ((ny iR ag:PE X (.UnaryOp .USub (.Constant (.int 1) j p1) p3) _) pins s1 σ H1 (fun z Hz=>z = .int (-1)/\Hz = H1) I1 ⟨_,rfl,rfl,rfl⟩) fun vk s2 ⟨z,H2,I2,rz,ez,eH⟩=>?_
 subst ez eH
 obtain ⟨tk,rfl⟩:=rz
 obtain ⟨its,r,ht,hz⟩:=I2.list hx
 have hlen:=r.length
 have I4:Inv X pins σ H2 { s2 with heap:=s2.heap.push { cls:=.type "slice",data:=.fields #[.none,.none,.int (-1) tk] } }:=I2.kept (t':=s2.toks) fun b ob q=>Heap.get?_push_of_some _ q
 obtain ⟨its',r',ht',hz'⟩:=I4.list hx
 show wpAny (model X.prog X.w) X.A (subscriptTail e (.Slice none none (some (.UnaryOp .USub (.Constant (.int 1) j p1) p3)) p2) (.ref a) (.ref s2.heap.objs.size)) (EP X pins σ Q) X.xe { s2 with heap:=s2.heap.push { cls:=.type "slice",data:=.fields #[.none,.none,.int (-1) tk] } }
 have hlen':=r'.length
 refine tail_any (ops:=[.ref a,.ref s2.heap.objs.size]) ht'.isList.typeIs slot_list_getitem.lookup (wpAny_getItem_list_slice ht'.isList (Heap.IsSliceOf.new ..) .none .none (.int (-1) tk) (by decide) ?_ (by rw [List.size_toArray] <;> omega)) (by with_unfolding_all rfl)
 rw [PySem.W.krv_pick]
 refine ⟨.ref (s2.heap.push { cls:=.type "slice",data:=.fields #[.none,.none,.int (-1) tk] }).objs.size,_,I4.laid (t':=s2.toks) (o:=.lst xs.reverse) (fun b ob q=>Heap.get?_push_of_some _ q) (Nat.le_refl _) ?_,rfl,q _ (I4.hok.fresh (Nat.le_refl _))⟩
 refine ⟨by rw [List.length_reverse]; exact hz,its'.reverse,0,L2.Vals.reverse r',?_⟩
 exact Heap.get?_push_size _ rfl
end
end Ow
namespace Ow
open PySem PySem.Spec PyProof.Rows L2
section
variable {X:Cx}
def rAddL (K:Frag):R2:=fun x y H Q=>∃ a b xs ys,x = .ref a/\y = .ref b/\SqL K H a xs/\SqL K H b ys/\xs.length + ys.length<=sizeLine/\∀ p,H p = none->Q (.ref p) (upd H p (.lst (xs ++ ys)))
theorem lM:OpR X (binaryOp .Add) (rAddL X.K):=by
 intro pins s σ H x y v u Q I rx ry h
 obtain ⟨a,b,xs,ys,rfl,rfl,ha,hb,hz,q⟩:=h
 cases rx
 cases ry
 obtain ⟨its,r,pl,_⟩:=I.list ha
 obtain ⟨its2,r2,pl2,_⟩:=I.list hb
 have hl:=r.length
 have hl2:=r2.length
 obtain ⟨⟨cls,dd,data,sl⟩,ho,hc,n,hd⟩:=id pl.isList
 obtain ⟨⟨cls2,dd2,data2,sl2⟩,ho2,hc2,n2,hd2⟩:=id pl2.isList
 simp only at hc hd hc2 hd2
 subst hc hd hc2 hd2
 have e:its.toArray ++ its2.toArray = (its ++ its2).toArray:=by simp
 refine concat_meets ⟨_,ho,rfl⟩ ⟨_,ho2,rfl⟩ noFill_list_add seq_list_add PySem.F.slot_list_add PySem.F.entry_list_add (PySem.F.args_list_add_2 _ _) (list_addW a b its.toArray its2.toArray n n2 dd dd2 sl sl2 (by simp; omega)) ⟨ho,ho2,?_⟩
 rw [e]
 exact ⟨.ref s.heap.objs.size,_,I.lnew (t':=s.toks) (r.append r2) (by rw [List.length_append]; exact hz),rfl,q _ I.fresh⟩
variable {tg:Expr}
inductive EqD (K:Frag) (H:Hp):Nat->V->V->Bool->Prop where
 | flat {d:Nat} {x y:V} (fx:cq x = true) (fy:cq y = true):EqD K H d x y (eqV x y)
 | tup {d:Nat} {p q:Addr} {xs ys:List V} {e:Nat->Bool} (hn:p ≠ q) (hx:SqT K H p xs) (hy:SqT K H q ys) (he:∀ j,j < xs.length->j < ys.length->EqD K H d (xs.getD j .non) (ys.getD j .non) (e j)) :
   EqD K H (d + 1) (.ref p) (.ref q) ((List.range (min xs.length ys.length)).all e && xs.length == ys.length)
 | lst {d:Nat} {p q:Addr} {xs ys:List V} {e:Nat->Bool} (hn:p ≠ q) (hx:SqL K H p xs) (hy:SqL K H q ys) (hl:xs.length = ys.length) (he:∀ j,j < xs.length->EqD K H d (xs.getD j .non) (ys.getD j .non) (e j)) :
   EqD K H (d + 1) (.ref p) (.ref q) ((List.range xs.length).all e)
 | same {d:Nat} {p:Addr}:EqD K H d (.ref p) (.ref p) true
theorem EqD.at {pins:List (Addr × Obj)} {σ:L2.St} {H:Hp} {s:Shared} (I:Inv X pins σ H s):∀ {d:Nat} {x y:V} {b:Bool} {u v:Value} {A:Around},EqD X.K H d x y b->RelV x u->RelV y v->A.units + d < cLine->SeqAt.EqAt A s u v b:=by
 intro d x y b u v A h
 induction h generalizing u v A with
 | flat fx fy=>intro rx ry _; exact eqAt_V rx ry fx fy
 | same=>intro rx ry _; cases rx; cases ry; exact SeqAt.EqAt.same _
 | @tup d p q xs ys e hn hx hy he ih =>
  intro rx ry hu
  cases rx
  cases ry
  obtain ⟨its,r,pl,_⟩:=I.tuple hx
  obtain ⟨its2,r2,pl2,_⟩:=I.tuple hy
  have hl:=r.length
  have hl2:=r2.length
  have:=SeqAt.EqAt.of_refs hn (SeqAt.RcAt.tuples (A:=A) (e:=e) pl pl2 (by omega) (fun j h1 h2=>by
   have h1':j < its.length:=by simpa using h1
   have h2':j < its2.length:=by simpa using h2
   have z:=ih j (by omega) (by omega) (eZ r h1') (eZ r2 h2') (A:=A.in1) (by show A.units + 1 + d < _; omega)
   simpa using z))
  simp only [List.size_toArray,<- hl,<- hl2] at this
  exact this
 | @lst d p q xs ys e hn hx hy hle he ih =>
  intro rx ry hu
  cases rx
  cases ry
  obtain ⟨its,r,pl,_⟩:=I.list hx
  obtain ⟨its2,r2,pl2,_⟩:=I.list hy
  have hl:=r.length
  have hl2:=r2.length
  have:=SeqAt.EqAt.of_refs hn (SeqAt.RcAt.lists (A:=A) (e:=e) pl.isList pl2.isList (by simp only [List.size_toArray]; omega) (by omega) (fun j h1 h2=>by
   have h1':j < its.length:=by simpa using h1
   have h2':j < its2.length:=by simpa using h2
   have z:=ih j (by omega) (eZ r h1') (eZ r2 h2') (A:=A.in1) (by show A.units + 1 + d < _; omega)
   simpa using z))
  simp only [List.size_toArray,<- hl] at this
  exact this
def rEqLD (K:Frag) (d:Nat) (neg:Bool):R2:=fun x y H Q=>∃ p q xs ys e,x = .ref p/\y = .ref q/\SqL K H p xs/\SqL K H q ys/\xs.length = ys.length/\(∀ j,j < xs.length->EqD K H d (xs.getD j .non) (ys.getD j .non) (e j))/\Q (.bl (if neg = true then !(List.range xs.length).all e else (List.range xs.length).all e)) H
theorem op_eqLD {d:Nat} (hu:X.A.units + d + 1 < cLine):OpR X (compareOp .Eq) (rEqLD X.K d false):=by
 intro pins s σ H x y v u Q I rx ry h
 obtain ⟨p,q,xs,ys,e,rfl,rfl,hp,hq,hle,he,k⟩:=h
 cases rx
 cases ry
 obtain ⟨its,r,pl,_⟩:=I.list hp
 obtain ⟨its2,r2,pl2,_⟩:=I.list hq
 have hl:=r.length
 have hl2:=r2.length
 refine SeqAt.eq_listAt (e:=e) pl.isList pl2.isList (by simp only [List.size_toArray]; omega) (by omega) (fun j h1 h2=>?_) ⟨.bl _,H,I,rfl,?_⟩
 ·have h1':j < its.length:=by simpa using h1
  have h2':j < its2.length:=by simpa using h2
  have z:=(he j (by omega)).at I (eZ r h1') (eZ r2 h2') (A:=X.A.in1) (by show X.A.units + 1 + d < _; omega)
  simpa using z
 ·simp only [List.size_toArray,<- hl]
  exact k
theorem lJ {d:Nat} (hu:X.A.units + d + 1 < cLine):OpR X (compareOp .NotEq) (rEqLD X.K d true):=by
 intro pins s σ H x y v u Q I rx ry h
 obtain ⟨p,q,xs,ys,e,rfl,rfl,hp,hq,hle,he,k⟩:=h
 cases rx
 cases ry
 obtain ⟨its,r,pl,_⟩:=I.list hp
 obtain ⟨its2,r2,pl2,_⟩:=I.list hq
 have hl:=r.length
 have hl2:=r2.length
 refine SeqAt.RcNeAt.lists (e:=e) pl.isList pl2.isList (by simp only [List.size_toArray]; omega) (by omega) (fun j h1 h2=>?_) X.prog X.w X.xe _ ⟨.bl _,H,I,rfl,?_⟩
 ·have h1':j < its.length:=by simpa using h1
  have h2':j < its2.length:=by simpa using h2
  have z:=(he j (by omega)).at I (eZ r h1') (eZ r2 h2') (A:=X.A.in1) (by show X.A.units + 1 + d < _; omega)
  simpa using z
 ·simp only [List.size_toArray,<- hl]
  exact k
end
end Ow
namespace Ow
open PySem PySem.Spec PyProof.Rows L2
section
variable {X:Cx} {tg:Expr}
theorem ej (hc:X.calm = true):fi X (.builtin "all") (fun xs H Q=>∃ (a:Addr) (bs:List Bool),xs = [.ref a]/\SqL X.K H a (bs.map V.bl)/\Q (.bl (bs.all id)) H):=by
 intro pins s σ H xs us Q I r h
 obtain ⟨a,bs,rfl,hq,q⟩:=h
 obtain ⟨u,rfl,rx⟩:=pN r
 cases rx
 obtain ⟨its,rv,pl,hz⟩:=I.list hq
 have hl:=rv.length
 rw [List.length_map] at hl
 refine call_all_walk (wpAny_pyIter_list pl.isList ?_)
 have hne:a ≠ s.heap.objs.size:=by
  obtain ⟨o,ho,_⟩:=pl.isList
  exact Nat.ne_of_lt (Heap.lt_size ho)
 refine ⟨s.heap.objs.size,_,_,_,_,_,fun j=>bs.getD j false,rfl,Walks.list (A:=X.A.in1) (I.ok.hd hc) s.heap.objs.size a hne its.toArray,⟨⟨_,Heap.get?_push_size _ rfl,rfl,rfl⟩,Heap.IsList.push pl.isList _⟩,?_,?_⟩
 ·intro i v s' Q' E' hP hQ'
  have hP':its[i]? = some v:=by simpa using hP
  have hi:i < its.length:=(List.getElem?_eq_some_iff.mp hP').1
  have hb:(bs.map V.bl)[i]? = some (V.bl (bs.getD i false)):=by
   rw [List.getElem?_map,List.getD_eq_getElem?_getD,List.getElem?_eq_getElem (by omega)]
   rfl
  obtain ⟨u',hu',ru'⟩:=rv.get hb
  rw [hP'] at hu'
  cases hu'
  cases ru'
  exact wpAny_truthy_bool hQ'
 ·intro h' tk hk
  refine ⟨.bl _,H,I.kept (t':=tk) fun b o e=>hk b o (fun z=>?_) (Heap.get?_push_of_some _ e),?_,q⟩
  ·have z':b = s.heap.objs.size:=by simpa using z
   exact absurd (Heap.lt_size e) (by rw [z']; exact Nat.lt_irrefl _)
  ·have e1:(List.range its.toArray.size).all (fun j=>bs.getD j false) = bs.all id:=by
    rw [List.size_toArray,<- hl]
    rw [Bool.eq_iff_iff,List.all_eq_true,List.all_eq_true]
    constructor
    ·intro h x hx
     obtain ⟨j,hj,e⟩:=List.getElem_of_mem hx
     have:=h j (List.mem_range.mpr hj)
     rw [List.getD_eq_getElem?_getD,List.getElem?_eq_getElem hj] at this
     show x = true
     rw [<- e]
     exact this
    ·intro h j hj
     have hj':=List.mem_range.mp hj
     rw [List.getD_eq_getElem?_getD,List.getElem?_eq_getElem hj']
     exact h _ (List.getElem_mem hj')
   rw [e1]
   rfl
variable {elt iter:Expr} {x:Str} {px pos:Pos} {scope:Scope} {wi:TI} {te:TE} {cl:List (Str × Addr)}
theorem kY (js:List Nat) (ns:List Str) (hc:X.calm = true) (hclos:closureFor scope X.env = pure cl) (hcls:cl.map (·.1) = ns) (hsub:∀ p ∈ cl,X.env.cells.lookup p.1 = some p.2)
  (hno:∀ p ∈ scope.names,p.2 ≠ .cell/\(p.2 = .free->p.1 ∈ ns)) (hkind:scope.kind = .function) (hnames:∀ y ∈ scope.names,y.2 = .local->scope.names.lookup y.1 = some .local) (hx:scope.names.lookup x = some .local)
  (hN:(x :: ns).Nodup) (hkd:∀ y ∈ ns,(Env.kindOf (compEnvC scope cl 0 X.env) y = some .cell\/Env.kindOf (compEnvC scope cl 0 X.env) y = some .free)/\X.env.kindOf y = some .cell)
  (hjl:js.length = ns.length) (hj:js.map (fun j=>X.N[j]?) = ns.map some)
  (hi:PI X (.Name x px) iter wi) (he:∀ C s2 H2 fp,PE (bU X (x :: ns) scope cl C s2 H2 fp) elt te)
  (hs:∀ z,foldedSetIterable iter X.env z = pure z:=by intro _; rfl) :
  PE X (.ListComp elt [⟨.Name x px,iter,[],0⟩] scope pos) (rM wi te fun σ=>js.map fun j=>(σ[j]?).getD none):=by
 refine rV (N:=ns) (cl:=cl) hc hclos (fun n c e=>hsub (n,c) (PySem.mem_of_lookup e)) (fun y hy=>(hno y hy).1) hkind hnames hx (fun y hy=>?_) hN (fun σ=>by rw [List.length_map]; exact hjl) (fun σ i y v _ e1 e2=>?_) hi he hs
 ·have sub:∀ (l:List (Str × NameKind)),(∀ p ∈ l,p.2 ≠ .cell/\(p.2 = .free->p.1 ∈ ns))->∀ p ∈ (l.map fun (n,k)=>if (k == NameKind.free && X.env.scope.kind == ScopeKind.function && X.env.kindOf n == some NameKind.cell) then (n,NameKind.cell) else (n,k)),(p.2 = .cell\/p.2 = .free)->p.1 ∈ ns:=by
   intro l hl p hp hk
   obtain ⟨q,hq,e⟩:=List.mem_map.mp hp
   have h1:=hl q hq
   obtain ⟨n,k⟩:=q
   dsimp only at e
   by_cases hf:k = .free
   ·have h2:=h1.2 hf
    split at e
    ·rw [<- e]; exact h2
    ·rw [<- e]; exact h2
   ·have hf':(k == NameKind.free) = false:=by
     cases k <;> first | rfl | exact absurd rfl hf
    rw [hf',Bool.false_and,Bool.false_and,if_neg (by decide)] at e
    rw [<- e] at hk
    rcases hk with z | z
    ·exact absurd z h1.1
    ·exact absurd z hf
  have hy':y ∈ ns:=by
   rcases hy with z | z
   ·exact sub scope.names hno (y,.cell) (PySem.mem_of_lookup z) (.inl rfl)
   ·exact sub scope.names hno (y,.free) (PySem.mem_of_lookup z) (.inr rfl)
  rw [<- hcls] at hy'
  have key:∀ l:List (Str × Addr),y ∈ l.map (·.1)->∃ c,l.lookup y = some c:=by
   intro l
   induction l with
   | nil=>intro h; simp at h
   | cons p r ih =>
    intro h
    by_cases e:y = p.1
    ·exact ⟨p.2,by obtain ⟨p1,p2⟩:=p; dsimp only at e; subst e; simp [List.lookup]⟩
    ·have h':y ∈ r.map (·.1):=by
      rw [List.map_cons] at h
      exact (List.mem_cons.mp h).resolve_left e
     obtain ⟨c,hc'⟩:=ih h'
     refine ⟨c,?_⟩
     obtain ⟨p1,p2⟩:=p
     have:(y == p1) = false:=by simpa using e
     rw [List.lookup_cons,this]
     exact hc'
  exact key cl hy'
 ·have hm:y ∈ ns:=List.mem_of_getElem? e1
  refine ⟨(hkd y hm).1,(hkd y hm).2,?_⟩
  rw [List.getElem?_map] at e2
  cases hji:js[i]? with
  | none=>rw [hji] at e2; cases e2
  | some j =>
   rw [hji] at e2
   have e3:(σ[j]?).getD none = some v:=by
    have:=Option.some.inj e2
    exact this
   have e4:=congrArg (fun l=>l[i]?) hj
   rw [List.getElem?_map,List.getElem?_map,hji,e1] at e4
   have e5:X.N[j]? = some y:=by
    have:=Option.some.inj e4
    exact this
   refine ⟨j,e5,?_⟩
   cases hσ:σ[j]? with
   | none=>rw [hσ] at e3; cases e3
   | some o =>
    rw [hσ] at e3
    have e6:o = some v:=e3
    rw [e6]
structure CHas (P:Program) (w:World) (K:Frag) (mg:Str->Option Value) (base:Heap) (k:Nat) (C:Addr) (x:Str) (ps:List Str) (sp:Sp):Prop where
 ex:∃ (f:Addr) (fd:FuncData),Mk K C f/\FnOk P w K mg base CX0 k f fd ps sp/\Binds K fd ps []/\mg x = some (.ref C)
theorem cH {k:Nat} {C:Addr} {y:Str} {ps:List Str} {sp:Sp} {p:Pos} {e:Expr} {es:List Expr} {t:TA} (h:CHas X.prog X.w X.K X.mg X.base k C y ps sp) (hr:Room (k + 1) X.A) (hg:Gl X y) (ha:PA X (e :: es) t) (hdb:(y == ("__debug__":Str)) = false:=by decide)
  (he:starEach (e :: es) X.env = (false,eval e X.env) :: starEach es X.env:=by rfl) (hpl:(backTo pos (starEach es X.env)).any (·.1) = false:=by rfl) :
  PE X (.Call (.Name y p) (e :: es) [] pos) (tMake C sp [] E0 t):=by
 obtain ⟨f,fd,M,F,b,m⟩:=h.ex
 exact pe_make M F hr hg m b .nil rO ha hdb he hpl
end
end Ow
namespace Ow
open PySem PySem.Spec PyProof.Rows L2
section
variable {X:Cx}
theorem ix_tupK {K:Frag} (h:X.K = K):IxR X (rIxT K):=by
 subst h
 exact aq
variable {elt iter:Expr} {x:Str} {px pos:Pos} {scope:Scope} {wi:TI} {te:TE} {cl:List (Str × Addr)}
end
end Ow
namespace Ow
open PySem PySem.Spec PyProof.Rows L2
structure Gnd (P:Program) (w:World) (base:Heap) (fs:List Addr) (H H':Hp) (h B:Heap):Prop where
 st:base.StaysIn B
 keep:∀ b o,h.get? b = some o->H b = none->b ∉ fs->B.get? b = some o
 free:∀ b o,h.get? b = some o->H b = none->H' b = none
 there:∀ b o,h.get? b = some o->b ∉ fs->∃ o',B.get? b = some o'
 tups:∀ b xs,H b = some (.tup xs)->H' b = some (.tup xs)
 frzs:∀ b o u,H b = some (.frz o u)->H' b = some (.frz o u)
 tbls:∀ b ps,H b = some (.tbl ps)->∃ more,H' b = some (.tbl (ps ++ more))
 hok:HOk P w H' B
def Slots (fs:List Addr) (h h':Heap):Prop:=∀ b ∈ fs,∀ o,h.get? b = some o->∃ sl,h'.get? b = some { o with slots:=sl }
section
variable {P:Program} {w:World} {base h h1 h2 B:Heap} {fs:List Addr} {H H':Hp} {l:List Env}
theorem Gnd.un (G:Gnd P w base fs H H' h B) (sb:B.StaysIn h1) (sl:Slots fs h h1):Un fs [] H H' h h1 where
 keep:=fun b o q n hb _=>sb _ _ (G.keep b o q n hb)
 slot:=fun b o q _ hb _=>sl b hb o q
 free:=fun b o q n _=>G.free b o q n
 there:=fun b o q _=>by
  by_cases hb:b ∈ fs
  ·obtain ⟨s,e⟩:=sl b hb o q
   exact ⟨_,e⟩
  ·obtain ⟨o',e⟩:=G.there b o q hb
   exact ⟨o',sb _ _ e⟩
 tups:=G.tups
 frzs:=G.frzs
 tbls:=G.tbls
theorem Slots.on (x:Slots (frs l) h h1) (hl:h1.FunFrames B l) (u:h1.UpToSlots h2):Slots (frs l) h h2:=fun b hb o q=>by
 obtain ⟨sl,e⟩:=x b hb o q
 obtain ⟨_,o1,e1,d1⟩:=hl.mem hb
 rw [e] at e1
 cases e1
 obtain ⟨s2,e2⟩:=u b _ e d1
 exact ⟨s2,e2⟩
theorem rN {a:Addr} {o:HO} (x:ObjOk P w H h a o):∃ ob,h.get? a = some ob:=by
 induction o with
 | lst xs=>obtain ⟨_,_,_,_,e⟩:=x; exact ⟨_,e⟩
 | tup xs=>obtain ⟨_,_,_,o,e,_⟩:=x; exact ⟨_,e⟩
 | dK kvs=>obtain ⟨_,_,_,_,o,_,_,e,_⟩:=x; exact ⟨_,e⟩
 | dT kvs=>obtain ⟨_,_,_,_,o,_,_,e,_⟩:=x; exact ⟨_,e⟩
 | set S n=>obtain ⟨o,_,_,_,e,_⟩:=x; exact ⟨_,e⟩
 | ins C dx fs=>obtain ⟨_,_,_,e,_⟩:=x; exact ⟨_,e⟩
 | own y=>exact x
 | xd fs=>obtain ⟨_,⟨_,_,_,e,_⟩,_⟩:=x; exact ⟨_,e⟩
 | met f y=>exact ⟨_,x⟩
 | rng lo hi=>obtain ⟨_,_,_,e⟩:=x; exact ⟨_,e⟩
 | frz ob u ih=>exact ⟨_,x.1⟩
 | tbl ps=>exact ⟨_,x⟩
 | ext φ=>exact x.2.1
end
abbrev VE:List Value:=[.type "ValueError",.type "Exception",.type "BaseException",.type "object"]
section
variable {P:Program} {w:World} {K:Frag} {mg:Str->Option Value} {base:Heap} {N:List Str} {qual:Str} {scope:Scope} {f:Addr} {cdv:Value} {A:Around} {outer:List Env} {s₀:Shared} {H₀:Hp} {E:XK}
end
def hB (X:Cx) (a:Addr) (oe:Obj):Cx:={ X with A:=X.A.mark (some (.ref a)),calm:=false,pn:=(a,oe) :: X.pn }
section
variable {X:Cx} {pins:List (Addr × Obj)} {σ:L2.St} {H:Hp} {s:Shared} {a:Addr} {oe:Obj}
theorem kH (I:Inv X pins σ H s) (e:s.heap.get? a = some oe) (n:H a = none) (hl:a ≠ X.env.locals) (hf:a ∉ X.fs) (hd:∀ v,oe.data ≠ .cell v):Inv (hB X a oe) pins σ H s :=
 ⟨⟨I.ok.mod,I.ok.kind,I.ok.glob,I.ok.blt,I.ok.above,I.ok.inj,I.ok.has,I.ok.cab,(fun z=>nomatch z),I.ok.frames,I.ok.stk,I.ok.exf,I.ok.bs,I.ok.bsz,I.ok.noex,I.ok.exfs,I.ok.funs,I.ok.frf⟩,
  I.os,I.bare,I.base,I.loc,I.cell,I.free,I.freeC,fun p hp=>by
   rcases List.mem_cons.mp (show p ∈ (a,oe) :: (X.pn ++ pins) from hp) with rfl | hp
   ·exact ⟨e,n,hl,hf,hd⟩
   ·exact I.pin p hp,I.hok,I.len⟩
theorem rL {h':Heap} {m':Str->Option Value} {t':Nat} (I:Inv (hB X a oe) pins σ H s) (okX:X.Ok) (hn:h'.Ns X.env.locals m') (hs:Heap.SameBut X.env.locals s.heap h') :
  Inv X pins (List.replicate X.N.length none) H { s with heap:=h',toks:=t' }:=by
 have neL:∀ b o,X.s₀.heap.get? b = some o->b ≠ X.env.locals:=fun b o e=>Nat.ne_of_lt (Nat.lt_of_lt_of_le (Heap.lt_size e) okX.above)
 refine ⟨okX,I.os,I.bare,⟨fun b o e n hb hx=>?_,fun b o e n hb hx=>?_,I.base.free,fun b o e hx=>?_,I.base.tups,I.base.frzs,I.base.tbls⟩,⟨m',hn,fun i x v e1 e2 e3=>?_⟩,fun x c e=>?_,I.free,I.freeC,fun p hp=>?_,fun b ob e=>?_,List.length_replicate ..⟩
 ·exact (hs.2 b (neL b o e)).trans (I.base.keep b o e n hb hx)
 ·obtain ⟨sl,e1⟩:=I.base.slot b o e n hb hx
  exact ⟨sl,(hs.2 b (neL b o e)).trans e1⟩
 ·obtain ⟨o',e1⟩:=I.base.there b o e hx
  exact ⟨o',(hs.2 b (neL b o e)).trans e1⟩
 ·rw [List.getElem?_replicate] at e2
  split at e2 <;> cases e2
 ·obtain ⟨v,z⟩:=I.cell x c e
  exact ⟨v,z.sameBut hs (I.cne x c e)⟩
 ·obtain ⟨e,n,ne,nf,d⟩:=I.pin p (List.mem_cons_of_mem _ hp)
  exact ⟨(hs.2 p.1 ne).trans e,n,ne,nf,d⟩
 ·refine (I.hok b ob e).stay (fun c w' hc z=>(hs.2 c ?_).trans z) (fun _ z=>z) fun _ _ z=>z
  have fr:H X.env.locals = none:=I.free
  rintro rfl
  rcases hc with rfl | hc
  ·rw [fr] at e; cases e
  ·rw [fr] at hc; cases hc
end
section
variable {X:Cx} {k i j:Nat} {f y n c:Str} {ps:List Str} {sp:Sp} {e:Expr} {es:List Expr} {ta:TA} {C₁:Addr} {b₀:Stmt} {suite:List Stmt} {tb:Addr->Obj->TS} {py p pos apos np hpos tpos:Pos}
end
structure ExF (K:Frag) (C:Addr):Prop where
 ga:findIn K (.ref C) "__getattribute__" = some (some (.builtin "BaseException.__getattribute__"))
 gn:findIn K (.ref C) "__getattr__" = some none
 gc:findIn K (.ref C) "__class__" = some (some (.builtin "object.__class__"))
 mo:mroIn K C (.type "object") = some true
 mb:mroIn K C (.type "BaseException") = some true
section
variable {prog:Program} {w:World} {A:Around} {E:Value->Shared->Prop} {h:Heap} {g:Array GenState} {d:Drawn} {t:Nat} {os:OsState} {K:Frag} {a C:Addr} {o:Obj}
theorem tU {M:Model} {nv:Value} {Q:Unit->Shared->Prop} (X:K.In h) (f:ExF K C) (hx:h.get? a = some o) (hc:o.cls = .ref C) (hq:Q () ⟨h,g,d,t,os⟩) :
  wpAny M A (checkBuiltinCall "BaseException.__getattribute__" ⟨[.ref a,nv],[]⟩) Q E ⟨h,g,d,t,os⟩:=by
 have k1:builtinKind "BaseException.__getattribute__" = some .slot:=by decide +kernel
 have k2:splitId "BaseException.__getattribute__" = some ("BaseException", "__getattribute__"):=by decide +kernel
 have L1:=PySem.W.looks_mroIn (M:=M) X f.mb
 have k3:=F.args_bexc_ga (.ref a) nv
 simp only [checkBuiltinCall,k1,k2]
 refine wpAny_bind ?_
 unfold isInstance
 repeat (first | (with_reducible refine wpAny_loadPart_at hx ?_; rw [hc]) | with_reducible refine L1.at ?_ | wp_step)
 exact hq
end
theorem tJ {K:Frag} {C D:Addr} {b:Bool} (h1:isClsIn K D = true) (h2:typeIn K (.ref D) = some (.type "type")) (h3:mroIn K C (.ref D) = some b):PySem.W.kitCls K (.ref C) (.ref D) = some b:=by
 unfold PySem.W.kitCls
 have e:((PySem.W.clsIn K D).isSome && typeIn K (.ref D) == some (.type "type")) = true:=by
  rw [h2]
  have h1':(PySem.W.clsIn K D).isSome = true:=h1
  rw [h1',Bool.true_and]
  exact beq_self_eq_true _
 show (if ((PySem.W.clsIn K D).isSome && typeIn K (.ref D) == some (.type "type")) = true then PySem.W.subIn K (.ref C) (.ref D) else none) = _
 rw [if_pos e]
 exact h3
theorem exm_of {K:Frag} {C D:Addr} (h1:isClsIn K D = true) (h2:typeIn K (.ref D) = some (.type "type")) (h3:mroIn K C (.ref D) = some true) (h4:mroIn K D (.type "BaseException") = some true):exmOne K (.ref C) (.ref D) = some true:=by
 unfold exmOne
 have e:PySem.W.subIn K (.ref D) (.type "BaseException") = some true:=h4
 rw [e,if_pos (by rw [beq_self_eq_true])]
 exact tJ h1 h2 h3
theorem sg {K:Frag} {C D:Addr} (h1:isClsIn K D = true) (h2:typeIn K (.ref D) = some (.type "type")) (h3:mroIn K C (.ref D) = some false) (h4:mroIn K D (.ref D) = some true):kitOne K (.ref C) (.ref D) = some false:=by
 unfold kitOne
 split
 ·next q =>
  have e:C = D:=Value.ref.inj (beq_iff_eq.mp q)
  subst e
  rw [h3] at h4
  cases h4
 ·exact tJ h1 h2 h3
end Ow
namespace Ow
open PySem PySem.Spec PyProof.Rows L2
section
variable {P:Program} {w:World} {K:Frag} {mg:Str->Option Value} {base:Heap} {N:List Str} {qual:Str} {scope:Scope} {f:Addr} {cdv:Value} {A:Around} {outer:List Env} {s₀:Shared} {H₀:Hp} {E:XK}
end
def pinned (X:Cx) (pins:List (Addr × Obj)):Cx:={ X with pn:=X.pn ++ pins }
section
variable {X:Cx} {pins pins':List (Addr × Obj)} {σ:L2.St} {H:Hp} {s:Shared} {E:L2.St->XK}
theorem rJ (I:Inv X pins σ H s):Inv (pinned X pins) [] σ H s :=
 ⟨⟨I.ok.mod,I.ok.kind,I.ok.glob,I.ok.blt,I.ok.above,I.ok.inj,I.ok.has,I.ok.cab,I.ok.hd,I.ok.frames,I.ok.stk,I.ok.exf,I.ok.bs,I.ok.bsz,I.ok.noex,I.ok.exfs,I.ok.funs,I.ok.frf⟩,
  I.os,I.bare,I.base,I.loc,I.cell,I.free,I.freeC,fun p hp=>I.pin p (by
   rw [List.append_nil] at hp
   exact hp),I.hok,I.len⟩
theorem eI (okX:X.Ok) (I:Inv (pinned X pins) pins' σ H s):Inv X pins σ H s :=
 ⟨okX,I.os,I.bare,I.base,I.loc,I.cell,I.free,I.freeC,fun p hp=>I.pin p (List.mem_append_left _ hp),I.hok,I.len⟩
def tCallT (sp:Sp) (E:L2.St->XK) (t:TA):TE:=fun σ H Q=>t σ H fun vs H1=>sp (vs ++ []) H1 Q (E σ)
end
end Ow
namespace Ow
open PySem PySem.Spec PyProof.Rows L2
section
variable {X:Cx} {pins:List (Addr × Obj)} {σ:L2.St} {H:Hp} {s:Shared} {a:Addr} {oe:Obj} {j:Nat} {n:Str}
theorem qW {h':Heap} {m:Str->Option Value} {v':Option Value} {t':Nat} (I:Inv (hB X a oe) pins σ H s) (okX:X.Ok) (hN:X.N.Nodup) (hj:X.N[j]? = some n)
  (hl:∀ (i:Nat) (x:Str) (v:V),X.N[i]? = some x->σ[i]? = some (some v)->Vis X.env.scope x->∃ u,RelV v u/\Look X.env s.heap m x u)
  (hn:h'.Ns X.env.locals (fun x=>if x = n then v' else m x)) (hs:Heap.SameBut X.env.locals s.heap h') :
  Inv X pins (σ.set j none) H { s with heap:=h',toks:=t' }:=by
 have neL:∀ b o,X.s₀.heap.get? b = some o->b ≠ X.env.locals:=fun b o e=>Nat.ne_of_lt (Nat.lt_of_lt_of_le (Heap.lt_size e) okX.above)
 refine ⟨okX,I.os,I.bare,⟨fun b o e n hb hx=>?_,fun b o e n hb hx=>?_,I.base.free,fun b o e hx=>?_,I.base.tups,I.base.frzs,I.base.tbls⟩,⟨_,hn,fun i x v e1 e2 e3=>?_⟩,fun x c e=>?_,I.free,I.freeC,fun p hp=>?_,fun b ob e=>?_,by rw [List.length_set]; exact I.len⟩
 ·exact (hs.2 b (neL b o e)).trans (I.base.keep b o e n hb hx)
 ·obtain ⟨sl,e1⟩:=I.base.slot b o e n hb hx
  exact ⟨sl,(hs.2 b (neL b o e)).trans e1⟩
 ·obtain ⟨o',e1⟩:=I.base.there b o e hx
  exact ⟨o',(hs.2 b (neL b o e)).trans e1⟩
 ·by_cases hij:i = j
  ·subst hij
   have hi:i < σ.length:=by have z:σ.length = X.N.length:=I.len; rw [z]; exact (List.getElem?_eq_some_iff.mp hj).1
   rw [List.getElem?_set_self hi] at e2
   cases e2
  ·rw [List.getElem?_set_ne (Ne.symm hij)] at e2
   obtain ⟨u',r',q⟩:=hl i x v e1 e2 e3
   refine ⟨u',r',?_⟩
   rcases q with ⟨k,e⟩ | ⟨k,c,e,z⟩
   ·refine .inl ⟨k,?_⟩
    have:x ≠ n:=fun e=>hij (lE hN e1 (e ▸ hj))
    simp [this,e]
   ·exact .inr ⟨k,c,e,z.sameBut hs (I.cne x c e)⟩
 ·obtain ⟨v,z⟩:=I.cell x c e
  exact ⟨v,z.sameBut hs (I.cne x c e)⟩
 ·obtain ⟨e,n,ne,nf,d⟩:=I.pin p (List.mem_cons_of_mem _ hp)
  exact ⟨(hs.2 p.1 ne).trans e,n,ne,nf,d⟩
 ·refine (I.hok b ob e).stay (fun c w' hc z=>(hs.2 c ?_).trans z) (fun _ z=>z) fun _ _ z=>z
  have fr:H X.env.locals = none:=I.free
  rintro rfl
  rcases hc with rfl | hc
  ·rw [fr] at e; cases e
  ·rw [fr] at hc; cases hc
end
def endsK (j:Nat) (D:Ends):Ends:={ nx:=fun σ H=>D.nx (σ.set j none) H,rt:=D.rt }
section
variable {X:Cx} {j:Nat} {n c:Str} {C₁:Addr} {b₀:Stmt} {suite:List Stmt} {tb:Addr->Obj->TS} {np hpos:Pos}
end
end Ow
namespace Ow
open PySem PySem.Spec PyProof.Rows L2
def Ctx0 (o:Obj):Prop:=∃ vs,o.data = .fields vs/\vs[2]? = some .none
def OwnD (c:Bool) (h:Heap) (e:Addr) (d:Option Addr):Prop:=∃ o,h.get? e = some o/\o.dict = d/\(c = true->Ctx0 o)
theorem t4 (f:Array Value->Array Value) (o:Obj):(Obj.mapFields f o).dict = o.dict:=by
 obtain ⟨c,d,dt,sl⟩:=o
 cases dt <;> rfl
section
variable {M:Model} {A:Around} {E:Value->Shared->Prop} {s:Shared} {bs:Heap} {en:Env} {out:List Env} {L e:Addr} {c:Bool}
theorem nV {oe:Obj} {vs:Array Value} {hd0 a0:Value} {nx:Bool} {Q:Unit->Shared->Prop} (fr:A.frames = some (en :: out)) (ff:s.heap.FunFrames bs (en :: out)) (fl:en.frame = some L)
  (ge:s.heap.get? e = some oe) (st:bs.StaysIn s.heap) (ne:bs.get? e = none) (dt:oe.data = .fields vs) (z1:1 < vs.size) (z0:vs[0]? = some a0) (z2:c = true->vs[2]? = some .none)
  (k:∀ h',Heap.NotedW bs (en :: out) e oe.cls a0 (rawInt L) s.heap h'->OwnD c h' e oe.dict->Q () { s with heap:=h' }) :
  wpAny M A (do let a <- frameOf en; let pl <- entryPlaceOf L nx; let b <- EntryCells.newEntry hd0 a .none (rawInt L) .none pl; setField (.ref e) 1 b) Q E s:=by
 have nf:e ∉ (en :: out).filterMap (·.frame):=fun hm=>by
  obtain ⟨_,o,g1,g2⟩:=ff.mem hm
  rw [ge] at g1
  cases g1
  exact g2 _ dt
 refine wpAny_bind (wpAny_frameOf_fun fr ff fl fun h1 so=>wpAny_bind (wpAny_entryPlaceOf fun pl hpl=>?_))
 unfold EntryCells.newEntry newFields
 refine wpAny_bind (wpAny_newObj_type ?_ (hpl.sizeOk5 _ _ _ _ _))
 generalize hT:(([hd0,Value.ref L,Value.none,rawInt L,Value.none] ++ (if pl.isEmpty then List.replicate 6 Value.none else pl)).toArray:Array Value) = ts
 have t3:ts[3]? = some (rawInt L):=by
  rw [<- hT]
  rfl
 have g1:h1.get? e = some oe:=(so.2.1 e nf).trans ge
 have g2:(h1.push { cls:=.type "traceback",dict:=none,data:=.fields ts }).get? e = some oe:=Heap.get?_push_of_some _ g1
 have neT:h1.objs.size ≠ e:=Nat.ne_of_gt (Heap.lt_size g1)
 have st1:bs.StaysIn h1:=fun b o hb=>(so.2.1 b fun hm=>by rw [(ff.mem hm).1] at hb; cases hb).trans (st b o hb)
 refine wpAny_setField g2 dt z1 (k _ ?_ ?_)
 ·have g3:=Heap.get?_update_self (Obj.mapFields (·.setIfInBounds 1 (Value.ref h1.objs.size))) g2 (Obj.isFreed_of_fields (Obj.data_mapFields dt _))
  have kp:∀ b o,b ≠ e->h1.get? b = some o->((h1.push { cls:=.type "traceback",dict:=none,data:=.fields ts }).update e (Obj.mapFields (·.setIfInBounds 1 (Value.ref h1.objs.size)))).get? b = some o:=fun b o hb q=>by
   rw [Heap.get?_update_other _ _ (Ne.symm hb)]
   exact Heap.get?_push_of_some _ q
  have nr:∀ b o,s.heap.get? b = some o->(∀ us,o.data ≠ .fields us)->b ≠ e:=fun b o q hn z=>by
   subst z
   rw [ge] at q
   cases q
   exact hn _ dt
  refine ⟨fun b o hb=>kp b o (fun z=>by rw [z,ne] at hb; cases hb) (st1 b o hb),ff.of_keeps fun b o q hn=>?_,⟨_,_,h1.objs.size,⟨.type "traceback",none,.fields ts,#[]⟩,ts,g3,⟨Obj.cls_mapFields _ _,?_⟩,Obj.data_mapFields dt _,?_,st1.fresh,neT,?_,rfl,t3⟩,fun b o q hn=>?_⟩
  ·obtain ⟨sl,e1⟩:=so.2.2 b o q
   exact ⟨_,kp b _ (nr b o q hn) e1,rfl⟩
  ·rw [Array.getElem?_setIfInBounds_ne (by decide)]
   exact z0
  ·rw [Array.getElem?_setIfInBounds_self_of_lt z1]
  ·exact (Heap.get?_update_other _ _ (Ne.symm neT)).trans (Heap.get?_push_size h1 rfl)
  ·obtain ⟨sl,e1⟩:=so.2.2 b o q
   exact ⟨sl,kp b _ (nr b o q hn) e1⟩
 ·exact ⟨_,Heap.get?_update_self _ g2 (Obj.isFreed_of_fields (Obj.data_mapFields dt _)),t4 _ _,fun hc=>⟨_,Obj.data_mapFields dt _,by rw [Array.getElem?_setIfInBounds_ne (by decide)]; exact z2 hc⟩⟩
theorem p8 {cls a0:Value} {d:Option Addr} {Q:Unit->Shared->Prop} (fr:A.frames = some (en :: out)) (fl:en.frame = some L) (F:Heap.FlyingW bs (en :: out) e cls a0 s.heap) (D:OwnD c s.heap e d)
  (k:∀ h',Heap.HeldW bs (en :: out) e cls a0 L h'->OwnD c h' e d->s.heap.UpToSlots h'->Q () { s with heap:=h' }):wpAny M A (noteFrame (.ref e) en) Q E s:=by
 obtain ⟨st,ne,ff,oe,vs,T,oT,ts,ge,⟨rfl,z0⟩,dt,z1,nT,neT,gT,dT,t3⟩:=F
 obtain ⟨o1,g1,rfl,hc⟩:=D
 cases ge.symm.trans g1
 unfold noteFrame
 simp only [fl]
 refine wpAny_bind (wpAny_field ge dt z1 ?_)
 rw [if_pos (show (Value.ref T != Value.none) = true from rfl)]
 refine wpAny_bind (wpAny_field gT dT t3 ?_)
 rw [if_neg (show ¬ ((Value.none == rawInt L) = true) from fun z=>by cases z)]
 refine wpAny_bind (wpAny_setField gT dT (Array.getElem?_eq_some_iff.mp t3).1 ?_)
 have ot:∀ b,b ≠ T->(s.heap.update T (Obj.mapFields (·.setIfInBounds 3 Value.none))).get? b = s.heap.get? b:=fun b hb=>Heap.get?_update_other _ _ (Ne.symm hb)
 have nr:∀ b o,s.heap.get? b = some o->(∀ us,o.data ≠ .fields us)->b ≠ T:=fun b o q hn z=>by
  subst z
  rw [gT] at q
  cases q
  exact hn _ dT
 refine nV (s:={ s with heap:=s.heap.update T (Obj.mapFields (·.setIfInBounds 3 Value.none)) }) fr (ff.of_keeps fun b o q hn=>⟨o,(ot b (nr b o q hn)).trans q,rfl⟩) fl ((ot e (Ne.symm neT)).trans ge) (fun b o q=>(ot b fun z=>by subst z; rw [nT] at q; cases q).trans (st b o q)) ne dt
  (Array.getElem?_eq_some_iff.mp z1).1 z0 (fun h=>by obtain ⟨vs',q1,q2⟩:=hc h; rw [dt] at q1; cases q1; exact q2) fun h' ⟨x1,x2,x3,x4⟩ D'=>k h' ⟨x1,ne,x2,x3⟩ D' fun b o q hn=>x4 b o ((ot b (nr b o q hn)).trans q) hn
theorem fH {l:List Env} {cls a0 fv:Value} {d:Option Addr} {Q:Unit->Shared->Prop} (st:bs.StaysIn s.heap) (ne:bs.get? e = none) (ff:s.heap.FunFrames bs l) (tr:s.heap.TracedAtW bs e cls a0 fv) (D:OwnD c s.heap e d)
  (k:∀ h',Heap.FlyingW bs l e cls a0 h'->OwnD c h' e d->s.heap.UpToSlots h'->Q () { s with heap:=h' }):wpAny M A (setFlight (.ref e) none) Q E s:=by
 obtain ⟨oe,vs,T,oT,ts,ge,hc,dt,z1,nT,neT,gT,dT,t3⟩:=tr
 have ot:∀ b,b ≠ T->(s.heap.update T (Obj.mapFields (·.setIfInBounds 3 ((none:Option Addr).elim Value.none fun f=>rawInt f)))).get? b = s.heap.get? b:=fun b hb=>Heap.get?_update_other _ _ (Ne.symm hb)
 have nr:∀ b o,s.heap.get? b = some o->(∀ us,o.data ≠ .fields us)->b ≠ T:=fun b o q hn z=>by
  subst z
  rw [gT] at q
  cases q
  exact hn _ dT
 have z3:=(Array.getElem?_eq_some_iff.mp t3).1
 unfold setFlight
 refine wpAny_bind (wpAny_field ge dt z1 ?_)
 rw [if_pos (show (Value.ref T != Value.none) = true from rfl)]
 refine wpAny_setField gT dT z3 (k _ ⟨fun b o q=>(ot b fun z=>by subst z; rw [nT] at q; cases q).trans (st b o q),ne,ff.of_keeps fun b o q hn=>⟨o,(ot b (nr b o q hn)).trans q,rfl⟩,
  oe,vs,T,_,_,(ot e (Ne.symm neT)).trans ge,hc,dt,z1,nT,neT,Heap.get?_update_self _ gT (Obj.isFreed_of_fields (Obj.data_mapFields dT _)),Obj.data_mapFields dT _,Array.getElem?_setIfInBounds_self_of_lt z3⟩ ?_ fun b o q hn=>⟨o.slots,(ot b (nr b o q hn)).trans q⟩)
 obtain ⟨o1,g1,hd⟩:=D
 exact ⟨o1,(ot e (Ne.symm neT)).trans g1,hd⟩
theorem tH {cls a0:Value} {d:Option Addr} {Q:Unit->Shared->Prop} (fr:A.frames = some (en :: out)) (fl:en.frame = some L) (F:Heap.FlyingW bs (en :: out) e cls a0 s.heap) (D:OwnD c s.heap e d)
  (k:∀ h',Heap.FlyingW bs out e cls a0 h'->OwnD c h' e d->s.heap.UpToSlots h'->Q () { s with heap:=h' }):wpAny M A (leaving en (.ref e)) Q E s:=by
 unfold leaving
 refine wpAny_bind (p8 fr fl F D fun h1 ⟨x1,x2,x3,x4⟩ D1 u1=>fH (s:={ s with heap:=h1 }) x1 x2 x3 x4 D1 fun h2 ⟨y1,y2,y3,y4⟩ D2 u2=>?_)
 obtain ⟨_,_,y3'⟩:=y3
 exact k h2 ⟨y1,y2,y3',y4⟩ D2 (u1.trans u2)
theorem pG {oe:Obj} {vs:Array Value} {a0:Value} {Q:Unit->Shared->Prop} (fr:A.frames = some (en :: out)) (ff:s.heap.FunFrames bs (en :: out)) (fl:en.frame = some L)
  (ge:s.heap.get? e = some oe) (st:bs.StaysIn s.heap) (ne:bs.get? e = none) (dt:oe.data = .fields vs) (z1:vs[1]? = some .none) (z0:vs[0]? = some a0) (z2:c = true->vs[2]? = some .none)
  (k:∀ h',Heap.FlyingW bs out e oe.cls a0 h'->OwnD c h' e oe.dict->s.heap.UpToSlots h'->Q () { s with heap:=h' }):wpAny M A (leaving en (.ref e)) Q E s:=by
 unfold leaving noteFrame
 simp only [fl]
 refine wpAny_bind (wpAny_bind (wpAny_field ge dt z1 ?_))
 rw [if_neg (by decide)]
 refine nV fr ff fl ge st ne dt (Array.getElem?_eq_some_iff.mp z1).1 z0 z2 fun h1 ⟨x1,x2,x3,x4⟩ D1=>fH (s:={ s with heap:=h1 }) x1 ne x2 x3 D1 fun h2 ⟨y1,y2,y3,y4⟩ D2 u2=>?_
 obtain ⟨_,_,y3'⟩:=y3
 exact k h2 ⟨y1,y2,y3',y4⟩ D2 (Heap.UpToSlots.trans x4 u2)
end
end Ow
namespace Ow
open PySem PySem.Spec PyProof.Rows L2
theorem pV {h:Heap} {l:List Value} (self:Value) (T:OwnTail h VE l):refuseLoop self "__setattr__" l = pure ():=by
 induction T with
 | base=>exact PySem.F.store_ValueError.passes self
 | own _ _ _ _ ih=>rw [refuseLoop_ref]; exact ih
section
variable {prog:Program} {w:World} {A:Around} {E:Value->Shared->Prop} {s:Shared} {K:Frag} {x C N:Addr} {fs:Array Value} {sl:Array (Option Value)} {name:Str} {v:Value}
variable {nm qn:Str} {bs bm:List Value} {sn:List Str} {sub:List Value} {ab:Bool} {col:Option Bool} {dd:Option Addr} {k0 k1 k2 k3 k5:Option Value} {nid:String}
theorem set_exc {Q:Unit->Shared->Prop} (X:K.In s.heap) (hx:s.heap.get? x = some ⟨.ref C,none,.fields fs,sl⟩) (hC:s.heap.get? C = some (excClassObj nm qn C N bs bm true sn sub ab col dd k0 k1 k2 k3 k5 nid)) (T:OwnTail s.heap VE bm)
  (sa:findIn K (.ref C) "__setattr__" = some (some (.builtin "object.__setattr__"))) (na:findIn K (.ref C) name = some none) (mo:mroIn K C (.type "object") = some true)
  (k:∀ h' t',h'.get? x = some ⟨.ref C,some s.heap.objs.size,.fields fs,sl⟩->h'.Ns1 s.heap.objs.size (fun y=>if y = name then some v else none)->(∀ b o,b ≠ x->s.heap.get? b = some o->h'.get? b = some o)->Q () { s with heap:=h',toks:=t' }) :
  wpAny (model prog w) A (setAttr (.ref x) name v) Q E s:=by
 have I:PySem.W.InstAt s.heap x ⟨.ref C,none,.fields fs,sl⟩ C none:=⟨hx,rfl,rfl,True.intro⟩
 have SF:=PySem.F.store_object
 have su:PySem.W.Looks (model prog w) s.heap (isInstance (.ref x) (.type "object")) true:=I.type.andThen (PySem.W.looks_mroIn X mo)
 refine PySem.W.set_plain X I sa (codeAny_call_builtin SF.slot.plain SF.entry (@PySem.W.check_slot (model prog w) _ _ { s with toks:=s.toks + 1 } "object.__setattr__" "object" "__setattr__" (.ref x) [.str name s.toks,v] [] _ SF.kind SF.split su (SF.args (.ref x) (.str name s.toks) v) ?_))
 rw [PySem.W.osa_eq,refuse_eq]
 refine wpAny_bind (wpAny_bind (PySem.W.Looks.here (s:={ s with toks:=s.toks + 1 }) I.type (wpAny_bind (wpAny_mroOf_exc hC ?_))))
 rw [refuseLoop_ref,pV _ T]
 refine wpAny_pure (wpAny_bind (PySem.W.Looks.here (s:={ s with toks:=s.toks + 1 }) I.type (wpAny_bind (PySem.W.Looks.here (s:={ s with toks:=s.toks + 1 }) (PySem.W.looks_findIn X na) (wpAny_bind (wpAny_pure ?_))))))
 show wpAny _ _ (Builtin.ObjectAttr.storeInOwnDict (.ref x) (.ref C) (.str name s.toks) name v false) _ _ _
 have L1:PySem.W.Looks (model prog w) s.heap (classData C) _:=(PySem.W.Looks.ld (part:=none) hC).andThen .now
 have xs:x ≠ s.heap.objs.size:=Nat.ne_of_lt (Heap.lt_size hx)
 have hx1:(s.heap.push { cls:=.type "dict",data:=.dict #[] }).get? x = some ⟨.ref C,none,.fields fs,sl⟩:=Heap.get?_push_of_some _ hx
 have up:∀ f:Obj->Obj,f ⟨.ref C,none,.fields fs,sl⟩ = ⟨.ref C,some s.heap.objs.size,.fields fs,sl⟩->((s.heap.push { cls:=.type "dict",data:=.dict #[] }).update x f).get? x = some ⟨.ref C,some s.heap.objs.size,.fields fs,sl⟩:=fun f ef=>by
  rw [Heap.get?_update_self f hx1 (by rw [ef]; rfl),ef]
 refine wpAny_bind (wpAny_pure (wpAny_bind (wpAny_bind (wpAny_loadPart hx (wpAny_bind (PySem.W.Looks.here (s:={ s with toks:=s.toks + 1 }) L1 ?_))))))
 refine wpAny_bind (wpAny_alloc' (wpAny_bind (wpAny_update' hx1 (wpAny_pure ?_))))
 have gd:((s.heap.push { cls:=.type "dict",data:=.dict #[] }).update x fun o=>{ o with dict:=some s.heap.objs.size }).get? s.heap.objs.size = some { cls:=.type "dict",data:=.dict #[] } :=
  (Heap.get?_update_other _ _ xs).trans (Heap.get?_push_size _ rfl)
 have nd:((s.heap.push { cls:=.type "dict",data:=.dict #[] }).update x fun o=>{ o with dict:=some s.heap.objs.size }).Ns s.heap.objs.size (fun _=>none):=⟨_,#[],_,gd,rfl,fun e he=>absurd he (by simp),fun _=>rfl⟩
 refine wpAny_bind (wpAny_pure (wpAny_bind (wpAny_nsSet1 (Heap.Ns1.of_empty nd) fun h' n2 sb=>?_)))
 obtain ⟨oD,eD,pD,gD,dD,cD⟩:=n2.count (PySem.Within.cons name v PySem.Within.nil)
 refine wpAny_bind (wpAny_lookBehind gD (by rw [dD]; exact pastItsLine_dict (Nat.le_trans cD (by rw [List.length_cons,List.length_nil,sizeLine_eq]; omega))) ?_)
 refine wpAny_pure (k h' _ ?_ ?_ fun b o hb q=>?_)
 ·exact (sb.2 x xs).trans (up _ rfl)
 ·exact n2
 ·exact (sb.2 b (Nat.ne_of_lt (Heap.lt_size q))).trans ((Heap.get?_update_other _ _ (Ne.symm hb)).trans (Heap.get?_push_of_some _ q))
end
end Ow
namespace Ow
open PySem PySem.Spec PyProof.Rows L2
abbrev exF (t:Addr):Array Value:=#[.ref t,.none,.none,.none,.bool false,.none]
abbrev exT (v:Value):Obj:={ cls:=.type "tuple",data:=.seq [v].toArray }
section
variable {prog:Program} {w:World} {A:Around} {E:Value->Shared->Prop} {h:Heap} {g:Array GenState} {d:Drawn} {t:Nat} {os:OsState} {C N fI:Addr} {v:Value} {oI:Obj} {mN:Str->Option Value}
variable {nm qn:Str} {bs bm:List Value} {hdc:Bool} {sn:List Str} {sub:List Value} {ab:Bool} {col:Option Bool} {dd:Option Addr} {k0 k1 k2 k3 k5:Option Value}
theorem made_exc {Q:Fin->Shared->Prop} (T:OwnTail h VE bm) (hC:h.get? C = some (excClassObj nm qn C N bs bm hdc sn sub ab col dd k0 k1 k2 k3 k5 "ValueError.__new__")) (hn:h.Ns N mN) (hi:mN "__init__" = some (.ref fI))
  (gf:h.get? fI = some oI) (cf:oI.cls = .type "function")
  (k:wpAny (model prog w) A (call (.ref fI) [.ref (h.objs.size + 1),v]) (fun r s'=>r = .none/\Q (.done (.ret (.ref (h.objs.size + 1)))) s') E ⟨(h.push (exT v)).push { cls:=.ref C,data:=.fields (exF h.objs.size) },g,d,t,os⟩) :
  wpAny (model prog w) A (Builtin.«type.__call__» ⟨[.ref C,v],[]⟩) Q E ⟨h,g,d,t,os⟩:=by
 have F:=PySem.F.excBase_ValueError
 have st:∀ b o,h.get? b = some o->((h.push (exT v)).push { cls:=.ref C,data:=.fields (exF h.objs.size) }).get? b = some o:=fun b o e=>Heap.get?_push_of_some _ (Heap.get?_push_of_some _ e)
 have ge:((h.push (exT v)).push { cls:=.ref C,data:=.fields (exF h.objs.size) }).get? (h.objs.size + 1) = some { cls:=.ref C,data:=.fields (exF h.objs.size) }:=by
  have z:=Heap.get?_push_size (h.push (exT v)) (o:={ cls:=.ref C,data:=.fields (exF h.objs.size) }) rfl
  rwa [Heap.size_push] at z
 have cc:(Value.ref C :: bm).contains (.ref C) = true:=by rw [List.contains_cons,beq_self_eq_true,Bool.true_or]
 repeat (first | with_reducible refine wpAny_loadPart_at hC ?_ | with_reducible refine wpAny_madeBy_exc hC ?_ | wp_step)
 refine codeAny_call_builtin_code (Code.quiet_builtin _ F.quiet) (wpAny_check_new_subT F T hC (codeAny_exc_new_subT F T hC (rest:=[v]) ?_))
 show wpAny _ _ _ _ _ _
 unfold isInstance
 repeat (first | with_reducible refine wpAny_loadPart_at ge ?_ | (with_reducible refine wpAny_isSubtype_exc (st _ _ hC) ?_; rw [cc]) | wp_step)
 show wpAny _ _ (typeLookup (.ref C) _) _ _ _
 refine wpAny_typeLookup_tail (st _ _ hC) (hn.keeps st) (T.keeps st) F.mroIs F.init.lookup ?_
 rw [hi]
 refine wpAny_holding (wpAny_bind ?_)
 unfold bindSpecial
 refine wpAny_bind (wpAny_typeOf (T:="function") ⟨_,st _ _ gf,cf⟩ ?_)
 rw [if_pos (by decide)]
 refine wpAny_pure (wpAny_bind (wpAny_mono k (fun r s' q=>?_) fun _ _ z=>z))
 obtain ⟨rfl,q⟩:=q
 wp_walk
 exact q
theorem call_exc {Q:Value->Shared->Prop} (T:OwnTail h VE bm) (hC:h.get? C = some (excClassObj nm qn C N bs bm hdc sn sub ab col dd k0 k1 k2 k3 k5 "ValueError.__new__")) (hn:h.Ns N mN) (hi:mN "__init__" = some (.ref fI))
  (gf:h.get? fI = some oI) (cf:oI.cls = .type "function")
  (k:wpAny (model prog w) (A.under (.builtin "type.__call__" ⟨[.ref C,v],[]⟩)) (call (.ref fI) [.ref (h.objs.size + 1),v]) (fun r s'=>r = .none/\Q (.ref (h.objs.size + 1)) s') E ⟨(h.push (exT v)).push { cls:=.ref C,data:=.fields (exF h.objs.size) },g,d,t,os⟩) :
  wpAny (model prog w) A (call (.ref C) [v]) Q E ⟨h,g,d,t,os⟩:=by
 have f1:=tc_lookup
 have f2:=tc_bind (.ref C)
 have tT:(⟨h,g,d,t,os⟩:Shared).TypeIs (.ref C) "type":=⟨_,hC,rfl⟩
 refine wpAny_call (codeAny_of_tree ?_)
 show wpAny _ _ (callAny (.ref C) _) _ _ _
 repeat (any_goals (first | assumption | with_reducible refine wpAny_loadPart_at hC ?_ | wp_step))
 exact ⟨rfl,codeAny_call_builtin_at (Code.quiet_builtin _ (by decide +kernel)) entry_typeCall (wpAny_check_type_call_sub hC (made_exc T hC hn hi gf cf k))⟩
end
theorem rA {M:Model} {A:Around} {E:Value->Shared->Prop} {s:Shared} {env:Env} {C N:Addr} {nm qn:Str} {bs bm:List Value} {hdc:Bool} {sn:List Str} {sub:List Value} {ab:Bool} {col:Option Bool} {dd:Option Addr} {k0 k1 k2 k3 k5:Option Value} {nid:String}
  {x:Sem Value} {Q:Flow->Shared->Prop} (hb:bm.contains (.type "BaseException") = true) (hh:A.handled = none)
  (k:wpAny M A x (fun v s1=>∃ (e t:Addr) (od:Option Addr),v = .ref e/\s1.heap.get? C = some (excClassObj nm qn C N bs bm hdc sn sub ab col dd k0 k1 k2 k3 k5 nid)/\s1.heap.get? e = some ⟨.ref C,od,.fields (exF t),#[]⟩/\E (.ref e) s1) E s) :
  wpAny M A (raiseStmt env (some x) none) Q E s:=by
 have cb:(Value.ref C :: bm).contains (.type "BaseException") = true:=by rw [List.contains_cons,hb,Bool.or_true]
 unfold raiseStmt
 refine wpAny_bind (wpAny_mono k (fun v s1 q=>?_) fun _ _ z=>z)
 obtain ⟨e,t,od,rfl,gC,ge,q⟩:=q
 obtain ⟨hp,g,d,tk,os⟩:=s1
 repeat (first | with_reducible refine wpAny_loadPart_at ge ?_ | with_reducible refine wpAny_loadPart_at gC ?_ | (with_reducible refine wpAny_isSubtype_exc gC ?_; rw [cb]) | wp_step)
 exact wpAny_raiseNew_none hh q
end Ow
namespace Ow
open PySem PySem.Spec PyProof.Rows L2
def excFn (K:Frag) (C f:Addr):Bool :=
 match K.lookup C with
 | some ⟨.type "type",_,.cls c,q⟩ =>
  (match c.mro,q.toList with
  | .ref D :: tl,[_,_,_,_,some (.builtin n),_]=>D == C && (n == "ValueError.__new__" && (!c.hasDel && (c.hasDict && (PySem.W.tailIn K VE tl && (PySem.W.nsOkIn K c.ns && nsIn K c.ns "__init__" == some (some (.ref f)))))))
  | _,_=>false)
 | _=>false
theorem ns_some {K:Frag} {h:Heap} {N:Addr} {m:Str->Option Value} {n:Str} {v:Value} (X:K.In h) (G:h.Ns N m) (e:nsIn K N n = some (some v)):m n = some v:=by
 obtain ⟨o,es,ep,go,hd,_,hf⟩:=G
 unfold nsIn at e
 split at e
 ·next q =>
  have z:=X _ _ q
  rw [go] at z
  cases z
  cases hd
  split at e
  ·next he =>
   cases e
   rw [<- hf]
   unfold nsFind findBy
   rw [<- Array.find?_toList,he]
   rfl
  ·split at e <;> cases e
 ·cases e
theorem exc_fn {K:Frag} {h:Heap} {C f:Addr} (X:K.In h) (q:excFn K C f = true) :
  ∃ bm N nm qn bs sn sub ab col dd k0 k1 k2 k3 k5 mN,h.get? C = some (excClassObj nm qn C N bs bm true sn sub ab col dd k0 k1 k2 k3 k5 "ValueError.__new__")/\h.Ns N mN/\mN "__init__" = some (.ref f)/\OwnTail h VE bm:=by
 unfold excFn at q
 split at q
 ·next d0 c0 s0 e0 =>
  split at q
  ·next D m1 y0 y1 y2 y3 n1 y5 em es =>
   simp only [beq_iff_eq,Bool.not_eq_true',Bool.and_eq_true] at q
   obtain ⟨eC,en,ed,eh,et,eo,ei⟩:=q
   subst eC en
   obtain ⟨a1,a2,a3,a4,a5,a6,a7,a8,a9,a10,a11⟩:=c0
   dsimp only at em ed eo ei eh
   subst em ed eh
   obtain ⟨l0⟩:=s0
   have es':l0 = [y0,y1,y2,y3,some (Value.builtin "ValueError.__new__"),y5]:=es
   subst es'
   have G:h.Ns a4 _:=.of_isNs (PySem.W.isNs_of_in X eo)
   exact ⟨m1,a4,a1,a5,a2,a7,a8,a9,a10,d0,y0,y1,y2,y3,y5,_,X _ _ e0,G,ns_some X G ei,PySem.W.tail_of_in X et⟩
  ·cases q
 ·cases q
def xO (e C t:Addr) (od:Option Addr):HO:=.ext fun h=>h.get? e = some ⟨.ref C,od,.fields (exF t),#[]⟩
def drop (H:Hp) (e:Addr):Hp:=fun b=>if b = e then none else H b
theorem kU {H:Hp} {e b:Addr} (h:b ≠ e):drop H e b = H b:=if_neg h
theorem ie {H:Hp} {e:Addr}:drop H e e = none:=if_pos rfl
theorem xO_ok {P:Program} {w:World} {H:Hp} {h:Heap} {e C t:Addr} {od:Option Addr} (g:h.get? e = some ⟨.ref C,od,.fields (exF t),#[]⟩):ObjOk P w H h e (xO e C t od):=⟨g,⟨_,g⟩,fun _ _ a b=>b _ a⟩
def CX2c (c:Bool) (P:Program) (w:World) (base:Heap):CXT:=fun outer H s E e s' =>
 ∃ (a:Addr) (cls a0:Value) (B:Heap) (H':Hp) (dd:Option Addr),e = .ref a/\s'.os = s.os/\AllBare s'.gens/\Gnd P w base (frs outer) H H' s.heap B/\Slots (frs outer) s.heap s'.heap/\Heap.FlyingW B outer a cls a0 s'.heap/\H' a = none/\OwnD c s'.heap a dd/\E cls dd H'
abbrev CX2 (P:Program) (w:World) (base:Heap):CXT:=CX2c true P w base
section
variable {P:Program} {w:World} {K:Frag} {mg:Str->Option Value} {base:Heap} {N:List Str} {qual:Str} {scope:Scope} {f:Addr} {cdv:Value} {A:Around} {outer:List Env} {s₀:Shared} {H₀:Hp} {E:XK}
theorem qI {pins:List (Addr × Obj)} {σ:L2.St} {H:Hp} {s:Shared} {e C t:Addr} {od:Option Addr} (I:Inv (ig (CX2 P w base) P w K mg base N qual scope f cdv A outer s₀ H₀ E) pins σ H s)
  (he:H e = some (xO e C t od)) (hn:s₀.heap.get? e = none) (q:E (.ref C) od (drop H e)):(ig (CX2 P w base) P w K mg base N qual scope f cdv A outer s₀ H₀ E).xe (.ref e) s:=by
 have ge:s.heap.get? e = some ⟨.ref C,od,.fields (exF t),#[]⟩:=(I.hok e _ he).1
 have hst:=I.stack
 have nof:∀ b o,s₀.heap.get? b = some o->b ∉ frs outer->b ∉ e :: frs (envOfC qual scope s₀.heap.objs.size f cdv :: outer):=fun b o e1 nb hm=>by
  rcases List.mem_cons.mp hm with z | hm
  ·rw [z,hn] at e1
   cases e1
  rcases List.mem_cons.mp (I.stkSub b hm) with z | z
  ·exact Nat.lt_irrefl _ (Nat.lt_of_lt_of_le (z ▸ Heap.lt_size e1) I.ok.above)
  ·exact nb z
 have nx:∀ b:Addr,b ∉ ([]:List Addr):=fun b z=>nomatch z
 have ne:∀ b u,H b = some u->(∀ φ,u ≠ .ext φ)->b ≠ e:=fun b u e1 hk z=>by
  rw [z,he] at e1
  cases e1
  exact hk _ rfl
 have dr:∀ b u,H b = some u->(∀ φ,u ≠ .ext φ)->drop H e b = some u:=fun b u e1 hk=>by rw [kU (ne b u e1 hk)]; exact e1
 refine pG (c:=true) (bs:=PySem.W.hideAll s.heap (e :: frs (envOfC qual scope s₀.heap.objs.size f cdv :: outer))) (a0:=.ref t) I.ok.frames
  (PySem.W.funFrames_hide hst fun e1 he1 b hb=>List.mem_cons_of_mem _ (List.mem_filterMap.mpr ⟨e1,he1,hb⟩)) rfl ge (fun b o e1=>PySem.W.of_hideAll _ e1) (PySem.W.hideAll_none _ (List.mem_cons_self ..)) rfl rfl rfl (fun _=>rfl) fun h2 fl D up=>?_
 refine ⟨e,_,.ref t,_,drop H e,od,rfl,I.os,I.bare,⟨fun b o e1=>PySem.W.hideAll_get _ (I.bk b o e1) fun hm=>?_,fun b o e1 n nb=>PySem.W.hideAll_get _ (I.base.keep b o e1 n nb (nx b)) (nof b o e1 nb),fun b o e1 n=>?_,
  fun b o e1 nb=>?_,fun b xs z=>dr b _ (I.base.tups b xs z) (fun _ z=>nomatch z),fun b o u z=>dr b _ (I.base.frzs b o u z) (fun _ z=>nomatch z),fun b ps z=>?_,fun b u e1=>?_⟩,fun b hb o e1=>?_,fl,ie,D,q⟩
 ·rcases List.mem_cons.mp hm with z | hm
  ·have z2:=(I.bs b o e1).2
   rw [z,he] at z2
   cases z2
  ·have z:=(hst.mem hm).1
   exact nomatch (show (some o:Option Obj) = none from e1.symm.trans z)
 ·by_cases hb:b = e
  ·rw [hb,ie]
  ·rw [kU hb]
   exact I.base.free b o e1 n (nx b)
 ·obtain ⟨o',e2⟩:=I.base.there b o e1 (nx b)
  exact ⟨o',PySem.W.hideAll_get _ e2 (nof b o e1 nb)⟩
 ·obtain ⟨more,z2⟩:=I.base.tbls b ps z
  exact ⟨more,dr b _ z2 (fun _ z=>nomatch z)⟩
 ·have hb:b ≠ e:=fun z=>by
   rw [z,ie] at e1
   cases e1
  rw [kU hb] at e1
  refine (I.hok b u e1).stay (fun c v hc e2=>PySem.W.hideAll_get _ e2 fun hm=>?_) (fun c z=>dr c _ z (fun _ z=>nomatch z)) fun c xs z=>dr c _ z (fun _ z=>nomatch z)
  rcases List.mem_cons.mp hm with z | hm
  ·rcases hc with hc | hc
   ·exact hb (hc.symm.trans z)
   ·rw [z,he] at hc
    cases hc
  ·have z:=I.stkFree c hm
   rcases hc with rfl | hc
   ·rw [e1] at z; cases z
   ·rw [hc] at z; cases z
 ·obtain ⟨sl,e2⟩:=I.base.slot b o e1 (I.ok.frf b hb) hb (nx b)
  obtain ⟨_,o1,e3,d⟩:=I.funs.mem hb
  rw [e2] at e3
  cases e3
  obtain ⟨s2,e4⟩:=up b _ e2 d
  exact ⟨s2,e4⟩
end
end Ow
namespace Ow
open PySem PySem.Spec PyProof.Rows L2
structure XCls (K:Frag) (C fI:Addr) (f:Str):Prop where
 ef:excFn K C fI = true
 sa:findIn K (.ref C) "__setattr__" = some (some (.builtin "object.__setattr__"))
 mo:mroIn K C (.type "object") = some true
 na:findIn K (.ref C) f = some none
 fn:typeIn K (.ref fI) = some (.type "function")
 kp:keepIn K (.ref C) = true
def sXset (K:Frag) (ta tv:TE) (f:Str):TS:=fun D σ H=>tv σ H fun y H1=>ta σ H1 fun x H2=>∃ e C t fI,x = .ref e/\H2 e = some (xO e C t none)/\XCls K C fI f/\∀ d,H2 d = none->d ≠ e->D.nx σ (upd (upd H2 d (.xd [(f,y)])) e (xO e C t (some d)))
section
variable {X:Cx} {f:Str} {o value:Expr} {ta tv:TE} {pos pos':Pos}
theorem ps_xset (ha:PE X o ta) (hv:PE X value tv) (hs:swapsWith value (some (.Attribute o f pos')) pos.line X.env = pure false):PS X (.Assign [.Attribute o f pos'] value pos) (sXset X.K ta tv f):=by
 intro pins s σ H D I h
 refine plainObj_wpAny_Assign_Attribute (thn (hv pins s σ H _ I h) fun u s1 ⟨y,H1,I1,ry,q⟩=>thn (ha pins s1 σ H1 _ I1 q) fun ov s2 ⟨x,H2,I2,rx,e,C,t,fI,ex,he,c,q2⟩=>?_) hs
 subst ex
 obtain rfl:ov = Value.ref e:=rx
 have ge:s2.heap.get? e = some ⟨.ref C,none,.fields (exF t),#[]⟩:=(I2.hok e _ he).1
 obtain ⟨bm,N,nm,qn,bs,sn,sub,ab,col,dd,k0,k1,k2,k3,k5,mN,gC,_,_,T⟩:=exc_fn I2.kIn c.ef
 refine set_exc I2.kIn ge gC T c.sa c.na c.mo fun h' t' g1 n1 kp=>?_
 have hd:H2 s2.heap.objs.size = none:=I2.hok.fresh (Nat.le_refl _)
 have dne:s2.heap.objs.size ≠ e:=fun z=>by rw [z,he] at hd; cases hd
 obtain ⟨od,es,ep,gd,hda,rest⟩:=n1
 have gd1:(s2.heap.push od).get? s2.heap.objs.size = some od:=Heap.get?_push_size _ (by
  obtain ⟨c1,c2,c3,c4⟩:=od
  cases (show c3 = .dict es ep from hda)
  rfl)
 have I3:=I2.laid (a:=s2.heap.objs.size) (o:=.xd [(f,y)]) (h':=s2.heap.push od) (t':=s2.toks) (fun b u q=>Heap.get?_push_of_some _ q) (Nat.le_refl _) ⟨_,⟨od,es,ep,gd1,hda,rest⟩,fun g=>by
  by_cases hg:g = f
  ·subst hg
   rw [if_pos rfl,List.lookup_cons_self]
   exact ry
  ·rw [if_neg hg,List.lookup_cons,beq_eq_false_iff_ne.mpr hg]
   exact True.intro⟩
 have I4:=I3.write (x:=e) (e:=e) (o:=xO e C t (some s2.heap.objs.size)) (h':=h') (t':=t') (by rw [am (Ne.symm dne),he]; exact True.intro) (.inl rfl) (fun b v hb z=>by
  by_cases hz:b = s2.heap.objs.size
  ·subst hz
   have z1:=gd1.symm.trans z
   cases z1
   exact gd
  ·rw [Heap.get?_push_ne _ _ _ hz] at z
   exact kp b v hb z) ⟨_,g1⟩ (xO_ok g1)
 exact ⟨σ,_,I4,q2 _ hd dne⟩
end
end Ow
namespace Ow
open PySem PySem.Spec PyProof.Rows L2
def spXI (f:Str) (C:Addr):Sp:=fun vs H Q _=>∃ (e t:Addr) (v:V),vs = [.ref e,v]/\H e = some (xO e C t none)/\∀ d,H d = none->d ≠ e->Q .non (upd (upd H d (.xd [(f,v)])) e (xO e C t (some d)))
structure XHas (P:Program) (w:World) (K:Frag) (mg:Str->Option Value) (base:Heap) (k:Nat) (x:Str) (C:Addr) (f:Str):Prop where
 ex:∃ (fI:Addr) (fd:FuncData) (p1 p2:Str),FnOk P w K mg base CX0 k fI fd [p1,p2] (spXI f C)/\Binds K fd [p1,p2] []/\XCls K C fI f/\mg x = some (.ref C)
section
variable {P:Program} {w:World} {K:Frag} {mg:Str->Option Value} {base:Heap} {N:List Str} {qual:Str} {scope:Scope} {fa:Addr} {cdv:Value} {A:Around} {outer:List Env} {s₀:Shared} {H₀:Hp} {E:XK}
def tRaise1 (C:Addr) (f:Str) (E:XK) (ta:TA):TS:=fun _ σ H=>ta σ H fun vs H1=>∃ v,vs = [v]/\∀ d,H1 d = none->E (.ref C) (some d) (upd H1 d (.xd [(f,v)]))
theorem nQ {k:Nat} {x f:Str} {C:Addr} {np cpos pos:Pos} {e1:Expr} {ta:TA} (h:XHas P w K mg base k x C f) (hr:Room (k + 1) (ig (CX2 P w base) P w K mg base N qual scope fa cdv A outer s₀ H₀ E).A) (hg:Gl (ig (CX2 P w base) P w K mg base N qual scope fa cdv A outer s₀ H₀ E) x)
  (ha:PA (ig (CX2 P w base) P w K mg base N qual scope fa cdv A outer s₀ H₀ E) [e1] ta) (hdb:(x == ("__debug__":Str)) = false:=by decide)
  (hst:starEach [e1] (ig (CX2 P w base) P w K mg base N qual scope fa cdv A outer s₀ H₀ E).env = (false,eval e1 (ig (CX2 P w base) P w K mg base N qual scope fa cdv A outer s₀ H₀ E).env) :: starEach [] (ig (CX2 P w base) P w K mg base N qual scope fa cdv A outer s₀ H₀ E).env:=by rfl) :
  PS (ig (CX2 P w base) P w K mg base N qual scope fa cdv A outer s₀ H₀ E) (.Raise (some (.Call (.Name x np) [e1] [] cpos)) none pos) (tRaise1 C f E ta):=by
 intro pins s σ H D I ht
 obtain ⟨fI,fd,p1,p2,F,hb,c,hm⟩:=h.ex
 obtain ⟨bm,N',nm,qn,bs,sn,sub,ab,col,dd,k0,k1,k2,k3,k5,mN,gC,gN,gi,T⟩:=exc_fn I.ok.mod.kin c.ef
 rw [arm_exec_Raise]
 refine wpAny_bind (wpAny_standAt (rA (C:=C) (nm:=nm) (qn:=qn) (N:=N') (bs:=bs) (bm:=bm) (hdc:=true) (sn:=sn) (sub:=sub) (ab:=ab) (col:=col) (dd:=dd) (k0:=k0) (k1:=k1) (k2:=k2) (k3:=k3) (k5:=k5) (nid:="ValueError.__new__")
  (T.hasType PySem.F.excBase_ValueError.hasBase) (I.ok.hd rfl) (wpAny_bind (wpAny_mono (Q:=fun v s1=>∃ (e t:Addr) (od:Option Addr),v = .ref e/\s1.heap.get? C = some (excClassObj nm qn C N' bs bm true sn sub ab col dd k0 k1 k2 k3 k5 "ValueError.__new__")/\s1.heap.get? e = some ⟨.ref C,od,.fields (exF t),#[]⟩/\(ig (CX2 P w base) P w K mg base N qual scope fa cdv A outer s₀ H₀ E).xe (.ref e) s1) ?_ (fun v s3 h3=>wpAny_bind (wpAny_standAt (wpAny_pure h3))) fun _ _ z=>z))))
 refine wpAny_Call_Name_kw (gy I hg hm ?_ hdb)
 refine PySem.W.callWith_K (h₀:=base) I.ok.mod.kin c.kp (thn (ha cpos pins s σ H _ I ht) fun us s1 ⟨vs,H1,I1,r1,v,ev,q1⟩=>⟨I1.kIn,?_⟩) hst rfl
 subst ev
 obtain ⟨u,rfl,ru⟩:=r1.one
 have st1:=I1.bk
 have gf:∃ oI,s1.heap.get? fI = some oI/\oI.cls = .type "function":=by
  obtain ⟨oI,e1,e2⟩:=Option.map_eq_some_iff.mp c.fn
  exact ⟨oI,I1.kIn _ _ e1,e2⟩
 obtain ⟨oI,gf,cf⟩:=gf
 obtain ⟨hh,g,dr,tk,os⟩:=s1
 have ge:((hh.push (exT u)).push { cls:=.ref C,data:=.fields (exF hh.objs.size) }).get? (hh.objs.size + 1) = some { cls:=.ref C,data:=.fields (exF hh.objs.size) }:=by
  have z:=Heap.get?_push_size (hh.push (exT u)) (o:={ cls:=.ref C,data:=.fields (exF hh.objs.size) }) rfl
  rwa [Heap.size_push] at z
 have He:H1 (hh.objs.size + 1) = none:=I1.hok.fresh (Nat.le_succ _)
 have I2:=I1.laid (a:=hh.objs.size + 1) (o:=xO (hh.objs.size + 1) C hh.objs.size none) (h':=(hh.push (exT u)).push { cls:=.ref C,data:=.fields (exF hh.objs.size) }) (t':=tk) (fun b o q=>Heap.get?_push_of_some _ (Heap.get?_push_of_some _ q)) (Nat.le_succ _) (xO_ok ge)
 refine call_exc (T.keeps st1) (st1 _ _ gC) (gN.keeps st1) gi gf cf (wpAny_call (codeAny_mono (F.run _ (ig (CX2 P w base) P w K mg base N qual scope fa cdv A outer s₀ H₀ E).stack _ _ ⟨[.ref (hh.objs.size + 1),u],[]⟩ [.ref (hh.objs.size + 1),u] [.ref (hh.objs.size + 1),v]
  (fun y H3=>y = .non/\∃ d,upd H1 (hh.objs.size + 1) (xO (hh.objs.size + 1) C hh.objs.size none) d = none/\d ≠ hh.objs.size + 1/\H3 = upd (upd (upd H1 (hh.objs.size + 1) (xO (hh.objs.size + 1) C hh.objs.size none)) d (.xd [(f,v)])) (hh.objs.size + 1) (xO (hh.objs.size + 1) C hh.objs.size (some d))) E0 (hr.make C [u] [])
  (I2.env0.make C [u] []) (hb _ _ I2.kIn rfl) (.cons rfl (.cons ru .nil)) ⟨_,_,v,rfl,af ..,fun d hd ne=>⟨rfl,d,hd,ne,rfl⟩⟩) fun r s' hq=>?_))
 cases r with
 | error e=>exact False.elim hq
 | ok fl =>
  cases fl with
  | ret u' =>
   obtain ⟨y,H3,I3,ry,rfl,d,hd,ne,rfl⟩:=I2.after hq
   refine ⟨ry,hh.objs.size + 1,hh.objs.size,some d,rfl,I3.bk _ _ gC,(I3.hok _ _ (af ..)).1,?_⟩
   rw [am ne] at hd
   refine qI I3 (af ..) ?_ ?_
   ·refine Heap.get?_none_of_le (Nat.le_trans I1.sz (Nat.le_succ _))
   ·have e3:drop (upd (upd (upd H1 (hh.objs.size + 1) (xO (hh.objs.size + 1) C hh.objs.size none)) d (.xd [(f,v)])) (hh.objs.size + 1) (xO (hh.objs.size + 1) C hh.objs.size (some d))) (hh.objs.size + 1) = upd H1 d (.xd [(f,v)]):=by
     funext b
     by_cases hb:b = hh.objs.size + 1
     ·rw [hb,ie,am (Ne.symm ne),He]
     ·rw [kU hb,am hb]
      by_cases hbd:b = d
      ·rw [hbd,af,af]
      ·rw [am hbd,am hb,am hbd]
    rw [e3]
    exact q1 d hd
  | next=>exact False.elim hq
  | brk=>exact False.elim hq
  | cont=>exact False.elim hq
end
end Ow
namespace Ow
open PySem PySem.Spec PyProof.Rows L2
section
variable {P:Program} {w:World} {K:Frag} {mg:Str->Option Value} {base:Heap} {N:List Str} {qual:Str} {scope:Scope} {f:Addr} {cdv:Value} {A:Around} {outer:List Env} {s₀:Shared} {H₀:Hp} {E:XK}
theorem Fun.okY {x qual:Str} {st:Stmt} {f:Addr} {fd:FuncData} {N ps:List Str} {k:Nat} {sp:Sp} (F:Fun K x qual st f fd) (S:FnScope N ps (ak st)) (len:∀ vs H Q E,sp vs H Q E->vs.length = ps.length)
  (hbody:∀ (cdv:Value) (A:Around) (outer:List Env) (s:Shared) (H:Hp) (vs:List V) (Q:VK) (E:XK),Room k (A.deeper (envOfC qual (ak st) s.heap.objs.size f cdv))->sp vs H Q E ->
   ∃ t,PSs (ig (CX2 P w base) P w K mg base N qual (ak st) f cdv A outer s H E) (dH st) t/\t { nx:=fun _ H'=>Q .non H',rt:=Q } (kT N vs) H):FnOk P w K mg base (CX2 P w base) (k + 1) f fd ps sp:=by
 obtain ⟨oc,od,kV,doc,pm,an,cdv,ct,osl,e1,lk,hcd⟩:=F.ex
 subst e1
 exact fn_of lk hcd S len fun A outer s H vs Q E hr hsp=>hbody cdv A outer s H vs Q E hr hsp
theorem passY:iP (CX2 P w base) (ig (CX2 P w base) P w K mg base N qual scope f cdv A outer s₀ H₀ E) E:=by
 intro pins σ H s e s' I hq
 obtain ⟨a,cls,a0,B,H2,dd,rfl,hos,hba,G,sl,fl,ha0,D,hw⟩:=hq
 have nof:∀ b o,s₀.heap.get? b = some o->b ∉ frs outer->b ∉ frs (envOfC qual scope s₀.heap.objs.size f cdv :: outer):=fun b o e1 nb hm=>by
  rcases List.mem_cons.mp (I.stkSub b hm) with z | z
  ·exact Nat.lt_irrefl _ (Nat.lt_of_lt_of_le (z ▸ Heap.lt_size e1) I.ok.above)
  ·exact nb z
 have nx:∀ b:Addr,b ∉ ([]:List Addr):=fun b z=>nomatch z
 have sub:∀ b ∈ frs outer,b ∈ frs (envOfC qual scope s₀.heap.objs.size f cdv :: outer):=fun b hb=>by
  obtain ⟨en,he,hf⟩:=List.mem_filterMap.mp hb
  exact List.mem_filterMap.mpr ⟨en,List.mem_cons_of_mem _ he,hf⟩
 refine tH I.ok.frames rfl fl D fun h2 fl2 D2 up=>?_
 refine ⟨a,cls,a0,B,H2,dd,rfl,hos.trans I.os,hba,⟨G.st,fun b o e1 n nb=>G.keep b o (I.base.keep b o e1 n nb (nx b)) (I.base.free b o e1 n (nx b)) (nof b o e1 nb),fun b o e1 n=>?_,fun b o e1 nb=>?_,
  fun b xs z=>G.tups b xs (I.base.tups b xs z),fun b o u z=>G.frzs b o u (I.base.frzs b o u z),fun b ps z=>?_,G.hok⟩,fun b hb o e1=>?_,fl2,ha0,D2,hw⟩
 ·obtain ⟨o',e2⟩:=I.base.there b o e1 (nx b)
  exact G.free b o' e2 (I.base.free b o e1 n (nx b))
 ·obtain ⟨o',e2⟩:=I.base.there b o e1 (nx b)
  exact G.there b o' e2 (nof b o e1 nb)
 ·obtain ⟨m1,e1⟩:=I.base.tbls b ps z
  obtain ⟨m2,e2⟩:=G.tbls b _ e1
  exact ⟨m1 ++ m2,by rw [e2,Array.append_assoc]⟩
 ·obtain ⟨l1,e2⟩:=I.base.slot b o e1 (I.ok.frf b hb) hb (nx b)
  obtain ⟨l2,e3⟩:=sl b (sub b hb) _ e2
  obtain ⟨_,o1,e4,d⟩:=fl.2.2.1.mem (sub b hb)
  rw [e3] at e4
  cases e4
  obtain ⟨l3,e5⟩:=up b _ e3 d
  exact ⟨l3,e5⟩
end
structure HasY (P:Program) (w:World) (K:Frag) (mg:Str->Option Value) (base:Heap) (k:Nat) (x:Str) (ps:List Str) (sp:Sp):Prop where
 ex:∃ (f:Addr) (fd:FuncData),FnOk P w K mg base (CX2 P w base) k f fd ps sp/\Binds K fd ps []/\keepIn K (.ref f) = true/\mg x = some (.ref f)
section
variable {P:Program} {w:World} {K:Frag} {mg:Str->Option Value} {base:Heap} {N:List Str} {qual:Str} {scope:Scope} {f:Addr} {cdv:Value} {A:Around} {outer:List Env} {s₀:Shared} {H₀:Hp} {E:XK}
theorem pe_fnYX {k:Nat} {x:Str} {ps:List Str} {sp:Sp} {p pos:Pos} {e:Expr} {es:List Expr} {t:TA} (h:HasY P w K mg base k x ps sp) (hr:Room k (ig (CX2 P w base) P w K mg base N qual scope f cdv A outer s₀ H₀ E).A)
  (hg:Gl (ig (CX2 P w base) P w K mg base N qual scope f cdv A outer s₀ H₀ E) x) (ha:PA (ig (CX2 P w base) P w K mg base N qual scope f cdv A outer s₀ H₀ E) (e :: es) t) (hdb:(x == ("__debug__":Str)) = false:=by decide)
  (he:starEach (e :: es) (ig (CX2 P w base) P w K mg base N qual scope f cdv A outer s₀ H₀ E).env = (false,eval e (ig (CX2 P w base) P w K mg base N qual scope f cdv A outer s₀ H₀ E).env) :: starEach es (ig (CX2 P w base) P w K mg base N qual scope f cdv A outer s₀ H₀ E).env:=by rfl)
  (hpl:(backTo pos (starEach es (ig (CX2 P w base) P w K mg base N qual scope f cdv A outer s₀ H₀ E).env)).any (·.1) = false:=by rfl) :
  PE (ig (CX2 P w base) P w K mg base N qual scope f cdv A outer s₀ H₀ E) (.Call (.Name x p) (e :: es) [] pos) (rB sp [] E t):=by
 obtain ⟨fa,fd,F,b,kp,m⟩:=h.ex
 exact oH F hr hg m kp b .nil passY ha hdb he hpl
end
theorem passYN {X:Cx}:iP (CX2 X.prog X.w X.base) X E0:=fun _ _ _ _ _ _ _ hq=>by
 obtain ⟨_,_,_,_,_,_,_,_,_,_,_,_,_,_,hw⟩:=hq
 exact hw.elim
theorem pe_fnYN {X:Cx} {k:Nat} {x:Str} {ps:List Str} {sp:Sp} {p pos:Pos} {e:Expr} {es:List Expr} {t:TA} (h:HasY X.prog X.w X.K X.mg X.base k x ps sp) (hr:Room k X.A) (hg:Gl X x) (ha:PA X (e :: es) t) (hdb:(x == ("__debug__":Str)) = false:=by decide)
  (he:starEach (e :: es) X.env = (false,eval e X.env) :: starEach es X.env:=by rfl) (hpl:(backTo pos (starEach es X.env)).any (·.1) = false:=by rfl):PE X (.Call (.Name x p) (e :: es) [] pos) (rB sp [] E0 t):=by
 obtain ⟨fa,fd,F,b,kp,m⟩:=h.ex
 exact oH F hr hg m kp b .nil passYN ha hdb he hpl
def tryCy (X:Cx) (pins:List (Addr × Obj)) (E:L2.St->XK):Cx:=(pinned X pins).wish fun e s'=>∃ (pins':List (Addr × Obj)) (σ':L2.St) (H:Hp) (s:Shared),Inv (pinned X pins) pins' σ' H s/\CX2 X.prog X.w X.base X.stack H s (E σ') e s'
theorem pe_fnYT {X:Cx} {pins:List (Addr × Obj)} {E:L2.St->XK} {k:Nat} {x:Str} {ps:List Str} {sp:Sp} {p pos:Pos} {e:Expr} {es:List Expr} {t:TA} (h:HasY X.prog X.w X.K X.mg X.base k x ps sp) (hr:Room k X.A) (hg:Gl X x) (ha:PA (tryCy X pins E) (e :: es) t) (hdb:(x == ("__debug__":Str)) = false:=by decide)
  (he:starEach (e :: es) X.env = (false,eval e X.env) :: starEach es X.env:=by rfl) (hpl:(backTo pos (starEach es X.env)).any (·.1) = false:=by rfl) :
  PE (tryCy X pins E) (.Call (.Name x p) (e :: es) [] pos) (tCallT sp E t):=by
 intro pins2 s σ H Q I ht
 obtain ⟨fa,fd,F,hbi,hk,hm⟩:=h.ex
 refine wpAny_Call_Name_kw (gy I hg hm ?_ hdb)
 refine PySem.W.callWith_K (h₀:=X.base) I.ok.mod.kin hk (thn (ha pos pins2 s σ H _ I ht) fun us s1 ⟨vs,H1,I1,r1,q1⟩=>⟨I1.kIn,?_⟩) he hpl
 have r2:Vals (vs ++ []) us:=by rw [List.append_nil]; exact r1
 have hl:us.length = ps.length:=by rw [<- r2.length]; exact F.len _ _ _ _ q1
 have bd:=hbi s1 us I1.kIn (by rw [List.append_nil]; exact hl)
 rw [List.append_nil] at bd
 refine wpAny_call (codeAny_mono (F.run X.A X.stack s1 H1 ⟨us,[]⟩ us (vs ++ []) _ _ hr I1.env0 bd r2 q1) fun r s' hq=>?_)
 cases r with
 | error ev=>exact ⟨pins2,σ,H1,s1,I1.unwish,hq⟩
 | ok fl =>
  cases fl with
  | ret u=>exact I1.after hq
  | next=>exact False.elim hq
  | brk=>exact False.elim hq
  | cont=>exact False.elim hq
section
variable {X:Cx} {j:Nat} {n c:Str} {C₁:Addr} {b₀:Stmt} {suite:List Stmt} {tb:Addr->Obj->TS} {np hpos:Pos}
theorem landY {cb:Bool} {pins:List (Addr × Obj)} {σ:L2.St} {H1:Hp} {s1 s':Shared} {D:Ends} {E:XK} {ev:Value} (I:Inv X pins σ H1 s1) (hq:CX2c cb X.prog X.w X.base X.stack H1 s1 E ev s') (hst:X.stack = X.env :: X.outer) (hfr:X.env.frame = some X.env.locals)
  (hN:X.N.Nodup) (hgc:Gl X c) (hmc:X.mg c = some (.ref C₁)) (hj:X.N[j]? = some n) (hnl:X.env.scope.names.lookup n = some .local) (hb:∀ (a:Addr) (oe:Obj),(cb = true->Ctx0 oe)->PSs (hB X a oe) (b₀ :: suite) (tb a oe)) (hno:X.xe = fun _ _=>False)
  (hE:∀ cls dd H2,E cls dd H2->exmOne X.K cls (.ref C₁) = some true/\∀ (a:Addr) (oe:Obj),oe.cls = cls->oe.dict = dd->PySem.W.notCls oe = true->H2 a = none->tb a oe (endsK j D) (σ.set j (some (.ref a))) H2) (hdc:(c == ("__debug__":Str)) = false) :
  wpAny (model X.prog X.w) X.A (noteFrame ev X.env) (fun _ s₂=>wpAny (model X.prog X.w) X.A (setFlight ev none) (fun _ s₃=>wpAny (model X.prog X.w) X.A (handleBy ev X.env [.ExceptHandler (some (.Name c np)) (some n) (b₀ :: suite) hpos]) (SP X pins D) X.xe s₃) X.xe s₂) X.xe s':=by
 obtain ⟨a,cls,a0,B,H2,dd,rfl,hos,hba,G,sl,fl,ha0,D0,hw⟩:=hq
 obtain ⟨hm,hsu⟩:=hE cls dd H2 hw
 have frm:X.A.frames = some (X.env :: X.outer):=hst ▸ I.ok.frames
 rw [hst] at fl
 have sl':Slots (frs (X.env :: X.outer)) s1.heap s'.heap:=hst ▸ sl
 refine p8 frm hfr fl D0 fun h4 hd4 D4 up4=>?_
 refine fH hd4.1 hd4.2.1 hd4.2.2.1 hd4.2.2.2 D4 fun h5 fl5 D5 up5=>?_
 have sl5:=(sl'.on fl.2.2.1 up4).on hd4.2.2.1 up5
 have inv:∀ (hh:Heap) (sx:Shared),sx.heap = hh->sx.os = s1.os->AllBare sx.gens->B.StaysIn hh->Slots (frs (X.env :: X.outer)) s1.heap hh->Inv X pins σ H2 sx:=fun hh sx e1 e2 e3 e4 e5=>by
  refine I.call' (ch:=[]) e2 ?_ ?_ e3 fun b z=>nomatch z
  ·rw [e1]; exact G.un e4 (hst ▸ e5)
  ·rw [e1]; exact G.hok.kept e4
 have I5:Inv X pins σ H2 { s' with heap:=h5 }:=inv h5 _ rfl hos hba fl5.1 sl5
 have noT:∀ hh:Heap,Heap.FlyingW B (X.env :: X.outer) a cls a0 hh->a ≠ X.env.locals/\a ∉ X.fs:=fun hh flx=>by
  obtain ⟨oe,ws,e1,_,e2,_⟩:=flx.first
  have key:∀ b ∈ frs (X.env :: X.outer),a ≠ b:=fun b hb z=>by
   obtain ⟨_,o,e3,d⟩:=flx.2.2.1.mem hb
   rw [<- z,e1] at e3
   cases e3
   exact d _ e2
  have mL:X.env.locals ∈ frs (X.env :: X.outer):=List.mem_filterMap.mpr ⟨X.env,List.mem_cons_self ..,hfr⟩
  refine ⟨key _ mL,fun z=>key a ?_ rfl⟩
  obtain ⟨en,he,hf⟩:=List.mem_filterMap.mp z
  exact List.mem_filterMap.mpr ⟨en,List.mem_cons_of_mem _ he,hf⟩
 obtain ⟨o5,ob5,oc5⟩:=fl5.there
 obtain ⟨_,w5,ob5',_,od5,_⟩:=fl5.first
 have I5c:Inv (hB X a o5) pins σ H2 { s' with heap:=h5 }:=kH I5 ob5 ha0 (noT h5 fl5).1 (noT h5 fl5).2 (fun v z=>by
  rw [ob5] at ob5'
  cases ob5'
  rw [od5] at z
  cases z)
 refine wpAny_handleBy_cons (codeAny_handlers_test (gy I5c hgc hmc ?_ hdc)) (by intro z; cases z)
 have LT:PySem.W.Looks (model X.prog X.w) h5 (typeOf (.ref a)) cls:=oc5 ▸ (PySem.W.Looks.ld ob5).andThen .now
 refine (PySem.W.exm_one (K:=X.K) I5.kIn LT hm).here ?_
 refine codeAny_handlers_suite_as ?_
 refine fH (s:={ s' with heap:=h5 }) fl5.1 fl5.2.1 fl5.2.2.1 fl5.2.2.2 D5 fun h6 fl6 D6 up6=>?_
 have I6:Inv X pins σ H2 { s' with heap:=h6 }:=inv h6 _ rfl hos hba fl6.1 (sl5.on fl5.2.2.1 up6)
 obtain ⟨o6,w6,ob6,oc6,od6,_⟩:=fl6.first
 obtain ⟨dd6,cc6⟩:o6.dict = dd/\(cb = true->Ctx0 o6):=by
  obtain ⟨o7,e7,d7,c7⟩:=D6
  rw [ob6] at e7
  cases e7
  exact ⟨d7,c7⟩
 have I6c:Inv (hB X a o6) pins σ H2 { s' with heap:=h6 }:=kH I6 ob6 ha0 (noT h6 fl6).1 (noT h6 fl6).2 (fun v z=>by rw [od6] at z; cases z)
 refine ic (X:=hB X a o6) I6c hN hj (.inl hnl) (v:=.ref a) rfl (fun s7 I7=>?_) (.inr hnl)
 refine wpAny_mono (hb a o6 cc6 pins s7 _ H2 _ I7 (hsu a o6 oc6 dd6 (by unfold PySem.W.notCls; rw [od6]) ha0)) (fun fw s8 q8=>?_) fun ex s8 q8=>?_
 ·cases fw with
  | ret u =>
   obtain ⟨v,σ8,H8,I8,r8,q8⟩:=q8
   obtain ⟨m8,n8,_⟩:=I8.loc
   refine wpAny_nameGoes (env:=X.env) hnl n8 (by rw [I.ok.kind]; rfl) fun h9 m9 n9 sb=>?_
   exact ⟨v,_,H8,rL I8 I.ok n9 sb,r8,q8⟩
  | next =>
   obtain ⟨σ8,H8,I8,q8⟩:=q8
   obtain ⟨m8,n8,l8⟩:=I8.loc
   refine wpAny_nameGoes_keeps (env:=X.env) hnl n8 (by rw [I.ok.kind]; rfl) fun h9 v9 n9 sb=>?_
   exact ⟨_,H8,qW I8 I.ok hN hj l8 n9 sb,q8⟩
  | brk=>obtain ⟨_,_,_,z⟩:=q8; exact False.elim z
  | cont=>obtain ⟨_,_,_,z⟩:=q8; exact False.elim z
 ·have z:X.xe ex s8:=q8
  rw [hno] at z
  exact False.elim z
end
def wishY (K:Frag) (C₁:Addr) (j:Nat) (ts:Addr->Obj->TS) (D:Ends):L2.St->XK:=fun σ' cls dd H2=>exmOne K cls (.ref C₁) = some true/\∀ (a:Addr) (oe:Obj),oe.cls = cls->oe.dict = dd->PySem.W.notCls oe = true->H2 a = none->ts a oe (endsK j D) (σ'.set j (some (.ref a))) H2
def tTryY (K:Frag) (C₁:Addr) (j:Nat) (tb:(L2.St->XK)->TS) (ts:Addr->Obj->TS):TS:=fun D σ H=>tb (wishY K C₁ j ts D) D σ H
theorem ps_tryYC {X:Cx} {j:Nat} {n c:Str} {C₁:Addr} {b₀:Stmt} {body suite:List Stmt} {tb:(L2.St->XK)->TS} {ts:Addr->Obj->TS} {np hpos tpos:Pos} (hbd:∀ pins E,PSs (tryCy X pins E) body (tb E)) (hN:X.N.Nodup) (hgc:Gl X c) (hmc:X.mg c = some (.ref C₁))
  (hj:X.N[j]? = some n) (hnl:X.env.scope.names.lookup n = some .local) (hb:∀ (a:Addr) (oe:Obj),Ctx0 oe->PSs (hB X a oe) (b₀ :: suite) (ts a oe)) (hno:X.xe = fun _ _=>False:=by rfl) (hst:X.stack = X.env :: X.outer:=by rfl) (hfr:X.env.frame = some X.env.locals:=by rfl)
  (hdc:(c == ("__debug__":Str)) = false:=by decide):PS X (.Try body [.ExceptHandler (some (.Name c np)) (some n) (b₀ :: suite) hpos] [] [] tpos) (tTryY X.K C₁ j tb ts):=by
 intro pins s σ H D I ht
 refine wpAny_Try_except (wpAny_mono (hbd pins (wishY X.K C₁ j ts D) [] s σ H D ((rJ I).wish _) ht) (fun fl s1 q=>?_) fun ev s1 q=>?_)
 ·cases fl with
  | next=>obtain ⟨σ',H',I',q⟩:=q; exact wpAny_execs_nil ⟨σ',H',eI I.ok I'.unwish,q⟩
  | brk=>obtain ⟨σ',H',I',q⟩:=q; exact ⟨σ',H',eI I.ok I'.unwish,q⟩
  | cont=>obtain ⟨σ',H',I',q⟩:=q; exact ⟨σ',H',eI I.ok I'.unwish,q⟩
  | ret u=>obtain ⟨v,σ',H',I',r,q⟩:=q; exact ⟨v,σ',H',eI I.ok I'.unwish,r,q⟩
 ·obtain ⟨pins2,σ2,H2,s2,I2,hq⟩:=q
  exact landY (eI I.ok I2) hq hst hfr hN hgc hmc hj hnl (fun a oe h=>hb a oe (h rfl)) hno (fun cls dd H3 z=>z) hdc
theorem ps_tryY {X:Cx} {j:Nat} {n c:Str} {C₁:Addr} {b₀:Stmt} {body suite:List Stmt} {tb:(L2.St->XK)->TS} {ts:Addr->Obj->TS} {np hpos tpos:Pos} (hbd:∀ pins E,PSs (tryCy X pins E) body (tb E)) (hN:X.N.Nodup) (hgc:Gl X c) (hmc:X.mg c = some (.ref C₁))
  (hj:X.N[j]? = some n) (hnl:X.env.scope.names.lookup n = some .local) (hb:∀ (a:Addr) (oe:Obj),PSs (hB X a oe) (b₀ :: suite) (ts a oe)) (hno:X.xe = fun _ _=>False:=by rfl) (hst:X.stack = X.env :: X.outer:=by rfl) (hfr:X.env.frame = some X.env.locals:=by rfl)
  (hdc:(c == ("__debug__":Str)) = false:=by decide):PS X (.Try body [.ExceptHandler (some (.Name c np)) (some n) (b₀ :: suite) hpos] [] [] tpos) (tTryY X.K C₁ j tb ts) :=
 ps_tryYC hbd hN hgc hmc hj hnl (fun a oe _=>hb a oe) hno hst hfr hdc
end Ow
namespace Ow
open PySem PySem.Spec PyProof.Rows L2
section
variable {prog:Program} {w:World} {A:Around} {E:Value->Shared->Prop} {h:Heap} {g:Array GenState} {d:Drawn} {t:Nat} {os:OsState} {K:Frag} {a C D:Addr} {o od:Obj} {name:Str} {v:Value}
theorem xat (hx:h.get? a = some o) (hc:o.cls = .ref C) (hd:o.dict = some D) (hn:PySem.W.notCls o = true) (gd:h.get? D = some od):PySem.W.InstAt h a o C (some od):=⟨hx,hc,hn,by rw [hd]; exact gd⟩
theorem qO {tk:Tok} {Q:Fin->Shared->Prop} (X:K.In h) (I:PySem.W.InstAt h a o C (some od)) (hf:PySem.W.findObj K C (some od) name = some (.value v)) (hq:Q (.done (.ret v)) ⟨h,g,d,t,os⟩) :
  wpAny (model prog w) A (Builtin.«object.__getattribute__» ⟨[.ref a,.str name tk],[]⟩) Q E ⟨h,g,d,t,os⟩:=by
 have L0:=I.type (M:=model prog w)
 have L1:=PySem.W.looks_find (M:=model prog w) X I hf
 refine wpAny_bind (wpAny_pure (wpAny_bind (wpAny_pure (wpAny_bind (L0.at (wpAny_bind (L1.at ?_)))))))
 exact wpAny_pure hq
theorem getx_by {tk:Tok} {fill ex:Bool} {Q:Value->Shared->Prop} (X:K.In h) (f:ExF K C) (I:PySem.W.InstAt h a o C (some od)) (hf:PySem.W.findObj K C (some od) name = some (.value v)) (hv:PySem.W.handedIn v = true) (hq:Q v ⟨h,g,d,t,os⟩) :
  wpAny (model prog w) A (getAttrBy (.ref a) (.str name tk) fill ex) Q E ⟨h,g,d,t,os⟩:=by
 have hx:=I.at_
 have hc:=I.cls
 have f3:=F.attr_ValueError.ga.bind (.ref a)
 have L1:=PySem.W.looks_findIn (M:=model prog w) X f.ga
 have L2:=PySem.W.looks_findIn (M:=model prog w) X f.gn
 have hx2:(Value.builtin "BaseException.__getattribute__" == Value.builtin "object.__getattribute__") = false:=by decide +kernel
 have hx1:(onTheHeap (Value.ref C) && Value.builtin "BaseException.__getattribute__" == Value.builtin "object.__getattribute__") = false:=by rw [hx2]; rfl
 have hx0:(ex && onTheHeap (Value.builtin "BaseException.__getattribute__")) = false:=by cases ex <;> rfl
 have hho:=PySem.W.handedOut_of hv
 repeat (any_goals (first | assumption | (with_reducible refine wpAny_loadPart_at hx ?_; rw [hc]) | with_reducible refine L1.at ?_ | with_reducible refine L2.at ?_ | wp_step))
 refine codeAny_call_builtin F.attr_ValueError.ga.plain F.entry_bexc_ga (tU X f hx hc (qO X I hf ?_))
 repeat (any_goals (first | assumption | wp_step))
theorem getx {ex:Bool} {Q:Value->Shared->Prop} (X:K.In h) (f:ExF K C) (I:PySem.W.InstAt h a o C (some od)) (hf:PySem.W.findObj K C (some od) name = some (.value v)) (hv:PySem.W.handedIn v = true) (hq:Q v ⟨h,g,d,t + 1,os⟩) :
  wpAny (model prog w) A (getAttr (.ref a) name ex) Q E ⟨h,g,d,t,os⟩:=by
 unfold getAttr
 exact wpAny_bind (wpAny_mkText (getx_by X f I hf hv hq))
end
def tXf (K:Frag) (ta:TE) (a:Addr) (oe:Obj) (f:Str):TE:=fun σ H Q=>ta σ H fun x H1=>∃ C D fs v,x = .ref a/\oe.cls = .ref C/\oe.dict = some D/\PySem.W.notCls oe = true/\ExF K C/\hasDictIn K C = true/\NoAttr K C f/\H1 D = some (.xd fs)/\fs.lookup f = some v/\Q v H1
theorem pe_xf {X:Cx} {a:Addr} {oe:Obj} {f:Str} {e:Expr} {ta:TE} {pos:Pos} (hp:(a,oe) ∈ X.pn) (he:PE X e ta) (hb:attributeBase e f X.env (eval e X.env) = eval e X.env):PE X (.Attribute e f pos) (tXf X.K ta a oe f):=by
 intro pins s σ H Q I h
 refine sw hb (thn (he pins s σ H _ I h) fun u s1 ⟨x,H1,I1,rx,C,D,fs,v,ex,hc,hd,hn,f1,f2,f3,hD,hl,q⟩=>?_)
 subst ex
 obtain rfl:u = Value.ref a:=rx
 have pa:=I1.pin _ (List.mem_append_left _ hp)
 obtain ⟨mA,ns,r⟩:=I1.hok D _ hD
 obtain ⟨od,gd,hlk⟩:=mZ ns
 obtain ⟨v',hv,rv⟩:=RelO.some_of (v:=v) (o:=mA f) (by rw [<- hl]; exact r f)
 obtain ⟨hh,g,d,t,os⟩:=s1
 exact getx I1.kIn f1 (xat pa.1 hc hd hn gd) (PySem.W.findObj_own f2 f3 rfl (by rw [hlk,hv])) (mW rv) ⟨v,H1,I1.tok _,rv,q⟩
end Ow
namespace Ow
open PySem PySem.Spec PyProof.Rows L2
end Ow
namespace Ow
open PySem PySem.Spec PyProof.Rows L2
section
variable {prog:Program} {w:World} {A:Around} {E:Value->Shared->Prop} {s:Shared} {a:Addr} {o:Obj} {ks:List Int} {k:Int} {tk:Tok}
end
end Ow
namespace Ow
open PySem PySem.Spec PyProof.Rows L2
section
variable {prog:Program} {w:World} {A:Around} {R:Result->Shared->Prop} {I:Addr} {fp wr:List Addr} {G:Array GenState->Array GenState->Prop} {n:Nat} {P:Nat->Value->Prop} {St:Nat->Shared->Prop}
end
section
variable {prog:Program} {w:World} {A:Around} {E:Value->Shared->Prop} {s:Shared}
end
end Ow
namespace Ow
open PySem PySem.Spec PyProof.Rows L2
section
variable {prog:Program} {w:World} {A:Around} {E:Value->Shared->Prop} {s:Shared} {S I:Addr} {es:Array (Int × Value)} {ep:Nat} {t:SetTable}
end
end Ow
namespace Ow
open PySem PySem.Spec PyProof.Rows L2
section
variable {prog:Program} {w:World} {A:Around} {E:Value->Shared->Prop} {s:Shared} {S I:Addr} {es:Array (Int × Value)} {ep:Nat} {t:SetTable}
end
end Ow
namespace Ow
open PySem PySem.Spec PyProof.Rows L2
section
variable {prog:Program} {w:World} {A:Around} {E:Value->Shared->Prop} {s:Shared} {S:Addr} {es:Array (Int × Value)} {ep:Nat} {t:SetTable}
end
end Ow
namespace Ow
open PySem PySem.Spec PyProof.Rows L2
section
variable {prog:Program} {w:World} {A:Around} {E:Value->Shared->Prop} {s:Shared} {S:Addr} {es:Array (Int × Value)} {ep:Nat} {t:SetTable}
end
end Ow
namespace Ow
open PySem PySem.Spec PyProof.Rows L2
section
variable {prog:Program} {w:World} {A:Around} {E:Value->Shared->Prop} {s:Shared} {S:Addr} {o:Obj} {ks:List Int}
end
end Ow
namespace Ow
open PySem PySem.Spec PyProof.Rows L2
theorem Has.imp {P:Program} {w:World} {K:Frag} {mg:Str->Option Value} {base:Heap} {k:Nat} {x:Str} {ps:List Str} {sp sp':Sp} (h:Has P w K mg base k x ps sp) (i:∀ vs H Q E,sp' vs H Q E->sp vs H Q E):Has P w K mg base k x ps sp':=by
 obtain ⟨f,fd,F,b,kp,m⟩:=h.ex
 exact ⟨f,fd,F.imp i,b,kp,m⟩
theorem dk_none {P:Program} {w:World} {H:Hp} (h:Heap) (hb:sysModules < h.objs.size):ObjOk P w H (h.push { cls:=.type "dict",data:=.dict #[] }) h.objs.size (.dK []) :=
 ⟨Nat.zero_le _,beq_eq_false_iff_ne.mpr (Ne.symm (Nat.ne_of_lt hb)),[],.nil,Heap.DictOf.new h⟩
theorem inv_big {X:Cx} {pins:List (Addr × Obj)} {σ:L2.St} {H:Hp} {s:Shared} (I:Inv X pins σ H s):sysModules < s.heap.objs.size:=by
 have h1:=I.ok.mod.glob.lt
 have h2:=Nat.le_trans I.ok.bsz I.sz
 exact Nat.lt_of_lt_of_le (Nat.lt_of_le_of_lt (by decide) h1) h2
def tDNew:TE:=fun _ H Q=>∀ p,H p = none->Q (.ref p) (upd H p (.dK []))
theorem fP {X:Cx} {pos:Pos}:PE X (.Dict [] [] pos) tDNew:=fun pins s σ H Q I h =>
 wpAny_Dict_empty ⟨.ref s.heap.objs.size,_,I.laid (a:=s.heap.objs.size) (o:=.dK []) (t':=s.toks) (fun _ _ q=>Heap.get?_push_of_some _ q) (Nat.le_refl _) (dk_none s.heap (inv_big I)),rfl,h _ (I.hok.fresh (Nat.le_refl _))⟩
inductive Th (H:Hp):V->Prop where
 | int (i:Int):Th H (.int i)
 | bl (b:Bool):Th H (.bl b)
 | str (x:Str):Th H (.str x)
 | non:Th H .non
 | lst {a:Addr} {xs:List V} (h:H a = some (.lst xs)):Th H (.ref a)
 | tup {a:Addr} {xs:List V} (h:H a = some (.tup xs)):Th H (.ref a)
 | dct {a:Addr} {kvs:List (Key × V)} (h:H a = some (.dK kvs)):Th H (.ref a)
theorem Th.same {H H':Hp} {x:V} (t:Th H x) (s:Same H H'):Th H' x:=by
 cases t with
 | int i=>exact .int i
 | bl b=>exact .bl b
 | str x=>exact .str x
 | non=>exact .non
 | lst h=>exact .lst (s _ _ h)
 | tup h=>exact .tup (s _ _ h)
 | dct h=>exact .dct (s _ _ h)
def isI:V->Bool
 | .int _=>true
 | _=>false
def btw (x:V) (lo hi:Int):Bool:=match x with
 | .int i=>decide (lo<=i) && decide (i<=hi)
 | _=>false
theorem btw_not {x:V} {lo hi:Int} (h:isI x = false):btw x lo hi = false:=by
 cases x <;> first | rfl | cases h
theorem oS (K:Frag):kitOne K (.type "str") (.type "int") = some false:=by with_unfolding_all rfl
theorem pu (K:Frag):kitOne K (.type "NoneType") (.type "int") = some false:=by with_unfolding_all rfl
theorem o9 (K:Frag):kitOne K (.type "list") (.type "int") = some false:=by with_unfolding_all rfl
theorem oq (K:Frag):kitOne K (.type "tuple") (.type "int") = some false:=by with_unfolding_all rfl
theorem oz (K:Frag):kitOne K (.type "dict") (.type "int") = some false:=by with_unfolding_all rfl
def jf:Sp:=fun vs H Q _=>∃ x:V,vs = [x]/\Th H x/\Q (.bl (isI x)) H
def qh:Sp:=fun vs H Q _=>∃ (x:V) (lo hi:Int),vs = [x,.int lo,.int hi]/\Th H x/\Q (.bl (btw x lo hi)) H
end Ow
namespace Ow
open PySem PySem.Spec PyProof.Rows L2
def tMethQ (P:Program) (w:World) (K:Frag) (mg:Str->Option Value) (base:Heap) (k:Nat) (m:Str) (ta:TE) (t:TA):TE:=fun σ H Q=>ta σ H fun x H1=>∃ (a C dx:Addr) (fs:List (Str × V)) (ps:List Str) (sp:Sp),x = .ref a/\H1 a = some (.ins C dx fs)/\fs.lookup m = none /\
 MHas P w K mg base k C m ps sp/\t σ H1 fun vs H2=>sp (x :: (vs ++ [])) H2 Q E0
theorem sQ {K:Frag} {C D:Addr} (h1:isClsIn K D = true) (h2:typeIn K (.ref D) = some (.type "type")) (h3:mroIn K C (.ref D) = some true):kitOne K (.ref C) (.ref D) = some true:=by
 unfold kitOne
 split
 ·rfl
 ·unfold PySem.W.kitCls
  have e:((PySem.W.clsIn K D).isSome && typeIn K (.ref D) == some (.type "type")) = true:=by
   rw [h2]
   have h1':(PySem.W.clsIn K D).isSome = true:=h1
   rw [h1',Bool.true_and]
   exact beq_self_eq_true _
  show (if ((PySem.W.clsIn K D).isSome && typeIn K (.ref D) == some (.type "type")) = true then PySem.W.subIn K (.ref C) (.ref D) else none) = _
  rw [if_pos e]
  exact h3
end Ow
namespace Ow
open PySem PySem.Spec PyProof.Rows L2
end Ow
namespace Ow
open PySem PySem.Spec PyProof.Rows L2
section
variable {X:Cx}
end
def Its (z:Str):It where
 go:=fun i _=>i < z.cps.size
 yld:=fun i H x H'=>H' = H/\∃ c,z.cps[i]? = some c/\x = .str ⟨#[c]⟩
 stop:=fun i _=>z.cps.size<=i
theorem q9 {P:Program} {w:World} {K:Frag} {tg:Expr} (it:Addr) (z:Str) (t:Tok):Turn P w K tg (Its z) [it] it (fun i h=>h.IsStrIter it "str_ascii_iterator" z t i) where
 mem:=by simp
 obj:=fun i h st b hb=>by
  have e:b = it:=by simpa using hb
  subst e
  obtain ⟨o,e,c,d⟩:=st
  exact ⟨o,e,fun v z=>by rw [d] at z; cases z⟩
 keep:=fun i h h' st k=>let ⟨o,ho,r⟩:=st; ⟨o,k it (by simp) o ho,r⟩
 item:=by
  intro X hP hw hK hc i pins s σ H E I hf st hg
  subst hP hw hK
  obtain ⟨f0,f1,f2,f3,f4,f5⟩:=hf it (by simp)
  have hi:i < z.cps.size:=hg
  refine wpAny_pyNext_ascii_item st (c:=z.cps[i]) (by simp [hi]) fun h' st' sb=>?_
  have I1:Inv X pins σ H { s with heap:=h',toks:=s.toks + 1 }:=I.turned (t':=s.toks + 1) (fun b o hb e=>(sb.2 b hb).trans e) f0 f1 f3 f4 f5
  obtain ⟨o,e,c,d⟩:=id st'
  exact ⟨_,rfl,rD (s:={ s with heap:=h',toks:=s.toks + 1 }) e c d (by decide) ⟨.str ⟨#[z.cps[i]]⟩,H,I1,⟨_,rfl⟩,⟨rfl,_,by simp [hi],rfl⟩,st',fun b hb=>(hf b hb).1⟩⟩
 done:=by
  intro X hP hw hK hc i pins s σ H E I hf st hg
  subst hP hw hK
  obtain ⟨f0,f1,f2,f3,f4,f5⟩:=hf it (by simp)
  have hi:z.cps.size<=i:=hg
  exact wpAny_pyNext_ascii_end (I.ok.hd hc) st (by simp [hi]) fun h' eb=>⟨rfl,I.turned (t':=s.toks) (fun b o hb e=>eb b o hb e) f0 f1 f3 f4 f5⟩
 self:=fun _ _ _ _ _ st h=>wpAny_pyIter_striter_ascii st h
theorem sd {P:Program} {w:World} {K:Frag} {tg:Expr} (it:Addr) (z:Str) (t:Tok):Turn P w K tg (Its z) [it] it (fun i h=>h.IsStrIter it "str_iterator" z t i) where
 mem:=by simp
 obj:=fun i h st b hb=>by
  have e:b = it:=by simpa using hb
  subst e
  obtain ⟨o,e,c,d⟩:=st
  exact ⟨o,e,fun v z=>by rw [d] at z; cases z⟩
 keep:=fun i h h' st k=>let ⟨o,ho,r⟩:=st; ⟨o,k it (by simp) o ho,r⟩
 item:=by
  intro X hP hw hK hc i pins s σ H E I hf st hg
  subst hP hw hK
  obtain ⟨f0,f1,f2,f3,f4,f5⟩:=hf it (by simp)
  have hi:i < z.cps.size:=hg
  refine wpAny_pyNext_wide_item st (c:=z.cps[i]) (by simp [hi]) fun h' st' sb=>?_
  have I1:Inv X pins σ H { s with heap:=h',toks:=s.toks + 1 }:=I.turned (t':=s.toks + 1) (fun b o hb e=>(sb.2 b hb).trans e) f0 f1 f3 f4 f5
  obtain ⟨o,e,c,d⟩:=id st'
  exact ⟨_,rfl,rD (s:={ s with heap:=h',toks:=s.toks + 1 }) e c d (by decide) ⟨.str ⟨#[z.cps[i]]⟩,H,I1,⟨_,rfl⟩,⟨rfl,_,by simp [hi],rfl⟩,st',fun b hb=>(hf b hb).1⟩⟩
 done:=by
  intro X hP hw hK hc i pins s σ H E I hf st hg
  subst hP hw hK
  obtain ⟨f0,f1,f2,f3,f4,f5⟩:=hf it (by simp)
  have hi:z.cps.size<=i:=hg
  exact wpAny_pyNext_wide_end (I.ok.hd hc) st (by simp [hi]) fun h' eb=>⟨rfl,I.turned (t':=s.toks) (fun b o hb e=>eb b o hb e) f0 f1 f3 f4 f5⟩
 self:=fun _ _ _ _ _ st h=>wpAny_pyIter_striter_wide st h
def iStr (tl:TE):TI:=fun σ H R=>tl σ H fun x H1=>∃ z,x = .str z/\R (Its z) H1
theorem pi_str {X:Cx} {tg l:Expr} {tl:TE} (hl:PE X l tl):PI X tg l (iStr tl):=by
 intro pins s σ H R I h
 refine thn (hl pins s σ H _ I h) fun v s1 ⟨x,H1,I1,r1,q1⟩=>?_
 obtain ⟨z,e,q⟩:=q1
 subst e
 obtain ⟨t,rfl⟩:=r1
 have ff:∀ b ∈ [s1.heap.objs.size],FpOk X pins H1 b:=fun b hb=>by
  have e:b = s1.heap.objs.size:=by simpa using hb
  subst e
  exact I1.fpOk (Nat.le_refl _) (I1.hok.fresh (Nat.le_refl _))
 cases ha:z.cps.all (· < 128) with
 | true=>exact wpAny_pyIter_ascii ha ⟨s1.heap.objs.size,[s1.heap.objs.size],_,_,H1,rfl,I1.kept (t':=s1.toks) fun b o e=>Heap.get?_push_of_some _ e,q9 _ z t,⟨_,Heap.get?_push_size _ rfl,rfl,rfl⟩,ff,q⟩
 | false=>exact wpAny_pyIter_wide ha ⟨s1.heap.objs.size,[s1.heap.objs.size],_,_,H1,rfl,I1.kept (t':=s1.toks) fun b o e=>Heap.get?_push_of_some _ e,sd _ z t,⟨_,Heap.get?_push_size _ rfl,rfl,rfl⟩,ff,q⟩
end Ow
namespace Ow
open PySem PySem.Spec PyProof.Rows L2
section
variable {prog:Program} {w:World} {K:Type} [DecidableEq K] {knd:KeyKind prog w K} {A:Around} {E:Value->Shared->Prop} {s:Shared}
end
section
variable {prog:Program} {w:World} {A:Around} {E:Value->Shared->Prop} {s:Shared}
end
section
variable {X:Cx}
end
def qm:Expr->Bool
 | .Starred _ _=>false
 | _=>true
theorem sV {e:Expr} (h:qm e = true) (rest:List Expr) (env:Env):starEach (e :: rest) env = (false,eval e env) :: starEach rest env:=by
 cases e <;> first | rfl | cases h
theorem p4 {X:Cx} {e:Expr} {es:List Expr} {te:TE} {t:TA} (ha:PE X e te) (hr:PA X es t) (hn:qm e = true:=by rfl):PA X (e :: es) (tCons te t):=ae ha hr (sV hn es X.env)
structure Sl (p:Prop):Prop where
 out:p
section
variable {X:Cx}
theorem kK {i:Nat} {x:Str} {e:Expr} {te:TE} {pos pos':Pos} (hN:X.N.Nodup) (hi:X.N[i]? = some x) (hx:Loc X.env.scope x) (he:Sl (PE X e te)) (hs:swapsWith e (some (.Name x pos')) pos.line X.env = pure false:=by rfl) (hf:X.fn x = true\/X.env.scope.names.lookup x = some .local:=by first | exact .inl rfl | exact .inr rfl | assumption) :
  Sl (PS X (.Assign [.Name x pos'] e pos) (tAsg te (sR i))):=⟨aH hN hi hx he.out hs hf⟩
theorem jN {es:List Expr} {t:TA} {pos:Pos} (h:Sl (PA X es t)):Sl (PE X (.List es pos) (tLst t)):=⟨bt h.out⟩
theorem aF {e:Expr} {es:List Expr} {te:TE} {t:TA} (ha:PE X e te) (hr:Sl (PA X es t)) (hn:qm e = true:=by rfl):Sl (PA X (e :: es) (tCons te t)):=⟨p4 ha hr.out hn⟩
theorem ee:Sl (PA X [] tNil):=⟨ah⟩
end
end Ow
namespace L2
open PySem PySem.Spec PyProof.Rows
section
variable {κ:Type} [DecidableEq κ]
def cX (kvs:List (κ × V)) (k:κ):Option V:=(kvs.find? fun kv=>decide (kv.1 = k)).map (·.2)
def cp (kvs:List (κ × V)) (k:κ) (v:V):List (κ × V) :=
 if (kvs.any fun kv=>decide (kv.1 = k)) = true then kvs.map (fun kv=>if kv.1 = k then (kv.1,v) else kv) else kvs ++ [(k,v)]
theorem bq {p:κ × V} {r:List (κ × V)} {k:κ} (e:p.1 = k):cX (p :: r) k = some p.2:=by simp [cX,List.find?_cons,e]
theorem bi {p:κ × V} {r:List (κ × V)} {k:κ} (e:¬ p.1 = k):cX (p :: r) k = cX r k:=by simp [cX,List.find?_cons,e]
theorem cK (k:κ):∀ kvs:List (κ × V),(kvs.any fun kv=>decide (kv.1 = k)) = (cX kvs k).isSome
 | []=>rfl
 | p :: r=>by
  rw [List.any_cons]
  by_cases e:p.1 = k
  ·simp only [bq e,decide_eq_true e,Bool.true_or,Option.isSome_some]
  ·rw [bi e,decide_eq_false e,Bool.false_or]; exact cK k r
theorem qo (k j:κ) (y:V):∀ kvs:List (κ × V),cX (kvs.map fun kv=>if kv.1 = k then (kv.1,y) else kv) j = (cX kvs j).map fun x=>if j = k then y else x
 | []=>rfl
 | p :: r=>by
  have ih:=qo k j y r
  rw [List.map_cons]
  by_cases h:p.1 = k
  ·rw [if_pos h]
   by_cases e:p.1 = j
   ·rw [bq (p:=(p.1,y)) e,bq e,Option.map_some,if_pos (e.symm.trans h)]
   ·rw [bi (p:=(p.1,y)) e,bi e,ih]
  ·rw [if_neg h]
   by_cases e:p.1 = j
   ·rw [bq (p:=p) e,bq e,Option.map_some,if_neg (fun z=>h (e.trans z))]
   ·rw [bi (p:=p) e,bi e,ih]
theorem m7 (k j:κ) (y:V):∀ kvs:List (κ × V),cX kvs k = none->cX (kvs ++ [(k,y)]) j = if j = k then some y else cX kvs j
 | [],_=>by
  by_cases e:k = j
  ·rw [if_pos e.symm]; exact bq (p:=(k,y)) e
  ·rw [if_neg (fun z=>e z.symm)]; exact bi (p:=(k,y)) e
 | p :: r,hn=>by
  rw [List.cons_append]
  have hk:¬ p.1 = k:=fun z=>by rw [bq z] at hn; cases hn
  rw [bi hk] at hn
  have ih:=m7 k j y r hn
  by_cases e:p.1 = j
  ·rw [bq e,bq e,if_neg (fun z=>hk (e.trans z))]
  ·rw [bi e,bi e,ih]
theorem qf (kvs:List (κ × V)) (k j:κ) (y:V):cX (cp kvs k y) j = if j = k then some y else cX kvs j:=by
 unfold cp
 by_cases a:(kvs.any fun kv=>decide (kv.1 = k)) = true
 ·rw [if_pos a,qo]
  rw [cK] at a
  by_cases e:j = k
  ·obtain ⟨x,hx⟩:=Option.isSome_iff_exists.mp a
   rw [if_pos e,e,hx,Option.map_some,if_pos rfl]
  ·rw [if_neg e]
   cases cX kvs j with
   | none=>rfl
   | some x=>rw [Option.map_some,if_neg e]
 ·rw [if_neg a]
  refine m7 k j y kvs ?_
  rw [cK] at a
  cases q:cX kvs k with
  | none=>rfl
  | some x=>rw [q] at a; exact (a rfl).elim
theorem bA (kvs:List (κ × V)) (k:κ) (v:V):(cp kvs k v).length<=kvs.length + 1:=by
 unfold cp
 split
 ·rw [List.length_map]; omega
 ·rw [List.length_append,List.length_cons,List.length_nil]; omega
theorem fR {kvs:List (κ × V)} {k:κ} (v:V) (h:cX kvs k = none):cp kvs k v = kvs ++ [(k,v)]:=by
 unfold cp
 rw [cK,h]
 exact if_neg (by decide)
theorem RelO.isSome_eq {o:Option V} {u:Option Value} (r:RelO o u):o.isSome = u.isSome:=by
 cases o with
 | none=>cases u with
  | none=>rfl
  | some _=>exact (show False from r).elim
 | some _=>cases u with
  | none=>exact (show False from r).elim
  | some _=>rfl
theorem RelO.getD {o:Option V} {u:Option Value} {d:V} {d':Value} (r:RelO o u) (rd:RelV d d'):RelV (o.getD d) (u.getD d'):=by
 cases o with
 | none=>cases u with
  | none=>exact rd
  | some _=>exact (show False from r).elim
 | some _=>cases u with
  | none=>exact (show False from r).elim
  | some _=>exact r
theorem KV.val {kvs:List (κ × V)} {vs:List (κ × Value)} (r:KV kvs vs) (k:κ):RelO (cX kvs k) (valueAt vs k):=by
 unfold KV at r
 induction r with
 | nil=>exact True.intro
 | @cons p q ps qs h t ih =>
  obtain ⟨h1,h2⟩:=h
  by_cases e:p.1 = k
  ·have e':q.1 = k:=h1.symm.trans e
   have b:valueAt (q :: qs) k = some q.2:=by simp [valueAt,List.find?_cons,e']
   rw [bq e,b]; exact h2
  ·have e':¬ q.1 = k:=fun z=>e (h1.trans z)
   have b:valueAt (q :: qs) k = valueAt qs k:=by simp [valueAt,List.find?_cons,e']
   rw [bi e,b]; exact ih
theorem KV.any {kvs:List (κ × V)} {vs:List (κ × Value)} (r:KV kvs vs) (k:κ):(kvs.any fun kv=>decide (kv.1 = k)) = vs.any fun kv=>decide (kv.1 = k):=by
 unfold KV at r
 induction r with
 | nil=>rfl
 | cons h t ih=>rw [List.any_cons,List.any_cons,ih,h.1]
theorem KV.repl {kvs:List (κ × V)} {vs:List (κ × Value)} (r:KV kvs vs) (k:κ) {y:V} {u:Value} (ry:RelV y u) :
  KV (kvs.map fun kv=>if kv.1 = k then (kv.1,y) else kv) (vs.map fun kv=>if kv.1 = k then (kv.1,u) else kv):=by
 unfold KV at r ⊢
 induction r with
 | nil=>exact .nil
 | @cons p q ps qs h t ih =>
  rw [List.map_cons,List.map_cons]
  refine .cons ?_ ih
  obtain ⟨h1,h2⟩:=h
  by_cases e:p.1 = k
  ·rw [if_pos e,if_pos (h1.symm.trans e)]; exact ⟨h1,ry⟩
  ·rw [if_neg e,if_neg (fun z=>e (h1.trans z))]; exact ⟨h1,h2⟩
theorem KV.put {kvs:List (κ × V)} {vs:List (κ × Value)} (r:KV kvs vs) (k:κ) {y:V} {u:Value} (ry:RelV y u):KV (cp kvs k y) (stored vs k u):=by
 unfold cp stored
 rw [r.any k]
 by_cases e:(vs.any fun kv=>decide (kv.1 = k)) = true
 ·rw [if_pos e,if_pos e]; exact r.repl k ry
 ·rw [if_neg e,if_neg e]; exact Paired.snoc r ⟨rfl,ry⟩
theorem KV.keys {kvs:List (κ × V)} {vs:List (κ × Value)} (r:KV kvs vs):kvs.map (·.1) = vs.map (·.1):=by
 unfold KV at r
 induction r with
 | nil=>rfl
 | cons h t ih=>rw [List.map_cons,List.map_cons,ih,h.1]
theorem KV.length {kvs:List (κ × V)} {vs:List (κ × Value)} (r:KV kvs vs):kvs.length = vs.length:=Paired.length r
end
theorem tD {P:Program} {w:World} {k:Key} {u:Value} (r:RelV (kV k) u):(aM P w).is k u = true:=by
 cases k with
 | inl i=>obtain ⟨t,e⟩:=(show ∃ t,u = Value.int i t from r); subst e; exact pc P w i t
 | inr x=>obtain ⟨t,e⟩:=(show ∃ t,u = Value.str x t from r); subst e; exact oY P w x t
theorem nc {P:Program} {w:World}:∀ {ks:List Key} {us:List Value},Vals (ks.map kV) us->ItemsAre (aM P w) ks us
 | [],_,r=>by rw [List.map_nil] at r; cases r; exact .nil
 | k :: ks,_,r=>by
  rw [List.map_cons] at r
  cases r with
  | cons h t=>exact .cons (tD h) (nc t)
abbrev KT (H:Hp):List (List Key × V)->List (List Key × Addr × Value)->Prop:=Paired fun p q=>p.1 = q.1/\H q.2.1 = some (.tup (p.1.map kV))/\RelV p.2 q.2.2
theorem KT.val {H:Hp} {kvs:List (List Key × V)} {xs:List (List Key × Addr × Value)} (r:KT H kvs xs) (k:List Key):RelO (cX kvs k) ((atKey xs k).map (·.2)):=by
 induction r with
 | nil=>exact True.intro
 | @cons p q ps qs h t ih =>
  obtain ⟨h1,_,h2⟩:=h
  by_cases e:p.1 = k
  ·have e':q.1 = k:=h1.symm.trans e
   have b:atKey (q :: qs) k = some q.2:=by simp [atKey,List.find?_cons,e']
   rw [bq e,b]; exact h2
  ·have e':¬ q.1 = k:=fun z=>e (h1.trans z)
   have b:atKey (q :: qs) k = atKey qs k:=by simp [atKey,List.find?_cons,e']
   rw [bi e,b]; exact ih
theorem KT.repl {H:Hp} {kvs:List (List Key × V)} {xs:List (List Key × Addr × Value)} (r:KT H kvs xs) (k:List Key) {y:V} {u:Value} (ry:RelV y u) :
  KT H (kvs.map fun kv=>if kv.1 = k then (kv.1,y) else kv) (xs.map (putAt k u)):=by
 induction r with
 | nil=>exact .nil
 | @cons p q ps qs h t ih =>
  rw [List.map_cons,List.map_cons]
  refine .cons ?_ ih
  obtain ⟨h1,h2,h3⟩:=h
  unfold putAt
  by_cases e:p.1 = k
  ·rw [if_pos e,if_pos (h1.symm.trans e)]; exact ⟨h1,h2,ry⟩
  ·rw [if_neg e,if_neg (fun z=>e (h1.trans z))]; exact ⟨h1,h2,h3⟩
theorem KT.put {H:Hp} {kvs:List (List Key × V)} {xs:List (List Key × Addr × Value)} (r:KT H kvs xs) (k:List Key) {b:Addr} {y:V} {u:Value} (hb:H b = some (.tup (k.map kV))) (ry:RelV y u) :
  KT H (cp kvs k y) (storedH xs k b u):=by
 have e:(kvs.any fun kv=>decide (kv.1 = k)) = (atKey xs k).isSome:=by
  rw [cK,(r.val k).isSome_eq,Option.isSome_map]
 unfold cp storedH
 rw [e]
 by_cases q:(atKey xs k).isSome = true
 ·rw [if_pos q,if_pos q]; exact r.repl k ry
 ·rw [if_neg q,if_neg q]; exact Paired.snoc r ⟨rfl,hb,ry⟩
theorem KT.keeps {H H':Hp} {kvs:List (List Key × V)} {xs:List (List Key × Addr × Value)} (r:KT H kvs xs) (ht:∀ b ys,H b = some (.tup ys)->H' b = some (.tup ys)):KT H' kvs xs :=
 Paired.mapP r fun _ _ z=>⟨z.1,ht _ _ z.2.1,z.2.2⟩
section
variable {P:Program} {w:World} {H:Hp} {h:Heap} {a:Addr}
theorem rd_of {u:HO} (ok:HOk P w H h) (e:Rd H a u):ObjOk P w H h a u:=e.ok ok
theorem pS {kvs:List (Key × V)} (ok:HOk P w H h) (e:Rd H a (.dK kvs)):kvs.length<=sizeLine/\(a == sysModules) = false/\∃ vs,KV kvs vs/\h.DictOf (aM P w) a vs :=
 show ObjOk P w H h a (.dK kvs) from rd_of ok e
theorem ki {kvs:List (Key × V)} (ok:HOk P w H h) (e:H a = some (.dK kvs)):kvs.length<=sizeLine/\(a == sysModules) = false/\∃ vs,KV kvs vs/\h.DictOf (aM P w) a vs:=pS ok (.inl e)
theorem nI {ks:List Key} (ok:HOk P w H h) (e:H a = some (.tup (ks.map kV))):(tupleKind (aM P w)).is h ks a:=by
 obtain ⟨_,its,r,o,h1,h2,n,h3⟩:=(show ObjOk P w H h a (.tup (ks.map kV)) from ok a _ e)
 exact ⟨o,its.toArray,n,h1,h2,h3,by simpa using nc r⟩
theorem qG {kvs:List (List Key × V)} (ok:HOk P w H h) (e:Rd H a (.dT kvs)):kvs.length<=sizeLine/\(a == sysModules) = false /\
  ∃ xs,KT H kvs xs/\h.DictOfH (tupleKind (aM P w)) a xs:=by
 obtain ⟨z,y,xs,r,o,es,ep,h1,h2,h3,h4,h5⟩:=(show ObjOk P w H h a (.dT kvs) from rd_of ok e)
 refine ⟨z,y,xs,r,o,es,ep,h1,h2,h3,h4,fun x hx=>?_,h5⟩
 have all:∀ {l:List (List Key × V)} {m:List (List Key × Addr × Value)},KT H l m->∀ x ∈ m,(tupleKind (aM P w)).is h x.1 x.2.1:=by
  intro l m q
  induction q with
  | nil=>intro x hx; exact nomatch hx
  | @cons p q ps qs hq t ih =>
   intro x hx
   rcases List.mem_cons.mp hx with e | hx
   ·subst e
    exact nI ok (by rw [<- hq.1]; exact hq.2.1)
   ·exact ih x hx
 exact all r x hx
theorem dt_of {kvs:List (List Key × V)} (ok:HOk P w H h) (e:H a = some (.dT kvs)):kvs.length<=sizeLine/\(a == sysModules) = false /\
  ∃ xs,KT H kvs xs/\h.DictOfH (tupleKind (aM P w)) a xs:=qG ok (.inl e)
end
def DGet (H:Hp) (a:Addr) (y:V) (r:Option V):Prop :=
 (∃ kvs k,Rd H a (.dK kvs)/\y = kV k/\r = cX kvs k)\/∃ kvs k b,Rd H a (.dT kvs)/\y = .ref b/\H b = some (.tup (k.map kV))/\r = cX kvs k
def DPut (H:Hp) (a:Addr) (y v:V) (H':Hp):Prop :=
 (∃ kvs k,H a = some (.dK kvs)/\y = kV k/\kvs.length < sizeLine/\H' = upd H a (.dK (cp kvs k v))) \/
 ∃ kvs k b,H a = some (.dT kvs)/\y = .ref b/\H b = some (.tup (k.map kV))/\kvs.length < sizeLine/\H' = upd H a (.dT (cp kvs k v))
theorem DGet.k {H:Hp} {a:Addr} {kvs:List (Key × V)} {k:Key} (e:H a = some (.dK kvs)):DGet H a (kV k) (cX kvs k):=.inl ⟨kvs,k,.inl e,rfl,rfl⟩
theorem DPut.k {H:Hp} {a:Addr} {kvs:List (Key × V)} {k:Key} {v:V} (e:H a = some (.dK kvs)) (hl:kvs.length < sizeLine):DPut H a (kV k) v (upd H a (.dK (cp kvs k v))):=.inl ⟨kvs,k,e,rfl,hl,rfl⟩
section
variable {X:Cx} {pins:List (Addr × Obj)} {σ:St} {H:Hp} {s:Shared} {a:Addr} {y v:V} {u r:Value} {o:Option V} {A:Around} {E:Value->Shared->Prop}
theorem Inv.big (I:Inv X pins σ H s):sysModules < s.heap.objs.size:=by
 have h:mainGlobals < s.heap.objs.size:=(I.mod.glob.keeps I.bk).lt
 exact Nat.lt_trans (by decide) h
theorem tm {Q:Value->Shared->Prop} (hu:A.units + 1 < cLine) (I:Inv X pins σ H s) (g:DGet H a y (some v)) (ry:RelV y u) (h:∀ w' s',Inv X pins σ H s'->RelV v w'->Q w' s') :
  wpAny (model X.prog X.w) A (getItem (.ref a) u) Q E s:=by
 rcases g with ⟨kvs,k,e,ey,l⟩ | ⟨kvs,k,b,e,ey,eb,l⟩
 ·subst ey
  obtain ⟨z,hd,vs,rel,dd⟩:=pS I.hok e
  obtain ⟨w',hw,rw'⟩:=RelO.some_of (v:=v) (o:=valueAt vs k) (by rw [l]; exact rel.val k)
  exact wpAny_getItem_of (tD ry) dd.mapOf hw (h w' _ (I.tok _) rw')
 ·subst ey
  cases (show u = Value.ref b from ry)
  obtain ⟨z,hd,xs,rel,dd⟩:=qG I.hok e
  obtain ⟨w',hw,rw'⟩:=RelO.some_of (v:=v) (o:=(atKey xs k).map (·.2)) (by rw [l]; exact rel.val k)
  obtain ⟨p,hp,hp2⟩:=Option.map_eq_some_iff.mp hw
  refine wpAny_getItem_heap (tupleKind_room_in1 hu) (nI I.hok eb) dd hp ?_
  rw [hp2]
  exact h w' _ (I.tok _) rw'
theorem t7 {h':Heap} {t':Nat} {ob:HO} (I:Inv X pins σ H s) (mu:Mut (H a)) (hs:Heap.SameBut a s.heap h') (he:∃ q,h'.get? a = some q) (new:ObjOk X.prog X.w (upd H a ob) h' a ob) :
  Inv X pins σ (upd H a ob) { s with heap:=h',toks:=t' } :=
 I.write (x:=a) (e:=a) mu (.inl rfl) (fun b q hb z=>(hs.2 b hb).trans z) he new
theorem dk_new {P:Program} {w:World} {H':Hp} {h':Heap} {kvs:List (Key × V)} {vs:List (Key × Value)} (z:kvs.length<=sizeLine) (hd:(a == sysModules) = false) (rel:KV kvs vs) (dd:h'.DictOf (aM P w) a vs) :
  ObjOk P w H' h' a (.dK kvs):=⟨z,hd,vs,rel,dd⟩
theorem sC {H':Hp} {Q:Unit->Shared->Prop} (hu:A.units + 1 < cLine) (I:Inv X pins σ H s) (g:DPut H a y v H') (ry:RelV y u) (rv:RelV v r) (h:∀ s',Inv X pins σ H' s'->Q () s') :
  wpAny (model X.prog X.w) A (setItem (.ref a) u r) Q E s:=by
 rcases g with ⟨kvs,k,e,ey,l,eH⟩ | ⟨kvs,k,b,e,ey,eb,l,eH⟩
 ·subst ey eH
  obtain ⟨z,hd,vs,rel,dd⟩:=ki I.hok e
  have hz:vs.length<=sizeLine:=by rw [<- rel.length]; exact z
  have hl:(cp kvs k v).length<=sizeLine:=by have:=bA kvs k v; omega
  refine wpAny_setItem_pairs (hsz:=hz) (tD ry) dd fun h' dd' hs=>h _ ?_
  have he:∃ q,h'.get? a = some q:=let ⟨q,_,_,hq,_⟩:=dd'; ⟨q,hq⟩
  exact t7 I (by rw [e]; exact True.intro) hs he (dk_new hl hd (rel.put k rv) dd')
 ·subst ey eH
  cases (show u = Value.ref b from ry)
  obtain ⟨z,hd,xs,rel,dd⟩:=dt_of I.hok e
  have hz:xs.length<=sizeLine:=by rw [<- Paired.length rel]; exact z
  have hl:(cp kvs k v).length<=sizeLine:=by have:=bA kvs k v; omega
  refine wpAny_setItem_heap (hsz:=hz) (tupleKind_room_in1 hu) (nI I.hok eb) dd fun h' dd' hs=>h _ ?_
  obtain ⟨q,es,ep,hq,h2,h3,h4,_,h5⟩:=dd'
  refine t7 I (by rw [e]; exact True.intro) hs ⟨q,hq⟩ ⟨hl,hd,_,(rel.put k eb rv).keeps fun c ys ec=>?_,q,es,ep,hq,h2,h3,h4,h5⟩
  rw [am (ne_of ec e (fun z=>nomatch z))]
  exact ec
end
section
variable {X:Cx} {pins:List (Addr × Obj)} {σ:St} {H:Hp} {s:Shared} {a:Addr} {kvs:List (Key × V)} {k:Key} {u:Value} {A:Around} {E:Value->Shared->Prop}
end
def NoSl (i:Expr):Prop:=∀ ov iv,subscripted i false ov iv = operate [ov,iv] (getItem ov iv)
theorem subD_of {prog:Program} {w:World} {A:Around} {E:Value->Shared->Prop} {s:Shared} {env:Env} {value slice:Expr} {pos:Pos} {T id:String} {Q:Value->Shared->Prop}
  (hl:typeLookup (.type T) "__getitem__" = pure (some (.builtin id))) (hs:NoSl slice)
  (h:wpAny (model prog w) A (eval value env) (fun o s₁=>wpAny (model prog w) A (eval slice env) (fun i s₂=>s₂.TypeIs o T/\wpAny (model prog w) A (getItem o i) Q E s₂) E s₁) E s) :
  wpAny (model prog w) A (eval (.Subscript value slice pos) env) Q E s:=by
 refine Subscript_ (wpAny_mono h (fun o s₁ h₁=>wpAny_mono h₁ (fun i s₂ h₂=>?_) fun _ _ x=>x) fun _ _ x=>x)
 obtain ⟨hT,h₂⟩:=h₂
 unfold subscriptTail
 refine wpAny_bind ?_
 rw [getitemInPython_of_ne hT.not_modules]
 refine wpAny_bind (wpAny_specialOf hT hl ?_)
 have fin:wpAny (model prog w) A (subscripted slice false o i) (fun r s₃=>wpAny (model prog w) A (letTemporaryGo value o r >>= fun _=>pure r) Q E s₃) E s₂:=by
  rw [hs o i]
  exact wpAny_operating (wpAny_mono h₂ (fun r s₃ h₃=>wpAny_bind (wpAny_letTemporaryGo (wpAny_pure h₃))) fun _ _ x=>x)
 first
  | exact wpAny_pure (wpAny_bind fin)
  | exact wpAny_bind (wpAny_pure (wpAny_bind fin))
  | exact wpAny_bind fin
theorem pJ {X:Cx} {pins:List (Addr × Obj)} {σ:St} {H:Hp} {s:Shared} {a:Addr} {y:V} {o:Option V} (I:Inv X pins σ H s) (g:DGet H a y o):s.TypeIs (.ref a) "dict":=by
 rcases g with ⟨kvs,k,e,_,_⟩ | ⟨kvs,k,b,e,_,_,_⟩
 ·obtain ⟨_,_,vs,_,dd⟩:=pS I.hok e
  exact dd.typeIs
 ·obtain ⟨_,_,xs,_,dd⟩:=qG I.hok e
  exact dd.typeIs
def tDGet (td ty:TE):TE:=fun σ H Q=>td σ H fun x H1=>ty σ H1 fun y H2=>∃ a v,x = .ref a/\DGet H2 a y (some v)/\Q v H2
def sDPut (td ty tv:TE):TS:=fun D σ H=>tv σ H fun v H1=>td σ H1 fun x H2=>ty σ H2 fun y H3=>∃ a H4,x = .ref a/\DPut H3 a y v H4/\D.nx σ H4
section
variable {X:Cx} {o i e value:Expr} {pos pos' tpos:Pos} {td ty tv:TE}
theorem jT (hu:X.A.units + 1 < cLine) (ho:PE X o td) (hi:PE X i ty) (hs:NoSl i):PE X (.Subscript o i pos) (tDGet td ty):=by
 intro pins s σ H Q I h
 refine subD_of PySem.F.slot_dict_getitem.lookup hs (thn (ho pins s σ H _ I h) fun u s1 ⟨x,H1,I1,rx,q1⟩=>thn (hi pins s1 σ H1 _ I1 q1) fun iv s2 ⟨y,H2,I2,ry,a,v,ex,g,q2⟩=>?_)
 subst ex
 obtain rfl:u = Value.ref a:=rx
 exact ⟨pJ I2 g,tm hu I2 g ry fun w' s3 I3 rw'=>⟨v,H2,I3,rw',q2⟩⟩
theorem be (hu:X.A.units + 1 < cLine) (ho:PE X o td) (hi:PE X i ty) (hv:PE X value tv) (hs:swapsWith value (some (.Subscript o i pos')) pos.line X.env = pure false) :
  PS X (.Assign [.Subscript o i pos'] value pos) (sDPut td ty tv):=by
 intro pins s σ H D I h
 refine wpAny_Assign_Subscript (thn (hv pins s σ H _ I h) fun r s1 ⟨v,H1,I1,rv,q1⟩=>thn (ho pins s1 σ H1 _ I1 q1) fun u s2 ⟨x,H2,I2,rx,q2⟩=>thn (hi pins s2 σ H2 _ I2 q2) fun iv s3 ⟨y,H3,I3,ry,a,H4,ex,g,q3⟩=>?_) hs
 subst ex
 obtain rfl:u = Value.ref a:=rx
 exact sC hu I3 g ry rv fun s4 I4=>⟨σ,H4,I4,q3⟩
end
section
variable {X:Cx} {pos:Pos}
end
structure M1 (X:Cx) (o:Expr) (m:Str) (apos:Pos) (e:Expr) (cpos:Pos):Prop where
 base:attributeBase o m X.env (eval o X.env) = eval o X.env
 few:((backTo cpos (starEach [e] X.env)).all (fun x=>!x.1) && (backToKw cpos (keywordEach [] X.env)).all (fun x=>x.1.isSome)
  && decide (([e]:List Expr).length + ([]:List Keyword).length + (if ([]:List Keyword).isEmpty then 0 else 1) < 30)) = true
 line:(apos.endLine == cpos.line) = true
 trees:backTo cpos (starEach [e] X.env) = [(false,eval e X.env)]
structure M2 (X:Cx) (o:Expr) (m:Str) (apos:Pos) (e f:Expr) (cpos:Pos):Prop where
 base:attributeBase o m X.env (eval o X.env) = eval o X.env
 few:((backTo cpos (starEach [e,f] X.env)).all (fun x=>!x.1) && (backToKw cpos (keywordEach [] X.env)).all (fun x=>x.1.isSome)
  && decide (([e,f]:List Expr).length + ([]:List Keyword).length + (if ([]:List Keyword).isEmpty then 0 else 1) < 30)) = true
 line:(apos.endLine == cpos.line) = true
 trees:backTo cpos (starEach [e,f] X.env) = [(false,eval e X.env),(false,eval f X.env)]
def IsD (H:Hp) (a:Addr):Prop:=(∃ kvs,Rd H a (.dK kvs))\/∃ kvs,Rd H a (.dT kvs)
theorem isD_at {X:Cx} {pins:List (Addr × Obj)} {σ:St} {H:Hp} {s:Shared} {a:Addr} (I:Inv X pins σ H s) (d:IsD H a) :
  s.TypeIs (.ref a) "dict"/\(∀ b,Value.ref a = .ref b->∃ ob,s.heap.get? b = some ob/\ob.dict = none)/\(a == sysModules) = false:=by
 rcases d with ⟨kvs,e⟩ | ⟨kvs,e⟩
 ·obtain ⟨_,hd,vs,_,dd⟩:=pS I.hok e
  refine ⟨dd.typeIs,fun b q=>?_,hd⟩
  cases q
  obtain ⟨ob,_,_,h1,h2,_⟩:=dd
  exact ⟨ob,h1,h2.2.1⟩
 ·obtain ⟨_,hd,xs,_,dd⟩:=qG I.hok e
  refine ⟨dd.typeIs,fun b q=>?_,hd⟩
  cases q
  obtain ⟨ob,_,_,h1,h2,_⟩:=dd
  exact ⟨ob,h1,h2.2.1⟩
section
variable {X:Cx} {pins:List (Addr × Obj)} {σ:St} {H:Hp} {s:Shared} {a:Addr} {y d:V} {u r:Value} {o:Option V} {A:Around} {E:Value->Shared->Prop}
theorem d_get1 {Q:Value->Shared->Prop} (hu:A.units + 1 < cLine) (I:Inv X pins σ H s) (g:DGet H a y o) (ry:RelV y u) (h:∀ w' s',Inv X pins σ H s'->RelV (o.getD .non) w'->Q w' s') :
  wpAny (model X.prog X.w) A (call (.builtin "dict.get") [.ref a,u]) Q E s:=by
 rcases g with ⟨kvs,k,e,ey,l⟩ | ⟨kvs,k,b,e,ey,eb,l⟩
 ·subst ey
  obtain ⟨z,hd,vs,rel,dd⟩:=pS I.hok e
  refine call_meetsIn PySem.F.slot_dict_get dd.typeIs PySem.F.entry_dict_get (PySem.F.args_dict_get_2 _ _) (meets_dict_get (aM X.prog X.w) a (tD ry) hd) ⟨_,dd.mapOf,h _ _ (I.tok _) ?_⟩
  rw [l]
  exact (rel.val k).getD rfl
 ·subst ey
  cases (show u = Value.ref b from ry)
  obtain ⟨z,hd,xs,rel,dd⟩:=qG I.hok e
  refine call_meetsIn PySem.F.slot_dict_get dd.typeIs PySem.F.entry_dict_get (PySem.F.args_dict_get_2 _ _) (meetsH_dict_get (tupleKind (aM X.prog X.w)) a b hd) ⟨tupleKind_room_in1 hu,k,xs,nI I.hok eb,dd,h _ _ (I.tok _) ?_⟩
  rw [l]
  exact (rel.val k).getD rfl
theorem d_get2 {Q:Value->Shared->Prop} (hu:A.units + 1 < cLine) (I:Inv X pins σ H s) (g:DGet H a y o) (ry:RelV y u) (rd:RelV d r) (h:∀ w' s',Inv X pins σ H s'->RelV (o.getD d) w'->Q w' s') :
  wpAny (model X.prog X.w) A (call (.builtin "dict.get") [.ref a,u,r]) Q E s:=by
 rcases g with ⟨kvs,k,e,ey,l⟩ | ⟨kvs,k,b,e,ey,eb,l⟩
 ·subst ey
  obtain ⟨z,hd,vs,rel,dd⟩:=pS I.hok e
  refine call_meetsIn PySem.F.slot_dict_get dd.typeIs PySem.F.entry_dict_get (PySem.F.args_dict_get_3 _ _ _) (meets_dict_get_default (aM X.prog X.w) a (tD ry) hd r) ⟨_,dd.mapOf,h _ _ (I.tok _) ?_⟩
  rw [l]
  exact (rel.val k).getD rd
 ·subst ey
  cases (show u = Value.ref b from ry)
  obtain ⟨z,hd,xs,rel,dd⟩:=qG I.hok e
  refine call_meetsIn PySem.F.slot_dict_get dd.typeIs PySem.F.entry_dict_get (PySem.F.args_dict_get_3 _ _ _) (meetsH_dict_get_default (tupleKind (aM X.prog X.w)) a b hd r) ⟨tupleKind_room_in1 hu,k,xs,nI I.hok eb,dd,h _ _ (I.tok _) ?_⟩
  rw [l]
  exact (rel.val k).getD rd
end
def tDGet1 (td ty:TE):TE:=fun σ H Q=>td σ H fun x H1=>∃ a,x = .ref a/\IsD H1 a/\ty σ H1 fun y H2=>∃ o,DGet H2 a y o/\Q (o.getD .non) H2
section
variable {X:Cx} {o e f:Expr} {apos cpos:Pos} {td ty tx:TE}
theorem pe_dget1 (hu:X.A.units + 1 < cLine) (ho:PE X o td) (he:PE X e ty) (m:M1 X o "get" apos e cpos):PE X (.Call (.Attribute o "get" apos) [e] [] cpos) (tDGet1 td ty):=by
 intro pins s σ H Q I h
 refine wpAny_Call_method m.base m.few m.line PySem.F.plainAttrs_dict PySem.F.slot_dict_get PySem.F.type_dict_get (thn (ho pins s σ H _ I h) fun u s1 ⟨x,H1,I1,rx,a,ex,d,q1⟩=>?_)
 subst ex
 obtain rfl:u = Value.ref a:=rx
 obtain ⟨t1,t2,_⟩:=isD_at I1 d
 refine ⟨t1,t2,?_⟩
 rw [m.trees]
 refine Calls.callWith_builtin rfl (Calls.evalArgs_plain (Calls.spliced_cons (thn (he pins s1 σ H1 _ I1 q1) fun iv s2 ⟨y,H2,I2,ry,ov,g,q2⟩=>Calls.spliced_nil ?_)))
 exact d_get1 hu I2 g ry fun w' s3 I3 rw'=>⟨_,H2,I3,rw',q2⟩
end
section
variable {X:Cx} {pins:List (Addr × Obj)} {σ:St} {H:Hp} {s:Shared} {a:Addr} {kvs:List (Key × V)} {A:Around} {E:Value->Shared->Prop}
theorem d_copyOf {Q:Value->Shared->Prop} (I:Inv X pins σ H s) (e:Rd H a (.dK kvs)) (h:∀ p s',H p = none->Inv X pins σ (upd H p (.dK kvs)) s'->Q (.ref p) s'):wpAny (model X.prog X.w) A (call (.type "dict") [.ref a]) Q E s:=by
 obtain ⟨z,hd,vs,rel,dd⟩:=pS I.hok e
 refine kt_call_dict hd dd (by rw [<- rel.length]; exact z) fun h' dd' hs=>?_
 refine h _ _ (I.hok.fresh (Nat.le_refl _)) (I.laid (a:=s.heap.objs.size) (o:=.dK kvs) (t':=s.toks) (fun b q hq=>?_) (Nat.le_refl _) (dk_new z (beq_eq_false_iff_ne.mpr (Ne.symm (Nat.ne_of_lt I.big))) rel dd'))
 exact (hs.2 b (Nat.ne_of_lt (Heap.lt_size hq))).trans (Heap.get?_push_of_some _ hq)
end
section
variable {X:Cx} {pins:List (Addr × Obj)} {σ:St} {H:Hp} {s:Shared} {a:Addr} {y:V} {u:Value} {A:Around} {E:Value->Shared->Prop}
end
end L2
namespace L2
open PySem PySem.Spec PyProof.Rows
section
variable {κ:Type} [DecidableEq κ]
theorem p0 {kvs:List (κ × V)} {k:κ} (h:cX kvs k = none):¬ k ∈ kvs.map (·.1):=by
 intro m
 obtain ⟨p,hp,e⟩:=List.mem_map.mp m
 have q:(kvs.any fun kv=>decide (kv.1 = k)) = true:=List.any_eq_true.mpr ⟨p,hp,decide_eq_true e⟩
 rw [cK,h] at q
 exact absurd q (by simp)
theorem t6:∀ {l:List κ} {k:κ},l.Nodup->¬ k ∈ l->(l ++ [k]).Nodup
 | [],k,_,_=>by simp
 | a :: r,k,h,hk=>by
  obtain ⟨h1,h2⟩:=List.nodup_cons.mp h
  show (a :: (r ++ [k])).Nodup
  refine List.nodup_cons.mpr ⟨fun m=>?_,t6 h2 fun m=>hk (List.mem_cons.mpr (Or.inr m))⟩
  rcases List.mem_append.mp m with q | q
  ·exact h1 q
  ·exact hk (List.mem_cons.mpr (Or.inl (List.mem_singleton.mp q).symm))
theorem sO {kvs:List (κ × V)} {k:κ} (v:V) (hn:(kvs.map (·.1)).Nodup) (h:cX kvs k = none):((cp kvs k v).map (·.1)).Nodup:=by
 rw [fR v h,List.map_append]
 exact t6 hn (p0 h)
end
end L2
namespace Ow
open PySem PySem.Spec PyProof.Rows L2
section
variable {X:Cx} {pins:List (Addr × Obj)} {σ:L2.St} {H:Hp} {s:Shared}
theorem _root_.L2.Inv.freeze {a:Addr} {o:Obj} {kvs:List (Key × V)} (I:Inv X pins σ H s) (e:H a = some (.dK kvs)) (g:s.heap.get? a = some o):Inv X pins σ (upd H a (.frz o (.dK kvs))) s:=by
 have ok:=I.hok a _ e
 exact I.write (x:=a) (e:=a) (o:=.frz o (.dK kvs)) (h':=s.heap) (t':=s.toks) (by rw [e]; exact True.intro) (.inl rfl) (fun b u _ q=>q) ⟨_,g⟩ ⟨g,ok⟩
theorem _root_.L2.Inv.thaw {a:Addr} {o:Obj} {kvs:List (Key × V)} (I:Inv X pins σ H s) (e:H a = some (.frz o (.dK kvs))) (h0:∀ o u,X.H₀ a ≠ some (.frz o u)):Inv X pins σ (upd H a (.dK kvs)) s:=by
 have up:∀ b u,H b = some u->(∀ o u',u ≠ .frz o u')->upd H a (.dK kvs) b = some u:=fun b u q hn=>by
  rw [am (fun z=>by rw [z,e] at q; cases q; exact hn _ _ rfl)]; exact q
 have upn:∀ b,H b = none->upd H a (.dK kvs) b = none:=fun b q=>by
  rw [am (fun z=>by rw [z,e] at q; cases q)]; exact q
 refine ⟨I.ok,I.os,I.bare,⟨I.base.keep,I.base.slot,fun b o' q n hx=>upn b (I.base.free b o' q n hx),I.base.there,fun b xs q=>up b _ (I.base.tups b xs q) (fun _ _ z=>nomatch z),fun b o' u q=>?_,fun b ps q=>?_⟩,I.loc,I.cell,upn _ I.free,fun x c q=>upn c (I.freeC x c q),fun p hp=>?_,fun b ob q=>?_,I.len⟩
 ·have:=I.base.frzs b o' u q
  rw [am (fun z=>h0 _ _ (z ▸ q))]; exact this
 ·obtain ⟨m,z⟩:=I.base.tbls b ps q
  exact ⟨m,up b _ z (fun _ _ z=>nomatch z)⟩
 ·obtain ⟨g,n,r⟩:=I.pin p hp
  exact ⟨g,upn _ n,r⟩
 ·by_cases hb:b = a
  ·subst hb
   rw [af] at q
   cases q
   exact (I.hok b _ e).2
  ·rw [am hb] at q
   refine (I.hok b ob q).stay (fun c v hc z=>z) (fun c z=>?_) fun c xs z=>?_
   ·exact up c _ z (fun _ _ z=>nomatch z)
   ·exact up c _ z (fun _ _ z=>nomatch z)
end
def Itk (a:Addr) (o:Obj) (kvs:List (Key × V)):It :=
 ⟨fun i H=>H a = some (.frz o (.dK kvs))/\i < kvs.length,fun i H x H'=>H' = H/\∃ kv,kvs[i]? = some kv/\x = kV kv.1,fun i H=>H a = some (.frz o (.dK kvs))/\i = kvs.length⟩
theorem ow {P:Program} {w:World} {k:Key} {u:Value} (h:(aM P w).is k u = true):RelV (kV k) u:=by
 rcases bj h with ⟨i,t,rfl,rfl⟩ | ⟨x,t,rfl,rfl⟩
 ·exact ⟨t,rfl⟩
 ·exact ⟨t,rfl⟩
theorem KV.at' {kvs:List (Key × V)} {vs:List (Key × Value)} (r:KV kvs vs) {i:Nat} (h:i < kvs.length):∃ kv v,kvs[i]? = some kv/\vs[i]? = some (kv.1,v):=by
 have e:=r.keys
 have hl:=r.length
 refine ⟨kvs[i],(vs[i]'(by omega)).2,List.getElem?_eq_getElem h,?_⟩
 have z:=congrArg (fun l=>l[i]?) e
 simp only [List.getElem?_map,List.getElem?_eq_getElem h,List.getElem?_eq_getElem (show i < vs.length by omega),Option.map_some] at z
 rw [List.getElem?_eq_getElem (show i < vs.length by omega),Option.some.inj z]
theorem t0 {P:Program} {w:World} {K:Frag} {tg:Expr} (a it:Addr) (o:Obj) (kvs:List (Key × V)) (es:Array DictEntry) (ep:Nat) (ho:o.data = .dict es ep):Turn P w K tg (Itk a o kvs) [it] it (fun i h=>h.IsKeyIter it a i kvs.length ep) where
 mem:=by simp
 obj:=fun i h st b hb=>by
  have e:b = it:=by simpa using hb
  subst e
  obtain ⟨o,e,c,d⟩:=st
  exact ⟨o,e,fun v z=>by rw [d] at z; cases z⟩
 keep:=fun i h h' st k=>st.at fun o e=>k it (by simp) o e
 item:=by
  intro X hP hw hK hc i pins s σ H E I hf st hg
  subst hP hw hK
  obtain ⟨hq,hi⟩:=hg
  obtain ⟨g,hl,hs,vs,kv,o2,es2,ep2,g2,ed,dt,ko,pr,nd⟩:=I.hok a _ hq
  rw [g] at g2
  cases g2
  rw [ho] at dt
  cases dt
  obtain ⟨kx,vx,hk,hv⟩:=KV.at' kv hi
  obtain ⟨f0,f1,f2,f3,f4,f5⟩:=hf it (by simp)
  have hln:=kv.length
  refine wpAny_pyNext_dict_item (knd:=aM X.prog X.w) (by rw [<- hln]; exact st) ⟨o,es,g,ed,ho,ko,pr,nd⟩ hv fun key h' ke st' sb=>?_
  have I1:Inv X pins σ H { s with heap:=h' }:=I.turned (t':=s.toks) (fun b o hb e=>(sb.2 b hb).trans e) f0 f1 f3 f4 f5
  obtain ⟨o3,e,c,d⟩:=id st'
  exact ⟨key,rfl,rD (s:={ s with heap:=h' }) e c d (by decide) ⟨kV kx.1,H,I1,ow ke,⟨rfl,kx,hk,rfl⟩,by rw [hln]; exact st',fun b hb=>(hf b hb).1⟩⟩
 done:=by
  intro X hP hw hK hc i pins s σ H E I hf st hg
  subst hP hw hK
  obtain ⟨hq,hi⟩:=hg
  obtain ⟨g,hl,hs,vs,kv,o2,es2,ep2,g2,ed,dt,ko,pr,nd⟩:=I.hok a _ hq
  rw [g] at g2
  cases g2
  rw [ho] at dt
  cases dt
  obtain ⟨f0,f1,f2,f3,f4,f5⟩:=hf it (by simp)
  have hln:=kv.length
  exact wpAny_pyNext_dict_end (knd:=aM X.prog X.w) (I.ok.hd hc) (by rw [<- hln]; exact st) ⟨o,es,g,ed,ho,ko,pr,nd⟩ (List.getElem?_eq_none (by omega)) fun h' eb=>⟨rfl,I.turned (t':=s.toks) (fun b o hb e=>eb b o hb e) f0 f1 f3 f4 f5⟩
 self:=fun _ _ _ _ _ st h=>wpAny_pyIter_keyiter st h
section
variable {X:Cx} {tg:Expr}
def iDict (tl:TE):TI:=fun σ H R=>tl σ H fun x H1=>∃ a kvs,x = .ref a/\H1 a = some (.dK kvs)/\∀ o,R (Itk a o kvs) (upd H1 a (.frz o (.dK kvs)))
theorem tF {l:Expr} {tl:TE} (hl:PE X l tl):PI X tg l (iDict tl):=by
 intro pins s σ H R I h
 refine thn (hl pins s σ H _ I h) fun v s1 ⟨x,H1,I1,r1,q1⟩=>?_
 obtain ⟨a,kvs,e,hq,q⟩:=q1
 subst e
 cases r1
 obtain ⟨hz,hs,vs,kv,o,es,ep,g,ed,dt,ko,pr,nd⟩:=I1.hok a _ hq
 have hln:=kv.length
 refine wpAny_pyIter_dict (knd:=aM X.prog X.w) hs ⟨o,es,g,ed,dt,ko,pr,nd⟩ ?_
 have I2:=I1.freeze hq g
 refine ⟨s1.heap.objs.size,[s1.heap.objs.size],_,_,_,rfl,I2.kept (t':=s1.toks) fun b o e=>Heap.get?_push_of_some _ e,t0 a _ o kvs es ep dt,⟨_,Heap.get?_push_size _ rfl,rfl,by rw [hln]; rfl⟩,fun b hb=>?_,q o⟩
 have e:b = s1.heap.objs.size:=by simpa using hb
 subst e
 exact I2.fpOk (Nat.le_refl _) (I2.hok.fresh (Nat.le_refl _))
def tThaw (H₀:Hp) (te:TE):TE:=fun σ H Q=>te σ H fun v H1=>∃ a o kvs,H1 a = some (.frz o (.dK kvs))/\(∀ o u,H₀ a ≠ some (.frz o u))/\Q v (upd H1 a (.dK kvs))
theorem pe_thaw {e:Expr} {te:TE} (he:PE X e te):PE X e (tThaw X.H₀ te):=by
 intro pins s σ H Q I h
 exact thn (he pins s σ H _ I h) fun v s1 ⟨x,H1,I1,r1,a,o,kvs,hq,h0,q⟩=>⟨x,_,I1.thaw hq h0,r1,q⟩
def sThaw (H₀:Hp) (ts:TS):TS:=fun D σ H=>ts { D with nx:=fun σ' H1=>∃ a o kvs,H1 a = some (.frz o (.dK kvs))/\(∀ o u,H₀ a ≠ some (.frz o u))/\D.nx σ' (upd H1 a (.dK kvs)) } σ H
theorem ps_thaw {st:Stmt} {ts:TS} (h:PS X st ts):PS X st (sThaw X.H₀ ts):=by
 intro pins s σ H D I q
 refine wpAny_mono (h pins s σ H _ I q) (fun fl s1 z=>?_) fun _ _ z=>z
 cases fl with
 | next=>obtain ⟨σ',H1,I1,a,o,kvs,hq,h0,q⟩:=z; exact ⟨σ',_,I1.thaw hq h0,q⟩
 | brk=>exact z
 | cont=>exact z
 | ret u=>exact z
theorem si {a:Addr} {o:Obj} {kvs:List (Key × V)} {D:Addr} {te':TE} {tl:L2.St} {G:Hp->Prop} {H1:Hp} (Pv:Nat->Hp->Prop) (h0:Pv 0 (upd H1 D (.lst [])))
  (hf:∀ i H,i<=kvs.length->Pv i H->H a = some (.frz o (.dK kvs)))
  (hs:∀ (i:Nat) (kv:Key × V) H,i < kvs.length->kvs[i]? = some kv->Pv i H->te' (some (kV kv.1) :: tl) H fun y H2=>∃ ys,H2 D = some (.lst ys)/\ys.length < sizeLine/\∃ m',m' < kvs.length - i/\m' = kvs.length - (i + 1)/\i + 1<=kvs.length/\Pv (i + 1) (upd H2 D (.lst (ys ++ [y]))))
  (hd:∀ H,Pv kvs.length H->G H) :
  ∃ W:Nat->Nat->Hp->Prop,(∃ m,W 0 m (upd H1 D (.lst [])))/\∀ i m H,W i m H ->
   ((Itk a o kvs).stop i H/\G H)\/((Itk a o kvs).go i H/\∀ x H',(Itk a o kvs).yld i H x H'->te' (some x :: tl) H' fun y H2=>∃ ys,H2 D = some (.lst ys)/\ys.length < sizeLine/\∃ m',m' < m/\W (i + 1) m' (upd H2 D (.lst (ys ++ [y])))):=by
 refine ⟨fun i m H=>m = kvs.length - i/\i<=kvs.length/\Pv i H,⟨kvs.length,by simp,Nat.zero_le _,h0⟩,?_⟩
 rintro i m H ⟨rfl,hi,p⟩
 by_cases hlt:i < kvs.length
 ·refine .inr ⟨⟨hf i H hi p,hlt⟩,?_⟩
  rintro x H' ⟨rfl,kv,hk,rfl⟩
  exact hs i kv _ hlt hk p
 ·have e:i = kvs.length:=by omega
  subst e
  exact .inl ⟨⟨hf _ H hi p,rfl⟩,hd H p⟩
end
theorem qt {X:Cx} (hc:X.calm = true):fi X (.builtin "sum") (fun xs H Q=>∃ (a:Addr) (ns:List Int),xs = [.ref a]/\SqL X.K H a (ns.map V.int)/\Q (.int ns.sum) H):=by
 intro pins s σ H xs us Q I r h
 obtain ⟨a,ns,rfl,hq,q⟩:=h
 obtain ⟨u,rfl,rx⟩:=pN r
 cases rx
 obtain ⟨its,rv,pl,hz⟩:=I.list hq
 have hl:=rv.length
 rw [List.length_map] at hl
 refine call_sum_walkG (wpAny_pyIter_list pl.isList ?_)
 have hne:a ≠ s.heap.objs.size:=by
  obtain ⟨o,ho,_⟩:=pl.isList
  exact Nat.ne_of_lt (Heap.lt_size ho)
 refine ⟨s.heap.objs.size,_,_,_,_,_,fun j=>ns.getD j 0,rfl,Walks.list (A:=X.A.in1) (I.ok.hd hc) s.heap.objs.size a hne its.toArray,⟨⟨_,Heap.get?_push_size _ rfl,rfl,rfl⟩,Heap.IsList.push pl.isList _⟩,?_,?_,?_⟩
 ·intro b hb
  show b < (s.heap.push _).objs.size
  rw [Heap.size_push]
  rcases List.mem_cons.mp hb with rfl | hb
  ·exact Nat.lt_succ_self _
  ·rw [List.mem_singleton.mp hb]
   obtain ⟨o,ho,_⟩:=pl.isList
   exact Nat.lt_succ_of_lt (Heap.lt_size ho)
 ·intro i v hP
  have hP':its[i]? = some v:=by simpa using hP
  have hi:i < its.length:=(List.getElem?_eq_some_iff.mp hP').1
  have hb:(ns.map V.int)[i]? = some (V.int (ns.getD i 0)):=by
   rw [List.getElem?_map,List.getD_eq_getElem?_getD,List.getElem?_eq_getElem (by omega)]
   rfl
  obtain ⟨u',hu',t,ru'⟩:=rv.get hb
  rw [hP'] at hu'
  cases hu'
  exact ⟨t,ru'⟩
 ·intro h' tk t' hk
  have e0:∀ (l:List Int) (m:Nat),m<=l.length->preSum (fun j=>l.getD j 0) m = (l.take m).sum:=by
   intro l m
   induction m with
   | zero=>intro _; simp [preSum]
   | succ m ih =>
    intro hm
    rw [List.take_add_one,List.sum_append,<- ih (by omega),List.getElem?_eq_getElem (by omega)]
    simp [preSum,List.getD_eq_getElem?_getD,List.getElem?_eq_getElem (show m < l.length by omega)]
  have e1:preSum (fun j=>ns.getD j 0) its.toArray.size = ns.sum:=by
   rw [List.size_toArray,<- hl,e0 ns ns.length (Nat.le_refl _),List.take_length]
  rw [e1]
  exact ⟨.int _,H,I.kept (t':=tk) fun b o e=>hk b o (fun z=>by
   have z':b = s.heap.objs.size:=by simpa using z
   exact absurd (Heap.lt_size e) (by rw [z']; exact Nat.lt_irrefl _)) (Heap.get?_push_of_some _ e),⟨t',rfl⟩,q⟩
section
variable {X:Cx}
end
end Ow
namespace Ow
open PySem PySem.Spec PyProof.Rows L2
section
variable {X:Cx}
theorem pe_ixS {a b:Expr} {r:R2} {ta tb:TE} {pos:Pos} (hr:IxR X r) (ha:Sl (PE X a ta)) (hb:PE X b tb) (hs:tq b):Sl (PE X (.Subscript a b pos) (tOp r ta tb)):=⟨av hr ha.out hb hs⟩
end
end Ow
namespace Ow
open PySem PySem.Spec PyProof.Rows L2
theorem slE {X:Cx} {b:List Stmt} {R:TS->Prop} (h:∃ t,Sl (PSs X b t)/\R t):∃ t,PSs X b t/\R t:=let ⟨t,a,r⟩:=h; ⟨t,a.out,r⟩
end Ow
namespace Ow
open PySem PySem.Spec PyProof.Rows L2
theorem bR {p:Prop} (h:p):Sl p:=⟨h⟩
section
variable {X:Cx} {st:Stmt} {rest body:List Stmt} {t u tb:TS} {e:Expr} {es:List Expr} {te:TE} {ta:TA} {pos:Pos}
theorem br:Sl (PSs X [] tNext):=⟨aG⟩
theorem ax (h:Sl (PS X st t)):Sl (PSs X [st] t):=⟨aj h.out⟩
theorem aA (h1:Sl (PS X st t)) (h2:Sl (PSs X rest u)):Sl (PSs X (st :: rest) (tSeq t u)):=⟨ai h1.out h2.out⟩
theorem sA (h1:Sl (PS X st t)) (h2:Sl (PSs X rest u)):Sl (PSs X (st :: rest) (tJoin t u)):=⟨lQ h1.out h2.out⟩
theorem bL {c:Expr} {a b:List Stmt} {tc:TT} (hc:PT X c tc) (ha:Sl (PSs X a t)) (hb:Sl (PSs X b u)):Sl (PS X (.If c a b pos) (tIfS tc t u)):=⟨aQ hc ha.out hb.out⟩
theorem pw {tg iter:Expr} {wi:TI} {g:TG} (hp:PassesOwn (model X.prog X.w) X.A X.env X.xe) (hc:X.calm = true) (hi:PI X tg iter wi) (hg:PG X tg g) (hb:Sl (PSs X body tb)) (hs:∀ x,foldedSetIterable iter X.env x = pure x:=by intro _; rfl):Sl (PS X (.For tg iter body [] pos) (tFor wi g tb)):=⟨cI hp hc hi hg hb.out hs⟩
theorem qD (he:Sl (PE X e te)) (hs:swapsWith e none pos.line X.env = pure false:=by rfl):Sl (PS X (.Expr e pos) (tDrop te)):=⟨aL he.out hs⟩
theorem pe_bmZ {T id:String} {name:Str} {o:Expr} {to:TE} {r:V->List V->Hp->(V->Hp->Prop)->Prop} {cpos apos:Pos} (pa:PlainAttrs T) (slot:Slot T name id) (hty:typeOf (.builtin id) = pure (.type "method_descriptor")) (hm:MtR X id r) (ho:PE X o to) (ha:Sl (PA X (e :: es) ta))
  (hbase:attributeBase o name X.env (eval o X.env) = eval o X.env:=by rfl)
  (hfew:((backTo cpos (starEach (e :: es) X.env)).all (fun x=>!x.1) && (backToKw cpos (keywordEach [] X.env)).all (fun x=>x.1.isSome)
   && decide ((e :: es).length + ([]:List Keyword).length + (if ([]:List Keyword).isEmpty then 0 else 1) < 30)) = true:=by rfl)
  (hline:(apos.endLine == cpos.line) = true:=by rfl) (hs:starEach (e :: es) X.env = (false,eval e X.env) :: starEach es X.env:=by rfl) (hplain:(backTo cpos (starEach es X.env)).any (·.1) = false:=by rfl) :
  Sl (PE X (.Call (.Attribute o name apos) (e :: es) [] cpos) (tBM X.K T r to ta)):=⟨lY pa slot hty hm ho ha.out hbase hfew hline hs hplain⟩
theorem lN (ha:Sl (PE X e te)) (hr:Sl (PA X es ta)) (hn:qm e = true:=by rfl):Sl (PA X (e :: es) (tCons te ta)):=⟨p4 ha.out hr.out hn⟩
theorem sE {x1:Nat} (h:Sl (PA X es ta)):Sl (PE X (.Tuple es x1 pos) (tTup ta)):=⟨bK h.out⟩
end
end Ow
namespace Ow
open PySem PySem.Spec PyProof.Rows L2
theorem comp_str {z:Str} {D:Addr} {te':TE} {tl:L2.St} {G:Hp->Prop} {H1:Hp} (Pv:Nat->Hp->Prop) (h0:Pv 0 (upd H1 D (.lst [])))
  (hs:∀ i c H,z.cps[i]? = some c->Pv i H->te' (some (.str ⟨#[c]⟩) :: tl) H fun y H2=>∃ ys,H2 D = some (.lst ys)/\ys.length < sizeLine/\∃ m',m' < z.cps.size - i/\(m' = z.cps.size - (i + 1)/\i + 1<=z.cps.size/\Pv (i + 1) (upd H2 D (.lst (ys ++ [y])))))
  (hd:∀ H,Pv z.cps.size H->G H) :
  ∃ W:Nat->Nat->Hp->Prop,(∃ m,W 0 m (upd H1 D (.lst [])))/\∀ i m H,W i m H ->
   ((Its z).stop i H/\G H)\/((Its z).go i H/\∀ x H',(Its z).yld i H x H'->te' (some x :: tl) H' fun y H2=>∃ ys,H2 D = some (.lst ys)/\ys.length < sizeLine/\∃ m',m' < m/\W (i + 1) m' (upd H2 D (.lst (ys ++ [y])))):=by
 refine ⟨fun i m H=>m = z.cps.size - i/\i<=z.cps.size/\Pv i H,⟨z.cps.size,by simp,Nat.zero_le _,h0⟩,?_⟩
 rintro i m H ⟨rfl,hi,p⟩
 by_cases hlt:i < z.cps.size
 ·refine .inr ⟨hlt,fun x H' y=>?_⟩
  obtain ⟨e,c,hc,ex⟩:=y
  subst e ex
  exact hs i c _ hc p
 ·have e:i = z.cps.size:=by omega
  subst e
  exact .inl ⟨Nat.le_refl _,hd H p⟩
theorem qB {X:Cx} {x v:Str} {pos:Pos} (hg:Gl X x) (hm:∃ t,X.mg x = some (.str v t)) (hd:(x == ("__debug__":Str)) = false:=by decide):PE X (.Name x pos) (tC (.str v)):=by
 obtain ⟨t,h⟩:=hm
 exact pO (v:=.str v) hg h ⟨t,rfl⟩ hd
theorem nF {X:Cx} {P:Program} {w:World} {K:Frag} {mg:Str->Option Value} {base:Heap} {k:Nat} {o:Expr} {m:Str} {ta:TE} {pos apos:Pos} {pl:Sem Bool} (h1:X.prog = P) (h2:X.w = w) (h3:X.K = K) (h4:X.mg = mg) (h5:X.base = base) (he:PE X o ta) (hr:Room k X.A)
  (ht:eval (.Call (.Attribute o m apos) [] [] pos) X.env = (do
   let ov <- eval o X.env
   standAt apos.atName
   let (f,first) <- holding [ov] (getMethod ov m pl)
   callWith pos f first (backTo pos (starEach [] X.env)) (backToKw pos (keywordEach [] X.env))):=by rfl) :
  PE X (.Call (.Attribute o m apos) [] [] pos) (tMethQ P w K mg base k m ta tNil):=by
 subst h1 h2 h3 h4 h5
 exact dO he hr ht
end Ow
namespace Ow
open PySem PySem.Spec PyProof.Rows L2
section
variable {X:Cx}
theorem _root_.L2.Inv.many {pins:List (Addr × Obj)} {σ:L2.St} {H H':Hp} {s:Shared} {h':Heap} {t':Nat} (I:Inv X pins σ H s) (k:∀ b u,s.heap.get? b = some u->h'.get? b = some u) (up:∀ b u,H b = some u->H' b = some u) (fr:∀ b o,s.heap.get? b = some o->H b = none->H' b = none) (hok:HOk X.prog X.w H' h') :
  Inv X pins σ H' { s with heap:=h',toks:=t' } :=
 I.step (h':=h') (g':=s.gens) (t':=t') (d':=s.drawn) (ch:=[]) (fun b z=>nomatch z) (fun b ob _ _ _ e _=>k b ob e) (fun b ob _ _ _ e _=>⟨ob.slots,k b ob e⟩) (fun b ob _ e n=>fr b ob e n) (fun b ob _ e=>⟨ob,k b ob e⟩) (fun b xs e=>up b _ e) (fun b o' u e=>up b _ e) (fun b ps e=>⟨#[],by rw [Array.append_empty]; exact up b _ e⟩) (fun m ⟨o,es,ep,g,r⟩=>⟨o,es,ep,k _ _ g,r⟩) hok I.bare
def vwV (r d:Addr):HO:=.ext fun h=>h.IsValuesView r d
def vwI (r d:Addr):HO:=.ext fun h=>h.IsItemsView r d
theorem dM:MtM X "dict.values" (fun x vs H Q=>∃ (a:Addr) (kvs:List (Key × V)),x = .ref a/\vs = []/\H a = some (.dK kvs)/\∀ r,H r = none->Q (.ref r) (upd H r (vwV r a))):=by
 intro pins s σ H x vs v us Q I rx rv h
 obtain ⟨a,kvs,rfl,rfl,ha,q⟩:=h
 cases rx
 cases rv
 obtain ⟨z,hd,xs,rel,dd⟩:=ki I.hok ha
 refine call_meetsIn PySem.F.slot_dict_values dd.typeIs PySem.F.entry_dict_values (PySem.F.args_dict_values_1 _) (meets_dict_values (aM X.prog X.w) a hd) ⟨⟨xs,dd⟩,?_⟩
 refine ⟨.ref s.heap.objs.size,_,I.laid (t':=s.toks) (fun b o e=>Heap.get?_push_of_some _ e) (Nat.le_refl _) ?_,rfl,q _ (I.hok.fresh (Nat.le_refl _))⟩
 exact ⟨⟨_,Heap.get?_push_size _ rfl,rfl,rfl⟩,⟨_,Heap.get?_push_size _ rfl⟩,fun h1 h2 p k=>let ⟨o,e,x⟩:=p; ⟨o,k o e,x⟩⟩
theorem kR:MtM X "dict.items" (fun x vs H Q=>∃ (a:Addr) (kvs:List (Key × V)),x = .ref a/\vs = []/\H a = some (.dK kvs)/\∀ r,H r = none->Q (.ref r) (upd H r (vwI r a))):=by
 intro pins s σ H x vs v us Q I rx rv h
 obtain ⟨a,kvs,rfl,rfl,ha,q⟩:=h
 cases rx
 cases rv
 obtain ⟨z,hd,xs,rel,dd⟩:=ki I.hok ha
 refine call_meetsIn PySem.F.slot_dict_items dd.typeIs PySem.F.entry_dict_items (PySem.F.args_dict_items_1 _) (meets_dict_items (aM X.prog X.w) a hd) ⟨⟨xs,dd⟩,?_⟩
 refine ⟨.ref s.heap.objs.size,_,I.laid (t':=s.toks) (fun b o e=>Heap.get?_push_of_some _ e) (Nat.le_refl _) ?_,rfl,q _ (I.hok.fresh (Nat.le_refl _))⟩
 exact ⟨⟨_,Heap.get?_push_size _ rfl,rfl,rfl⟩,⟨_,Heap.get?_push_size _ rfl⟩,fun h1 h2 p k=>let ⟨o,e,x⟩:=p; ⟨o,k o e,x⟩⟩
theorem oZ {kvs:List (Key × V)} {vs:List (Key × Value)} (r:KV kvs vs):Vals (kvs.map (·.2)) (vs.map (·.2)):=by
 unfold KV at r
 induction r with
 | nil=>exact .nil
 | cons h _ ih=>exact .cons h.2 ih
theorem lR {xs:List V} {us:List Value} (r:Vals xs us) {i:Nat} {u:Value} (h:us[i]? = some u):∃ x,xs[i]? = some x/\RelV x u:=by
 have hl:=r.length
 have hi:=(List.getElem?_eq_some_iff.mp h).1
 obtain ⟨u',e,ru⟩:=r.get (List.getElem?_eq_getElem (show i < xs.length by omega))
 rw [h] at e
 cases e
 exact ⟨_,List.getElem?_eq_getElem _,ru⟩
theorem kN:∀ {xs:List V} {us:List Value},xs.length = us.length->(∀ (i:Nat) x u,xs[i]? = some x->us[i]? = some u->RelV x u)->Vals xs us
 | [],[],_,_=>.nil
 | _ :: _,_ :: _,hl,h=>.cons (h 0 _ _ rfl rfl) (kN (by simpa using hl) fun i x u a b=>h (i + 1) x u (by simpa using a) (by simpa using b))
 | [],_ :: _,hl,_=>by simp at hl
 | _ :: _,[],hl,_=>by simp at hl
theorem ia (hc:X.calm = true):fi X (.builtin "sum") (fun xs H Q=>∃ (r a:Addr) (kvs:List (Key × V)) (ns:List Int),xs = [.ref r]/\H r = some (vwV r a)/\H a = some (.dK kvs)/\kvs.map (·.2) = ns.map V.int/\Q (.int ns.sum) H):=by
 intro pins s σ H xs us Q I r h
 obtain ⟨vr,a,kvs,ns,rfl,hv,ha,hn,q⟩:=h
 obtain ⟨u,rfl,ru⟩:=r.one
 cases (show u = Value.ref vr from ru)
 obtain ⟨z,hd,vs,rel,dd⟩:=ki I.hok ha
 obtain ⟨ep,dat⟩:=dd.dictAt
 have vw:s.heap.IsValuesView vr a:=(I.hok vr _ hv).1
 have vl:=(oZ rel)
 rw [hn] at vl
 have hl:=vl.length
 rw [List.length_map,List.length_map] at hl
 obtain ⟨oI,St,hit,W,st⟩:=(PySem.W.kdl_values (knd:=aM X.prog X.w) (r:=vr) (d:=a) (kvs:=vs) (ep:=ep)).iter X.A.in1 s (I.ok.hd hc) ⟨vw,dat⟩
 refine call_sum_walkG (hit _ _ ⟨s.heap.objs.size,_,_,_,_,_,fun j=>ns.getD j 0,rfl,W,st,?_,?_,?_⟩)
 ·intro b hb
  show b < (s.heap.push _).objs.size
  rw [Heap.size_push]
  rcases List.mem_cons.mp hb with rfl | hb
  ·exact Nat.lt_succ_self _
  ·rw [List.mem_singleton.mp hb]
   exact Nat.lt_succ_of_lt dat.lt_size
 ·rintro i v ⟨k,hP⟩
  obtain ⟨x,hx,rx⟩:=lR vl (u:=v) (i:=i) (by rw [List.getElem?_map,hP]; rfl)
  rw [List.getElem?_map] at hx
  cases e:ns[i]? with
  | none=>rw [e] at hx; cases hx
  | some m =>
   rw [e] at hx
   cases hx
   obtain ⟨t,rfl⟩:=rx
   exact ⟨t,by show Value.int m t = Value.int (ns.getD i 0) t; rw [List.getD_eq_getElem?_getD,e]; rfl⟩
 ·intro h' tk t' hk
  have e0:∀ (l:List Int) (m:Nat),m<=l.length->preSum (fun j=>l.getD j 0) m = (l.take m).sum:=by
   intro l m
   induction m with
   | zero=>intro _; simp [preSum]
   | succ m ih =>
    intro hm
    rw [List.take_add_one,List.sum_append,<- ih (by omega),List.getElem?_eq_getElem (by omega)]
    simp [preSum,List.getD_eq_getElem?_getD,List.getElem?_eq_getElem (show m < l.length by omega)]
  have e1:preSum (fun j=>ns.getD j 0) vs.length = ns.sum:=by rw [<- hl,e0 ns ns.length (Nat.le_refl _),List.take_length]
  rw [e1]
  exact ⟨.int _,H,I.kept (t':=tk) fun b o e=>hk b o (fun z=>by
   have z':b = s.heap.objs.size:=by simpa using z
   exact absurd (Heap.lt_size e) (by rw [z']; exact Nat.lt_irrefl _)) (Heap.get?_push_of_some _ e),⟨t',rfl⟩,q⟩
theorem kE (hc:X.calm = true):fi X (.type "list") (fun xs H Q=>∃ (r a:Addr) (kvs:List (Key × V)),xs = [.ref r]/\H r = some (vwV r a)/\H a = some (.dK kvs)/\∀ l,H l = none->Q (.ref l) (upd H l (.lst (kvs.map (·.2))))):=by
 intro pins s σ H xs us Q I r h
 obtain ⟨vr,a,kvs,rfl,hv,ha,q⟩:=h
 obtain ⟨u,rfl,ru⟩:=r.one
 cases (show u = Value.ref vr from ru)
 obtain ⟨z,hd,vs,rel,dd⟩:=ki I.hok ha
 obtain ⟨ep,dat⟩:=dd.dictAt
 have vw:s.heap.IsValuesView vr a:=(I.hok vr _ hv).1
 have hl:=rel.length
 refine PySem.W.kdl_call (PySem.W.kdl_values (knd:=aM X.prog X.w) (r:=vr) (d:=a) (kvs:=vs) (ep:=ep)) (I.ok.hd hc) ⟨vw,dat⟩ (by rw [<- hl]; exact z) fun h' tk acc c kp gl io=>?_
 refine ⟨.ref s.heap.objs.size,_,I.laid (t':=tk) kp (Nat.le_refl _) ?_,rfl,q _ (I.hok.fresh (Nat.le_refl _))⟩
 refine ⟨by rw [List.length_map]; exact z,acc.toList,c,kN (by rw [List.length_map,show acc.toList.length = vs.length from io.1]; exact hl) fun i x u hx hu=>?_,gl⟩
 obtain ⟨k,hk⟩:=io.2 i u (by rw [<- Array.getElem?_toList]; exact hu)
 obtain ⟨x',hx',rx⟩:=lR (oZ rel) (u:=u) (i:=i) (by rw [List.getElem?_map,hk]; rfl)
 rw [hx] at hx'
 cases hx'
 exact rx
theorem iJ (hc:X.calm = true):fi X (.type "list") (fun xs H Q=>∃ (r a:Addr) (kvs:List (Key × V)),xs = [.ref r]/\H r = some (vwI r a)/\H a = some (.dK kvs) /\
  ∀ (l:Addr) (as:List Addr) (H':Hp),H l = none->H' l = some (.lst (as.map V.ref))->as.length = kvs.length->(∀ (j:Nat) b kv,as[j]? = some b->kvs[j]? = some kv->H' b = some (.tup [kV kv.1,kv.2]))->(∀ b u,H b = some u->H' b = some u)->Q (.ref l) H'):=by
 intro pins s σ H xs us Q I r h
 obtain ⟨vr,a,kvs,rfl,hv,ha,q⟩:=h
 obtain ⟨u,rfl,ru⟩:=r.one
 cases (show u = Value.ref vr from ru)
 obtain ⟨z,hd,vs,rel,dd⟩:=ki I.hok ha
 obtain ⟨ep,dat⟩:=dd.dictAt
 have vw:s.heap.IsItemsView vr a:=(I.hok vr _ hv).1
 have hl:=rel.length
 refine PySem.W.kdx_call (knd:=aM X.prog X.w) (r:=vr) (d:=a) (kvs:=vs) (ep:=ep) (I.ok.hd hc) vw dat (by rw [<- hl]; exact z) fun h' tk acc c as kp gl la G ea=>?_
 let H':Hp:=fun b=>if b = s.heap.objs.size then some (.lst (as.map V.ref)) else match (as.idxOf? b).bind (kvs[·]?) with | some kv=>some (.tup [kV kv.1,kv.2]) | none=>H b
 have H1:H' s.heap.objs.size = some (.lst (as.map V.ref)):=if_pos rfl
 have H2:∀ (j:Nat) b kv,as[j]? = some b->kvs[j]? = some kv->H' b = some (.tup [kV kv.1,kv.2]):=fun j b kv hb hkv=>by
  have lt:s.heap.objs.size < b:=G.above b (List.mem_of_getElem? hb)
  have ix:as.idxOf? b = some j:=by
   have hj:=(List.getElem?_eq_some_iff.mp hb)
   rw [List.idxOf?_eq_map_finIdxOf?_val,Option.map_eq_some_iff]
   refine ⟨⟨j,hj.1⟩,?_,rfl⟩
   rw [List.finIdxOf?_eq_some_iff]
   refine ⟨hj.2,fun i hi=>?_⟩
   intro e
   have:=List.pairwise_iff_getElem.mp G.rise i.1 j i.2 hj.1 hi
   rw [hj.2,show as[i.1] = b from e] at this
   exact Nat.lt_irrefl _ this
  show (if b = s.heap.objs.size then _ else _) = _
  rw [if_neg (Nat.ne_of_gt lt),ix]
  show (match kvs[j]? with | some kv=>some (HO.tup [kV kv.1,kv.2]) | none=>H b) = _
  rw [hkv]
 have H3:∀ b,b < s.heap.objs.size->H' b = H b:=fun b lt=>by
  show (if b = s.heap.objs.size then _ else _) = _
  rw [if_neg (Nat.ne_of_lt lt)]
  have:as.idxOf? b = none:=List.idxOf?_eq_none_iff.mpr fun m=>absurd (G.above b m) (Nat.lt_asymm lt)
  rw [this]
  rfl
 have up:∀ b u,H b = some u->H' b = some u:=fun b u e=>by rw [H3 b (I.hok.lt e)]; exact e
 have ok:HOk X.prog X.w H' h':=fun b u e=>by
  by_cases c1:b = s.heap.objs.size
  ·subst c1
   rw [H1] at e
   cases e
   refine ⟨by rw [List.length_map,la,<- hl]; exact z,acc.toList,c,?_,gl⟩
   rw [ea]
   exact kN (by rw [List.length_map,List.length_map]) fun i x u hx hu=>by
    rw [List.getElem?_map] at hx hu
    cases e:as[i]? with
    | none=>rw [e] at hx; cases hx
    | some y=>rw [e] at hx hu; cases hx; cases hu; rfl
  ·by_cases c2:b < s.heap.objs.size
   ·rw [H3 b c2] at e
    exact (I.hok b u e).stay (fun x v _ z=>kp x v z) (fun x z=>up x _ z) fun x ys z=>up x _ z
   ·have e':(match (as.idxOf? b).bind (kvs[·]?) with | some kv=>some (HO.tup [kV kv.1,kv.2]) | none=>H b) = some u:=by
     rw [<- e]
     exact (if_neg c1).symm
    cases ix:as.idxOf? b with
    | none =>
     rw [ix] at e'
     exact absurd (I.hok.lt (show H b = some u from e')) c2
    | some j =>
     rw [ix] at e'
     have e':(match kvs[j]? with | some kv=>some (HO.tup [kV kv.1,kv.2]) | none=>H b) = some u:=e'
     cases hkv:kvs[j]? with
     | none =>
      rw [hkv] at e'
      exact absurd (I.hok.lt (show H b = some u from e')) c2
     | some kv =>
      rw [hkv] at e'
      cases e'
      have hb:as[j]? = some b:=by
       rw [List.idxOf?_eq_map_finIdxOf?_val,Option.map_eq_some_iff] at ix
       obtain ⟨i,hi,rfl⟩:=ix
       rw [List.finIdxOf?_eq_some_iff] at hi
       exact List.getElem?_eq_some_iff.mpr ⟨i.2,hi.1⟩
      obtain ⟨key,k,x,hx,hkey,hg⟩:=G.pairs j b hb
      obtain ⟨kx,vx,e1,e2⟩:=KV.at' rel (List.getElem?_eq_some_iff.mp hkv).1
      rw [hkv] at e1
      cases e1
      rw [hx] at e2
      cases e2
      obtain ⟨x',hx',rx⟩:=lR (oZ rel) (u:=x) (i:=j) (by rw [List.getElem?_map,hx]; rfl)
      rw [List.getElem?_map,hkv] at hx'
      cases hx'
      exact ⟨by show 2<=sizeLine; decide,[key,x],.cons (ow hkey) (.cons rx .nil),_,hg,rfl,_,rfl⟩
 exact ⟨.ref s.heap.objs.size,H',I.many (t':=tk) kp up (fun b o e n=>by rw [H3 b (Heap.lt_size e)]; exact n) ok,rfl,q _ as H' (I.hok.fresh (Nat.le_refl _)) H1 (by rw [la,hl]) H2 up⟩
theorem hI:fi X (.type "dict") (fun xs H Q=>∃ (a:Addr) (kvs:List (Key × V)),xs = [.ref a]/\H a = some (.dK kvs)/\∀ l,H l = none->Q (.ref l) (upd H l (.dK kvs))):=by
 intro pins s σ H xs us Q I r h
 obtain ⟨a,kvs,rfl,ha,q⟩:=h
 obtain ⟨u,rfl,ru⟩:=r.one
 cases (show u = Value.ref a from ru)
 exact d_copyOf I (.inl ha) fun p s' hp I'=>⟨.ref p,_,I',rfl,q p hp⟩
theorem nj (hc:X.calm = true):fi X (.builtin "sorted") (fun xs H Q=>∃ (a:Addr) (kvs:List (Key × V)) (zs:List Str),xs = [.ref a]/\H a = some (.dK kvs)/\kvs.map (·.1) = zs.map Sum.inr/\zs.length < 64/\∀ (l:Addr) (ws:List Str),H l = none->ws.Perm zs->Q (.ref l) (upd H l (.lst (ws.map V.str)))):=by
 intro pins s σ H xs us Q I r h
 obtain ⟨a,kvs,zs,rfl,ha,hk,h64,q⟩:=h
 obtain ⟨u,rfl,ru⟩:=r.one
 cases (show u = Value.ref a from ru)
 obtain ⟨z,hd,vs,rel,dd⟩:=ki I.hok ha
 obtain ⟨ep,dat⟩:=dd.dictAt
 have hl:=rel.length
 have ky:=rel.keys
 rw [hk] at ky
 have ln:vs.length = zs.length:=by
  have:=congrArg List.length ky
  rw [List.length_map,List.length_map] at this
  exact this.symm
 refine Calls.call_function_entry kind_sorted plain_sorted entry_sorted (args_sorted1 _) ?_
 unfold Builtin.«sorted»
 refine wpAny_bind (m:=checkCount "sorted" 1 1 _) (wpAny_pure (wpAny_bind (PySem.W.kdu_collect (A:=X.A.in1) (PySem.W.kdl_dict (knd:=aM X.prog X.w) (kvs:=vs) (ep:=ep) hd) (I.ok.hd hc) dat (by rw [<- hl]; exact z) fun h1 tk acc kp ac=>?_)))
 have al:acc.toList.length = zs.length:=by rw [Array.length_toList,ac.1,ln]
 have sa:StrsAre acc.toList zs:=by
  have all:∀ (i:Nat) (v:Value),acc.toList[i]? = some v->∃ t zz,zs[i]? = some zz/\v = .str zz t:=fun i v hv=>by
   obtain ⟨k,x,hx,kx⟩:=ac.2 i v (by rw [<- Array.getElem?_toList]; exact hv)
   have e:=congrArg (fun l=>l[i]?) ky
   simp only [List.getElem?_map,hx,Option.map_some] at e
   cases ez:zs[i]? with
   | none=>rw [ez] at e; cases e
   | some zz =>
    rw [ez] at e
    cases e
    obtain ⟨t,rfl⟩:=ow kx
    exact ⟨t,zz,rfl,rfl⟩
  have m:=strsAre_map acc.toList fun v hv=>by
   obtain ⟨i,hi⟩:=List.mem_iff_getElem?.mp hv
   obtain ⟨t,zz,_,rfl⟩:=all i v hi
   exact ⟨zz,t,rfl⟩
  have e:acc.toList.map strOf = zs:=by
   apply List.ext_getElem?
   intro i
   rw [List.getElem?_map]
   cases e:acc.toList[i]? with
   | none=>rw [List.getElem?_eq_none (by have:=List.getElem?_eq_none_iff.mp e; omega)]; rfl
   | some v =>
    obtain ⟨t,zz,ez,rfl⟩:=all i v e
    rw [ez]
    rfl
  rw [e] at m
  exact m
 refine wpAny_bind (wpAny_newList ?_ (by rw [al,sizeLine_eq]; omega))
 have g1:(h1.push (seqObj "list" acc.toList.toArray 0)).get? h1.objs.size = some (seqObj "list" acc.toList.toArray 0):=Heap.get?_push_size _ rfl
 refine wpAny_bind (wpAny_holding (wpAny_call_entry slot_list_sort ⟨_,g1,rfl⟩ entry_list_sort (list_sort_treeK strKind_oneLt g1 sa.keysOf (fun v1 v2 rest e=>keyKind_strs (by rw [<- e]; exact sa)) (by omega) fun st' p1 p2=>⟨_,rfl,?_⟩) (args_list_sort _)))
 obtain ⟨ws,s1,s2,_⟩:=sorted_out_str sa p1 p2
 obtain ⟨e,ge⟩:=sortedHeap_at (out:=(arrOf st').map (·.2)) g1
 have nw:∀ b o,s.heap.get? b = some o->b ≠ h1.objs.size:=fun b o eb=>Nat.ne_of_lt (Heap.lt_size (kp b o eb))
 have hn:H h1.objs.size = none:=by
  cases eh:H h1.objs.size with
  | none=>rfl
  | some u=>obtain ⟨o,ho⟩:=rN (I.hok _ u eh); exact absurd rfl (nw _ o ho)
 have kp2:∀ b o,s.heap.get? b = some o->(sortedHeap (h1.push (seqObj "list" acc.toList.toArray 0)) h1.objs.size acc.toList ((arrOf st').map (·.2))).get? b = some o:=fun b o eb=>by
  rw [sortedHeap_old (nw b o eb) (by rw [Heap.size_push]; exact Nat.lt_succ_of_lt (Heap.lt_size (kp b o eb)))]
  exact Heap.get?_push_of_some _ (kp b o eb)
 have up:∀ b u,H b = some u->upd H h1.objs.size (.lst (ws.map V.str)) b = some u:=fun b u e=>by rw [am (aw e hn)]; exact e
 have wl:ws.length = zs.length:=s2.length_eq
 refine wpAny_pure ⟨_,rfl,.ref h1.objs.size,upd H h1.objs.size (.lst (ws.map V.str)),I.many (t':=tk) kp2 up (fun b o eb n=>by rw [am (nw b o eb)]; exact n) (fun b u eb=>?_),rfl,q _ ws hn s2⟩
 by_cases cb:b = h1.objs.size
 rotate_left
 ·rw [am cb] at eb
  exact (I.hok b u eb).stay (fun x v _ z=>kp2 x v z) (fun x z=>up x _ z) fun x ys z=>up x _ z
 ·subst cb
  rw [af] at eb
  cases eb
  refine ⟨by rw [List.length_map,sizeLine_eq]; omega,_,e,?_,ge⟩
  have:∀ {us:List Value} {zs:List Str},StrsAre us zs->Vals (zs.map V.str) us:=fun {us zs} h=>by
   have e:=h.strs
   subst e
   exact kN (by rw [List.length_map,List.length_map]) fun i x u hx hu=>by
    rw [List.getElem?_map,List.getElem?_map,hu] at hx
    cases hx
    obtain ⟨y,t,rfl⟩:=h.all _ (List.mem_of_getElem? hu)
    exact ⟨t,rfl⟩
  exact this s1
def rSmD (neg:Bool):R2:=fun x y H Q=>∃ (a b:Addr) (kvs:List (Key × V)),x = .ref a/\y = .ref b/\H a = some (.dK kvs)/\H b = some (.dK kvs)/\(∀ kv ∈ kvs,∃ i:Int,kv.2 = .int i)/\Q (.bl (!neg)) H
theorem smHits {A:Around} {s:Shared} {kvs:List (Key × V)} {kb:List (Key × Value)} (rb:KV kvs kb) (nd:(kb.map (·.1)).Nodup) (hi:∀ kv ∈ kvs,∃ i:Int,kv.2 = .int i) {ka:List (Key × Value)} (ra:KV kvs ka):PySem.W.KeqHits A s kb ka true:=by
 have ndk:(kvs.map (·.1)).Nodup:=by rw [rb.keys]; exact nd
 have go:∀ (l1 l2:List (Key × V)) (ks:List (Key × Value)),kvs = l1 ++ l2->KV l2 ks->PySem.W.KeqHits A s kb ks true:=by
  intro l1 l2
  induction l2 generalizing l1 with
  | nil=>intro ks _ r; cases r; exact .nil
  | cons p t ih =>
   intro ks e r
   cases r with
   | cons h1 h2 =>
    rename_i y ys
    obtain ⟨k,u⟩:=y
    obtain ⟨k',v⟩:=p
    obtain ⟨ek,ru⟩:=h1
    obtain rfl:k' = k:=ek
    obtain ⟨i,ei⟩:=hi (k',v) (by rw [e]; exact List.mem_append_right _ (List.mem_cons_self ..))
    cases (show v = V.int i from ei)
    obtain ⟨t1,rfl⟩:=(show ∃ t,u = Value.int i t from ru)
    have hv:cX kvs k' = some (.int i):=by
     rw [e] at ndk ⊢
     have nin:¬ k' ∈ l1.map (·.1):=by
      rw [List.map_append,List.map_cons] at ndk
      exact fun m=>(List.nodup_append.mp ndk).2.2 k' m k' (List.mem_cons_self ..) rfl
     clear ih h2 e ru ndk
     induction l1 with
     | nil=>exact bq rfl
     | cons q r ih2 =>
      rw [List.cons_append,bi (fun z=>nin (by rw [List.map_cons,<- z]; exact List.mem_cons_self ..))]
      exact ih2 fun m=>nin (List.mem_cons_of_mem _ m)
    have rv:=rb.val k'
    rw [hv] at rv
    cases ev:valueAt kb k' with
    | none=>rw [ev] at rv; exact rv.elim
    | some y =>
     rw [ev] at rv
     obtain ⟨t2,rfl⟩:=(show ∃ t,y = Value.int i t from rv)
     have eq:=SeqAt.EqAt.int_int (A:=A) (s:=s) i t1 i t2
     rw [beq_self_eq_true] at eq
     exact .hit (e:=true) (b:=true) ev eq (ih (l1 ++ [(k',.int i)]) ys (by rw [e,List.append_assoc]; rfl) h2)
 exact go [] kvs ka rfl ra
theorem oO (hu:X.A.units < cLine):OpR X (compareOp .NotEq) (rSmD true):=by
 intro pins s σ H x y v u Q I rx ry h
 obtain ⟨a,b,kvs,rfl,rfl,ha,hb,hi,q⟩:=h
 cases rx
 cases ry
 obtain ⟨za,hda,xs,ra,da⟩:=ki I.hok ha
 obtain ⟨zb,hdb,ys,rb,db⟩:=ki I.hok hb
 have nd:(ys.map (·.1)).Nodup:=let ⟨_,_,_,_,_,_,_,_,hn⟩:=db; hn
 have fin:EP X pins σ Q (.bool (!(xs.length == ys.length && true))) s:=⟨.bl false,H,I,(by rw [<- ra.length,<- rb.length,beq_self_eq_true]; rfl),q⟩
 exact PySem.W.keq_ne (prog:=X.prog) (w:=X.w) (K:=Key) (knd:=aM X.prog X.w) (A:=X.A) (E:=X.xe) (s:=s) (a:=a) (b:=b) (ka:=xs) (kb:=ys) (r:=true) (Q:=EP X pins σ Q) hda hdb da db hu (fun _=>smHits rb nd hi ra) fin
end
end Ow
namespace Ow
open PySem PySem.Spec PyProof.Rows L2
theorem qg {X:Cx} {x:Str} {v:Int} {pos:Pos} (hg:Gl X x) (hm:∃ t,X.mg x = some (.int v t)) (hd:(x == ("__debug__":Str)) = false:=by decide):PE X (.Name x pos) (tC (.int v)):=by
 obtain ⟨t,h⟩:=hm
 exact pO (v:=.int v) hg h ⟨t,rfl⟩ hd
theorem for_dict {a:Addr} {o:Obj} {kvs:List (Key × V)} {g:TG} {tb:TS} {D:Ends} {σ:L2.St} {H:Hp} (Pv:Nat->L2.St->Hp->Prop) (h0:Pv 0 σ H) (hf:∀ i σ H,i<=kvs.length->Pv i σ H->H a = some (.frz o (.dK kvs)))
  (hs:∀ (i:Nat) (kv:Key × V) σ H,kvs[i]? = some kv->Pv i σ H->g (kV kv.1) σ H fun σ2 H2=>tb { D with nx:=Pv (i + 1),ct:=Pv (i + 1),bk:=D.nx } σ2 H2) (hd:∀ σ H,Pv kvs.length σ H->D.nx σ H) :
  ∃ W:Nat->Nat->L2.St->Hp->Prop,(∃ m,W 0 m σ H)/\∀ i m σ H,W i m σ H ->
   ((Itk a o kvs).stop i H/\D.nx σ H)\/((Itk a o kvs).go i H/\∃ N:L2.St->Hp->Prop,(∀ σ' H',N σ' H'->∃ m',m' < m/\W (i + 1) m' σ' H')/\∀ x H',(Itk a o kvs).yld i H x H'->g x σ H' fun σ2 H2=>tb { D with nx:=N,ct:=N,bk:=D.nx } σ2 H2):=by
 refine ⟨fun i m σ H=>m = kvs.length - i/\i<=kvs.length/\Pv i σ H,⟨kvs.length,by simp,Nat.zero_le _,h0⟩,?_⟩
 rintro i m σ H ⟨rfl,hi,p⟩
 by_cases hlt:i < kvs.length
 ·refine .inr ⟨⟨hf i σ H hi p,hlt⟩,Pv (i + 1),fun σ' H' p'=>⟨kvs.length - (i + 1),by omega,rfl,by omega,p'⟩,?_⟩
  rintro x H' ⟨rfl,kv,hk,rfl⟩
  exact hs i kv σ _ hk p
 ·have e:i = kvs.length:=by omega
  subst e
  exact .inl ⟨⟨hf _ σ H hi p,rfl⟩,hd σ H p⟩
end Ow
namespace Ow
open PySem PySem.Spec PyProof.Rows L2
def gI (kvs:List (Key × V)) (z:Str):Int:=match cX kvs (.inr z) with
 | some (.int i)=>i
 | _=>0
def IntD (kvs:List (Key × V)):Prop:=∀ kv ∈ kvs,∃ i:Int,kv.2 = .int i
theorem fO {kvs:List (Key × V)} {k:Key} {v:V} (h:cX kvs k = some v):(k,v) ∈ kvs:=by
 induction kvs with
 | nil=>cases h
 | cons p t ih =>
  by_cases e:p.1 = k
  ·rw [bq e] at h
   cases h
   rw [<- e]
   exact List.mem_cons_self ..
  ·rw [bi e] at h
   exact List.mem_cons_of_mem _ (ih h)
theorem IntD.get {kvs:List (Key × V)} (h:IntD kvs) (z:Str):(cX kvs (.inr z)).getD (.int 0) = .int (gI kvs z):=by
 unfold gI
 cases e:cX kvs (.inr z) with
 | none=>rfl
 | some v =>
  obtain ⟨i,ei⟩:=h _ (fO e)
  cases (show v = V.int i from ei)
  rfl
def tDGetI (td ty:TE):TE:=fun σ H Q=>td σ H fun x H1=>∃ a,x = .ref a/\(∃ kvs,H1 a = some (.dK kvs))/\ty σ H1 fun y H2=>∃ kvs z,y = .str z/\H2 a = some (.dK kvs)/\IntD kvs/\Q (.int (gI kvs z)) H2
theorem aO {X:Cx} {o e f:Expr} {apos cpos:Pos} {td ty:TE} (hu:X.A.units + 1 < cLine) (ho:PE X o td) (he:PE X e ty) (hf:PE X f (tC (.int 0))) (m:M2 X o "get" apos e f cpos):PE X (.Call (.Attribute o "get" apos) [e,f] [] cpos) (tDGetI td ty):=by
 intro pins s σ H Q I h
 refine wpAny_Call_method m.base m.few m.line PySem.F.plainAttrs_dict PySem.F.slot_dict_get PySem.F.type_dict_get (thn (ho pins s σ H _ I h) fun u s1 ⟨x,H1,I1,rx,a,ex,⟨ks,hk⟩,q1⟩=>?_)
 subst ex
 obtain rfl:u = Value.ref a:=rx
 obtain ⟨t1,t2,_⟩:=isD_at I1 (.inl ⟨ks,.inl hk⟩)
 refine ⟨t1,t2,?_⟩
 rw [m.trees]
 refine Calls.callWith_builtin rfl (Calls.evalArgs_plain (Calls.spliced_cons (thn (he pins s1 σ H1 _ I1 q1) fun iv s2 ⟨y,H2,I2,ry,kvs,z,ey,ha,hi,q2⟩=>Calls.spliced_cons (thn (hf pins s2 σ H2 (fun v G=>v = .int 0/\G = H2) I2 ⟨rfl,rfl⟩) fun fv s3 ⟨v0,H3,I3,rz,e0,eH⟩=>Calls.spliced_nil ?_))))
 subst ey e0 eH
 refine d_get2 hu I3 (DGet.k (k:=.inr z) ha) ry rz fun w' s4 I4 rw'=>⟨_,_,I4,?_,q2⟩
 rw [hi.get z] at rw'
 exact rw'
end Ow
namespace Ow
open PySem PySem.Spec PyProof.Rows L2
section
variable {X:Cx}
def rSelfD:R2:=fun x y H Q=>∃ (a:Addr) (kvs:List (Key × V)),x = .ref a/\y = .ref a/\H a = some (.dK kvs)/\Q (.bl true) H
theorem oo {l1 t:List (Key × Value)} {k:Key} {u:Value} (h:k ∉ l1.map (·.1)):valueAt (l1 ++ (k,u) :: t) k = some u:=by
 induction l1 with
 | nil=>simp [valueAt]
 | cons p r ih =>
  rw [List.map_cons,List.mem_cons,not_or] at h
  have:=ih h.2
  have hn:¬ p.1 = k:=fun z=>h.1 z.symm
  simpa [valueAt,List.find?_cons,hn] using this
theorem selfHits {A:Around} {s:Shared} {xs:List (Key × Value)} (nd:(xs.map (·.1)).Nodup):PySem.W.KeqHits A s xs xs true:=by
 have go:∀ (l2 l1:List (Key × Value)),xs = l1 ++ l2->PySem.W.KeqHits A s xs l2 true:=by
  intro l2
  induction l2 with
  | nil=>intro _ _; exact .nil
  | cons p t ih =>
   intro l1 e
   obtain ⟨k,u⟩:=p
   have nin:k ∉ l1.map (·.1):=by
    rw [e,List.map_append,List.map_cons] at nd
    exact fun m=>(List.nodup_append.mp nd).2.2 k m k (List.mem_cons_self ..) rfl
   have ev:valueAt xs k = some u:=by rw [e]; exact oo nin
   exact .hit (e:=true) (b:=true) ev (SeqAt.EqAt.same u) (ih (l1 ++ [(k,u)]) (by rw [e,List.append_assoc]; rfl))
 exact go xs [] rfl
theorem rQ (hu:X.A.units < cLine):OpR X (compareOp .Eq) rSelfD:=by
 intro pins s σ H x y v u Q I rx ry h
 obtain ⟨a,kvs,rfl,rfl,ha,q⟩:=h
 cases rx
 cases ry
 obtain ⟨za,hda,xs,ra,da⟩:=ki I.hok ha
 have nd:(xs.map (·.1)).Nodup:=let ⟨_,_,_,_,_,_,_,_,hn⟩:=da; hn
 have fin:EP X pins σ Q (.bool (xs.length == xs.length && true)) s:=⟨.bl true,H,I,(by rw [beq_self_eq_true]; rfl),q⟩
 exact PySem.W.keq_eq (prog:=X.prog) (w:=X.w) (K:=Key) (knd:=aM X.prog X.w) (A:=X.A) (E:=X.xe) (s:=s) (a:=a) (b:=a) (ka:=xs) (kb:=xs) (r:=true) (Q:=EP X pins σ Q) hda hda da da hu (fun _=>selfHits nd) fin
end
end Ow
namespace Ow
open PySem PySem.Spec PyProof.Rows L2
def FB (K:Frag) (x q:Str) (st:Stmt) (f:Addr):Prop:=∃ (oc kV dc pm cd ct:Value) (od an:Option Addr) (sl:Array (Option Value)),K.lookup f = some ⟨oc,od,.func (fnOf x q (fe st) (dH st) (ak st) .none kV dc pm an cd ct),sl⟩/\codeIn K cd q = true/\keepIn K (.ref f) = true
theorem FB.of {K:Frag} {x q:Str} {st:Stmt} {f:Addr} {oc kV dc pm cd ct:Value} {od an:Option Addr} {sl:Array (Option Value)} (a:K.lookup f = some ⟨oc,od,.func (fnOf x q (fe st) (dH st) (ak st) .none kV dc pm an cd ct),sl⟩) (b:codeIn K cd q = true) (c:keepIn K (.ref f) = true):FB K x q st f:=⟨oc,kV,dc,pm,cd,ct,od,an,sl,a,b,c⟩
theorem FB.fn {K:Frag} {x q:Str} {st:Stmt} {f:Addr} (h:FB K x q st f):∃ fd,Fun K x q st f fd/\keepIn K (.ref f) = true:=by
 obtain ⟨oc,kV,dc,pm,cd,ct,od,an,sl,l,c,k⟩:=h
 exact ⟨_,fun_mk (st:=st) l c k,k⟩
end Ow
namespace Ow
open PySem PySem.Spec PyProof.Rows L2
open Builtin.Int (intBits)
def top (i:Nat):Stmt:=PySem.Challenge.pw_overwise_k73_whole_turns_marks_and_cost.main.body.getD i (.Pass ⟨0,0,0,0⟩)
abbrev bQ:Stmt:=az (top 3) 0
theorem fS:FnScope ["self", "found"] ["self", "found"] (ak bQ):=⟨rfl,rfl,rfl,by decide +kernel,rfl,by decide +kernel,by decide +kernel⟩
abbrev iK:Stmt:=top 8
theorem pX:FnScope ["thing"] ["thing"] (ak iK):=⟨rfl,rfl,rfl,by decide +kernel,rfl,by decide +kernel,by decide +kernel⟩
abbrev fo:Stmt:=top 9
theorem lA:FnScope ["thing", "low", "high"] ["thing", "low", "high"] (ak fo):=⟨rfl,rfl,rfl,by decide +kernel,rfl,by decide +kernel,by decide +kernel⟩
abbrev fu:Stmt:=top 10
theorem kW:FnScope ["width"] ["width"] (ak fu):=⟨rfl,rfl,rfl,by decide +kernel,rfl,by decide +kernel,by decide +kernel⟩
abbrev jh:Stmt:=top 11
theorem qT:FnScope ["width", "thing"] ["width", "thing"] (ak jh):=⟨rfl,rfl,rfl,by decide +kernel,rfl,by decide +kernel,by decide +kernel⟩
abbrev ma:Stmt:=top 12
theorem sc_sum_of:FnScope ["width", "a", "b", "total"] ["width", "a", "b"] (ak ma):=⟨rfl,rfl,rfl,by decide +kernel,rfl,by decide +kernel,by decide +kernel⟩
abbrev kO:Stmt:=top 13
theorem rS:FnScope ["width", "a", "b"] ["width", "a", "b"] (ak kO):=⟨rfl,rfl,rfl,by decide +kernel,rfl,by decide +kernel,by decide +kernel⟩
abbrev eA:Stmt:=top 14
theorem kB:FnScope ["width", "a", "b"] ["width", "a", "b"] (ak eA):=⟨rfl,rfl,rfl,by decide +kernel,rfl,by decide +kernel,by decide +kernel⟩
abbrev dj:Stmt:=top 15
theorem jW:FnScope ["width", "a", "b"] ["width", "a", "b"] (ak dj):=⟨rfl,rfl,rfl,by decide +kernel,rfl,by decide +kernel,by decide +kernel⟩
abbrev sh:Stmt:=top 16
theorem sc_left:FnScope ["width", "a", "k"] ["width", "a", "k"] (ak sh):=⟨rfl,rfl,rfl,by decide +kernel,rfl,by decide +kernel,by decide +kernel⟩
abbrev pM:Stmt:=top 17
theorem sc_right:FnScope ["width", "a", "k"] ["width", "a", "k"] (ak pM):=⟨rfl,rfl,rfl,by decide +kernel,rfl,by decide +kernel,by decide +kernel⟩
abbrev oA:Stmt:=top 18
theorem sc_slide:FnScope ["width", "a", "k", "count"] ["width", "a", "k"] (ak oA):=⟨rfl,rfl,rfl,by decide +kernel,rfl,by decide +kernel,by decide +kernel⟩
abbrev gz:Stmt:=top 21
theorem nn:FnScope [] [] (ak gz):=⟨rfl,rfl,rfl,by decide +kernel,rfl,by decide +kernel,by decide +kernel⟩
abbrev dR:Stmt:=top 27
theorem kg:FnScope ["thing"] ["thing"] (ak dR):=⟨rfl,rfl,rfl,by decide +kernel,rfl,by decide +kernel,by decide +kernel⟩
abbrev cP:Stmt:=top 28
theorem iW:FnScope ["things"] ["things"] (ak cP):=⟨rfl,rfl,rfl,by decide +kernel,rfl,by decide +kernel,by decide +kernel⟩
abbrev iA:Stmt:=az (top 30) 1
theorem pq:FnScope ["self"] ["self"] (ak iA):=⟨rfl,rfl,rfl,by decide +kernel,rfl,by decide +kernel,by decide +kernel⟩
abbrev gJ:Stmt:=az (top 31) 1
theorem mi:FnScope ["self"] ["self"] (ak gJ):=⟨rfl,rfl,rfl,by decide +kernel,rfl,by decide +kernel,by decide +kernel⟩
abbrev iE:Stmt:=az (top 33) 0
theorem pT:FnScope ["self"] ["self"] (ak iE):=⟨rfl,rfl,rfl,by decide +kernel,rfl,by decide +kernel,by decide +kernel⟩
abbrev iq:Stmt:=az (top 34) 0
theorem pW:FnScope ["self"] ["self"] (ak iq):=⟨rfl,rfl,rfl,by decide +kernel,rfl,by decide +kernel,by decide +kernel⟩
abbrev il:Stmt:=az (top 36) 0
theorem oC:FnScope ["self"] ["self"] (ak il):=⟨rfl,rfl,rfl,by decide +kernel,rfl,by decide +kernel,by decide +kernel⟩
abbrev gO:Stmt:=az (top 37) 0
theorem nu:FnScope ["self"] ["self"] (ak gO):=⟨rfl,rfl,rfl,by decide +kernel,rfl,by decide +kernel,by decide +kernel⟩
abbrev fY:Stmt:=az (top 39) 0
theorem my:FnScope ["self"] ["self"] (ak fY):=⟨rfl,rfl,rfl,by decide +kernel,rfl,by decide +kernel,by decide +kernel⟩
abbrev eJ:Stmt:=az (top 40) 0
theorem lU:FnScope ["self"] ["self"] (ak eJ):=⟨rfl,rfl,rfl,by decide +kernel,rfl,by decide +kernel,by decide +kernel⟩
abbrev fj:Stmt:=az (top 41) 0
theorem lV:FnScope ["self"] ["self"] (ak fj):=⟨rfl,rfl,rfl,by decide +kernel,rfl,by decide +kernel,by decide +kernel⟩
abbrev iw:Stmt:=az (top 42) 0
theorem oR:FnScope ["self"] ["self"] (ak iw):=⟨rfl,rfl,rfl,by decide +kernel,rfl,by decide +kernel,by decide +kernel⟩
abbrev jK:Stmt:=az (top 43) 0
theorem qV:FnScope ["self"] ["self"] (ak jK):=⟨rfl,rfl,rfl,by decide +kernel,rfl,by decide +kernel,by decide +kernel⟩
abbrev d6:Stmt:=az (top 44) 0
theorem kt:FnScope ["self"] ["self"] (ak d6):=⟨rfl,rfl,rfl,by decide +kernel,rfl,by decide +kernel,by decide +kernel⟩
abbrev fb:Stmt:=az (top 45) 0
theorem lI:FnScope ["self"] ["self"] (ak fb):=⟨rfl,rfl,rfl,by decide +kernel,rfl,by decide +kernel,by decide +kernel⟩
abbrev gj:Stmt:=az (top 46) 1
theorem nU:FnScope ["self"] ["self"] (ak gj):=⟨rfl,rfl,rfl,by decide +kernel,rfl,by decide +kernel,by decide +kernel⟩
abbrev gA:Stmt:=az (top 47) 1
theorem nY:FnScope ["self"] ["self"] (ak gA):=⟨rfl,rfl,rfl,by decide +kernel,rfl,by decide +kernel,by decide +kernel⟩
abbrev dz:Stmt:=az (top 30) 0
theorem jR:FnScope ["self", "goal", "bits"] ["self", "goal", "bits"] (ak dz):=⟨rfl,rfl,rfl,by decide +kernel,rfl,by decide +kernel,by decide +kernel⟩
abbrev cO:Stmt:=az (top 31) 0
theorem iX:FnScope ["self", "goal", "one"] ["self", "goal", "one"] (ak cO):=⟨rfl,rfl,rfl,by decide +kernel,rfl,by decide +kernel,by decide +kernel⟩
abbrev bO:Stmt:=az (top 32) 0
theorem fT:FnScope ["self", "goal", "carry", "one", "other"] ["self", "goal", "carry", "one", "other"] (ak bO):=⟨rfl,rfl,rfl,by decide +kernel,rfl,by decide +kernel,by decide +kernel⟩
abbrev bX:Stmt:=az (top 35) 0
theorem gu:FnScope ["self", "goal", "one", "other"] ["self", "goal", "one", "other"] (ak bX):=⟨rfl,rfl,rfl,by decide +kernel,rfl,by decide +kernel,by decide +kernel⟩
abbrev ce:Stmt:=az (top 38) 0
theorem gX:FnScope ["self", "goal", "one", "k"] ["self", "goal", "one", "k"] (ak ce):=⟨rfl,rfl,rfl,by decide +kernel,rfl,by decide +kernel,by decide +kernel⟩
abbrev cW:Stmt:=az (top 46) 0
theorem i9:FnScope ["self", "goal", "by", "one", "other"] ["self", "goal", "by", "one", "other"] (ak cW):=⟨rfl,rfl,rfl,by decide +kernel,rfl,by decide +kernel,by decide +kernel⟩
abbrev cS:Stmt:=az (top 47) 0
theorem i5:FnScope ["self", "line", "mark", "by"] ["self", "line", "mark", "by"] (ak cS):=⟨rfl,rfl,rfl,by decide +kernel,rfl,by decide +kernel,by decide +kernel⟩
abbrev im:Stmt:=az (top 30) 2
theorem pY:FnScope ["self"] ["self"] (ak im):=⟨rfl,rfl,rfl,by decide +kernel,rfl,by decide +kernel,by decide +kernel⟩
abbrev gx:Stmt:=az (top 31) 2
theorem mE:FnScope ["self"] ["self"] (ak gx):=⟨rfl,rfl,rfl,by decide +kernel,rfl,by decide +kernel,by decide +kernel⟩
abbrev cR:Stmt:=az (top 32) 1
theorem jb:FnScope ["self"] ["self"] (ak cR):=⟨rfl,rfl,rfl,by decide +kernel,rfl,by decide +kernel,by decide +kernel⟩
abbrev dG:Stmt:=az (top 35) 1
theorem jL:FnScope ["self"] ["self"] (ak dG):=⟨rfl,rfl,rfl,by decide +kernel,rfl,by decide +kernel,by decide +kernel⟩
abbrev d9:Stmt:=az (top 38) 1
theorem ku:FnScope ["self"] ["self"] (ak d9):=⟨rfl,rfl,rfl,by decide +kernel,rfl,by decide +kernel,by decide +kernel⟩
abbrev gE:Stmt:=az (top 46) 2
theorem mf:FnScope ["self"] ["self"] (ak gE):=⟨rfl,rfl,rfl,by decide +kernel,rfl,by decide +kernel,by decide +kernel⟩
abbrev gB:Stmt:=az (top 47) 2
theorem mT:FnScope ["self"] ["self"] (ak gB):=⟨rfl,rfl,rfl,by decide +kernel,rfl,by decide +kernel,by decide +kernel⟩
abbrev du:Stmt:=az (top 33) 1
theorem jq:FnScope ["self", "width", "a", "b"] ["self", "width", "a", "b"] (ak du):=⟨rfl,rfl,rfl,by decide +kernel,rfl,by decide +kernel,by decide +kernel⟩
abbrev di:Stmt:=az (top 34) 1
theorem jt:FnScope ["self", "width", "a", "b"] ["self", "width", "a", "b"] (ak di):=⟨rfl,rfl,rfl,by decide +kernel,rfl,by decide +kernel,by decide +kernel⟩
abbrev dE:Stmt:=az (top 36) 1
theorem jD:FnScope ["self", "width", "a", "b"] ["self", "width", "a", "b"] (ak dE):=⟨rfl,rfl,rfl,by decide +kernel,rfl,by decide +kernel,by decide +kernel⟩
abbrev cQ:Stmt:=az (top 37) 1
theorem i4:FnScope ["self", "width", "a", "b"] ["self", "width", "a", "b"] (ak cQ):=⟨rfl,rfl,rfl,by decide +kernel,rfl,by decide +kernel,by decide +kernel⟩
abbrev dF:Stmt:=az (top 42) 1
theorem jx:FnScope ["self", "width", "a", "b"] ["self", "width", "a", "b"] (ak dF):=⟨rfl,rfl,rfl,by decide +kernel,rfl,by decide +kernel,by decide +kernel⟩
abbrev dW:Stmt:=az (top 43) 1
theorem kh:FnScope ["self", "width", "a", "b"] ["self", "width", "a", "b"] (ak dW):=⟨rfl,rfl,rfl,by decide +kernel,rfl,by decide +kernel,by decide +kernel⟩
abbrev ci:Stmt:=az (top 44) 1
theorem g7:FnScope ["self", "width", "a", "b"] ["self", "width", "a", "b"] (ak ci):=⟨rfl,rfl,rfl,by decide +kernel,rfl,by decide +kernel,by decide +kernel⟩
abbrev cB:Stmt:=az (top 45) 1
theorem iB:FnScope ["self", "width", "a", "b"] ["self", "width", "a", "b"] (ak cB):=⟨rfl,rfl,rfl,by decide +kernel,rfl,by decide +kernel,by decide +kernel⟩
abbrev eU:Stmt:=az (top 39) 1
theorem lB:FnScope ["self", "width", "a"] ["self", "width", "a"] (ak eU):=⟨rfl,rfl,rfl,by decide +kernel,rfl,by decide +kernel,by decide +kernel⟩
abbrev dQ:Stmt:=az (top 40) 1
theorem j3:FnScope ["self", "width", "a"] ["self", "width", "a"] (ak dQ):=⟨rfl,rfl,rfl,by decide +kernel,rfl,by decide +kernel,by decide +kernel⟩
abbrev d8:Stmt:=az (top 41) 1
theorem j8:FnScope ["self", "width", "a"] ["self", "width", "a"] (ak d8):=⟨rfl,rfl,rfl,by decide +kernel,rfl,by decide +kernel,by decide +kernel⟩
abbrev dU:Stmt:=az (top 30) 3
theorem km:FnScope ["self", "width"] ["self", "width"] (ak dU):=⟨rfl,rfl,rfl,by decide +kernel,rfl,by decide +kernel,by decide +kernel⟩
abbrev dC:Stmt:=az (top 31) 3
theorem jX:FnScope ["self", "width"] ["self", "width"] (ak dC):=⟨rfl,rfl,rfl,by decide +kernel,rfl,by decide +kernel,by decide +kernel⟩
abbrev bV:Stmt:=az (top 32) 2
theorem gP:FnScope ["self", "width"] ["self", "width"] (ak bV):=⟨rfl,rfl,rfl,by decide +kernel,rfl,by decide +kernel,by decide +kernel⟩
abbrev cm:Stmt:=az (top 35) 2
theorem gW:FnScope ["self", "width"] ["self", "width"] (ak cm):=⟨rfl,rfl,rfl,by decide +kernel,rfl,by decide +kernel,by decide +kernel⟩
abbrev cw:Stmt:=az (top 38) 2
theorem iM:FnScope ["self", "width"] ["self", "width"] (ak cw):=⟨rfl,rfl,rfl,by decide +kernel,rfl,by decide +kernel,by decide +kernel⟩
abbrev dA:Stmt:=az (top 46) 3
theorem jV:FnScope ["self", "width"] ["self", "width"] (ak dA):=⟨rfl,rfl,rfl,by decide +kernel,rfl,by decide +kernel,by decide +kernel⟩
abbrev dB:Stmt:=az (top 47) 3
theorem jS:FnScope ["self", "width"] ["self", "width"] (ak dB):=⟨rfl,rfl,rfl,by decide +kernel,rfl,by decide +kernel,by decide +kernel⟩
abbrev jy:Stmt:=az (top 30) 4
theorem qP:FnScope ["self", "width", "words", "marks"] ["self", "width", "words", "marks"] (ak jy):=⟨rfl,rfl,rfl,by decide +kernel,rfl,by decide +kernel,by decide +kernel⟩
abbrev ij:Stmt:=az (top 31) 4
theorem pA:FnScope ["self", "width", "words", "marks"] ["self", "width", "words", "marks"] (ak ij):=⟨rfl,rfl,rfl,by decide +kernel,rfl,by decide +kernel,by decide +kernel⟩
abbrev dy:Stmt:=az (top 32) 3
theorem sc_Carrying_act:FnScope ["self", "width", "words", "marks", "pair"] ["self", "width", "words", "marks"] (ak dy):=⟨rfl,rfl,rfl,by decide +kernel,rfl,by decide +kernel,by decide +kernel⟩
abbrev eu:Stmt:=az (top 35) 3
theorem kD:FnScope ["self", "width", "words", "marks"] ["self", "width", "words", "marks"] (ak eu):=⟨rfl,rfl,rfl,by decide +kernel,rfl,by decide +kernel,by decide +kernel⟩
abbrev fA:Stmt:=az (top 38) 3
theorem lS:FnScope ["self", "width", "words", "marks"] ["self", "width", "words", "marks"] (ak fA):=⟨rfl,rfl,rfl,by decide +kernel,rfl,by decide +kernel,by decide +kernel⟩
abbrev ii:Stmt:=az (top 46) 4
theorem oP:FnScope ["self", "width", "words", "marks"] ["self", "width", "words", "marks"] (ak ii):=⟨rfl,rfl,rfl,by decide +kernel,rfl,by decide +kernel,by decide +kernel⟩
abbrev ip:Stmt:=az (top 47) 4
theorem pE:FnScope ["self", "width", "words", "marks"] ["self", "width", "words", "marks"] (ak ip):=⟨rfl,rfl,rfl,by decide +kernel,rfl,by decide +kernel,by decide +kernel⟩
abbrev fq:Stmt:=az (top 48) 1
theorem lC:FnScope ["self"] ["self"] (ak fq):=⟨rfl,rfl,rfl,by decide +kernel,rfl,by decide +kernel,by decide +kernel⟩
abbrev cz:Stmt:=az (top 48) 0
theorem iG:FnScope ["self", "times", "steps"] ["self", "times", "steps"] (ak cz):=⟨rfl,rfl,rfl,by decide +kernel,rfl,by decide +kernel,by decide +kernel⟩
abbrev fh:Stmt:=az (top 48) 2
theorem md:FnScope ["self"] ["self"] (ak fh):=⟨rfl,rfl,rfl,by decide +kernel,rfl,by decide +kernel,by decide +kernel⟩
abbrev cT:Stmt:=az (top 48) 3
theorem i7:FnScope ["self", "width"] ["self", "width"] (ak cT):=⟨rfl,rfl,rfl,by decide +kernel,rfl,by decide +kernel,by decide +kernel⟩
abbrev gg:Stmt:=az (top 48) 4
theorem sc_Turns_act:FnScope ["self", "width", "words", "marks", "turn", "step"] ["self", "width", "words", "marks"] (ak gg):=⟨rfl,rfl,rfl,by decide +kernel,rfl,by decide +kernel,by decide +kernel⟩
abbrev j2:Stmt:=top 52
theorem rg:FnScope ["width", "thing", "about"] ["width", "thing", "about"] (ak j2):=⟨rfl,rfl,rfl,by decide +kernel,rfl,by decide +kernel,by decide +kernel⟩
abbrev dm:Stmt:=top 53
theorem sc_place_behind:FnScope ["width", "steps", "place", "about", "step"] ["width", "steps", "place", "about"] (ak dm):=⟨rfl,rfl,rfl,by decide +kernel,rfl,by decide +kernel,by decide +kernel⟩
abbrev dP:Stmt:=top 54
theorem sc_count_words:FnScope ["steps", "times", "counts", "step", "many"] ["steps", "times", "counts"] (ak dP):=⟨rfl,rfl,rfl,by decide +kernel,rfl,by decide +kernel,by decide +kernel⟩
abbrev eS:Stmt:=top 55
theorem sc_need_steps:FnScope ["width", "steps", "counts", "word"] ["width", "steps"] (ak eS):=⟨rfl,rfl,rfl,by decide +kernel,rfl,by decide +kernel,by decide +kernel⟩
abbrev dZ:Stmt:=top 56
theorem kn:FnScope ["width", "steps"] ["width", "steps"] (ak dZ):=⟨rfl,rfl,rfl,by decide +kernel,rfl,by decide +kernel,by decide +kernel⟩
abbrev cF:Stmt:=top 57
theorem sc_need_registers:FnScope ["width", "registers", "key", "name"] ["width", "registers"] (ak cF):=⟨rfl,rfl,rfl,by decide +kernel,rfl,by decide +kernel,by decide +kernel⟩
abbrev gS:Stmt:=top 58
theorem sc_run_steps:FnScope ["width", "steps", "registers", "counts", "words", "marks", "step"] ["width", "steps", "registers"] (ak gS):=⟨rfl,rfl,rfl,by decide +kernel,rfl,by decide +kernel,by decide +kernel⟩
abbrev eg:Stmt:=top 22
theorem sc_need_prices:FnScope ["prices", "table", "word", "price"] ["prices"] (ak eg):=⟨rfl,rfl,rfl,by decide +kernel,rfl,by decide +kernel,by decide +kernel⟩
abbrev hU:Stmt:=top 59
theorem sc_cost_of:FnScope ["width", "steps", "prices", "counts", "table"] ["width", "steps", "prices"] (ak hU):=⟨rfl,rfl,rfl,by decide +kernel,rfl,by decide +kernel,by decide +kernel⟩
abbrev gG:Stmt:=top 61
theorem sc__law_cell:FnScope ["_law_script", "_law_k", "_law_number"] ["_law_script", "_law_k"] (ak gG):=⟨rfl,rfl,rfl,by decide +kernel,rfl,by decide +kernel,by decide +kernel⟩
abbrev eX:Stmt:=top 62
theorem sc__law_begun:FnScope ["_law_cell_here", "_law_rest"] ["_law_cell_here"] (ak eX):=⟨rfl,rfl,rfl,by decide +kernel,rfl,by decide +kernel,by decide +kernel⟩
abbrev gL:Stmt:=top 63
theorem sc__law_draw:FnScope ["_law_state", "_law_many", "_law_found", "_law_number"] ["_law_state", "_law_many"] (ak gL):=⟨rfl,rfl,rfl,by decide +kernel,rfl,by decide +kernel,by decide +kernel⟩
abbrev fB:Stmt:=top 64
theorem kX:FnScope ["_law_found"] ["_law_found"] (ak fB):=⟨rfl,rfl,rfl,by decide +kernel,rfl,by decide +kernel,by decide +kernel⟩
abbrev gq:Stmt:=top 65
theorem sc__law_word:FnScope ["_law_state", "_law_width", "_law_size", "_law_way"] ["_law_state", "_law_width"] (ak gq):=⟨rfl,rfl,rfl,by decide +kernel,rfl,by decide +kernel,by decide +kernel⟩
abbrev fD:Stmt:=top 66
theorem sc__law_names:FnScope ["_law_state", "_law_pool", "_law_signs", "_law_at", "_law_names_here", "_law_k", "_law_name_here", "_law_j"] ["_law_state"] (ak fD):=⟨rfl,rfl,rfl,by decide +kernel,rfl,by decide +kernel,by decide +kernel⟩
abbrev gU:Stmt:=top 67
theorem nK:FnScope ["_law_state", "_law_names_here"] ["_law_state", "_law_names_here"] (ak gU):=⟨rfl,rfl,rfl,by decide +kernel,rfl,by decide +kernel,by decide +kernel⟩
abbrev fc:Stmt:=top 69
theorem sc__law_sorts:FnScope ["_law_words_here"] [] (ak fc):=⟨rfl,rfl,rfl,by decide +kernel,rfl,by decide +kernel,by decide +kernel⟩
abbrev iC:Stmt:=top 68
theorem sc__law_row:FnScope ["_law_state", "_law_width", "_law_names_here", "_law_word_here", "_law_goal", "_law_one", "_law_other", "_law_line"] ["_law_state", "_law_width", "_law_names_here"] (ak iC):=⟨rfl,rfl,rfl,by decide +kernel,rfl,by decide +kernel,by decide +kernel⟩
abbrev gK:Stmt:=top 71
theorem sc__law_shut:FnScope ["_law_heads", "_law_rounds", "_law_room", "_law_rows"] ["_law_heads", "_law_rounds", "_law_room"] (ak gK):=⟨rfl,rfl,rfl,by decide +kernel,rfl,by decide +kernel,by decide +kernel⟩
abbrev gs:Stmt:=top 70
theorem sc__law_tree:FnScope ["_law_script", "_law_width", "_law_names_here", "_law_most", "_law_heads", "_law_rounds", "_law_room", "_law_k", "_law_state", "_law_way", "_law_many"] ["_law_script", "_law_width", "_law_names_here", "_law_most"] (ak gs):=⟨rfl,rfl,rfl,by decide +kernel,rfl,by decide +kernel,by decide +kernel⟩
abbrev cA:Stmt:=top 72
theorem iL:FnScope ["_law_row_here"] ["_law_row_here"] (ak cA):=⟨rfl,rfl,rfl,by decide +kernel,rfl,by decide +kernel,by decide +kernel⟩
abbrev gH:Stmt:=top 73
theorem ng:FnScope ["_law_row_here"] ["_law_row_here"] (ak gH):=⟨rfl,rfl,rfl,by decide +kernel,rfl,by decide +kernel,by decide +kernel⟩
abbrev cx:Stmt:=top 74
theorem iy:FnScope ["_law_word_here", "_law_a", "_law_b", "_law_size"] ["_law_word_here", "_law_a", "_law_b", "_law_size"] (ak cx):=⟨rfl,rfl,rfl,by decide +kernel,rfl,by decide +kernel,by decide +kernel⟩
abbrev eO:Stmt:=top 75
theorem lv:FnScope ["_law_word_here", "_law_a", "_law_k", "_law_size"] ["_law_word_here", "_law_a", "_law_k", "_law_size"] (ak eO):=⟨rfl,rfl,rfl,by decide +kernel,rfl,by decide +kernel,by decide +kernel⟩
abbrev gR:Stmt:=top 76
theorem sc__law_done:FnScope ["_law_size", "_law_row_here", "_law_held_here", "_law_marks", "_law_at", "_law_a", "_law_b", "_law_total"] ["_law_size", "_law_row_here", "_law_held_here", "_law_marks"] (ak gR):=⟨rfl,rfl,rfl,by decide +kernel,rfl,by decide +kernel,by decide +kernel⟩
abbrev eV:Stmt:=top 77
theorem lc:FnScope [] [] (ak eV):=⟨rfl,rfl,rfl,by decide +kernel,rfl,by decide +kernel,by decide +kernel⟩
abbrev gF:Stmt:=top 78
theorem nz:FnScope ["_law_found", "_law_held_here", "_law_marks", "_law_counts"] ["_law_found", "_law_held_here", "_law_marks", "_law_counts"] (ak gF):=⟨rfl,rfl,rfl,by decide +kernel,rfl,by decide +kernel,by decide +kernel⟩
abbrev ir:Stmt:=top 79
theorem sc__law_run:FnScope ["_law_size", "_law_rows", "_law_held_here", "_law_marks", "_law_counts", "_law_row_here", "_law_turn"] ["_law_size", "_law_rows", "_law_held_here", "_law_marks", "_law_counts"] (ak ir):=⟨rfl,rfl,rfl,by decide +kernel,rfl,by decide +kernel,by decide +kernel⟩
abbrev gk:Stmt:=top 80
theorem sc__law_flat:FnScope ["_law_rows", "_law_found", "_law_row_here"] ["_law_rows"] (ak gk):=⟨rfl,rfl,rfl,by decide +kernel,rfl,by decide +kernel,by decide +kernel⟩
abbrev fG:Stmt:=top 81
theorem sc__law_costs:FnScope ["_law_width", "_law_steps", "_law_state", "_law_counts", "_law_prices", "_law_word_here", "_law_kept", "_law_found", "_law_due"] ["_law_width", "_law_steps", "_law_state", "_law_counts"] (ak fG):=⟨rfl,rfl,rfl,by decide +kernel,rfl,by decide +kernel,by decide +kernel⟩
abbrev fW:Stmt:=top 82
theorem sc__law_dear:FnScope ["_law_state", "_law_width", "_law_steps", "_law_prices", "_law_word_here", "_law_bad", "e"] ["_law_state", "_law_width", "_law_steps"] (ak fW):=⟨rfl,rfl,rfl,by decide +kernel,rfl,by decide +kernel,by decide +kernel⟩
abbrev dv:Stmt:=top 83
theorem sc__law_counted:FnScope ["_law_width", "_law_steps", "_law_counts", "_law_found"] ["_law_width", "_law_steps", "_law_counts"] (ak dv):=⟨rfl,rfl,rfl,by decide +kernel,rfl,by decide +kernel,by decide +kernel⟩
abbrev gQ:Stmt:=top 84
theorem sc__law_held:FnScope ["_law_state", "_law_width", "_law_names_here", "_law_held_here", "_law_name_here"] ["_law_state", "_law_width", "_law_names_here"] (ak gQ):=⟨rfl,rfl,rfl,by decide +kernel,rfl,by decide +kernel,by decide +kernel⟩
abbrev lh:Stmt:=top 85
theorem sc_law:FnScope ["_law_script", "_law_state", "_law_width", "_law_names_here", "_law_held_here", "_law_rows", "_law_steps", "_law_behind", "_law_marks", "_law_counts", "_law_handed", "_law_flat_here", "_law_found"] ["_law_script"] (ak lh):=⟨rfl,rfl,rfl,by decide +kernel,rfl,by decide +kernel,by decide +kernel⟩
def fM (K:Frag) (cs:List Addr) (st:Addr):Bool:=isClsIn K st && (typeIn K (.ref st) == some (.type "type")) && (List.range 16).all fun k=>isClsIn K (cs.getD k 0) && (typeIn K (.ref (cs.getD k 0)) == some (.type "type")) && (mroIn K (cs.getD k 0) (.ref st) == some true) && (findIn K (.ref (cs.getD k 0)) "__class__" == some (some (.builtin "object.__class__"))) && (mroIn K (cs.getD k 0) (.type "object") == some true) && (List.range 16).all fun i=>mroIn K (cs.getD k 0) (.ref (cs.getD i 0)) == some (decide (i = k))
structure Ad where
 Set:Addr
 Copy:Addr
 Sum:Addr
 Gap:Addr
 Low:Addr
 High:Addr
 Left:Addr
 Right:Addr
 Slide:Addr
 And:Addr
 Or:Addr
 Unlike:Addr
 Under:Addr
 Pick:Addr
 Mark:Addr
 Turns:Addr
 Step:Addr
 NoPrices:Addr
 ROW_WORDS:Addr
 MARKS:Addr
structure Txt (K:Frag) (mg:Str->Option Value) (c:Ad):Prop where
 n_isinstance:mg "isinstance" = none
 n_int:mg "int" = none
 n_bool:mg "bool" = none
 n_str:mg "str" = none
 n_list:mg "list" = none
 n_tuple:mg "tuple" = none
 n_dict:mg "dict" = none
 n_len:mg "len" = none
 n_max:mg "max" = none
 n_min:mg "min" = none
 n_range:mg "range" = none
 n_all:mg "all" = none
 n_sum:mg "sum" = none
 n_sorted:mg "sorted" = none
 g_Set:mg "Set" = some (.ref c.Set)
 cl_Set:Cls K c.Set
 na_Set_goal:NoAttr K c.Set "goal"
 na_Set_bits:NoAttr K c.Set "bits"
 g_Copy:mg "Copy" = some (.ref c.Copy)
 cl_Copy:Cls K c.Copy
 na_Copy_goal:NoAttr K c.Copy "goal"
 na_Copy_one:NoAttr K c.Copy "one"
 g_Sum:mg "Sum" = some (.ref c.Sum)
 cl_Sum:Cls K c.Sum
 na_Sum_goal:NoAttr K c.Sum "goal"
 na_Sum_carry:NoAttr K c.Sum "carry"
 na_Sum_one:NoAttr K c.Sum "one"
 na_Sum_other:NoAttr K c.Sum "other"
 g_Gap:mg "Gap" = some (.ref c.Gap)
 cl_Gap:Cls K c.Gap
 na_Gap_goal:NoAttr K c.Gap "goal"
 na_Gap_carry:NoAttr K c.Gap "carry"
 na_Gap_one:NoAttr K c.Gap "one"
 na_Gap_other:NoAttr K c.Gap "other"
 g_Low:mg "Low" = some (.ref c.Low)
 cl_Low:Cls K c.Low
 na_Low_goal:NoAttr K c.Low "goal"
 na_Low_one:NoAttr K c.Low "one"
 na_Low_other:NoAttr K c.Low "other"
 g_High:mg "High" = some (.ref c.High)
 cl_High:Cls K c.High
 na_High_goal:NoAttr K c.High "goal"
 na_High_one:NoAttr K c.High "one"
 na_High_other:NoAttr K c.High "other"
 g_Left:mg "Left" = some (.ref c.Left)
 cl_Left:Cls K c.Left
 na_Left_goal:NoAttr K c.Left "goal"
 na_Left_one:NoAttr K c.Left "one"
 na_Left_k:NoAttr K c.Left "k"
 g_Right:mg "Right" = some (.ref c.Right)
 cl_Right:Cls K c.Right
 na_Right_goal:NoAttr K c.Right "goal"
 na_Right_one:NoAttr K c.Right "one"
 na_Right_k:NoAttr K c.Right "k"
 g_Slide:mg "Slide" = some (.ref c.Slide)
 cl_Slide:Cls K c.Slide
 na_Slide_goal:NoAttr K c.Slide "goal"
 na_Slide_one:NoAttr K c.Slide "one"
 na_Slide_k:NoAttr K c.Slide "k"
 g_And:mg "And" = some (.ref c.And)
 cl_And:Cls K c.And
 na_And_goal:NoAttr K c.And "goal"
 na_And_one:NoAttr K c.And "one"
 na_And_other:NoAttr K c.And "other"
 g_Or:mg "Or" = some (.ref c.Or)
 cl_Or:Cls K c.Or
 na_Or_goal:NoAttr K c.Or "goal"
 na_Or_one:NoAttr K c.Or "one"
 na_Or_other:NoAttr K c.Or "other"
 g_Unlike:mg "Unlike" = some (.ref c.Unlike)
 cl_Unlike:Cls K c.Unlike
 na_Unlike_goal:NoAttr K c.Unlike "goal"
 na_Unlike_one:NoAttr K c.Unlike "one"
 na_Unlike_other:NoAttr K c.Unlike "other"
 g_Under:mg "Under" = some (.ref c.Under)
 cl_Under:Cls K c.Under
 na_Under_goal:NoAttr K c.Under "goal"
 na_Under_one:NoAttr K c.Under "one"
 na_Under_other:NoAttr K c.Under "other"
 g_Pick:mg "Pick" = some (.ref c.Pick)
 cl_Pick:Cls K c.Pick
 na_Pick_goal:NoAttr K c.Pick "goal"
 na_Pick_by:NoAttr K c.Pick "by"
 na_Pick_one:NoAttr K c.Pick "one"
 na_Pick_other:NoAttr K c.Pick "other"
 g_Mark:mg "Mark" = some (.ref c.Mark)
 cl_Mark:Cls K c.Mark
 na_Mark_line:NoAttr K c.Mark "line"
 na_Mark_mark:NoAttr K c.Mark "mark"
 na_Mark_by:NoAttr K c.Mark "by"
 g_Turns:mg "Turns" = some (.ref c.Turns)
 cl_Turns:Cls K c.Turns
 na_Turns_times:NoAttr K c.Turns "times"
 na_Turns_steps:NoAttr K c.Turns "steps"
 g_Step:mg "Step" = some (.ref c.Step)
 cl_Step:Cls K c.Step
 g_NoPrices:mg "NoPrices" = some (.ref c.NoPrices)
 g_ROW_WORDS:mg "ROW_WORDS" = some (.ref c.ROW_WORDS)
 q_ROW_WORDS:∀ H,SqT K H c.ROW_WORDS [.str "set",.str "copy",.str "sum",.str "gap",.str "low",.str "high",.str "left",.str "right",.str "slide",.str "and",.str "or",.str "unlike",.str "under",.str "pick",.str "mark",.str "turns"]
 g_MARKS:mg "MARKS" = some (.ref c.MARKS)
 q_MARKS:∀ H,SqT K H c.MARKS [.str "round",.str "stop",.str "nothing"]
 g_LETTERS:∃ t,mg "LETTERS" = some (.str "abcdefghijklmnopqrstuvwxyz" t)
 g_LETTERS_AND_FIGURES:∃ t,mg "LETTERS_AND_FIGURES" = some (.str "abcdefghijklmnopqrstuvwxyz0123456789" t)
 g_MOST_DONE:∃ t,mg "MOST_DONE" = some (.int 1000000 t)
 g_MOST_TURNS:∃ t,mg "MOST_TURNS" = some (.int 5 t)
 kf_og:PySem.W.specialIn K (.builtin "object.__class__") "__get__" = some (some (.builtin "getset_descriptor.__get__"))
 kf_ot:PySem.W.takesIn K (.builtin "object.__class__") = some true
 kf_kr_kinds:fM K [c.Set,c.Copy,c.Sum,c.Gap,c.Low,c.High,c.Left,c.Right,c.Slide,c.And,c.Or,c.Unlike,c.Under,c.Pick,c.Mark,c.Turns] c.Step = true
 kf_if_:isClsIn K c.NoPrices = true
 kf_tf:typeIn K (.ref c.NoPrices) = some (.type "type")
 kf_mf:mroIn K c.NoPrices (.ref c.NoPrices) = some true
 kf_wb:mroIn K c.NoPrices (.type "BaseException") = some true
 kf_ga:findIn K (.ref c.NoPrices) "__getattribute__" = some (some (.builtin "BaseException.__getattribute__"))
 kf_gn:findIn K (.ref c.NoPrices) "__getattr__" = some none
 kf_gc:findIn K (.ref c.NoPrices) "__class__" = some (some (.builtin "object.__class__"))
 kf_mo:mroIn K c.NoPrices (.type "object") = some true
 kf_mb:mroIn K c.NoPrices (.type "BaseException") = some true
 kf_hd:hasDictIn K c.NoPrices = true
 kf_nf:findIn K (.ref c.NoPrices) "found" = some none
theorem aV {w:Int} (h1:4<=w) (h2:w<=32):16<=(2:Int) ^ w.toNat/\(2:Int) ^ w.toNat<=4294967296:=by
 have a:(2:Int) ^ 4<=2 ^ w.toNat:=p_mono (by lia)
 have b:(2:Int) ^ w.toNat<=2 ^ 32:=p_mono (by lia)
 exact ⟨a,b⟩
theorem eL {m:Int} (h0:0 < m) (h:m < 2 ^ 80):m.natAbs.log2 < 9000:=by
 have h1:m.natAbs ≠ 0:=by lia
 have h2:m.natAbs < 2 ^ 80:=by lia
 have:=(Nat.log2_lt h1).mpr h2
 lia
theorem jz {w:Int} (h1:0<=w) (h2:w<=100000):CPow 1 w:=⟨h1,by lia,by decide⟩
theorem lZ {x y m:Int} (h0:0 < m) (h:m<=2 ^ 64):CMul (x % m) y:=by
 have a:=Int.emod_nonneg x (show m ≠ 0 by lia)
 have b:=Int.emod_lt_of_pos x h0
 exact .inl ⟨by lia,by lia⟩
theorem cmul_l {x y:Int} (h0:0<=x) (h:x < 2 ^ 64):CMul x y:=.inl ⟨by lia,h⟩
def fZ:Sp:=fun vs H Q _=>∃ i:Int,vs = [.int i]/\Q (.bl true) H
def cV:Sp:=fun vs H Q _=>∃ i lo hi:Int,vs = [.int i,.int lo,.int hi]/\lo<=i/\i<=hi/\Q (.bl true) H
def dn:Sp:=fun vs H Q _=>∃ i:Int,vs = [.int i]/\4<=i/\i<=32/\Q .non H
def spLaw (K:Frag):Sp:=fun vs H Q _=>∃ (a:Addr) (ns:List Int),vs = [.ref a]/\SqL K H a (ns.map V.int)/\ns.length<=63/\∀ H',Q (.bl true) H'
theorem oJ {x:Int} (h1:-(2 ^ 200) < x) (h2:x < 2 ^ 200):intBits x<=100000:=Nat.le_trans (intBits_le_iff.mpr (show x.natAbs < 2 ^ 200 by lia)) (by decide)
def spBox:Sp:=fun vs H Q _=>∃ c:Int,vs = [.int c]/\∀ p H',H p = none->Box H' p->Same H H'->Q (.ref p) H'
def qA (K:Frag):Sp:=fun vs H Q _=>∃ (a:Addr) (ns:List Int) (k:Int),vs = [.ref a,.int k]/\SqL K H a (ns.map V.int)/\0<=k/\k<=1000/\∀ c:Int,Q (.int c) H
theorem pw_half {w:Int} (h1:4<=w):(2:Int) ^ w.toNat = 2 * 2 ^ (w - 1).toNat:=by
 have e:w.toNat = (w - 1).toNat + 1:=by lia
 rw [e,Int.pow_succ,Int.mul_comm]
def cnt (w a:Int):Int:=if a < 1 * 2 ^ (w - 1).toNat then a else a - 1 * 2 ^ w.toNat
def spSum:Sp:=fun vs H Q _=>∃ w a b:Int,vs = [.int w,.int a,.int b]/\4<=w/\w<=32/\∀ t,H t = none->Q (.ref t) (upd H t (.tup [.int ((a + b) % (1 * 2 ^ w.toNat)),.int ((a + b) / 2 ^ w.toNat)]))
def spGap:Sp:=fun vs H Q _=>∃ w a b:Int,vs = [.int w,.int a,.int b]/\4<=w/\w<=32/\∀ t,H t = none->Q (.ref t) (upd H t (.tup [.int ((a - b) % (1 * 2 ^ w.toNat)),.int (if a < b then 1 else 0)]))
def spLow:Sp:=fun vs H Q _=>∃ w a b:Int,vs = [.int w,.int a,.int b]/\4<=w/\w<=32/\CMul a b/\Q (.int ((a * b) % (1 * 2 ^ w.toNat))) H
def tM:Sp:=fun vs H Q _=>∃ w a b:Int,vs = [.int w,.int a,.int b]/\4<=w/\w<=32/\CMul a b/\Q (.int ((a * b) / 2 ^ w.toNat)) H
def sf:Sp:=fun vs H Q _=>∃ w a k:Int,vs = [.int w,.int a,.int k]/\4<=w/\w<=32/\CPow a k/\Q (.int ((a * 2 ^ k.toNat) % (1 * 2 ^ w.toNat))) H
def pb:Sp:=fun vs H Q _=>∃ w a k:Int,vs = [.int w,.int a,.int k]/\4<=w/\w<=32/\0<=k/\Q (.int (a / 2 ^ k.toNat)) H
def oU:Sp:=fun vs H Q _=>∃ w a k:Int,vs = [.int w,.int a,.int k]/\4<=w/\w<=32/\0<=k/\Q (.int ((cnt w a / 2 ^ k.toNat) % (1 * 2 ^ w.toNat))) H
theorem iteC {c A B:Prop} [Decidable c] (h1:c->A) (h2:¬ c->B):if decide c = true then A else B:=by
 by_cases h:c
 ·exact bP h (h1 h)
 ·exact aI h (h2 h)
theorem iteI {a b:Int} {A B:Prop} (h1:a = b->A) (h2:a ≠ b->B):if decide (V.int a = V.int b) = true then A else B:=iteC (fun z=>h1 (by injection z)) (fun z=>h2 (fun e=>z (congrArg V.int e)))
local macro_rules | `(tactic| walk_at "s")=>`(tactic| first
 | lia | assumption | exact ty_int | exact rfl | (dsimp only; lia) | exact jz (by lia) (by lia) | exact ⟨by decide,by decide⟩ | exact ⟨by lia,eL (by lia) (by lia)⟩
 | exact .inr ⟨by decide,by decide⟩ | exact .inl ⟨by decide,by decide⟩ | exact .inl ⟨by lia,by lia⟩ | exact .inr ⟨by lia,by lia⟩ | exact ⟨oJ (by lia) (by lia),oJ (by lia) (by lia)⟩
 | exact ⟨by decide,by decide,by decide⟩ | exact Nat.le_of_ble_eq_true rfl)
local macro_rules | `(tactic| walk_at "q")=>`(tactic| first | exact SqT.of (by first | assumption | exact af) | exact SqL.of (by first | assumption | exact af) | assumption)
local macro_rules | `(tactic| walk_at "o")=>`(tactic| repeat (first
 | refine ⟨_,rfl,?_⟩ | refine ⟨_,_,rfl,rfl,?_⟩ | with_reducible refine cE ?_ | with_reducible refine eG ?_
 | refine ⟨_,_,_,_,rfl,rfl,(by walk_at "q"),rfl,?_⟩
 | refine And.intro (by walk_at "s") ?_
 | refine ⟨_,_,rfl,?_⟩ | refine ⟨_,_,_,rfl,?_⟩
 | refine ⟨_,_,_,_,_,rfl,rfl,TyOf.int _,fX _,?_⟩ | refine ⟨_,_,_,_,_,rfl,rfl,TyOf.int _,fE _,?_⟩
 | refine ⟨_,_,_,_,_,rfl,rfl,TyOf.bl _,rfl,?_⟩
 | refine ⟨_,_,_,_,_,rfl,rfl,TyOf.tup (by assumption),rfl,?_⟩
 | refine ⟨_,_,rfl,.inr (SqT.of (by assumption)),?_⟩ | refine ⟨_,_,rfl,.inl (SqL.of (by assumption)),?_⟩
 | with_reducible refine bP (by lia) ?_ | with_reducible refine aI (by lia) ?_ | with_reducible refine iteN (by lia) ?_ | with_reducible refine nZ (by lia) ?_
 | with_reducible refine nZ rfl ?_))
local macro_rules | `(tactic| walk_at "c")=>`(tactic| first | with_reducible refine iteI ?_ ?_ | with_reducible refine iteIN ?_ ?_ | with_reducible refine iteC ?_ ?_ | with_reducible refine iteCN ?_ ?_ | refine ite2 ?_ ?_)
local macro_rules | `(tactic| walk_at "n")=>`(tactic| (intro z; injection z with z; revert z; decide +kernel))
def fOf (c:Ad):Nat->Addr
 | 0=>c.Set
 | 1=>c.Copy
 | 2=>c.Sum
 | 3=>c.Gap
 | 4=>c.Low
 | 5=>c.High
 | 6=>c.Left
 | 7=>c.Right
 | 8=>c.Slide
 | 9=>c.And
 | 10=>c.Or
 | 11=>c.Unlike
 | 12=>c.Under
 | 13=>c.Pick
 | 14=>c.Mark
 | 15=>c.Turns
 | _=>0
def wOf:Nat->Str
 | 0=>"set"
 | 1=>"copy"
 | 2=>"sum"
 | 3=>"gap"
 | 4=>"low"
 | 5=>"high"
 | 6=>"left"
 | 7=>"right"
 | 8=>"slide"
 | 9=>"and"
 | 10=>"or"
 | 11=>"unlike"
 | 12=>"under"
 | 13=>"pick"
 | 14=>"mark"
 | 15=>"turns"
 | _=>""
def nOf:Nat->List Str
 | 0=>["goal", "bits"]
 | 1=>["goal", "one"]
 | 2=>["goal", "carry", "one", "other"]
 | 3=>["goal", "carry", "one", "other"]
 | 4=>["goal", "one", "other"]
 | 5=>["goal", "one", "other"]
 | 6=>["goal", "one", "k"]
 | 7=>["goal", "one", "k"]
 | 8=>["goal", "one", "k"]
 | 9=>["goal", "one", "other"]
 | 10=>["goal", "one", "other"]
 | 11=>["goal", "one", "other"]
 | 12=>["goal", "one", "other"]
 | 13=>["goal", "by", "one", "other"]
 | 14=>["line", "mark", "by"]
 | 15=>["times", "steps"]
 | _=>[]
theorem len2 {as:List V} {f g:Str} (h:as.length = [f,g].length):∃ a0 a1,as = [a0,a1]:=by
 match as,h with
 | [a,b],_=>exact ⟨a,b,rfl⟩
theorem iY {as:List V} {f g i:Str} (h:as.length = [f,g,i].length):∃ a0 a1 a2,as = [a0,a1,a2]:=by
 match as,h with
 | [a,b,d],_=>exact ⟨a,b,d,rfl⟩
theorem len4 {as:List V} {f g i j:Str} (h:as.length = [f,g,i,j].length):∃ a0 a1 a2 a3,as = [a0,a1,a2,a3]:=by
 match as,h with
 | [a,b,d,e],_=>exact ⟨a,b,d,e,rfl⟩
def eE (s:Str):Sp:=fun vs H Q _=>∃ x:Addr,vs = [.ref x]/\Q (.str s) H
def aP (K:Frag) (fs:List Str):Sp:=fun vs H Q _=>∃ (x C dx:Addr) (as:List V),vs = .ref x :: as/\as.length = fs.length/\H x = some (.ins C dx [])/\Cls K C/\(∀ f ∈ fs,NoAttr K C f)/\∀ H',H' x = some (.ins C dx (fs.zip as))->SameX x H H'->Q .non H'
def StepAt (c:Ad) (H:Hp) (x:Addr) (k:Nat) (fs:List V):Prop:=∃ dx,H x = some (.ins (fOf c k) dx ((nOf k).zip fs))/\fs.length = (nOf k).length
def bo (c:Ad) (ks:List Nat):Sp:=fun vs H Q _=>∃ (x:Addr) (k:Nat) (fs:List V),vs = [.ref x]/\k ∈ ks/\StepAt c H x k fs/\∀ r,H r = none->Q (.ref r) (upd H r (.tup (.str (wOf k) :: fs)))
def inS (j i:Str):Bool:=!(Builtin.Str.occurrences j i 0 j.length 1).isEmpty
def LT:Str:="abcdefghijklmnopqrstuvwxyz"
def LF:Str:="abcdefghijklmnopqrstuvwxyz0123456789"
def isReg:V->Bool
 | .str z=>decide (1<=z.length) && decide (z.length<=8) && (match z.cps[0]? with | some n=>inS LT ⟨#[n]⟩ | none=>false) && z.cps.toList.all fun n=>inS LF ⟨#[n]⟩
 | _=>false
def mB:Sp:=fun vs H Q _=>∃ x:V,vs = [x]/\Th H x/\(∀ z,x = .str z->z.length<=sizeLine)/\∀ H',Same H H'->Q (.bl (isReg x)) H'
theorem o8 (K:Frag):kitOne K (.type "int") (.type "str") = some false:=by with_unfolding_all rfl
theorem qX (K:Frag):kitOne K (.type "bool") (.type "str") = some false:=by with_unfolding_all rfl
theorem pZ (K:Frag):kitOne K (.type "NoneType") (.type "str") = some false:=by with_unfolding_all rfl
theorem oQ (K:Frag):kitOne K (.type "list") (.type "str") = some false:=by with_unfolding_all rfl
theorem oE (K:Frag):kitOne K (.type "tuple") (.type "str") = some false:=by with_unfolding_all rfl
theorem pF (K:Frag):kitOne K (.type "dict") (.type "str") = some false:=by with_unfolding_all rfl
theorem jm (K:Frag):kitOne K (.type "str") (.type "str") = some true:=by with_unfolding_all rfl
def oh (K:Frag):Sp:=fun vs H Q _=>∃ (x C dx l:Addr) (n:V) (xs:List V),vs = [.ref x,n,.ref l]/\H x = some (.ins C dx [])/\H l = some (.lst xs)/\Cls K C/\(∀ f ∈ ["times", "steps"],NoAttr K C f)/\∀ l' H',H l' = none->H' x = some (.ins C dx [("times",n),("steps",.ref l')])->H' l' = some (.lst xs)->SameX x H H'->Q .non H'
def dS (c:Ad) (H:Hp) (x:Addr) (n:V) (xs:List V):Prop:=∃ dx l,H x = some (.ins c.Turns dx [("times",n),("steps",.ref l)])/\H l = some (.lst xs)
theorem StepAt.same {c:Ad} {H H':Hp} {x:Addr} {k:Nat} {fs:List V} (h:StepAt c H x k fs) (s:Same H H'):StepAt c H' x k fs:=let ⟨dx,e,l⟩:=h; ⟨dx,s _ _ e,l⟩
theorem Same.updL {H H':Hp} {l:Addr} {o:HO} (s:Same H H') (hl:H l = none):Same H (upd H' l o):=fun b u e=>by rw [am (aw e hl)]; exact s b u e
theorem Same.none {H H':Hp} (s:Same H H') {l:Addr} (h:H' l = none):H l = none:=by
 cases e:H l with
 | none=>rfl
 | some o=>rw [s _ _ e] at h; cases h
def cU:Sp:=fun vs H Q _=>∃ (p:Addr) (m:Int),vs = [.ref p,.int m]/\Box H p/\0 < m/\m < 2 ^ 80/\∀ (d:Int) H',0<=d->d < m->Box H' p->SameX p H H'->Q (.int d) H'
theorem at0 (v:V) (r:List V):atI (v :: r) 0 = some v:=by
 show atI (v :: r) ((0:Nat):Int) = some v
 rw [fF]
 rfl
theorem i3 {xs:List V} {k:Int} (h0:0<=k) (h1:k < xs.length) {Pr:V->Prop} (ha:∀ x ∈ xs,Pr x):∃ v,Pr v/\atI xs k = some v:=by
 have hk:k.toNat < xs.length:=by lia
 refine ⟨xs[k.toNat]'hk,ha _ (List.getElem_mem hk),?_⟩
 have:=fF (List.getElem?_eq_getElem hk)
 rw [show ((k.toNat:Nat):Int) = k by lia] at this
 exact this
def AllV (Pr:V->Prop):List V->Prop
 | []=>True
 | x :: t=>Pr x/\AllV Pr t
theorem rE {Pr:V->Prop}:∀ {xs:List V},AllV Pr xs->∀ x ∈ xs,Pr x
 | [],_,_,h=>nomatch h
 | _ :: _,⟨a,b⟩,x,h=>(List.mem_cons.mp h).elim (fun e=>e ▸ a) (rE b x)
theorem dL {H:Hp} {p:Addr} (h:H p = none) (o:HO):∃ G,upd H p o = G/\Same H G/\G p = some o:=⟨_,rfl,ap h _,af⟩
theorem Box.ne {H:Hp} {p l:Addr} (b:Box H p) (h:H l = none):l ≠ p:=fun z=>by
 obtain ⟨r,s1,c,e⟩:=b
 rw [z,e] at h
 cases h
structure RgA (z:Str):Prop where
 n1:1<=z.length
 fst:∀ n,z.cps[0]? = some n->inS LT ⟨#[n]⟩ = true
 al:∀ n ∈ z.cps.toList,inS LF ⟨#[n]⟩ = true
theorem RgA.reg {z:Str} (h:RgA z) (l:z.length<=8):isReg (.str z) = true:=by
 have lz:z.length = z.cps.size:=rfl
 have n1:=h.n1
 have s1:0 < z.cps.size:=by lia
 have e0:z.cps[0]? = some z.cps[0]:=Array.getElem?_eq_getElem s1
 show (decide (1<=z.length) && decide (z.length<=8) && (match z.cps[0]? with | some n=>inS LT ⟨#[n]⟩ | none=>false) && z.cps.toList.all fun n=>inS LF ⟨#[n]⟩) = true
 rw [decide_eq_true n1,decide_eq_true l,e0,List.all_eq_true.mpr h.al]
 show (true && true && inS LT ⟨#[z.cps[0]]⟩ && true) = true
 rw [h.fst _ e0]
 rfl
theorem lfC:∀ i:Nat,i < 36->∃ n,(LF.cps.toList)[i]? = some n/\inS LF ⟨#[n]⟩ = true/\(i < 26->inS LT ⟨#[n]⟩ = true):=by
 have h:∀ i ∈ List.range 36,(match (LF.cps.toList)[i]? with | some n=>inS LF ⟨#[n]⟩ && (decide (26<=i) || inS LT ⟨#[n]⟩) | none=>false) = true:=by decide +kernel
 intro i hi
 have:=h i (List.mem_range.mpr hi)
 cases e:(LF.cps.toList)[i]? with
 | none=>rw [e] at this; cases this
 | some n =>
  rw [e] at this
  have this:(inS LF ⟨#[n]⟩ && (decide (26<=i) || inS LT ⟨#[n]⟩)) = true:=this
  rw [Bool.and_eq_true,Bool.or_eq_true,decide_eq_true_eq] at this
  exact ⟨n,rfl,this.1,fun h=>this.2.resolve_left (by lia)⟩
theorem lfI {k:Int} (h0:0<=k) (h1:k < 36):∃ n,atI LF.cps.toList k = some n/\inS LF ⟨#[n]⟩ = true/\(k < 26->inS LT ⟨#[n]⟩ = true):=by
 obtain ⟨n,e,a,b⟩:=lfC k.toNat (by lia)
 have:=fF e
 rw [show ((k.toNat:Nat):Int) = k by lia] at this
 exact ⟨n,this,a,fun h=>b (by lia)⟩
theorem RgA.one {n:Nat} (h1:inS LT ⟨#[n]⟩ = true) (h2:inS LF ⟨#[n]⟩ = true):RgA ⟨#[n]⟩:=⟨Nat.le_refl 1,fun m e=>by cases e; exact h1,fun m hm=>by rw [List.mem_singleton.mp hm]; exact h2⟩
theorem RgA.snoc {z:Str} {n:Nat} (h:RgA z) (h2:inS LF ⟨#[n]⟩ = true):RgA (z ++ ⟨#[n]⟩)/\(z ++ ⟨#[n]⟩:Str).length = z.length + 1:=by
 have e:(z ++ ⟨#[n]⟩:Str).cps = z.cps ++ #[n]:=rfl
 have lz:z.length = z.cps.size:=rfl
 have n1:=h.n1
 have l1:(z ++ ⟨#[n]⟩:Str).length = z.length + 1:=by show (z.cps ++ #[n]).size = _; rw [Array.size_append]; rfl
 refine ⟨⟨by lia,fun m hm=>?_,fun m hm=>?_⟩,l1⟩
 ·rw [e,Array.getElem?_append_left (by lia)] at hm
  exact h.fst m hm
 ·rw [e,Array.toList_append] at hm
  rcases List.mem_append.mp hm with hm | hm
  ·exact h.al m hm
  ·rw [List.mem_singleton.mp hm]; exact h2
def Rg (z:Str):Prop:=RgA z/\z.length<=8
inductive Rw where
 | set (g:Str) (b:Int)
 | copy (g a:Str)
 | car (k:Nat) (g:Str) (c:Option Str) (a b:Str)
 | jn (k:Nat) (g a b:Str)
 | mv (k:Nat) (g a:Str) (j:Int)
 | pick (g y a b:Str)
 | mark (n:Int) (m:Str) (y:Str)
def oV:Option Str->V
 | none=>.non
 | some z=>.str z
def Rw.k:Rw->Nat
 | .set ..=>0
 | .copy ..=>1
 | .car k ..=>k
 | .jn k ..=>k
 | .mv k ..=>k
 | .pick ..=>13
 | .mark ..=>14
def Rw.fs:Rw->List V
 | .set g b=>[.str g,.int b]
 | .copy g a=>[.str g,.str a]
 | .car _ g c a b=>[.str g,oV c,.str a,.str b]
 | .jn _ g a b=>[.str g,.str a,.str b]
 | .mv _ g a j=>[.str g,.str a,.int j]
 | .pick g y a b=>[.str g,.str y,.str a,.str b]
 | .mark n m y=>[.int n,.str m,.str y]
def Rw.ok (w:Int):Rw->Prop
 | .set g b=>Rg g/\0<=b/\b < 2 ^ w.toNat
 | .copy g a=>Rg g/\Rg a
 | .car k g c a b=>(k = 2\/k = 3)/\Rg g/\(∀ z,c = some z->Rg z)/\Rg a/\Rg b
 | .jn k g a b=>(k = 4\/k = 5\/k = 9\/k = 10\/k = 11\/k = 12)/\Rg g/\Rg a/\Rg b
 | .mv k g a j=>(k = 6\/k = 7\/k = 8)/\Rg g/\Rg a/\0<=j/\j < w
 | .pick g y a b=>Rg g/\Rg y/\Rg a/\Rg b
 | .mark n m y=>0<=n/\n<=9999/\(m = "round"\/m = "stop"\/m = "nothing")/\Rg y
theorem Rw.k15 {w:Int} {r:Rw} (h:r.ok w):r.k < 15:=by
 cases r <;> simp only [Rw.ok] at h <;> simp only [Rw.k] <;> lia
structure Wd (w:Int) (kvs:List (Key × V)):Prop where
 it:∀ kv ∈ kvs,∃ (z:Str) (i:Int),kv = (.inr z,.int i)/\Rg z/\0<=i/\i < 2 ^ w.toNat
 ln:kvs.length<=5
theorem Wd.get {w:Int} {kvs:List (Key × V)} (h:Wd w kvs) (z:Str):(cX kvs (.inr z)).getD (.int 0) = .int (gI kvs z)/\0<=gI kvs z/\gI kvs z < 2 ^ w.toNat:=by
 unfold gI
 cases e:cX kvs (.inr z) with
 | none=>exact ⟨rfl,Int.le_refl _,Int.pow_pos (by decide)⟩
 | some v =>
  obtain ⟨z',i,e',_,i0,i1⟩:=h.it _ (fO e)
  cases e'
  exact ⟨rfl,i0,i1⟩
theorem qq {kvs:List (Key × V)} {k:Key} {v:V} {p:Key × V} (h:p ∈ cp kvs k v):p ∈ kvs\/p = (k,v):=by
 unfold cp at h
 split at h
 ·obtain ⟨q,hq,e⟩:=List.mem_map.mp h
  split at e
  ·rename_i c
   exact .inr (by rw [<- e,c])
  ·exact .inl (by rw [<- e]; exact hq)
 ·rcases List.mem_append.mp h with h | h
  ·exact .inl h
  ·exact .inr (List.mem_singleton.mp h)
theorem IntD.put {kvs:List (Key × V)} (h:IntD kvs) (k:Key) (i:Int):IntD (cp kvs k (.int i)):=fun kv hk=>by
 rcases qq hk with m | rfl
 ·exact h kv m
 ·exact ⟨i,rfl⟩
theorem Wd.ints {w:Int} {kvs:List (Key × V)} (h:Wd w kvs):IntD kvs:=fun kv hk=>let ⟨_,i,e,_⟩:=h.it kv hk; ⟨i,by rw [e]⟩
def jnV (w:Int) (k:Nat) (a b:Int):Int:=if k = 4 then a * b % (1 * 2 ^ w.toNat) else if k = 5 then a * b / 2 ^ w.toNat else if k = 9 then Builtin.bitAnd a b else if k = 10 then Builtin.bitOr a b else if k = 11 then Builtin.bitXor a b else if a < b then 1 else 0
def cr0 (w:Int) (k:Nat) (a b:Int):Int:=if k = 2 then (a + b) % (1 * 2 ^ w.toNat) else (a - b) % (1 * 2 ^ w.toNat)
def cr1 (w:Int) (k:Nat) (a b:Int):Int:=if k = 2 then (a + b) / 2 ^ w.toNat else if a < b then 1 else 0
def mvV (w:Int) (k:Nat) (a j:Int):Int:=if k = 6 then (a * 2 ^ j.toNat) % (1 * 2 ^ w.toNat) else if k = 7 then a / 2 ^ j.toNat else (cnt w a / 2 ^ j.toNat) % (1 * 2 ^ w.toNat)
def stK (kvs:List (Key × V)) (z:Str) (i:Int):List (Key × V):=cp kvs (.inr z) (.int i)
def Rw.act (w:Int) (kvs:List (Key × V)):Rw->List (Key × V)
 | .set g b=>stK kvs g b
 | .copy g a=>stK kvs g (gI kvs a)
 | .car k g c a b=>match c with
  | none=>stK kvs g (cr0 w k (gI kvs a) (gI kvs b))
  | some z=>stK (stK kvs g (cr0 w k (gI kvs a) (gI kvs b))) z (cr1 w k (gI kvs a) (gI kvs b))
 | .jn k g a b=>stK kvs g (jnV w k (gI kvs a) (gI kvs b))
 | .mv k g a j=>stK kvs g (mvV w k (gI kvs a) j)
 | .pick g y a b=>stK kvs g (gI kvs (if gI kvs y ≠ 0 then a else b))
 | .mark ..=>kvs
def Rw.mk (kvs:List (Key × V)):Rw->Option (V × V)
 | .mark n m y=>if gI kvs y ≠ 0 then some (.int n,.str m) else none
 | _=>none
def Mk1 (H':Hp) (m:Addr) (ms:List V):Option (V × V)->Prop
 | none=>H' m = some (.lst ms)
 | some (a,b)=>∃ t,H' m = some (.lst (ms ++ [.ref t]))/\H' t = some (.tup [a,b])
def ca (c:Ad) (ks:List Nat):Sp:=fun vs H Q _=>∃ (x d m:Addr) (w:Int) (r:Rw) (kvs:List (Key × V)) (ms:List V),vs = [.ref x,.int w,.ref d,.ref m]/\r.k ∈ ks/\StepAt c H x r.k r.fs/\r.ok w/\4<=w/\w<=32/\H d = some (.dK kvs)/\Wd w kvs/\H m = some (.lst ms)/\ms.length<=10000 /\
 ∀ H',H' d = some (.dK (r.act w kvs))->Mk1 H' m ms (r.mk kvs)->(∀ b o,b ≠ d->b ≠ m->H b = some o->H' b = some o)->Q .non H'
def bw (c:Ad) (ks:List Nat):Sp:=fun vs H Q _=>∃ (x:Addr) (w:Int) (r:Rw),vs = [.ref x,.int w]/\r.k ∈ ks/\StepAt c H x r.k r.fs/\r.ok w/\4<=w/\w<=32/\∀ H',Same H H'->Q (.bl true) H'
def rR (k:Nat):Sp:=fun vs H Q _=>∃ (x:V) (w a b:Int),vs = [x,.int w,.int a,.int b]/\4<=w/\w<=32/\∀ t,H t = none->Q (.ref t) (upd H t (.tup [.int (cr0 w k a b),.int (cr1 w k a b)]))
def rh (k:Nat):Sp:=fun vs H Q _=>∃ (x:V) (w a b:Int),vs = [x,.int w,.int a,.int b]/\4<=w/\w<=32/\0<=a/\a < 2 ^ w.toNat/\0<=b/\b < 2 ^ w.toNat/\Q (.int (jnV w k a b)) H
def spMv (c:Ad) (k:Nat):Sp:=fun vs H Q _=>∃ (x:Addr) (w a j:Int) (g y:V),vs = [.ref x,.int w,.int a]/\StepAt c H x k [g,y,.int j]/\4<=w/\w<=32/\0<=a/\a < 2 ^ w.toNat/\0<=j/\j < w/\Q (.int (mvV w k a j)) H
def je:Sp:=fun vs H Q _=>∃ w i:Int,vs = [.int w,.int i]/\4<=w/\w<=32/\0<=i/\i < 2 ^ w.toNat/\Q (.bl true) H
def jG:Sp:=fun vs H Q _=>∃ (l:Addr) (zs:List Str),vs = [.ref l]/\H l = some (.lst (zs.map V.str))/\zs.length<=10/\(∀ z ∈ zs,Rg z)/\∀ H',Same H H'->Q (.bl true) H'
def cAdd (cf:Nat->Int) (k:Nat) (m:Int):Nat->Int:=fun i=>if i = k then cf i + m else cf i
def cr (cf:Nat->Int):List (Key × V):=(List.range 16).map fun i=>(.inr (wOf i),.int (cf i))
def ou:Sp:=fun vs H Q _=>∃ (d:Addr) (w:Int) (kvs:List (Key × V)),vs = [.int w,.ref d]/\H d = some (.dK kvs)/\Wd w kvs/\4<=w/\w<=32/\∀ H',Same H H'->Q .non H'
theorem rG {k j:Nat} (hk:k < 16) (hj:j < 16) (h:V.str (wOf k) = V.str (wOf j)):k = j:=by
 have a:∀ k ∈ List.range 16,∀ j ∈ List.range 16,decide (wOf k = wOf j) = decide (k = j):=by decide +kernel
 have:=a k (List.mem_range.mpr hk) j (List.mem_range.mpr hj)
 injection h with h
 rw [decide_eq_true h] at this
 exact of_decide_eq_true this.symm
def sorts15:List Str:=["set", "copy", "sum", "gap", "low", "high", "left", "right", "slide", "and", "or", "unlike", "under", "pick", "mark"]
theorem sorts_at {k:Int} (h0:0<=k) (h1:k < 15):atI (sorts15.map V.str) k = some (.str (wOf k.toNat)):=by
 have a:∀ i ∈ List.range 15,sorts15[i]? = some (wOf i):=by decide +kernel
 have e:=a k.toNat (List.mem_range.mpr (by lia))
 have:=fF (xs:=sorts15.map V.str) (j:=k.toNat) (v:=.str (wOf k.toNat)) (by rw [List.getElem?_map,e]; rfl)
 rw [show ((k.toNat:Nat):Int) = k by lia] at this
 exact this
theorem tN {α:Type} [DecidableEq α]:∀ (l m:List α),l.Nodup->(∀ x ∈ l,x ∈ m)->l.length<=m.length
 | [],_,_,_=>Nat.zero_le _
 | x :: t,m,nd,h=>by
  have hx:=h x (List.mem_cons_self ..)
  have e:=List.length_erase_of_mem hx
  have:=tN t (m.erase x) (List.nodup_cons.mp nd).2 fun y hy=>(List.mem_erase_of_ne (fun z:y = x=>(List.nodup_cons.mp nd).1 (z ▸ hy))).mpr (h y (List.mem_cons_of_mem _ hy))
  have:0 < m.length:=List.length_pos_of_mem hx
  rw [List.length_cons]
  lia
def Rw.inZ (zs:List Str):Rw->Prop
 | .set g _=>g ∈ zs
 | .copy g _=>g ∈ zs
 | .car _ g c _ _=>g ∈ zs/\∀ z,c = some z->z ∈ zs
 | .jn _ g _ _=>g ∈ zs
 | .mv _ g _ _=>g ∈ zs
 | .pick g _ _ _=>g ∈ zs
 | .mark ..=>True
structure Wz (w:Int) (zs:List Str) (kvs:List (Key × V)):Prop where
 it:∀ kv ∈ kvs,∃ (z:Str) (i:Int),kv = (.inr z,.int i)/\z ∈ zs/\0<=i/\i < 2 ^ w.toNat
 nd:(kvs.map (·.1)).Nodup
def ZOk (zs:List Str):Prop:=zs.length<=5/\∀ z ∈ zs,Rg z
theorem Wz.wd {w:Int} {zs:List Str} {kvs:List (Key × V)} (h:Wz w zs kvs) (ok:ZOk zs):Wd w kvs:=by
 refine ⟨fun kv hk=>let ⟨z,i,e,m,i0,i1⟩:=h.it kv hk; ⟨z,i,e,ok.2 z m,i0,i1⟩,?_⟩
 have:=tN (kvs.map (·.1)) (zs.map Sum.inr) h.nd fun x hx=>by
  obtain ⟨kv,hk,rfl⟩:=List.mem_map.mp hx
  obtain ⟨z,i,rfl,m,_⟩:=h.it kv hk
  exact List.mem_map_of_mem m
 rw [List.length_map,List.length_map] at this
 exact Nat.le_trans this ok.1
theorem Wz.nil {w:Int} {zs:List Str}:Wz w zs []:=⟨(fun _ h=>nomatch h),List.nodup_nil⟩
theorem Wz.put {w:Int} {zs:List Str} {kvs:List (Key × V)} (h:Wz w zs kvs) {z:Str} {i:Int} (m:z ∈ zs) (i0:0<=i) (i1:i < 2 ^ w.toNat):Wz w zs (stK kvs z i):=by
 refine ⟨fun kv hk=>?_,?_⟩
 ·rcases qq hk with hm | rfl
  ·exact h.it kv hm
  ·exact ⟨z,i,rfl,m,i0,i1⟩
 ·show ((cp kvs (.inr z) (.int i)).map (·.1)).Nodup
  cases e:cX kvs (.inr z) with
  | none=>exact sO _ h.nd e
  | some v =>
   have:(cp kvs (.inr z) (.int i)).map (·.1) = kvs.map (·.1):=by
    unfold cp
    rw [cK,e]
    show (kvs.map _).map _ = _
    rw [List.map_map]
    refine List.map_congr_left fun kv _=>?_
    show (if kv.1 = Sum.inr z then (kv.1,V.int i) else kv).1 = kv.1
    split <;> rfl
   rw [this]
   exact h.nd
theorem and_rg {w a b:Int} (w0:0<=w) (a0:0<=a) (a1:a < 2 ^ w.toNat) (b0:0<=b) (b1:b < 2 ^ w.toNat):∃ x y:Nat,a = (x:Int)/\b = (y:Int)/\x < 2 ^ w.toNat/\y < 2 ^ w.toNat/\Builtin.bitAnd a b = ((x &&& y:Nat):Int):=by
 obtain ⟨x,rfl⟩:=Int.eq_ofNat_of_zero_le a0
 obtain ⟨y,rfl⟩:=Int.eq_ofNat_of_zero_le b0
 refine ⟨x,y,rfl,rfl,by exact_mod_cast a1,by exact_mod_cast b1,?_⟩
 unfold Builtin.bitAnd
 rw [decide_eq_true a0,decide_eq_true b0]
 rfl
theorem or_nat (x y:Nat):Builtin.bitOr (x:Int) (y:Int) = ((x ||| y:Nat):Int):=by
 have hx:Builtin.bitNot (x:Int) = -(x:Int) - 1:=rfl
 have hy:Builtin.bitNot (y:Int) = -(y:Int) - 1:=rfl
 unfold Builtin.bitOr Builtin.bitAnd
 rw [hx,hy,decide_eq_false (show ¬ (0:Int)<=-(x:Int) - 1 by lia),decide_eq_false (show ¬ (0:Int)<=-(y:Int) - 1 by lia)]
 show Builtin.bitNot (Builtin.bitNot ((((Builtin.bitNot (-(x:Int) - 1)).toNat ||| (Builtin.bitNot (-(y:Int) - 1)).toNat:Nat)):Int)) = _
 have e1:(Builtin.bitNot (-(x:Int) - 1)).toNat = x:=by show (-(-(x:Int) - 1) - 1).toNat = x; lia
 have e2:(Builtin.bitNot (-(y:Int) - 1)).toNat = y:=by show (-(-(y:Int) - 1) - 1).toNat = y; lia
 rw [e1,e2]
 show -(-((x ||| y:Nat):Int) - 1) - 1 = _
 lia
theorem tI (x y:Nat):x &&& y<=x ||| y:=Nat.le_trans Nat.and_le_left Nat.left_le_or
theorem jn_rg {w:Int} {k:Nat} {a b:Int} (w0:4<=w) (w1:w<=32) (a0:0<=a) (a1:a < 2 ^ w.toNat) (b0:0<=b) (b1:b < 2 ^ w.toNat):0<=jnV w k a b/\jnV w k a b < 2 ^ w.toNat:=by
 have P:=aV w0 w1
 obtain ⟨x,y,ex,ey,x1,y1,e⟩:=and_rg (by lia) a0 a1 b0 b1
 have ox:(x ||| y:Nat) < 2 ^ w.toNat:=Nat.or_lt_two_pow x1 y1
 have oi:((x ||| y:Nat):Int) < 2 ^ w.toNat:=by exact_mod_cast ox
 have al:=tI x y
 unfold jnV
 split
 ·rw [Int.one_mul]
  exact ⟨Int.emod_nonneg _ (by lia),Int.emod_lt_of_pos _ (by lia)⟩
 split
 ·refine ⟨Int.ediv_nonneg (Int.mul_nonneg a0 b0) (by lia),Int.ediv_lt_of_lt_mul (by lia) ?_⟩
  by_cases z:a = 0
  ·rw [z,Int.zero_mul]; exact Int.mul_pos (by lia) (by lia)
  ·exact Int.lt_of_lt_of_le (Int.mul_lt_mul_of_pos_left b1 (show 0 < a by lia)) (Int.mul_le_mul_of_nonneg_right (Int.le_of_lt a1) (by lia))
 split
 ·rw [e]; lia
 split
 ·rw [ex,ey,or_nat]; lia
 split
 ·unfold Builtin.bitXor
  rw [e,ex,ey,or_nat]; lia
 split <;> lia
theorem mv_rg {w:Int} {k:Nat} {a j:Int} (w0:4<=w) (w1:w<=32) (a0:0<=a) (a1:a < 2 ^ w.toNat):0<=mvV w k a j/\mvV w k a j < 2 ^ w.toNat:=by
 have P:=aV w0 w1
 unfold mvV
 rw [Int.one_mul]
 split
 ·exact ⟨Int.emod_nonneg _ (by lia),Int.emod_lt_of_pos _ (by lia)⟩
 split
 ·have:=p_pos j.toNat
  exact ⟨Int.ediv_nonneg a0 (by lia),Int.lt_of_le_of_lt (Int.ediv_le_self _ a0) a1⟩
 ·exact ⟨Int.emod_nonneg _ (by lia),Int.emod_lt_of_pos _ (by lia)⟩
theorem cr_rg {w:Int} {k:Nat} {a b:Int} (w0:4<=w) (w1:w<=32) (a0:0<=a) (a1:a < 2 ^ w.toNat) (b0:0<=b) (b1:b < 2 ^ w.toNat):(0<=cr0 w k a b/\cr0 w k a b < 2 ^ w.toNat)/\0<=cr1 w k a b/\cr1 w k a b < 2 ^ w.toNat:=by
 have P:=aV w0 w1
 unfold cr0 cr1
 rw [Int.one_mul]
 refine ⟨?_,?_⟩
 ·split <;> exact ⟨Int.emod_nonneg _ (by lia),Int.emod_lt_of_pos _ (by lia)⟩
 ·split
  ·refine ⟨Int.ediv_nonneg (by lia) (by lia),Int.lt_of_lt_of_le (Int.ediv_lt_of_lt_mul (b:=2) (by lia) (by lia)) (by lia)⟩
  ·split <;> lia
theorem Wz.act {w:Int} {zs:List Str} {kvs:List (Key × V)} {r:Rw} (h:Wz w zs kvs) (ok:ZOk zs) (ro:r.ok w) (rz:r.inZ zs) (w0:4<=w) (w1:w<=32):Wz w zs (r.act w kvs):=by
 have wd:=h.wd ok
 cases r with
 | set g b=>exact h.put rz ro.2.1 ro.2.2
 | copy g a=>exact h.put rz (wd.get a).2.1 (wd.get a).2.2
 | car k g c a b =>
  obtain ⟨⟨x0,x1⟩,y0,y1⟩:=cr_rg (k:=k) w0 w1 (wd.get a).2.1 (wd.get a).2.2 (wd.get b).2.1 (wd.get b).2.2
  cases c with
  | none=>exact h.put rz.1 x0 x1
  | some z=>exact (h.put rz.1 x0 x1).put (rz.2 z rfl) y0 y1
 | jn k g a b =>
  obtain ⟨x0,x1⟩:=jn_rg (k:=k) w0 w1 (wd.get a).2.1 (wd.get a).2.2 (wd.get b).2.1 (wd.get b).2.2
  exact h.put rz x0 x1
 | mv k g a j =>
  obtain ⟨x0,x1⟩:=mv_rg (k:=k) (j:=j) w0 w1 (wd.get a).2.1 (wd.get a).2.2
  exact h.put rz x0 x1
 | pick g y a b=>exact h.put rz (wd.get _).2.1 (wd.get _).2.2
 | mark n m y=>exact h
def bf (w:Int) (kvs:List (Key × V)) (rs:List Rw):List (Key × V):=rs.foldl (fun k r=>r.act w k) kvs
def mkL:Option (V × V)->List (V × V)
 | none=>[]
 | some p=>[p]
def bE (w:Int):List (Key × V)->List Rw->List (V × V)
 | _,[]=>[]
 | kvs,r :: t=>mkL (r.mk kvs) ++ bE w (r.act w kvs) t
theorem fL (w:Int) (kvs:List (Key × V)) (a b:List Rw):bf w kvs (a ++ b) = bf w (bf w kvs a) b:=by unfold bf; rw [List.foldl_append]
theorem eK (w:Int):∀ (kvs:List (Key × V)) (a b:List Rw),bE w kvs (a ++ b) = bE w kvs a ++ bE w (bf w kvs a) b
 | _,[],_=>rfl
 | kvs,r :: t,b=>by
  show mkL (r.mk kvs) ++ bE w (r.act w kvs) (t ++ b) = (mkL (r.mk kvs) ++ bE w (r.act w kvs) t) ++ bE w (bf w (r.act w kvs) t) b
  rw [eK w (r.act w kvs) t b,List.append_assoc]
theorem Wz.all {w:Int} {zs:List Str} {rs:List Rw} (ok:ZOk zs) (hr:∀ r ∈ rs,r.ok w/\r.inZ zs) (w0:4<=w) (w1:w<=32):∀ {kvs:List (Key × V)},Wz w zs kvs->Wz w zs (bf w kvs rs):=by
 induction rs with
 | nil=>intro kvs h; exact h
 | cons r t ih =>
  intro kvs h
  have a:=hr r (List.mem_cons_self ..)
  exact ih (fun q hq=>hr q (List.mem_cons_of_mem _ hq)) (h.act ok a.1 a.2 w0 w1)
theorem mkL_len (o:Option (V × V)):(mkL o).length<=1:=by cases o with
 | none=>exact Nat.zero_le _
 | some p=>exact Nat.le_refl _
theorem dI (w:Int):∀ (rs:List Rw) (kvs:List (Key × V)),(bE w kvs rs).length<=rs.length
 | [],_=>Nat.le_refl _
 | r :: t,kvs=>by
  have:=dI w t (r.act w kvs)
  have:=mkL_len (r.mk kvs)
  show (mkL (r.mk kvs) ++ bE w (r.act w kvs) t).length<=t.length + 1
  rw [List.length_append]
  lia
theorem mk_int {kvs:List (Key × V)} (r:Rw):∀ p ∈ mkL (r.mk kvs),(∃ n:Int,p.1 = .int n)/\cq p.1 = true/\cq p.2 = true:=by
 intro p hp
 cases r with
 | mark n m y =>
  have hp:p ∈ mkL (if gI kvs y ≠ 0 then some (.int n,.str m) else none):=hp
  split at hp
  ·cases List.mem_singleton.mp hp
   exact ⟨⟨n,rfl⟩,rfl,rfl⟩
  ·cases hp
 | _=>cases hp
theorem gY (w:Int):∀ (rs:List Rw) (kvs:List (Key × V)),∀ p ∈ bE w kvs rs,(∃ n:Int,p.1 = .int n)/\cq p.1 = true/\cq p.2 = true
 | [],_,_,h=>nomatch h
 | r :: t,kvs,p,h=>by
  rcases List.mem_append.mp (show p ∈ mkL (r.mk kvs) ++ bE w (r.act w kvs) t from h) with h | h
  ·exact mk_int r p h
  ·exact gY w t _ p h
theorem MHas.mono {P:Program} {w:World} {K:Frag} {mg:Str->Option Value} {base:Heap} {j k:Nat} {C:Addr} {m:Str} {ps:List Str} {sp:Sp} (h:MHas P w K mg base j C m ps sp) (i:j<=k):MHas P w K mg base k C m ps sp:=let ⟨f,fd,a,o,b⟩:=h.ex; ⟨h.cl,f,fd,a,o.mono i,b⟩
theorem MHas.imp {P:Program} {w:World} {K:Frag} {mg:Str->Option Value} {base:Heap} {k:Nat} {C:Addr} {m:Str} {ps:List Str} {sp sp':Sp} (h:MHas P w K mg base k C m ps sp) (i:∀ vs H Q E,sp' vs H Q E->sp vs H Q E):MHas P w K mg base k C m ps sp':=let ⟨f,fd,a,o,b⟩:=h.ex; ⟨h.cl,f,fd,a,o.imp i,b⟩
theorem aS {c:Ad} {ks:List Nat} {k:Nat} {vs:List V} {H:Hp} {Q:VK} {E:XK} (hk:k ∈ ks) (h:bo c [k] vs H Q E):bo c ks vs H Q E:=by
 obtain ⟨x,k',fs,e,m,st,q⟩:=h
 rw [List.mem_singleton.mp m] at st q
 exact ⟨x,k,fs,e,hk,st,q⟩
def PrsAt (H:Hp) (xs:List V) (ps:List (V × V)):Prop:=xs.length = ps.length/\∀ (j:Nat) x p,xs[j]? = some x->ps[j]? = some p->∃ a,x = .ref a/\H a = some (.tup [p.1,p.2])
theorem PrsAt.same {H H':Hp} {xs:List V} {ps:List (V × V)} (h:PrsAt H xs ps) (s:∀ a xs,H a = some (.tup xs)->H' a = some (.tup xs)):PrsAt H' xs ps:=⟨h.1,fun j x p e1 e2=>let ⟨a,e,t⟩:=h.2 j x p e1 e2; ⟨a,e,s _ _ t⟩⟩
theorem PrsAt.nil {H:Hp}:PrsAt H [] []:=⟨rfl,fun j x p e=>by simp at e⟩
theorem PrsAt.app {H:Hp} {xs ys:List V} {ps qs:List (V × V)} (h:PrsAt H xs ps) (g:PrsAt H ys qs):PrsAt H (xs ++ ys) (ps ++ qs):=by
 refine ⟨by rw [List.length_append,List.length_append,h.1,g.1],fun i y q e1 e2=>?_⟩
 by_cases hi:i < xs.length
 ·rw [List.getElem?_append_left hi] at e1
  rw [List.getElem?_append_left (by rw [<- h.1]; exact hi)] at e2
  exact h.2 i y q e1 e2
 ·rw [List.getElem?_append_right (by lia)] at e1
  rw [List.getElem?_append_right (by rw [<- h.1]; lia),<- h.1] at e2
  exact g.2 _ y q e1 e2
theorem PrsAt.one {H:Hp} {a:Addr} {p:V × V} (t:H a = some (.tup [p.1,p.2])):PrsAt H [.ref a] [p]:=⟨rfl,fun i y q e1 e2=>by
 match i,e1,e2 with
 | 0,e1,e2=>cases e1; cases e2; exact ⟨a,rfl,t⟩⟩
theorem Mk1.prs {H':Hp} {m:Addr} {ms:List V} {ps:List (V × V)} {o:Option (V × V)} (h:Mk1 H' m ms o) (p:PrsAt H' ms ps):∃ ms',H' m = some (.lst ms')/\PrsAt H' ms' (ps ++ mkL o):=by
 cases o with
 | none=>exact ⟨ms,h,by rw [show mkL none = [] from rfl,List.append_nil]; exact p⟩
 | some q=>obtain ⟨t,h1,h2⟩:=h; exact ⟨_,h1,p.app (PrsAt.one h2)⟩
theorem dJ {α:Type} {l:List α} {j:Nat} {x:α} (h:l[j]? = some x):l.take (j + 1) = l.take j ++ [x]:=by rw [List.take_add_one,h]; rfl
theorem rH:∀ vs H Q E,fZ vs H Q E->jf vs H Q E:=fun _ _ _ _ ⟨i,hv,q⟩=>⟨.int i,hv,.int i,q⟩
theorem ph:∀ vs H Q E,cV vs H Q E->qh vs H Q E:=fun _ H Q _ ⟨i,lo,hi,hv,h1,h2,q⟩=>⟨.int i,lo,hi,hv,.int i,by show Q (.bl (decide (lo<=i) && decide (i<=hi))) H; rw [decide_eq_true h1,decide_eq_true h2]; exact q⟩
inductive TS (α:Type) where
 | row (r:Rw)
 | turns (n:Nat) (ts:List α)
def Tr:Nat->Type
 | 0=>Empty
 | d + 1=>TS (Tr d)
theorem tr0 {ts:List (Tr 0)}:ts = []:=by
 cases ts with
 | nil=>rfl
 | cons t _=>exact Empty.elim t
def TS.ev {α:Type} (f:α->List (Option Rw)):TS α->List (Option Rw)
 | .row r=>[some r]
 | .turns n ts=>(List.replicate n (none :: ts.flatMap f)).flatten
def evs:(d:Nat)->Tr d->List (Option Rw)
 | 0=>fun (e:Empty)=>e.elim
 | d + 1=>TS.ev (evs d)
def evL (d:Nat) (ts:List (Tr d)):List (Option Rw):=ts.flatMap (evs d)
def L2A {α:Type} (f:Addr->α->Prop) (xs:List V) (ts:List α):Prop:=xs.length = ts.length/\∀ (i:Nat) x t,xs[i]? = some x->ts[i]? = some t->∃ a,x = .ref a/\f a t
theorem L2A.mono {α:Type} {f g:Addr->α->Prop} {xs:List V} {ts:List α} (h:L2A f xs ts) (m:∀ a t,t ∈ ts->f a t->g a t):L2A g xs ts:=⟨h.1,fun i x t e1 e2=>let ⟨a,e,k⟩:=h.2 i x t e1 e2; ⟨a,e,m a t (List.mem_of_getElem? e2) k⟩⟩
theorem L2A.nil {α:Type} {f:Addr->α->Prop}:L2A f [] []:=⟨rfl,fun i x t e=>by simp at e⟩
theorem L2A.app {α:Type} {f:Addr->α->Prop} {xs ys:List V} {ts us:List α} (h:L2A f xs ts) (g:L2A f ys us):L2A f (xs ++ ys) (ts ++ us):=by
 refine ⟨by rw [List.length_append,List.length_append,h.1,g.1],fun i y q e1 e2=>?_⟩
 by_cases hi:i < xs.length
 ·rw [List.getElem?_append_left hi] at e1
  rw [List.getElem?_append_left (by rw [<- h.1]; exact hi)] at e2
  exact h.2 i y q e1 e2
 ·rw [List.getElem?_append_right (by lia)] at e1
  rw [List.getElem?_append_right (by rw [<- h.1]; lia),<- h.1] at e2
  exact g.2 _ y q e1 e2
theorem L2A.one {α:Type} {f:Addr->α->Prop} {a:Addr} {t:α} (h:f a t):L2A f [.ref a] [t]:=⟨rfl,fun i y q e1 e2=>by
 match i,e1,e2 with
 | 0,e1,e2=>cases e1; cases e2; exact ⟨a,rfl,h⟩⟩
theorem L2A.get {α:Type} {f:Addr->α->Prop} {xs:List V} {ts:List α} (h:L2A f xs ts) {j:Nat} {v:V} (hv:xs[j]? = some v):∃ (a:Addr) (t:α),v = .ref a/\ts[j]? = some t/\f a t:=by
 have jl:=(List.getElem?_eq_some_iff.mp hv).1
 have er:ts[j]? = some (ts[j]'(by rw [<- h.1]; exact jl)):=List.getElem?_eq_getElem _
 obtain ⟨a,e,k⟩:=h.2 j v _ hv er
 exact ⟨a,_,e,er,k⟩
def TS.st {α:Type} (c:Ad) (H:Hp) (f:Addr->α->Prop) (x:Addr):TS α->Prop
 | .row r=>StepAt c H x r.k r.fs
 | .turns n ts=>∃ xs,dS c H x (.int (n:Int)) xs/\L2A f xs ts
def StT (c:Ad) (H:Hp):(d:Nat)->Addr->Tr d->Prop
 | 0=>fun _ (e:Empty)=>e.elim
 | d + 1=>TS.st c H (StT c H d)
def TS.tp {α:Type} (H:Hp) (f:Addr->α->Prop) (x:Addr):TS α->Prop
 | .row r=>H x = some (.tup (.str (wOf r.k) :: r.fs))
 | .turns n ts=>∃ l xs,H x = some (.tup [.str "turns",.int (n:Int),.ref l])/\H l = some (.lst xs)/\L2A f xs ts
def TpT (H:Hp):(d:Nat)->Addr->Tr d->Prop
 | 0=>fun _ (e:Empty)=>e.elim
 | d + 1=>TS.tp H (TpT H d)
def TS.okk {α:Type} (w:Int) (zs:List Str) (f:α->Prop):TS α->Prop
 | .row r=>r.ok w/\r.inZ zs
 | .turns n ts=>1<=n/\n<=64/\ts ≠ []/\ts.length<=100/\∀ t ∈ ts,f t
def TOk (w:Int) (zs:List Str):(d:Nat)->Tr d->Prop
 | 0=>fun (e:Empty)=>e.elim
 | d + 1=>TS.okk w zs (TOk w zs d)
theorem StT.same {c:Ad} {H H':Hp} (s:Same H H'):∀ {d:Nat} {x:Addr} {t:Tr d},StT c H d x t->StT c H' d x t
 | 0,_,t,_=>Empty.elim t
 | d + 1,x,t,h=>by
  have h':TS.st c H (StT c H d) x t:=h
  show TS.st c H' (StT c H' d) x t
  revert h'
  cases (show TS (Tr d) from t) with
  | row r=>exact fun h=>StepAt.same h s
  | turns n ts=>exact fun ⟨xs,⟨dx,l,e,f⟩,g⟩=>⟨xs,⟨dx,l,s _ _ e,s _ _ f⟩,g.mono fun _ _ _ k=>StT.same s k⟩
theorem TpT.same {H H':Hp} (s:Same H H'):∀ {d:Nat} {x:Addr} {t:Tr d},TpT H d x t->TpT H' d x t
 | 0,_,t,_=>Empty.elim t
 | d + 1,x,t,h=>by
  have h':TS.tp H (TpT H d) x t:=h
  show TS.tp H' (TpT H' d) x t
  revert h'
  cases (show TS (Tr d) from t) with
  | row r=>exact fun h=>s _ _ h
  | turns n ts=>exact fun ⟨l,xs,e,f,g⟩=>⟨l,xs,s _ _ e,s _ _ f,g.mono fun _ _ _ k=>TpT.same s k⟩
def rws (es:List (Option Rw)):List Rw:=es.filterMap id
theorem cu (a b:List (Option Rw)):rws (a ++ b) = rws a ++ rws b:=List.filterMap_append ..
theorem dY (es:List (Option Rw)):(rws es).length<=es.length:=List.length_filterMap_le ..
def kOf:Option Rw->Nat
 | none=>15
 | some r=>r.k
def cC (es:List (Option Rw)) (i:Nat):Nat:=es.countP fun e=>kOf e == i
theorem qr (a b:List (Option Rw)) (i:Nat):cC (a ++ b) i = cC a i + cC b i:=List.countP_append ..
theorem cC_rep (E:List (Option Rw)) (i:Nat):∀ n,cC (List.replicate n E).flatten i = n * cC E i
 | 0=>by rw [Nat.zero_mul]; rfl
 | n + 1=>by rw [List.replicate_succ,List.flatten_cons,qr,cC_rep E i n,Nat.succ_mul,Nat.add_comm]
theorem sS (e:Option Rw) (i:Nat):cC [e] i = if i = kOf e then 1 else 0:=by
 unfold cC
 rw [List.countP_cons,List.countP_nil]
 by_cases h:i = kOf e
 ·rw [if_pos h,h,if_pos (beq_self_eq_true _)]
 ·rw [if_neg h,if_neg (by simpa using fun z=>h z.symm)]
def n6 (cf:Nat->Int) (m:Int) (es:List (Option Rw)):Nat->Int:=fun i=>cf i + m * (cC es i:Int)
theorem p5 (cf:Nat->Int) (m:Int):n6 cf m [] = cf:=funext fun i=>by show cf i + m * ((0:Nat):Int) = cf i; lia
theorem qc (cf:Nat->Int) (m:Int) (a b:List (Option Rw)):n6 cf m (a ++ b) = n6 (n6 cf m a) m b:=funext fun i=>by
 show cf i + m * (cC (a ++ b) i:Int) = cf i + m * (cC a i:Int) + m * (cC b i:Int)
 rw [qr]; push_cast; rw [Int.mul_add]; lia
theorem qb (cf:Nat->Int) (m:Int) (e:Option Rw):n6 cf m [e] = cAdd cf (kOf e) m:=funext fun i=>by
 show cf i + m * (cC [e] i:Int) = if i = kOf e then cf i + m else cf i
 rw [sS]
 split
 ·show cf i + m * ((1:Nat):Int) = _; lia
 ·show cf i + m * ((0:Nat):Int) = _; lia
theorem qK (cf:Nat->Int) (m:Int) (n:Nat) (E:List (Option Rw)):n6 cf m (List.replicate n (none :: E)).flatten = n6 (cAdd cf 15 (m * n)) (m * n) E:=funext fun i=>by
 show cf i + m * (cC (List.replicate n (none :: E)).flatten i:Int) = (if i = 15 then cf i + m * n else cf i) + m * n * (cC E i:Int)
 rw [cC_rep,show none :: E = [none] ++ E from rfl,qr,sS]
 show cf i + m * ((n * ((if i = 15 then 1 else 0) + cC E i):Nat):Int) = _
 push_cast
 by_cases h:i = 15
 ·rw [if_pos h,if_pos h,<- Int.mul_assoc,Int.mul_add]; lia
 ·rw [if_neg h,if_neg h,<- Int.mul_assoc,Int.mul_add]; lia
theorem cL {d:Nat} {ts:List (Tr d)} {j:Nat} {t:Tr d} (h:ts[j]? = some t):evL d (ts.take (j + 1)) = evL d (ts.take j) ++ evs d t:=by
 unfold evL
 rw [dJ h,List.flatMap_append]
 show _ ++ (evs d t ++ []) = _
 rw [List.append_nil]
def spN (sp:Nat->Sp):Nat->Sp
 | 0=>fun _ _ _ _=>False
 | d + 1=>sp (d + 1)
theorem FnOk.void {P:Program} {w:World} {K:Frag} {mg:Str->Option Value} {base:Heap} {CX:CXT} {k:Nat} {f:Addr} {fd:FuncData} {ps:List Str}:FnOk P w K mg base CX k f fd ps (fun _ _ _ _=>False):=⟨fun _ _ _ _ h=>h.elim,fun _ _ _ _ _ _ _ _ _ _ _ _ _ h=>h.elim⟩
def kQ (c:Ad):Sp:=fun vs H Q _=>∃ (x:Addr) (w:Int) (n:Nat) (xs:List V),vs = [.ref x,.int w]/\dS c H x (.int (n:Int)) xs/\1<=n/\n<=64/\xs ≠ []/\∀ H',Same H H'->Q (.bl true) H'
def kL (c:Ad):Sp:=fun vs H Q _=>∃ (d:Nat) (x:Addr) (w a:Int) (zs:List Str) (t:TS (Tr d)),vs = [.int w,.ref x,.int a]/\StT c H (d + 1) x t/\TOk w zs (d + 1) t/\4<=w/\w<=32/\0<=a/\a + d<=5/\∀ H',Same H H'->Q (.bl true) H'
def g8 (c:Ad) (d:Nat):Sp:=fun vs H Q _=>∃ (l:Addr) (w p a:Int) (zs:List Str) (xs:List V) (ts:List (Tr d)),vs = [.int w,.ref l,.int p,.int a]/\H l = some (.lst xs)/\L2A (StT c H d) xs ts/\(∀ t ∈ ts,TOk w zs d t)/\4<=w/\w<=32/\0<=a/\a + d<=6/\∀ (i:Int) H',Same H H'->Q (.int i) H'
def gZ (c:Ad) (d:Nat):Sp:=fun vs H Q _=>∃ (Hs:Hp) (l dd:Addr) (m w:Int) (zs:List Str) (xs:List V) (ts:List (Tr d)) (cf:Nat->Int),vs = [.ref l,.int m,.ref dd]/\Hs l = some (.lst xs)/\L2A (StT c Hs d) xs ts/\(∀ t ∈ ts,TOk w zs d t)/\Same Hs H/\Hs dd = none/\H dd = some (.dK (cr cf))/\∀ H',H' dd = some (.dK (cr (n6 cf m (evL d ts))))->SameX dd H H'->Q .non H'
def jF (c:Ad):Sp:=fun vs H Q _=>∃ (l:Addr) (w:Int) (zs:List Str) (xs:List V) (ts:List (Tr 6)),vs = [.int w,.ref l]/\H l = some (.lst xs)/\L2A (StT c H 6) xs ts/\(∀ t ∈ ts,TOk w zs 6 t)/\(evL 6 ts).length<=10000/\4<=w/\w<=32/\∀ (dd:Addr) H',H dd = none->H' dd = some (.dK (cr (n6 (fun _=>0) 1 (evL 6 ts))))->Same H H'->Q (.ref dd) H'
def kS (c:Ad):Sp:=fun vs H Q _=>∃ (l:Addr) (w:Int) (zs:List Str) (xs:List V) (ts:List (Tr 6)),vs = [.int w,.ref l]/\H l = some (.lst xs)/\L2A (StT c H 6) xs ts/\(∀ t ∈ ts,TOk w zs 6 t)/\(evL 6 ts).length<=10000/\4<=w/\w<=32/\∀ H',Same H H'->Q (.int ((evL 6 ts).length:Nat)) H'
def sZ (c:Ad):Sp:=fun vs H Q _=>∃ (l d:Addr) (w:Int) (zs:List Str) (xs:List V) (ts:List (Tr 6)) (kvs:List (Key × V)),vs = [.int w,.ref l,.ref d]/\H l = some (.lst xs)/\L2A (StT c H 6) xs ts/\(∀ t ∈ ts,TOk w zs 6 t)/\(evL 6 ts).length<=10000/\ZOk zs/\4<=w/\w<=32/\H d = some (.dK kvs)/\Wz w zs kvs /\
 ∀ (t dw m cn:Addr) (ms:List V) H',H' t = some (.tup [.ref dw,.ref m,.ref cn])->H' dw = some (.dK (bf w kvs (rws (evL 6 ts))))->H' m = some (.lst ms)->PrsAt H' ms (bE w kvs (rws (evL 6 ts)))->H' cn = some (.dK (cr (n6 (fun _=>0) 1 (evL 6 ts))))->H dw = none->H m = none->H cn = none->Same H H'->Q (.ref t) H'
def kF (c:Ad) (d:Nat):Sp:=fun vs H Q _=>∃ (Hs:Hp) (x dd m:Addr) (w:Int) (n:Nat) (zs:List Str) (xs:List V) (ts:List (Tr d)) (kvs:List (Key × V)) (ms:List V) (ps:List (V × V)),vs = [.ref x,.int w,.ref dd,.ref m]/\dS c Hs x (.int (n:Int)) xs/\L2A (StT c Hs d) xs ts/\n<=64/\(∀ t ∈ ts,TOk w zs d t)/\Same Hs H/\Hs dd = none/\Hs m = none/\ZOk zs/\4<=w/\w<=32/\H dd = some (.dK kvs)/\Wz w zs kvs/\H m = some (.lst ms)/\PrsAt H ms ps/\ps.length + n * (evL d ts).length<=10000 /\
 ∀ ms' H',H' dd = some (.dK (bf w kvs (rws (TS.ev (evs d) (.turns n ts)))))->H' m = some (.lst ms')->PrsAt H' ms' (ps ++ bE w kvs (rws (TS.ev (evs d) (.turns n ts))))->(∀ b o,b ≠ dd->b ≠ m->H b = some o->H' b = some o)->Q .non H'
section
variable {P:Program} {w:World} {K:Frag} {mg:Str->Option Value} {base:Heap} {c:Ad}
theorem fU {f:Addr} {fd:FuncData} (F:Fun K "__init__" "NoPrices.__init__" bQ f fd) (T:Txt K mg c)  (xc:XCls K c.NoPrices f "found"):FnOk P w K mg base CX0 1 f fd ["self", "found"] (spXI "found" c.NoPrices):=by
 refine F.ok fS (fun vs H Q E h=>?_) (fun cdv A outer s H vs Q E hr h=>?_)
 ·obtain ⟨e,t,v,rfl,_⟩:=h
  rfl
 obtain ⟨e,t,v,rfl,he,q⟩:=h
 refine ⟨_,(aj (ps_xset (pv 0) (pv 1) rfl)),?_⟩
 exact ⟨_,rfl,_,rfl,e,c.NoPrices,t,_,rfl,he,xc,fun d hd hne=>q d hd hne⟩
theorem oM {f:Addr} {fd:FuncData} (F:Fun K "is_whole" "is_whole" iK f fd) (T:Txt K mg c) :FnOk P w K mg base CX0 1 f fd ["thing"] jf:=by
 refine F.ok pX (fun vs H Q E h=>?_) (fun cdv A outer s H vs Q E hr h=>?_)
 ·obtain ⟨x,rfl,_⟩:=h
  rfl
 obtain ⟨x,rfl,th,q⟩:=h
 refine ⟨_,(aj (ao (df (aD aJ rfl T.n_isinstance boot_isinstance (ae (pv 0) (ae (gM rfl T.n_int boot_int) ah))) (dN (qx (aD aJ rfl T.n_isinstance boot_isinstance (ae (pv 0) (ae (gM rfl T.n_bool boot_bool) ah)))))))),?_⟩
 cases th with
 | int i =>
  refine ⟨_,rfl,_,_,_,_,_,rfl,rfl,TyOf.int _,fX _,_,rfl,eG ?_⟩
  exact ⟨_,rfl,_,_,_,_,_,rfl,rfl,TyOf.int _,fE _,_,rfl,q⟩
 | bl b =>
  refine ⟨_,rfl,_,_,_,_,_,rfl,rfl,TyOf.bl _,rq _,_,rfl,eG ?_⟩
  exact ⟨_,rfl,_,_,_,_,_,rfl,rfl,TyOf.bl _,tS _,_,rfl,q⟩
 | str x=>exact ⟨_,rfl,_,_,_,_,_,rfl,rfl,TyOf.str _,oS _,_,rfl,cE q⟩
 | non=>exact ⟨_,rfl,_,_,_,_,_,rfl,rfl,TyOf.non,pu _,_,rfl,cE q⟩
 | lst h=>exact ⟨_,rfl,_,_,_,_,_,rfl,rfl,TyOf.lst h,o9 _,_,rfl,cE q⟩
 | tup h=>exact ⟨_,rfl,_,_,_,_,_,rfl,rfl,TyOf.tup h,oq _,_,rfl,cE q⟩
 | dct h=>exact ⟨_,rfl,_,_,_,_,_,rfl,rfl,TyOf.dK h,oz _,_,rfl,cE q⟩
theorem lP {f:Addr} {fd:FuncData} (F:Fun K "is_between" "is_between" fo f fd) (T:Txt K mg c) (H_is_whole:Has P w K mg base 1 "is_whole" ["thing"] jf):FnOk P w K mg base CX0 2 f fd ["thing", "low", "high"] qh:=by
 refine F.ok lA (fun vs H Q E h=>?_) (fun cdv A outer s H vs Q E hr h=>?_)
 ·obtain ⟨x,lo,hi,rfl,_⟩:=h
  rfl
 obtain ⟨x,lo,hi,rfl,th,q⟩:=h
 refine ⟨_,(aj (ao (df (aC H_is_whole (hr.mono (by lia)) rfl (ae (pv 0) ah)) (dN (p6 qS qS (pv 1) (pv 0) (pv 2)))))),?_⟩
 refine ⟨_,rfl,x,rfl,th,_,rfl,?_⟩
 cases hi':isI x with
 | false =>
  refine cE ?_
  rw [btw_not hi'] at q
  exact q
 | true =>
  refine eG ?_
  cases x with
  | int i =>
   refine ⟨_,rfl,_,rfl,_,_,rfl,rfl,_,rfl,?_⟩
   by_cases c1:lo<=i
   ·refine bP c1 ⟨_,rfl,_,_,rfl,rfl,?_⟩
    have e:btw (.int i) lo hi = decide (i<=hi):=by show (decide (lo<=i) && decide (i<=hi)) = _; rw [decide_eq_true c1,Bool.true_and]
    rw [e] at q
    exact q
   ·refine aI c1 ?_
    have e:btw (.int i) lo hi = false:=by show (decide (lo<=i) && decide (i<=hi)) = _; rw [decide_eq_false c1,Bool.false_and]
    rw [e] at q
    exact q
  | _=>cases hi'
theorem kP {f:Addr} {fd:FuncData} (F:Fun K "need_width" "need_width" fu f fd) (T:Txt K mg c) (H_is_between:Has P w K mg base 2 "is_between" ["thing", "low", "high"] cV):FnOk P w K mg base CX0 3 f fd ["width"] dn:=by
 refine F.ok kW (fun vs H Q E h=>?_) (fun cdv A outer s H vs Q E hr h=>?_)
 ·obtain ⟨i,rfl,_⟩:=h
  rfl
 obtain ⟨i,rfl,h1,h2,q⟩:=h
 refine ⟨_,(aj (aQ (bJ (bC (aC H_is_between (hr.mono (by lia)) rfl (ae (pv 0) (ae ag (ae ag ah))))))
   (aj fQ)
   aG)),?_⟩
 refine ⟨_,rfl,_,_,_,rfl,h1,h2,_,rfl,cE ?_⟩
 exact q
theorem rP {f:Addr} {fd:FuncData} (F:Fun K "sum_of" "sum_of" ma f fd) (T:Txt K mg c) (H_need_width:Has P w K mg base 3 "need_width" ["width"] dn):FnOk P w K mg base CX0 4 f fd ["width", "a", "b"] spSum:=by
 refine F.ok sc_sum_of (fun vs H Q E h=>?_) (fun cdv A outer s H vs Q E hr h=>?_)
 ·obtain ⟨i,a,b,rfl,_⟩:=h
  rfl
 obtain ⟨i,a,b,rfl,h1,h2,q⟩:=h
 refine ⟨_,(ai (aL (aC H_need_width (hr.mono (by lia)) rfl (ae (pv 0) ah)))
  (ai (aH (i:=3) sc_sum_of.nd rfl (Or.inl rfl) (aE bY (pv 1) (pv 2)))
  (aj (ao (bK (ae (aE bM (pv 3) (aE fV ag (pv 0))) (ae (aE qu (pv 3) (pv 0)) ah))))))),?_⟩
 refine ⟨_,rfl,_,rfl,h1,h2,?_⟩
 refine ⟨_,rfl,_,rfl,_,_,rfl,rfl,?_⟩
 refine ⟨_,rfl,_,rfl,_,_,rfl,rfl,jz (by lia) (by lia),_,_,rfl,rfl,bS _,?_⟩
 refine ⟨_,rfl,_,rfl,_,_,rfl,rfl,(by lia),?_⟩
 exact ⟨by show 2<=sizeLine; decide,fun t ht=>q t ht⟩
theorem tL {f:Addr} {fd:FuncData} (F:Fun K "gap_of" "gap_of" kO f fd) (T:Txt K mg c) (H_need_width:Has P w K mg base 3 "need_width" ["width"] dn):FnOk P w K mg base CX0 4 f fd ["width", "a", "b"] spGap:=by
 refine F.ok rS (fun vs H Q E h=>?_) (fun cdv A outer s H vs Q E hr h=>?_)
 ·obtain ⟨i,a,b,rfl,_⟩:=h
  rfl
 obtain ⟨i,a,b,rfl,h1,h2,q⟩:=h
 refine ⟨_,(ai (aL (aC H_need_width (hr.mono (by lia)) rfl (ae (pv 0) ah)))
  (aj (ao (bK (ae (aE bM (aE eY (pv 1) (pv 2)) (aE fV ag (pv 0))) (ae (fJ (au kr (pv 1) (pv 2) (ay _)) ag ag) ah)))))),?_⟩
 refine ⟨_,rfl,_,rfl,h1,h2,?_⟩
 refine ⟨_,rfl,_,rfl,_,_,rfl,rfl,_,rfl,_,_,rfl,rfl,jz (by lia) (by lia),_,_,rfl,rfl,bS _,?_⟩
 refine ⟨_,rfl,_,rfl,_,_,rfl,rfl,_,rfl,?_⟩
 by_cases hc:a < b
 ·refine bP hc ?_
  refine ⟨by show 2<=sizeLine; decide,fun t ht=>?_⟩
  have:=q t ht
  rw [if_pos hc] at this
  exact this
 ·refine aI hc ?_
  refine ⟨by show 2<=sizeLine; decide,fun t ht=>?_⟩
  have:=q t ht
  rw [if_neg hc] at this
  exact this
theorem kc {f:Addr} {fd:FuncData} (F:Fun K "low_product" "low_product" eA f fd) (T:Txt K mg c) (H_need_width:Has P w K mg base 3 "need_width" ["width"] dn):FnOk P w K mg base CX0 4 f fd ["width", "a", "b"] spLow:=by
 refine F.ok kB (fun vs H Q E h=>?_) (fun cdv A outer s H vs Q E hr h=>?_)
 ·obtain ⟨i,a,b,rfl,_⟩:=h
  rfl
 obtain ⟨i,a,b,rfl,h1,h2,hm,q⟩:=h
 refine ⟨_,(ai (aL (aC H_need_width (hr.mono (by lia)) rfl (ae (pv 0) ah)))
  (aj (ao (aE bM (aE cG (pv 1) (pv 2)) (aE fV ag (pv 0)))))),?_⟩
 refine ⟨_,rfl,_,rfl,h1,h2,?_⟩
 refine ⟨_,rfl,_,rfl,_,_,rfl,rfl,hm,_,rfl,_,_,rfl,rfl,jz (by lia) (by lia),_,_,rfl,rfl,bS _,q⟩
theorem jP {f:Addr} {fd:FuncData} (F:Fun K "high_product" "high_product" dj f fd) (T:Txt K mg c) (H_need_width:Has P w K mg base 3 "need_width" ["width"] dn):FnOk P w K mg base CX0 4 f fd ["width", "a", "b"] tM:=by
 refine F.ok jW (fun vs H Q E h=>?_) (fun cdv A outer s H vs Q E hr h=>?_)
 ·obtain ⟨i,a,b,rfl,_⟩:=h
  rfl
 obtain ⟨i,a,b,rfl,h1,h2,hm,q⟩:=h
 refine ⟨_,(ai (aL (aC H_need_width (hr.mono (by lia)) rfl (ae (pv 0) ah)))
  (aj (ao (aE qu (aE cG (pv 1) (pv 2)) (pv 0))))),?_⟩
 refine ⟨_,rfl,_,rfl,h1,h2,?_⟩
 refine ⟨_,rfl,_,rfl,_,_,rfl,rfl,hm,_,rfl,_,_,rfl,rfl,(by lia),q⟩
theorem ok_left {f:Addr} {fd:FuncData} (F:Fun K "left" "left" sh f fd) (T:Txt K mg c) (H_need_width:Has P w K mg base 3 "need_width" ["width"] dn):FnOk P w K mg base CX0 4 f fd ["width", "a", "k"] sf:=by
 refine F.ok sc_left (fun vs H Q E h=>?_) (fun cdv A outer s H vs Q E hr h=>?_)
 ·obtain ⟨i,a,b,rfl,_⟩:=h
  rfl
 obtain ⟨i,a,b,rfl,h1,h2,hm,q⟩:=h
 refine ⟨_,(ai (aL (aC H_need_width (hr.mono (by lia)) rfl (ae (pv 0) ah)))
  (aj (ao (aE bM (aE fV (pv 1) (pv 2)) (aE fV ag (pv 0)))))),?_⟩
 refine ⟨_,rfl,_,rfl,h1,h2,?_⟩
 refine ⟨_,rfl,_,rfl,_,_,rfl,rfl,hm,_,rfl,_,_,rfl,rfl,jz (by lia) (by lia),_,_,rfl,rfl,bS _,q⟩
theorem ok_right {f:Addr} {fd:FuncData} (F:Fun K "right" "right" pM f fd) (T:Txt K mg c) (H_need_width:Has P w K mg base 3 "need_width" ["width"] dn):FnOk P w K mg base CX0 4 f fd ["width", "a", "k"] pb:=by
 refine F.ok sc_right (fun vs H Q E h=>?_) (fun cdv A outer s H vs Q E hr h=>?_)
 ·obtain ⟨i,a,b,rfl,_⟩:=h
  rfl
 obtain ⟨i,a,b,rfl,h1,h2,hm,q⟩:=h
 refine ⟨_,(ai (aL (aC H_need_width (hr.mono (by lia)) rfl (ae (pv 0) ah)))
  (aj (ao (aE qu (pv 1) (pv 2))))),?_⟩
 refine ⟨_,rfl,_,rfl,h1,h2,?_⟩
 refine ⟨_,rfl,_,rfl,_,_,rfl,rfl,hm,q⟩
theorem ok_slide {f:Addr} {fd:FuncData} (F:Fun K "slide" "slide" oA f fd) (T:Txt K mg c) (H_need_width:Has P w K mg base 3 "need_width" ["width"] dn):FnOk P w K mg base CX0 4 f fd ["width", "a", "k"] oU:=by
 refine F.ok sc_slide (fun vs H Q E h=>?_) (fun cdv A outer s H vs Q E hr h=>?_)
 ·obtain ⟨i,a,b,rfl,_⟩:=h
  rfl
 obtain ⟨i,a,b,rfl,h1,h2,hm,q⟩:=h
 refine ⟨_,(ai (aL (aC H_need_width (hr.mono (by lia)) rfl (ae (pv 0) ah)))
  (ai (aH (i:=3) sc_slide.nd rfl (Or.inl rfl) (fJ (au kr (pv 1) (aE fV ag (aE eY (pv 0) ag)) (ay _)) (pv 1) (aE eY (pv 1) (aE fV ag (pv 0)))))
  (aj (ao (aE bM (aE qu (pv 3) (pv 2)) (aE fV ag (pv 0))))))),?_⟩
 refine ⟨_,rfl,_,rfl,h1,h2,?_⟩
 refine ⟨_,rfl,_,rfl,_,_,rfl,rfl,_,_,rfl,rfl,jz (by lia) (by lia),_,_,rfl,rfl,_,rfl,?_⟩
 unfold cnt at q
 by_cases hc:a < 1 * 2 ^ (i - 1).toNat
 ·rw [if_pos hc] at q
  refine bP hc ?_
  refine ⟨_,rfl,?_⟩
  refine ⟨_,rfl,_,rfl,_,_,rfl,rfl,hm,_,rfl,_,_,rfl,rfl,jz (by lia) (by lia),_,_,rfl,rfl,bS _,q⟩
 ·rw [if_neg hc] at q
  refine aI hc ?_
  refine ⟨_,rfl,_,rfl,_,_,rfl,rfl,jz (by lia) (by lia),_,_,rfl,rfl,?_⟩
  refine ⟨_,rfl,_,rfl,_,_,rfl,rfl,hm,_,rfl,_,_,rfl,rfl,jz (by lia) (by lia),_,_,rfl,rfl,bS _,q⟩
theorem qQ {f:Addr} {fd:FuncData} (F:Fun K "is_word" "is_word" jh f fd) (T:Txt K mg c) (H_is_between:Has P w K mg base 2 "is_between" ["thing", "low", "high"] cV):FnOk P w K mg base CX0 3 f fd ["width", "thing"] je:=by
 refine F.ok qT (fun vs H Q E h=>?_) (fun cdv A outer s H vs Q E hr h=>?_)
 ·obtain ⟨w',i,rfl,_⟩:=h
  rfl
 obtain ⟨w',i,rfl,w0,w1,i0,i1,q⟩:=h
 refine ⟨_,(aj (ao (aC H_is_between (hr.mono (by lia)) rfl (ae (pv 1) (ae ag (ae (aE eY (aE fV ag (pv 0)) ag) ah)))))),?_⟩
 exact ⟨_,rfl,_,rfl,_,_,rfl,rfl,jz (by lia) (by lia),_,_,rfl,rfl,_,_,_,rfl,i0,(by rw [Int.one_mul]; lia),q⟩
def rw16:List Str:=["set", "copy", "sum", "gap", "low", "high", "left", "right", "slide", "and", "or", "unlike", "under", "pick", "mark", "turns"]
def spRW:Sp:=fun vs H Q _=>vs = []/\∀ l,H l = none->Q (.ref l) (upd H l (.lst (rw16.map V.str)))
theorem mF {f:Addr} {fd:FuncData} (F:Fun K "row_words" "row_words" gz f fd) (T:Txt K mg c) :FnOk P w K mg base CX0 1 f fd [] spRW:=by
 refine F.ok nn (fun vs H Q E h=>?_) (fun cdv A outer s H vs Q E hr h=>?_)
 ·obtain ⟨rfl,_⟩:=h
  rfl
 obtain ⟨rfl,q⟩:=h
 refine ⟨_,(aj (ao (bh iQ rfl T.n_list boot_list (ae (iS rfl T.g_ROW_WORDS) ah)))),?_⟩
 exact ⟨_,_,rfl,.inr (T.q_ROW_WORDS _),fun l hl=>q l hl⟩
theorem o4 {f:Addr} {fd:FuncData} (F:Fun K "word" "Set.word" iA f fd) (T:Txt K mg c) :FnOk P w K mg base CX0 1 f fd ["self"] (eE "set"):=by
 refine F.ok pq (fun vs H Q E h=>?_) (fun cdv A outer s H vs Q E hr h=>?_)
 ·obtain ⟨x,rfl,_⟩:=h
  rfl
 obtain ⟨x,rfl,q⟩:=h
 exact ⟨_,(aj (ao ar)),q⟩
theorem nS {f:Addr} {fd:FuncData} (F:Fun K "word" "Copy.word" gJ f fd) (T:Txt K mg c) :FnOk P w K mg base CX0 1 f fd ["self"] (eE "copy"):=by
 refine F.ok mi (fun vs H Q E h=>?_) (fun cdv A outer s H vs Q E hr h=>?_)
 ·obtain ⟨x,rfl,_⟩:=h
  rfl
 obtain ⟨x,rfl,q⟩:=h
 exact ⟨_,(aj (ao ar)),q⟩
theorem pQ {f:Addr} {fd:FuncData} (F:Fun K "word" "Sum.word" iE f fd) (T:Txt K mg c) :FnOk P w K mg base CX0 1 f fd ["self"] (eE "sum"):=by
 refine F.ok pT (fun vs H Q E h=>?_) (fun cdv A outer s H vs Q E hr h=>?_)
 ·obtain ⟨x,rfl,_⟩:=h
  rfl
 obtain ⟨x,rfl,q⟩:=h
 exact ⟨_,(aj (ao ar)),q⟩
theorem pR {f:Addr} {fd:FuncData} (F:Fun K "word" "Gap.word" iq f fd) (T:Txt K mg c) :FnOk P w K mg base CX0 1 f fd ["self"] (eE "gap"):=by
 refine F.ok pW (fun vs H Q E h=>?_) (fun cdv A outer s H vs Q E hr h=>?_)
 ·obtain ⟨x,rfl,_⟩:=h
  rfl
 obtain ⟨x,rfl,q⟩:=h
 exact ⟨_,(aj (ao ar)),q⟩
theorem pL {f:Addr} {fd:FuncData} (F:Fun K "word" "Low.word" il f fd) (T:Txt K mg c) :FnOk P w K mg base CX0 1 f fd ["self"] (eE "low"):=by
 refine F.ok oC (fun vs H Q E h=>?_) (fun cdv A outer s H vs Q E hr h=>?_)
 ·obtain ⟨x,rfl,_⟩:=h
  rfl
 obtain ⟨x,rfl,q⟩:=h
 exact ⟨_,(aj (ao ar)),q⟩
theorem nE {f:Addr} {fd:FuncData} (F:Fun K "word" "High.word" gO f fd) (T:Txt K mg c) :FnOk P w K mg base CX0 1 f fd ["self"] (eE "high"):=by
 refine F.ok nu (fun vs H Q E h=>?_) (fun cdv A outer s H vs Q E hr h=>?_)
 ·obtain ⟨x,rfl,_⟩:=h
  rfl
 obtain ⟨x,rfl,q⟩:=h
 exact ⟨_,(aj (ao ar)),q⟩
theorem nR {f:Addr} {fd:FuncData} (F:Fun K "word" "Left.word" fY f fd) (T:Txt K mg c) :FnOk P w K mg base CX0 1 f fd ["self"] (eE "left"):=by
 refine F.ok my (fun vs H Q E h=>?_) (fun cdv A outer s H vs Q E hr h=>?_)
 ·obtain ⟨x,rfl,_⟩:=h
  rfl
 obtain ⟨x,rfl,q⟩:=h
 exact ⟨_,(aj (ao ar)),q⟩
theorem lG {f:Addr} {fd:FuncData} (F:Fun K "word" "Right.word" eJ f fd) (T:Txt K mg c) :FnOk P w K mg base CX0 1 f fd ["self"] (eE "right"):=by
 refine F.ok lU (fun vs H Q E h=>?_) (fun cdv A outer s H vs Q E hr h=>?_)
 ·obtain ⟨x,rfl,_⟩:=h
  rfl
 obtain ⟨x,rfl,q⟩:=h
 exact ⟨_,(aj (ao ar)),q⟩
theorem kJ {f:Addr} {fd:FuncData} (F:Fun K "word" "Slide.word" fj f fd) (T:Txt K mg c) :FnOk P w K mg base CX0 1 f fd ["self"] (eE "slide"):=by
 refine F.ok lV (fun vs H Q E h=>?_) (fun cdv A outer s H vs Q E hr h=>?_)
 ·obtain ⟨x,rfl,_⟩:=h
  rfl
 obtain ⟨x,rfl,q⟩:=h
 exact ⟨_,(aj (ao ar)),q⟩
theorem pU {f:Addr} {fd:FuncData} (F:Fun K "word" "And.word" iw f fd) (T:Txt K mg c) :FnOk P w K mg base CX0 1 f fd ["self"] (eE "and"):=by
 refine F.ok oR (fun vs H Q E h=>?_) (fun cdv A outer s H vs Q E hr h=>?_)
 ·obtain ⟨x,rfl,_⟩:=h
  rfl
 obtain ⟨x,rfl,q⟩:=h
 exact ⟨_,(aj (ao ar)),q⟩
theorem rn {f:Addr} {fd:FuncData} (F:Fun K "word" "Or.word" jK f fd) (T:Txt K mg c) :FnOk P w K mg base CX0 1 f fd ["self"] (eE "or"):=by
 refine F.ok qV (fun vs H Q E h=>?_) (fun cdv A outer s H vs Q E hr h=>?_)
 ·obtain ⟨x,rfl,_⟩:=h
  rfl
 obtain ⟨x,rfl,q⟩:=h
 exact ⟨_,(aj (ao ar)),q⟩
theorem j7 {f:Addr} {fd:FuncData} (F:Fun K "word" "Unlike.word" d6 f fd) (T:Txt K mg c) :FnOk P w K mg base CX0 1 f fd ["self"] (eE "unlike"):=by
 refine F.ok kt (fun vs H Q E h=>?_) (fun cdv A outer s H vs Q E hr h=>?_)
 ·obtain ⟨x,rfl,_⟩:=h
  rfl
 obtain ⟨x,rfl,q⟩:=h
 exact ⟨_,(aj (ao ar)),q⟩
theorem lH {f:Addr} {fd:FuncData} (F:Fun K "word" "Under.word" fb f fd) (T:Txt K mg c) :FnOk P w K mg base CX0 1 f fd ["self"] (eE "under"):=by
 refine F.ok lI (fun vs H Q E h=>?_) (fun cdv A outer s H vs Q E hr h=>?_)
 ·obtain ⟨x,rfl,_⟩:=h
  rfl
 obtain ⟨x,rfl,q⟩:=h
 exact ⟨_,(aj (ao ar)),q⟩
theorem nP {f:Addr} {fd:FuncData} (F:Fun K "word" "Pick.word" gj f fd) (T:Txt K mg c) :FnOk P w K mg base CX0 1 f fd ["self"] (eE "pick"):=by
 refine F.ok nU (fun vs H Q E h=>?_) (fun cdv A outer s H vs Q E hr h=>?_)
 ·obtain ⟨x,rfl,_⟩:=h
  rfl
 obtain ⟨x,rfl,q⟩:=h
 exact ⟨_,(aj (ao ar)),q⟩
theorem nG {f:Addr} {fd:FuncData} (F:Fun K "word" "Mark.word" gA f fd) (T:Txt K mg c) :FnOk P w K mg base CX0 1 f fd ["self"] (eE "mark"):=by
 refine F.ok nY (fun vs H Q E h=>?_) (fun cdv A outer s H vs Q E hr h=>?_)
 ·obtain ⟨x,rfl,_⟩:=h
  rfl
 obtain ⟨x,rfl,q⟩:=h
 exact ⟨_,(aj (ao ar)),q⟩
theorem lO {f:Addr} {fd:FuncData} (F:Fun K "word" "Turns.word" fq f fd) (T:Txt K mg c) :FnOk P w K mg base CX0 1 f fd ["self"] (eE "turns"):=by
 refine F.ok lC (fun vs H Q E h=>?_) (fun cdv A outer s H vs Q E hr h=>?_)
 ·obtain ⟨x,rfl,_⟩:=h
  rfl
 obtain ⟨x,rfl,q⟩:=h
 exact ⟨_,(aj (ao ar)),q⟩
theorem jZ {f:Addr} {fd:FuncData} (F:Fun K "__init__" "Set.__init__" dz f fd) (T:Txt K mg c) :FnOk P w K mg base CX0 1 f fd ["self", "goal", "bits"] (aP K ["goal", "bits"]):=by
 refine F.ok jR (fun vs H Q E h=>?_) (fun cdv A outer s H vs Q E hr h=>?_)
 ·obtain ⟨x,C,dx,as,rfl,ln,_⟩:=h
  rw [List.length_cons,ln]
  rfl
 obtain ⟨x,C,dx,as,rfl,ln,hx,cl,na,q⟩:=h
 obtain ⟨a0,a1,rfl⟩:=len2 ln
 refine ⟨_,(ai (bH (pv 0) (pv 1) rfl)
  (aj (bH (pv 0) (pv 2) rfl))),?_⟩
 refine ⟨_,rfl,_,rfl,x,C,dx,_,rfl,hx,cl,na _ (by simp),(by show 0 < 1000; decide),?_⟩
 refine ⟨_,rfl,_,rfl,x,C,dx,_,rfl,af,cl,na _ (by simp),(by show 1 < 1000; decide),?_⟩
 exact q _ af (SameX.upd.trans (SameX.upd))
theorem iU {f:Addr} {fd:FuncData} (F:Fun K "__init__" "Copy.__init__" cO f fd) (T:Txt K mg c) :FnOk P w K mg base CX0 1 f fd ["self", "goal", "one"] (aP K ["goal", "one"]):=by
 refine F.ok iX (fun vs H Q E h=>?_) (fun cdv A outer s H vs Q E hr h=>?_)
 ·obtain ⟨x,C,dx,as,rfl,ln,_⟩:=h
  rw [List.length_cons,ln]
  rfl
 obtain ⟨x,C,dx,as,rfl,ln,hx,cl,na,q⟩:=h
 obtain ⟨a0,a1,rfl⟩:=len2 ln
 refine ⟨_,(ai (bH (pv 0) (pv 1) rfl)
  (aj (bH (pv 0) (pv 2) rfl))),?_⟩
 refine ⟨_,rfl,_,rfl,x,C,dx,_,rfl,hx,cl,na _ (by simp),(by show 0 < 1000; decide),?_⟩
 refine ⟨_,rfl,_,rfl,x,C,dx,_,rfl,af,cl,na _ (by simp),(by show 1 < 1000; decide),?_⟩
 exact q _ af (SameX.upd.trans (SameX.upd))
theorem cJ {f:Addr} {fd:FuncData} (F:Fun K "__init__" "Carrying.__init__" bO f fd) (T:Txt K mg c) :FnOk P w K mg base CX0 1 f fd ["self", "goal", "carry", "one", "other"] (aP K ["goal", "carry", "one", "other"]):=by
 refine F.ok fT (fun vs H Q E h=>?_) (fun cdv A outer s H vs Q E hr h=>?_)
 ·obtain ⟨x,C,dx,as,rfl,ln,_⟩:=h
  rw [List.length_cons,ln]
  rfl
 obtain ⟨x,C,dx,as,rfl,ln,hx,cl,na,q⟩:=h
 obtain ⟨a0,a1,a2,a3,rfl⟩:=len4 ln
 refine ⟨_,(ai (bH (pv 0) (pv 1) rfl)
  (ai (bH (pv 0) (pv 2) rfl)
  (ai (bH (pv 0) (pv 3) rfl)
  (aj (bH (pv 0) (pv 4) rfl))))),?_⟩
 refine ⟨_,rfl,_,rfl,x,C,dx,_,rfl,hx,cl,na _ (by simp),(by show 0 < 1000; decide),?_⟩
 refine ⟨_,rfl,_,rfl,x,C,dx,_,rfl,af,cl,na _ (by simp),(by show 1 < 1000; decide),?_⟩
 refine ⟨_,rfl,_,rfl,x,C,dx,_,rfl,af,cl,na _ (by simp),(by show 2 < 1000; decide),?_⟩
 refine ⟨_,rfl,_,rfl,x,C,dx,_,rfl,af,cl,na _ (by simp),(by show 3 < 1000; decide),?_⟩
 exact q _ af (SameX.upd.trans (SameX.upd.trans (SameX.upd.trans (SameX.upd))))
theorem aR {f:Addr} {fd:FuncData} (F:Fun K "__init__" "Joining.__init__" bX f fd) (T:Txt K mg c) :FnOk P w K mg base CX0 1 f fd ["self", "goal", "one", "other"] (aP K ["goal", "one", "other"]):=by
 refine F.ok gu (fun vs H Q E h=>?_) (fun cdv A outer s H vs Q E hr h=>?_)
 ·obtain ⟨x,C,dx,as,rfl,ln,_⟩:=h
  rw [List.length_cons,ln]
  rfl
 obtain ⟨x,C,dx,as,rfl,ln,hx,cl,na,q⟩:=h
 obtain ⟨a0,a1,a2,rfl⟩:=iY ln
 refine ⟨_,(ai (bH (pv 0) (pv 1) rfl)
  (ai (bH (pv 0) (pv 2) rfl)
  (aj (bH (pv 0) (pv 3) rfl)))),?_⟩
 refine ⟨_,rfl,_,rfl,x,C,dx,_,rfl,hx,cl,na _ (by simp),(by show 0 < 1000; decide),?_⟩
 refine ⟨_,rfl,_,rfl,x,C,dx,_,rfl,af,cl,na _ (by simp),(by show 1 < 1000; decide),?_⟩
 refine ⟨_,rfl,_,rfl,x,C,dx,_,rfl,af,cl,na _ (by simp),(by show 2 < 1000; decide),?_⟩
 exact q _ af (SameX.upd.trans (SameX.upd.trans (SameX.upd)))
theorem bW {f:Addr} {fd:FuncData} (F:Fun K "__init__" "Moving.__init__" ce f fd) (T:Txt K mg c) :FnOk P w K mg base CX0 1 f fd ["self", "goal", "one", "k"] (aP K ["goal", "one", "k"]):=by
 refine F.ok gX (fun vs H Q E h=>?_) (fun cdv A outer s H vs Q E hr h=>?_)
 ·obtain ⟨x,C,dx,as,rfl,ln,_⟩:=h
  rw [List.length_cons,ln]
  rfl
 obtain ⟨x,C,dx,as,rfl,ln,hx,cl,na,q⟩:=h
 obtain ⟨a0,a1,a2,rfl⟩:=iY ln
 refine ⟨_,(ai (bH (pv 0) (pv 1) rfl)
  (ai (bH (pv 0) (pv 2) rfl)
  (aj (bH (pv 0) (pv 3) rfl)))),?_⟩
 refine ⟨_,rfl,_,rfl,x,C,dx,_,rfl,hx,cl,na _ (by simp),(by show 0 < 1000; decide),?_⟩
 refine ⟨_,rfl,_,rfl,x,C,dx,_,rfl,af,cl,na _ (by simp),(by show 1 < 1000; decide),?_⟩
 refine ⟨_,rfl,_,rfl,x,C,dx,_,rfl,af,cl,na _ (by simp),(by show 2 < 1000; decide),?_⟩
 exact q _ af (SameX.upd.trans (SameX.upd.trans (SameX.upd)))
theorem i6 {f:Addr} {fd:FuncData} (F:Fun K "__init__" "Pick.__init__" cW f fd) (T:Txt K mg c) :FnOk P w K mg base CX0 1 f fd ["self", "goal", "by", "one", "other"] (aP K ["goal", "by", "one", "other"]):=by
 refine F.ok i9 (fun vs H Q E h=>?_) (fun cdv A outer s H vs Q E hr h=>?_)
 ·obtain ⟨x,C,dx,as,rfl,ln,_⟩:=h
  rw [List.length_cons,ln]
  rfl
 obtain ⟨x,C,dx,as,rfl,ln,hx,cl,na,q⟩:=h
 obtain ⟨a0,a1,a2,a3,rfl⟩:=len4 ln
 refine ⟨_,(ai (bH (pv 0) (pv 1) rfl)
  (ai (bH (pv 0) (pv 2) rfl)
  (ai (bH (pv 0) (pv 3) rfl)
  (aj (bH (pv 0) (pv 4) rfl))))),?_⟩
 refine ⟨_,rfl,_,rfl,x,C,dx,_,rfl,hx,cl,na _ (by simp),(by show 0 < 1000; decide),?_⟩
 refine ⟨_,rfl,_,rfl,x,C,dx,_,rfl,af,cl,na _ (by simp),(by show 1 < 1000; decide),?_⟩
 refine ⟨_,rfl,_,rfl,x,C,dx,_,rfl,af,cl,na _ (by simp),(by show 2 < 1000; decide),?_⟩
 refine ⟨_,rfl,_,rfl,x,C,dx,_,rfl,af,cl,na _ (by simp),(by show 3 < 1000; decide),?_⟩
 exact q _ af (SameX.upd.trans (SameX.upd.trans (SameX.upd.trans (SameX.upd))))
theorem iT {f:Addr} {fd:FuncData} (F:Fun K "__init__" "Mark.__init__" cS f fd) (T:Txt K mg c) :FnOk P w K mg base CX0 1 f fd ["self", "line", "mark", "by"] (aP K ["line", "mark", "by"]):=by
 refine F.ok i5 (fun vs H Q E h=>?_) (fun cdv A outer s H vs Q E hr h=>?_)
 ·obtain ⟨x,C,dx,as,rfl,ln,_⟩:=h
  rw [List.length_cons,ln]
  rfl
 obtain ⟨x,C,dx,as,rfl,ln,hx,cl,na,q⟩:=h
 obtain ⟨a0,a1,a2,rfl⟩:=iY ln
 refine ⟨_,(ai (bH (pv 0) (pv 1) rfl)
  (ai (bH (pv 0) (pv 2) rfl)
  (aj (bH (pv 0) (pv 3) rfl)))),?_⟩
 refine ⟨_,rfl,_,rfl,x,C,dx,_,rfl,hx,cl,na _ (by simp),(by show 0 < 1000; decide),?_⟩
 refine ⟨_,rfl,_,rfl,x,C,dx,_,rfl,af,cl,na _ (by simp),(by show 1 < 1000; decide),?_⟩
 refine ⟨_,rfl,_,rfl,x,C,dx,_,rfl,af,cl,na _ (by simp),(by show 2 < 1000; decide),?_⟩
 exact q _ af (SameX.upd.trans (SameX.upd.trans (SameX.upd)))
theorem iz {f:Addr} {fd:FuncData} (F:Fun K "__init__" "Turns.__init__" cz f fd) (T:Txt K mg c) :FnOk P w K mg base CX0 1 f fd ["self", "times", "steps"] (oh K):=by
 refine F.ok iG (fun vs H Q E h=>?_) (fun cdv A outer s H vs Q E hr h=>?_)
 ·obtain ⟨x,C,dx,l,n,xs,rfl,_⟩:=h
  rfl
 obtain ⟨x,C,dx,l,n,xs,rfl,hx,hl,cl,na,q⟩:=h
 refine ⟨_,(ai (bH (pv 0) (pv 1) rfl)
  (aj (bH (pv 0) (fJ (bC (aD aJ rfl T.n_isinstance boot_isinstance (ae (pv 2) (ae (gM rfl T.n_list boot_list) ah)))) (bh iQ rfl T.n_list boot_list (ae (pv 2) ah)) (pv 2)) rfl))),?_⟩
 refine ⟨_,rfl,_,rfl,x,C,dx,_,rfl,hx,cl,na _ (by simp),(by show 0 < 1000; decide),?_⟩
 have nl:l ≠ x:=fun z=>by rw [z,hx] at hl; cases hl
 have hl1:upd H x (.ins C dx [("times",n)]) l = some (.lst xs):=by rw [am nl]; exact hl
 refine ⟨_,rfl,_,_,_,_,_,rfl,rfl,TyOf.lst hl1,rfl,_,rfl,eG ⟨_,rfl,l,_,rfl,.inl (SqL.of hl1),fun l' h'=>?_⟩⟩
 have nx:x ≠ l':=fun z=>by rw [<- z,af] at h'; cases h'
 have h0:H l' = none:=by rw [am (Ne.symm nx)] at h'; exact h'
 refine ⟨_,rfl,x,C,dx,_,rfl,(by rw [am nx]; exact af),cl,na _ (by simp),(by show 1 < 1000; decide),?_⟩
 refine q l' _ h0 af (by rw [am (Ne.symm nx)]; exact af) fun b o hb e=>?_
 rw [am hb,am (aw e h0),am hb]
 exact e
theorem Txt.clF {K:Frag} {mg:Str->Option Value} {c:Ad} (T:Txt K mg c) {k:Nat} (h:k < 15):Cls K (fOf c k)/\∀ f ∈ nOf k,NoAttr K (fOf c k) f:=by
 rcases (by lia:k = 0\/k = 1\/k = 2\/k = 3\/k = 4\/k = 5\/k = 6\/k = 7\/k = 8\/k = 9\/k = 10\/k = 11\/k = 12\/k = 13\/k = 14) with rfl | rfl | rfl | rfl | rfl | rfl | rfl | rfl | rfl | rfl | rfl | rfl | rfl | rfl | rfl
 ·exact ⟨T.cl_Set,List.forall_mem_cons.mpr ⟨T.na_Set_goal,List.forall_mem_cons.mpr ⟨T.na_Set_bits,fun _ h=>nomatch h⟩⟩⟩
 ·exact ⟨T.cl_Copy,List.forall_mem_cons.mpr ⟨T.na_Copy_goal,List.forall_mem_cons.mpr ⟨T.na_Copy_one,fun _ h=>nomatch h⟩⟩⟩
 ·exact ⟨T.cl_Sum,List.forall_mem_cons.mpr ⟨T.na_Sum_goal,List.forall_mem_cons.mpr ⟨T.na_Sum_carry,List.forall_mem_cons.mpr ⟨T.na_Sum_one,List.forall_mem_cons.mpr ⟨T.na_Sum_other,fun _ h=>nomatch h⟩⟩⟩⟩⟩
 ·exact ⟨T.cl_Gap,List.forall_mem_cons.mpr ⟨T.na_Gap_goal,List.forall_mem_cons.mpr ⟨T.na_Gap_carry,List.forall_mem_cons.mpr ⟨T.na_Gap_one,List.forall_mem_cons.mpr ⟨T.na_Gap_other,fun _ h=>nomatch h⟩⟩⟩⟩⟩
 ·exact ⟨T.cl_Low,List.forall_mem_cons.mpr ⟨T.na_Low_goal,List.forall_mem_cons.mpr ⟨T.na_Low_one,List.forall_mem_cons.mpr ⟨T.na_Low_other,fun _ h=>nomatch h⟩⟩⟩⟩
 ·exact ⟨T.cl_High,List.forall_mem_cons.mpr ⟨T.na_High_goal,List.forall_mem_cons.mpr ⟨T.na_High_one,List.forall_mem_cons.mpr ⟨T.na_High_other,fun _ h=>nomatch h⟩⟩⟩⟩
 ·exact ⟨T.cl_Left,List.forall_mem_cons.mpr ⟨T.na_Left_goal,List.forall_mem_cons.mpr ⟨T.na_Left_one,List.forall_mem_cons.mpr ⟨T.na_Left_k,fun _ h=>nomatch h⟩⟩⟩⟩
 ·exact ⟨T.cl_Right,List.forall_mem_cons.mpr ⟨T.na_Right_goal,List.forall_mem_cons.mpr ⟨T.na_Right_one,List.forall_mem_cons.mpr ⟨T.na_Right_k,fun _ h=>nomatch h⟩⟩⟩⟩
 ·exact ⟨T.cl_Slide,List.forall_mem_cons.mpr ⟨T.na_Slide_goal,List.forall_mem_cons.mpr ⟨T.na_Slide_one,List.forall_mem_cons.mpr ⟨T.na_Slide_k,fun _ h=>nomatch h⟩⟩⟩⟩
 ·exact ⟨T.cl_And,List.forall_mem_cons.mpr ⟨T.na_And_goal,List.forall_mem_cons.mpr ⟨T.na_And_one,List.forall_mem_cons.mpr ⟨T.na_And_other,fun _ h=>nomatch h⟩⟩⟩⟩
 ·exact ⟨T.cl_Or,List.forall_mem_cons.mpr ⟨T.na_Or_goal,List.forall_mem_cons.mpr ⟨T.na_Or_one,List.forall_mem_cons.mpr ⟨T.na_Or_other,fun _ h=>nomatch h⟩⟩⟩⟩
 ·exact ⟨T.cl_Unlike,List.forall_mem_cons.mpr ⟨T.na_Unlike_goal,List.forall_mem_cons.mpr ⟨T.na_Unlike_one,List.forall_mem_cons.mpr ⟨T.na_Unlike_other,fun _ h=>nomatch h⟩⟩⟩⟩
 ·exact ⟨T.cl_Under,List.forall_mem_cons.mpr ⟨T.na_Under_goal,List.forall_mem_cons.mpr ⟨T.na_Under_one,List.forall_mem_cons.mpr ⟨T.na_Under_other,fun _ h=>nomatch h⟩⟩⟩⟩
 ·exact ⟨T.cl_Pick,List.forall_mem_cons.mpr ⟨T.na_Pick_goal,List.forall_mem_cons.mpr ⟨T.na_Pick_by,List.forall_mem_cons.mpr ⟨T.na_Pick_one,List.forall_mem_cons.mpr ⟨T.na_Pick_other,fun _ h=>nomatch h⟩⟩⟩⟩⟩
 ·exact ⟨T.cl_Mark,List.forall_mem_cons.mpr ⟨T.na_Mark_line,List.forall_mem_cons.mpr ⟨T.na_Mark_mark,List.forall_mem_cons.mpr ⟨T.na_Mark_by,fun _ h=>nomatch h⟩⟩⟩⟩
theorem pK {f:Addr} {fd:FuncData} (F:Fun K "told" "Set.told" im f fd) (T:Txt K mg c) :FnOk P w K mg base CX0 1 f fd ["self"] (bo c [0]):=by
 refine F.ok pY (fun vs H Q E h=>?_) (fun cdv A outer s H vs Q E hr h=>?_)
 ·obtain ⟨x,k,fs,rfl,_⟩:=h
  rfl
 obtain ⟨x,k,fs,rfl,hk,⟨dx,hx,ln⟩,q⟩:=h
 refine ⟨_,(aj (ao (bK (ae ar (ae (aB (pv 0) rfl) (ae (aB (pv 0) rfl) ah)))))),?_⟩
 simp only [List.mem_cons,List.not_mem_nil,or_false] at hk
 subst hk
 obtain ⟨a0,a1,rfl⟩:=len2 ln
 obtain ⟨cl,na⟩:=T.clF (k:=0) (by decide)
 refine ⟨_,rfl,x,_,dx,_,_,rfl,hx,cl,na _ (by simp [nOf]),rfl,_,rfl,x,_,dx,_,_,rfl,hx,cl,na _ (by simp [nOf]),rfl,(by show 3<=sizeLine; decide),fun r hr'=>q r hr'⟩
theorem mP {f:Addr} {fd:FuncData} (F:Fun K "told" "Copy.told" gx f fd) (T:Txt K mg c) :FnOk P w K mg base CX0 1 f fd ["self"] (bo c [1]):=by
 refine F.ok mE (fun vs H Q E h=>?_) (fun cdv A outer s H vs Q E hr h=>?_)
 ·obtain ⟨x,k,fs,rfl,_⟩:=h
  rfl
 obtain ⟨x,k,fs,rfl,hk,⟨dx,hx,ln⟩,q⟩:=h
 refine ⟨_,(aj (ao (bK (ae ar (ae (aB (pv 0) rfl) (ae (aB (pv 0) rfl) ah)))))),?_⟩
 simp only [List.mem_cons,List.not_mem_nil,or_false] at hk
 subst hk
 obtain ⟨a0,a1,rfl⟩:=len2 ln
 obtain ⟨cl,na⟩:=T.clF (k:=1) (by decide)
 refine ⟨_,rfl,x,_,dx,_,_,rfl,hx,cl,na _ (by simp [nOf]),rfl,_,rfl,x,_,dx,_,_,rfl,hx,cl,na _ (by simp [nOf]),rfl,(by show 3<=sizeLine; decide),fun r hr'=>q r hr'⟩
theorem eB {f:Addr} {fd:FuncData} (F:Fun K "told" "Carrying.told" cR f fd) (T:Txt K mg c)  (MW:∀ i ∈ [2,3],MHas P w K mg base 1 (fOf c i) "word" ["self"] (eE (wOf i))):FnOk P w K mg base CX0 2 f fd ["self"] (bo c [2,3]):=by
 refine F.ok jb (fun vs H Q E h=>?_) (fun cdv A outer s H vs Q E hr h=>?_)
 ·obtain ⟨x,k,fs,rfl,_⟩:=h
  rfl
 obtain ⟨x,k,fs,rfl,hk,⟨dx,hx,ln⟩,q⟩:=h
 refine ⟨_,(aj (ao (bK (ae (dO (k:=1) (pv 0) (hr.mono (by lia))) (ae (aB (pv 0) rfl) (ae (aB (pv 0) rfl) (ae (aB (pv 0) rfl) (ae (aB (pv 0) rfl) ah)))))))),?_⟩
 have mw:=MW k hk
 simp only [List.mem_cons,List.not_mem_nil,or_false] at hk
 rcases hk with rfl | rfl
 ·obtain ⟨a0,a1,a2,a3,rfl⟩:=len4 ln
  obtain ⟨cl,na⟩:=T.clF (k:=2) (by decide)
  refine ⟨_,rfl,x,_,dx,_,_,_,rfl,hx,rfl,mw,x,rfl,_,rfl,x,_,dx,_,_,rfl,hx,cl,na _ (by simp [nOf]),rfl,_,rfl,x,_,dx,_,_,rfl,hx,cl,na _ (by simp [nOf]),rfl,_,rfl,x,_,dx,_,_,rfl,hx,cl,na _ (by simp [nOf]),rfl,_,rfl,x,_,dx,_,_,rfl,hx,cl,na _ (by simp [nOf]),rfl,(by show 5<=sizeLine; decide),fun r hr'=>q r hr'⟩
 ·obtain ⟨a0,a1,a2,a3,rfl⟩:=len4 ln
  obtain ⟨cl,na⟩:=T.clF (k:=3) (by decide)
  refine ⟨_,rfl,x,_,dx,_,_,_,rfl,hx,rfl,mw,x,rfl,_,rfl,x,_,dx,_,_,rfl,hx,cl,na _ (by simp [nOf]),rfl,_,rfl,x,_,dx,_,_,rfl,hx,cl,na _ (by simp [nOf]),rfl,_,rfl,x,_,dx,_,_,rfl,hx,cl,na _ (by simp [nOf]),rfl,_,rfl,x,_,dx,_,_,rfl,hx,cl,na _ (by simp [nOf]),rfl,(by show 5<=sizeLine; decide),fun r hr'=>q r hr'⟩
theorem bu {f:Addr} {fd:FuncData} (F:Fun K "told" "Joining.told" dG f fd) (T:Txt K mg c)  (MW:∀ i ∈ [4,5,9,10,11,12],MHas P w K mg base 1 (fOf c i) "word" ["self"] (eE (wOf i))):FnOk P w K mg base CX0 2 f fd ["self"] (bo c [4,5,9,10,11,12]):=by
 refine F.ok jL (fun vs H Q E h=>?_) (fun cdv A outer s H vs Q E hr h=>?_)
 ·obtain ⟨x,k,fs,rfl,_⟩:=h
  rfl
 obtain ⟨x,k,fs,rfl,hk,⟨dx,hx,ln⟩,q⟩:=h
 refine ⟨_,(aj (ao (bK (ae (dO (k:=1) (pv 0) (hr.mono (by lia))) (ae (aB (pv 0) rfl) (ae (aB (pv 0) rfl) (ae (aB (pv 0) rfl) ah))))))),?_⟩
 have mw:=MW k hk
 simp only [List.mem_cons,List.not_mem_nil,or_false] at hk
 rcases hk with rfl | rfl | rfl | rfl | rfl | rfl
 ·obtain ⟨a0,a1,a2,rfl⟩:=iY ln
  obtain ⟨cl,na⟩:=T.clF (k:=4) (by decide)
  refine ⟨_,rfl,x,_,dx,_,_,_,rfl,hx,rfl,mw,x,rfl,_,rfl,x,_,dx,_,_,rfl,hx,cl,na _ (by simp [nOf]),rfl,_,rfl,x,_,dx,_,_,rfl,hx,cl,na _ (by simp [nOf]),rfl,_,rfl,x,_,dx,_,_,rfl,hx,cl,na _ (by simp [nOf]),rfl,(by show 4<=sizeLine; decide),fun r hr'=>q r hr'⟩
 ·obtain ⟨a0,a1,a2,rfl⟩:=iY ln
  obtain ⟨cl,na⟩:=T.clF (k:=5) (by decide)
  refine ⟨_,rfl,x,_,dx,_,_,_,rfl,hx,rfl,mw,x,rfl,_,rfl,x,_,dx,_,_,rfl,hx,cl,na _ (by simp [nOf]),rfl,_,rfl,x,_,dx,_,_,rfl,hx,cl,na _ (by simp [nOf]),rfl,_,rfl,x,_,dx,_,_,rfl,hx,cl,na _ (by simp [nOf]),rfl,(by show 4<=sizeLine; decide),fun r hr'=>q r hr'⟩
 ·obtain ⟨a0,a1,a2,rfl⟩:=iY ln
  obtain ⟨cl,na⟩:=T.clF (k:=9) (by decide)
  refine ⟨_,rfl,x,_,dx,_,_,_,rfl,hx,rfl,mw,x,rfl,_,rfl,x,_,dx,_,_,rfl,hx,cl,na _ (by simp [nOf]),rfl,_,rfl,x,_,dx,_,_,rfl,hx,cl,na _ (by simp [nOf]),rfl,_,rfl,x,_,dx,_,_,rfl,hx,cl,na _ (by simp [nOf]),rfl,(by show 4<=sizeLine; decide),fun r hr'=>q r hr'⟩
 ·obtain ⟨a0,a1,a2,rfl⟩:=iY ln
  obtain ⟨cl,na⟩:=T.clF (k:=10) (by decide)
  refine ⟨_,rfl,x,_,dx,_,_,_,rfl,hx,rfl,mw,x,rfl,_,rfl,x,_,dx,_,_,rfl,hx,cl,na _ (by simp [nOf]),rfl,_,rfl,x,_,dx,_,_,rfl,hx,cl,na _ (by simp [nOf]),rfl,_,rfl,x,_,dx,_,_,rfl,hx,cl,na _ (by simp [nOf]),rfl,(by show 4<=sizeLine; decide),fun r hr'=>q r hr'⟩
 ·obtain ⟨a0,a1,a2,rfl⟩:=iY ln
  obtain ⟨cl,na⟩:=T.clF (k:=11) (by decide)
  refine ⟨_,rfl,x,_,dx,_,_,_,rfl,hx,rfl,mw,x,rfl,_,rfl,x,_,dx,_,_,rfl,hx,cl,na _ (by simp [nOf]),rfl,_,rfl,x,_,dx,_,_,rfl,hx,cl,na _ (by simp [nOf]),rfl,_,rfl,x,_,dx,_,_,rfl,hx,cl,na _ (by simp [nOf]),rfl,(by show 4<=sizeLine; decide),fun r hr'=>q r hr'⟩
 ·obtain ⟨a0,a1,a2,rfl⟩:=iY ln
  obtain ⟨cl,na⟩:=T.clF (k:=12) (by decide)
  refine ⟨_,rfl,x,_,dx,_,_,_,rfl,hx,rfl,mw,x,rfl,_,rfl,x,_,dx,_,_,rfl,hx,cl,na _ (by simp [nOf]),rfl,_,rfl,x,_,dx,_,_,rfl,hx,cl,na _ (by simp [nOf]),rfl,_,rfl,x,_,dx,_,_,rfl,hx,cl,na _ (by simp [nOf]),rfl,(by show 4<=sizeLine; decide),fun r hr'=>q r hr'⟩
theorem dq {f:Addr} {fd:FuncData} (F:Fun K "told" "Moving.told" d9 f fd) (T:Txt K mg c)  (MW:∀ i ∈ [6,7,8],MHas P w K mg base 1 (fOf c i) "word" ["self"] (eE (wOf i))):FnOk P w K mg base CX0 2 f fd ["self"] (bo c [6,7,8]):=by
 refine F.ok ku (fun vs H Q E h=>?_) (fun cdv A outer s H vs Q E hr h=>?_)
 ·obtain ⟨x,k,fs,rfl,_⟩:=h
  rfl
 obtain ⟨x,k,fs,rfl,hk,⟨dx,hx,ln⟩,q⟩:=h
 refine ⟨_,(aj (ao (bK (ae (dO (k:=1) (pv 0) (hr.mono (by lia))) (ae (aB (pv 0) rfl) (ae (aB (pv 0) rfl) (ae (aB (pv 0) rfl) ah))))))),?_⟩
 have mw:=MW k hk
 simp only [List.mem_cons,List.not_mem_nil,or_false] at hk
 rcases hk with rfl | rfl | rfl
 ·obtain ⟨a0,a1,a2,rfl⟩:=iY ln
  obtain ⟨cl,na⟩:=T.clF (k:=6) (by decide)
  refine ⟨_,rfl,x,_,dx,_,_,_,rfl,hx,rfl,mw,x,rfl,_,rfl,x,_,dx,_,_,rfl,hx,cl,na _ (by simp [nOf]),rfl,_,rfl,x,_,dx,_,_,rfl,hx,cl,na _ (by simp [nOf]),rfl,_,rfl,x,_,dx,_,_,rfl,hx,cl,na _ (by simp [nOf]),rfl,(by show 4<=sizeLine; decide),fun r hr'=>q r hr'⟩
 ·obtain ⟨a0,a1,a2,rfl⟩:=iY ln
  obtain ⟨cl,na⟩:=T.clF (k:=7) (by decide)
  refine ⟨_,rfl,x,_,dx,_,_,_,rfl,hx,rfl,mw,x,rfl,_,rfl,x,_,dx,_,_,rfl,hx,cl,na _ (by simp [nOf]),rfl,_,rfl,x,_,dx,_,_,rfl,hx,cl,na _ (by simp [nOf]),rfl,_,rfl,x,_,dx,_,_,rfl,hx,cl,na _ (by simp [nOf]),rfl,(by show 4<=sizeLine; decide),fun r hr'=>q r hr'⟩
 ·obtain ⟨a0,a1,a2,rfl⟩:=iY ln
  obtain ⟨cl,na⟩:=T.clF (k:=8) (by decide)
  refine ⟨_,rfl,x,_,dx,_,_,_,rfl,hx,rfl,mw,x,rfl,_,rfl,x,_,dx,_,_,rfl,hx,cl,na _ (by simp [nOf]),rfl,_,rfl,x,_,dx,_,_,rfl,hx,cl,na _ (by simp [nOf]),rfl,_,rfl,x,_,dx,_,_,rfl,hx,cl,na _ (by simp [nOf]),rfl,(by show 4<=sizeLine; decide),fun r hr'=>q r hr'⟩
theorem nB {f:Addr} {fd:FuncData} (F:Fun K "told" "Pick.told" gE f fd) (T:Txt K mg c) :FnOk P w K mg base CX0 1 f fd ["self"] (bo c [13]):=by
 refine F.ok mf (fun vs H Q E h=>?_) (fun cdv A outer s H vs Q E hr h=>?_)
 ·obtain ⟨x,k,fs,rfl,_⟩:=h
  rfl
 obtain ⟨x,k,fs,rfl,hk,⟨dx,hx,ln⟩,q⟩:=h
 refine ⟨_,(aj (ao (bK (ae ar (ae (aB (pv 0) rfl) (ae (aB (pv 0) rfl) (ae (aB (pv 0) rfl) (ae (aB (pv 0) rfl) ah)))))))),?_⟩
 simp only [List.mem_cons,List.not_mem_nil,or_false] at hk
 subst hk
 obtain ⟨a0,a1,a2,a3,rfl⟩:=len4 ln
 obtain ⟨cl,na⟩:=T.clF (k:=13) (by decide)
 refine ⟨_,rfl,x,_,dx,_,_,rfl,hx,cl,na _ (by simp [nOf]),rfl,_,rfl,x,_,dx,_,_,rfl,hx,cl,na _ (by simp [nOf]),rfl,_,rfl,x,_,dx,_,_,rfl,hx,cl,na _ (by simp [nOf]),rfl,_,rfl,x,_,dx,_,_,rfl,hx,cl,na _ (by simp [nOf]),rfl,(by show 5<=sizeLine; decide),fun r hr'=>q r hr'⟩
theorem mM {f:Addr} {fd:FuncData} (F:Fun K "told" "Mark.told" gB f fd) (T:Txt K mg c) :FnOk P w K mg base CX0 1 f fd ["self"] (bo c [14]):=by
 refine F.ok mT (fun vs H Q E h=>?_) (fun cdv A outer s H vs Q E hr h=>?_)
 ·obtain ⟨x,k,fs,rfl,_⟩:=h
  rfl
 obtain ⟨x,k,fs,rfl,hk,⟨dx,hx,ln⟩,q⟩:=h
 refine ⟨_,(aj (ao (bK (ae ar (ae (aB (pv 0) rfl) (ae (aB (pv 0) rfl) (ae (aB (pv 0) rfl) ah))))))),?_⟩
 simp only [List.mem_cons,List.not_mem_nil,or_false] at hk
 subst hk
 obtain ⟨a0,a1,a2,rfl⟩:=iY ln
 obtain ⟨cl,na⟩:=T.clF (k:=14) (by decide)
 refine ⟨_,rfl,x,_,dx,_,_,rfl,hx,cl,na _ (by simp [nOf]),rfl,_,rfl,x,_,dx,_,_,rfl,hx,cl,na _ (by simp [nOf]),rfl,_,rfl,x,_,dx,_,_,rfl,hx,cl,na _ (by simp [nOf]),rfl,(by show 4<=sizeLine; decide),fun r hr'=>q r hr'⟩
def csOf (c:Ad):List Addr:=[c.Set,c.Copy,c.Sum,c.Gap,c.Low,c.High,c.Left,c.Right,c.Slide,c.And,c.Or,c.Unlike,c.Under,c.Pick,c.Mark,c.Turns]
theorem cs_at {c:Ad} {k:Nat} (h:k < 16):(csOf c).getD k 0 = fOf c k:=by
 rcases (by lia:k = 0\/k = 1\/k = 2\/k = 3\/k = 4\/k = 5\/k = 6\/k = 7\/k = 8\/k = 9\/k = 10\/k = 11\/k = 12\/k = 13\/k = 14\/k = 15) with rfl | rfl | rfl | rfl | rfl | rfl | rfl | rfl | rfl | rfl | rfl | rfl | rfl | rfl | rfl | rfl <;> rfl
theorem Txt.kd {K:Frag} {mg:Str->Option Value} {c:Ad} (T:Txt K mg c) {k:Nat} (h:k < 16):isClsIn K (fOf c k) = true/\typeIn K (.ref (fOf c k)) = some (.type "type")/\mroIn K (fOf c k) (.ref c.Step) = some true/\findIn K (.ref (fOf c k)) "__class__" = some (some (.builtin "object.__class__"))/\mroIn K (fOf c k) (.type "object") = some true/\∀ i,i < 16->mroIn K (fOf c k) (.ref (fOf c i)) = some (decide (i = k)):=by
 have a:=T.kf_kr_kinds
 have a:fM K (csOf c) c.Step = true:=a
 unfold fM at a
 simp only [Bool.and_eq_true] at a
 have b:=List.all_eq_true.mp a.2 k (List.mem_range.mpr h)
 simp only [Bool.and_eq_true,beq_iff_eq] at b
 rw [cs_at h] at b
 obtain ⟨⟨⟨⟨⟨b1,b2⟩,b3⟩,b4⟩,b5⟩,b6⟩:=b
 refine ⟨b1,b2,b3,b4,b5,fun i hi=>?_⟩
 have:=List.all_eq_true.mp b6 i (List.mem_range.mpr hi)
 rw [beq_iff_eq,cs_at hi] at this
 exact this
theorem Txt.st {K:Frag} {mg:Str->Option Value} {c:Ad} (T:Txt K mg c):isClsIn K c.Step = true/\typeIn K (.ref c.Step) = some (.type "type"):=by
 have a:fM K (csOf c) c.Step = true:=T.kf_kr_kinds
 unfold fM at a
 simp only [Bool.and_eq_true,beq_iff_eq] at a
 exact a.1
theorem Txt.ty {K:Frag} {mg:Str->Option Value} {c:Ad} (T:Txt K mg c) {k:Nat} (h:k < 15) {H:Hp} {x dx:Addr} {fs:List (Str × V)} (e:H x = some (.ins (fOf c k) dx fs)):TyOf K H (.ref x) (.ref (fOf c k)):=TyOf.ins e (T.clF h).1 (T.kd (by lia)).2.2.2.1 T.kf_og T.kf_ot (T.kd (by lia)).2.2.2.2.1
theorem Txt.kit {K:Frag} {mg:Str->Option Value} {c:Ad} (T:Txt K mg c) {k i:Nat} (h:k < 16) (hi:i < 16):kitOne K (.ref (fOf c k)) (.ref (fOf c i)) = some (decide (i = k)):=by
 by_cases e:i = k
 ·subst e
  rw [decide_eq_true rfl]
  have:=(T.kd h).2.2.2.2.2 i h
  rw [decide_eq_true rfl] at this
  exact sQ (T.kd h).1 (T.kd h).2.1 this
 ·rw [decide_eq_false e]
  have a:=(T.kd h).2.2.2.2.2 i hi
  have b:=(T.kd hi).2.2.2.2.2 i hi
  rw [decide_eq_false e] at a
  rw [decide_eq_true rfl] at b
  exact sg (T.kd hi).1 (T.kd hi).2.1 a b
theorem j4 {f:Addr} {fd:FuncData} (F:Fun K "is_register" "is_register" dR f fd) (T:Txt K mg c) :FnOk P w K mg base CX0 1 f fd ["thing"] mB:=by
 refine F.ok kg (fun vs H Q E h=>?_) (fun cdv A outer s H vs Q E hr h=>?_)
 ·obtain ⟨x,rfl,_⟩:=h
  rfl
 obtain ⟨x,rfl,th,hz,q⟩:=h
 refine ⟨_,(ai (aQ (PW.pt (eQ (bJ (bC (aD aJ rfl T.n_isinstance boot_isinstance (ae (pv 0) (ae (gM rfl T.n_str boot_str) ah))))) (eQ (bJ (pt_chain qS qS ag (aD mC rfl T.n_len boot_len (ae (pv 0) ah)) ag)) (fk (au mX (av rZ (pv 0) ag (fun _ _=>rfl)) (qB rfl T.g_LETTERS) (by with_unfolding_all rfl))))))
   (aj (ao hX))
   aG)
  (aj (ao (aD (ej rfl) rfl T.n_all boot_all (ae (cY rfl (by first | rfl | with_unfolding_all rfl) (by decide +kernel) rfl (by decide +kernel) rfl (pi_str (pv 0)) (fun C s2 H2 fp=>(cy sy (pv 0) (qB rfl T.g_LETTERS_AND_FIGURES) (by with_unfolding_all rfl)))) ah))))),?_⟩
 cases th with
 | int i=>exact ⟨_,rfl,_,_,_,_,_,rfl,rfl,TyOf.int _,o8 _,_,rfl,eG (q H (Same.refl _))⟩
 | bl b=>exact ⟨_,rfl,_,_,_,_,_,rfl,rfl,TyOf.bl _,qX _,_,rfl,eG (q H (Same.refl _))⟩
 | non=>exact ⟨_,rfl,_,_,_,_,_,rfl,rfl,TyOf.non,pZ _,_,rfl,eG (q H (Same.refl _))⟩
 | lst h=>exact ⟨_,rfl,_,_,_,_,_,rfl,rfl,TyOf.lst h,oQ _,_,rfl,eG (q H (Same.refl _))⟩
 | tup h=>exact ⟨_,rfl,_,_,_,_,_,rfl,rfl,TyOf.tup h,oE _,_,rfl,eG (q H (Same.refl _))⟩
 | dct h=>exact ⟨_,rfl,_,_,_,_,_,rfl,rfl,TyOf.dK h,pF _,_,rfl,eG (q H (Same.refl _))⟩
 | str z =>
 have hz:=hz z rfl
 refine ⟨_,rfl,_,_,_,_,_,rfl,rfl,TyOf.str _,jm _,_,rfl,cE ?_⟩
 have no:isReg (.str z) = false->Q (.bl false) H:=fun e=>by have:=q H (Same.refl _); rw [e] at this; exact this
 have lz:z.length = z.cps.size:=rfl
 have L1000:(1000:Nat)<=sizeLine:=by decide
 refine ⟨_,rfl,z,rfl,hz,_,_,rfl,rfl,_,rfl,?_⟩
 by_cases c1:(1:Int)<=(z.length:Int)
 rotate_left
 ·refine aI c1 ⟨_,rfl,eG (no ?_)⟩
  show (decide (1<=z.length) && _ && _ && _) = false
  rw [decide_eq_false (by lia)]
  rfl
 refine bP c1 ⟨_,_,rfl,rfl,_,rfl,?_⟩
 by_cases c2:(z.length:Int)<=8
 rotate_left
 ·refine iteN c2 (no ?_)
  show (_ && decide (z.length<=8) && _ && _) = false
  rw [decide_eq_false (show ¬ z.length<=8 by lia),Bool.and_false]
  rfl
 refine nZ c2 ?_
 have s1:0 < z.cps.size:=by lia
 have e0:z.cps[0]? = some z.cps[0]:=Array.getElem?_eq_getElem s1
 have a0:atI z.cps.toList 0 = some z.cps[0]:=fF (j:=0) (by rw [Array.getElem?_toList]; exact e0)
 refine ⟨_,rfl,z,0,_,rfl,rfl,hz,a0,_,_,rfl,rfl,_,rfl,?_⟩
 have reg:isReg (.str z) = (inS LT ⟨#[z.cps[0]]⟩ && z.cps.toList.all fun n=>inS LF ⟨#[n]⟩):=by
  show (decide (1<=z.length) && decide (z.length<=8) && (match z.cps[0]? with | some n=>inS LT ⟨#[n]⟩ | none=>false) && _) = _
  rw [decide_eq_true (show 1<=z.length by lia),decide_eq_true (show z.length<=8 by lia),e0]
  rfl
 show if (!inS LT ⟨#[z.cps[0]]⟩) = true then _ else _
 cases e3:inS LT ⟨#[z.cps[0]]⟩ with
 | false =>
  refine eG (no ?_)
  rw [reg,e3]
  rfl
 | true =>
 refine cE ?_
 refine ⟨_,rfl,z,rfl,fun D hD=>?_⟩
 refine comp_str (z:=z) (fun j HJ=>HJ D = some (.lst (((z.cps.toList.take j).map fun n=>inS LF ⟨#[n]⟩).map V.bl))/\Same H HJ) ⟨af,ap hD _⟩ ?_ ?_
 ·rintro j n HJ hn ⟨hy,sJ⟩
  have jl:=(Array.getElem?_eq_some_iff.mp hn).1
  refine ⟨_,rfl,_,_,rfl,rfl,_,hy,(by rw [List.length_map,List.length_map,List.length_take]; lia),_,(show z.cps.size - (j + 1) < _ by lia),rfl,(by lia),?_,Same.updL sJ hD⟩
  rw [af,List.take_add_one,show z.cps.toList[j]? = some n by rw [Array.getElem?_toList]; exact hn,Option.toList_some,List.map_append,List.map_append]
  rfl
 ·rintro HJ ⟨hy,sJ⟩
  refine ⟨D,_,rfl,SqL.of hy,?_⟩
  have:=q HJ sJ
  rw [reg,e3,Bool.true_and] at this
  rw [show z.cps.toList.take z.cps.size = z.cps.toList by rw [<- Array.length_toList,List.take_length],List.all_map]
  exact this
theorem nil_ {σ:L2.St} {H:Hp} {k:List V->Hp->Prop} (h:k [] H):tNil σ H k:=h
theorem nH {z:Str} (h:Rg z) {H:Hp} {Q:VK} {E:XK} (q:∀ H',Same H H'->Q (.bl true) H'):mB [.str z] H Q E:=by
 refine ⟨_,rfl,Th.str z,fun z' e=>?_,fun H' s'=>?_⟩
 ·cases e
  exact Nat.le_trans h.2 (by decide)
 ·rw [h.1.reg h.2]
  exact q H' s'
theorem i8 {f:Addr} {fd:FuncData} (F:Fun K "are_registers" "are_registers" cP f fd) (T:Txt K mg c) (H_is_register:Has P w K mg base 1 "is_register" ["thing"] mB):FnOk P w K mg base CX0 2 f fd ["things"] jG:=by
 refine F.ok iW (fun vs H Q E h=>?_) (fun cdv A outer s H vs Q E hr h=>?_)
 ·obtain ⟨l,zs,rfl,_⟩:=h
  rfl
 obtain ⟨l,zs,rfl,hl,ln,ok,q⟩:=h
 refine ⟨_,(aj (ao (aD (ej rfl) rfl T.n_all boot_all (ae (cY rfl (by first | rfl | with_unfolding_all rfl) (by decide +kernel) rfl (by decide +kernel) rfl (bn (pv 0)) (fun C s2 H2 fp=>(aC H_is_register (hr.mono (by lia)) rfl (ae (pv 0) ah)))) ah)))),?_⟩
 have L1000:(1000:Nat)<=sizeLine:=by decide
 refine ⟨_,rfl,l,rfl,⟨_,SqL.of hl⟩,fun D hD=>?_⟩
 refine bN (xs:=zs.map V.str) (fun j HJ=>HJ D = some (.lst ((List.replicate j true).map V.bl))/\Same H HJ) ⟨af,ap hD _⟩ ?_ ?_ ?_
 ·rintro j HJ hj ⟨hy,sJ⟩
  exact SqL.of (sJ _ _ hl)
 ·rintro j v HJ hv ⟨hy,sJ⟩
  have jl:=(List.getElem?_eq_some_iff.mp hv).1
  have jl2:=jl
  rw [List.length_map] at jl2
  rw [List.getElem?_map] at hv
  cases ez:zs[j]? with
  | none=>rw [ez] at hv; cases hv
  | some z =>
   rw [ez] at hv
   cases hv
   refine ⟨_,rfl,nil_ <| nH (ok z (List.mem_of_getElem? ez)) fun H2 s2=>⟨_,s2 _ _ hy,(by rw [List.length_map,List.length_replicate]; lia),_,(show (zs.map V.str).length - (j + 1) < _ by lia),rfl,(by lia),?_,Same.updL (sJ.trans s2) hD⟩⟩
   rw [af,List.replicate_succ',List.map_append]
   rfl
 ·rintro HJ ⟨hy,sJ⟩
  refine ⟨D,_,rfl,SqL.of hy,?_⟩
  rw [show (List.replicate (zs.map V.str).length true).all id = true by rw [List.all_eq_true]; exact fun b hb=>(List.mem_replicate.mp hb).2]
  exact q HJ sJ
theorem jv {f:Addr} {fd:FuncData} (F:Fun K "reckoned" "Sum.reckoned" du f fd) (T:Txt K mg c) (H_sum_of:Has P w K mg base 4 "sum_of" ["width", "a", "b"] spSum):FnOk P w K mg base CX0 5 f fd ["self", "width", "a", "b"] (rR 2):=by
 refine F.ok jq (fun vs H Q E h=>?_) (fun cdv A outer s H vs Q E hr h=>?_)
 ·obtain ⟨x,w',a,b,rfl,_⟩:=h
  rfl
 obtain ⟨x,w',a,b,rfl,w0,w1,q⟩:=h
 refine ⟨_,(aj (ao (aC H_sum_of (hr.mono (by lia)) rfl (ae (pv 1) (ae (pv 2) (ae (pv 3) ah)))))),?_⟩
 exact ⟨_,rfl,_,rfl,_,rfl,w',a,b,rfl,w0,w1,fun t ht=>q t ht⟩
theorem ji {f:Addr} {fd:FuncData} (F:Fun K "reckoned" "Gap.reckoned" di f fd) (T:Txt K mg c) (H_gap_of:Has P w K mg base 4 "gap_of" ["width", "a", "b"] spGap):FnOk P w K mg base CX0 5 f fd ["self", "width", "a", "b"] (rR 3):=by
 refine F.ok jt (fun vs H Q E h=>?_) (fun cdv A outer s H vs Q E hr h=>?_)
 ·obtain ⟨x,w',a,b,rfl,_⟩:=h
  rfl
 obtain ⟨x,w',a,b,rfl,w0,w1,q⟩:=h
 refine ⟨_,(aj (ao (aC H_gap_of (hr.mono (by lia)) rfl (ae (pv 1) (ae (pv 2) (ae (pv 3) ah)))))),?_⟩
 exact ⟨_,rfl,_,rfl,_,rfl,w',a,b,rfl,w0,w1,fun t ht=>q t ht⟩
theorem jO {f:Addr} {fd:FuncData} (F:Fun K "reckoned" "Low.reckoned" dE f fd) (T:Txt K mg c) (H_low_product:Has P w K mg base 4 "low_product" ["width", "a", "b"] spLow):FnOk P w K mg base CX0 5 f fd ["self", "width", "a", "b"] (rh 4):=by
 refine F.ok jD (fun vs H Q E h=>?_) (fun cdv A outer s H vs Q E hr h=>?_)
 ·obtain ⟨x,w',a,b,rfl,_⟩:=h
  rfl
 obtain ⟨x,w',a,b,rfl,w0,w1,a0,a1,b0,b1,q⟩:=h
 refine ⟨_,(aj (ao (aC H_low_product (hr.mono (by lia)) rfl (ae (pv 1) (ae (pv 2) (ae (pv 3) ah)))))),?_⟩
 have P:=aV w0 w1
 exact ⟨_,rfl,_,rfl,_,rfl,w',a,b,rfl,w0,w1,cmul_l a0 (by lia),q⟩
theorem iV {f:Addr} {fd:FuncData} (F:Fun K "reckoned" "High.reckoned" cQ f fd) (T:Txt K mg c) (H_high_product:Has P w K mg base 4 "high_product" ["width", "a", "b"] tM):FnOk P w K mg base CX0 5 f fd ["self", "width", "a", "b"] (rh 5):=by
 refine F.ok i4 (fun vs H Q E h=>?_) (fun cdv A outer s H vs Q E hr h=>?_)
 ·obtain ⟨x,w',a,b,rfl,_⟩:=h
  rfl
 obtain ⟨x,w',a,b,rfl,w0,w1,a0,a1,b0,b1,q⟩:=h
 refine ⟨_,(aj (ao (aC H_high_product (hr.mono (by lia)) rfl (ae (pv 1) (ae (pv 2) (ae (pv 3) ah)))))),?_⟩
 have P:=aV w0 w1
 exact ⟨_,rfl,_,rfl,_,rfl,w',a,b,rfl,w0,w1,cmul_l a0 (by lia),q⟩
theorem jw {f:Addr} {fd:FuncData} (F:Fun K "reckoned" "And.reckoned" dF f fd) (T:Txt K mg c) :FnOk P w K mg base CX0 1 f fd ["self", "width", "a", "b"] (rh 9):=by
 refine F.ok jx (fun vs H Q E h=>?_) (fun cdv A outer s H vs Q E hr h=>?_)
 ·obtain ⟨x,w',a,b,rfl,_⟩:=h
  rfl
 obtain ⟨x,w',a,b,rfl,w0,w1,a0,a1,b0,b1,q⟩:=h
 refine ⟨_,(aj (ao (aE op_and (pv 2) (pv 3)))),?_⟩
 have P:=aV w0 w1
 exact ⟨_,rfl,_,rfl,_,_,rfl,rfl,q⟩
theorem kj {f:Addr} {fd:FuncData} (F:Fun K "reckoned" "Or.reckoned" dW f fd) (T:Txt K mg c) :FnOk P w K mg base CX0 1 f fd ["self", "width", "a", "b"] (rh 10):=by
 refine F.ok kh (fun vs H Q E h=>?_) (fun cdv A outer s H vs Q E hr h=>?_)
 ·obtain ⟨x,w',a,b,rfl,_⟩:=h
  rfl
 obtain ⟨x,w',a,b,rfl,w0,w1,a0,a1,b0,b1,q⟩:=h
 refine ⟨_,(aj (ao (aE op_or (pv 2) (pv 3)))),?_⟩
 have P:=aV w0 w1
 exact ⟨_,rfl,_,rfl,_,_,rfl,rfl,q⟩
theorem ib {f:Addr} {fd:FuncData} (F:Fun K "reckoned" "Unlike.reckoned" ci f fd) (T:Txt K mg c) :FnOk P w K mg base CX0 1 f fd ["self", "width", "a", "b"] (rh 11):=by
 refine F.ok g7 (fun vs H Q E h=>?_) (fun cdv A outer s H vs Q E hr h=>?_)
 ·obtain ⟨x,w',a,b,rfl,_⟩:=h
  rfl
 obtain ⟨x,w',a,b,rfl,w0,w1,a0,a1,b0,b1,q⟩:=h
 refine ⟨_,(aj (ao (aE op_xor (pv 2) (pv 3)))),?_⟩
 have P:=aV w0 w1
 exact ⟨_,rfl,_,rfl,_,_,rfl,rfl,q⟩
theorem iN {f:Addr} {fd:FuncData} (F:Fun K "reckoned" "Under.reckoned" cB f fd) (T:Txt K mg c) :FnOk P w K mg base CX0 1 f fd ["self", "width", "a", "b"] (rh 12):=by
 refine F.ok iB (fun vs H Q E h=>?_) (fun cdv A outer s H vs Q E hr h=>?_)
 ·obtain ⟨x,w',a,b,rfl,_⟩:=h
  rfl
 obtain ⟨x,w',a,b,rfl,w0,w1,a0,a1,b0,b1,q⟩:=h
 refine ⟨_,(aj (ao (fJ (au kr (pv 2) (pv 3) (ay _)) ag ag))),?_⟩
 have P:=aV w0 w1
 refine ⟨_,rfl,_,rfl,_,_,rfl,rfl,_,rfl,?_⟩
 have q:Q (.int (if a < b then 1 else 0)) H:=q
 by_cases hc:a < b
 ·rw [if_pos hc] at q
  exact bP hc q
 ·rw [if_neg hc] at q
  exact aI hc q
theorem kZ {f:Addr} {fd:FuncData} (F:Fun K "moved" "Left.moved" eU f fd) (T:Txt K mg c) (H_left:Has P w K mg base 4 "left" ["width", "a", "k"] sf):FnOk P w K mg base CX0 5 f fd ["self", "width", "a"] (spMv c 6):=by
 refine F.ok lB (fun vs H Q E h=>?_) (fun cdv A outer s H vs Q E hr h=>?_)
 ·obtain ⟨x,w',a,j,g,y,rfl,_⟩:=h
  rfl
 obtain ⟨x,w',a,j,g,y,rfl,⟨dx,hx,ln⟩,w0,w1,a0,a1,j0,j1,q⟩:=h
 refine ⟨_,(aj (ao (aC H_left (hr.mono (by lia)) rfl (ae (pv 1) (ae (pv 2) (ae (aB (pv 0) rfl) ah)))))),?_⟩
 have P:=aV w0 w1
 obtain ⟨cl,na⟩:=T.clF (k:=6) (by decide)
 exact ⟨_,rfl,_,rfl,_,rfl,x,_,dx,_,_,rfl,hx,cl,na _ (by simp [nOf]),rfl,w',a,j,rfl,w0,w1,⟨by lia,by lia,by have:(2:Nat) ^ 64 = 18446744073709551616:=(by decide); lia⟩,q⟩
theorem kC {f:Addr} {fd:FuncData} (F:Fun K "moved" "Right.moved" dQ f fd) (T:Txt K mg c) (H_right:Has P w K mg base 4 "right" ["width", "a", "k"] pb):FnOk P w K mg base CX0 5 f fd ["self", "width", "a"] (spMv c 7):=by
 refine F.ok j3 (fun vs H Q E h=>?_) (fun cdv A outer s H vs Q E hr h=>?_)
 ·obtain ⟨x,w',a,j,g,y,rfl,_⟩:=h
  rfl
 obtain ⟨x,w',a,j,g,y,rfl,⟨dx,hx,ln⟩,w0,w1,a0,a1,j0,j1,q⟩:=h
 refine ⟨_,(aj (ao (aC H_right (hr.mono (by lia)) rfl (ae (pv 1) (ae (pv 2) (ae (aB (pv 0) rfl) ah)))))),?_⟩
 have P:=aV w0 w1
 obtain ⟨cl,na⟩:=T.clF (k:=7) (by decide)
 exact ⟨_,rfl,_,rfl,_,rfl,x,_,dx,_,_,rfl,hx,cl,na _ (by simp [nOf]),rfl,w',a,j,rfl,w0,w1,j0,q⟩
theorem kq {f:Addr} {fd:FuncData} (F:Fun K "moved" "Slide.moved" d8 f fd) (T:Txt K mg c) (H_slide:Has P w K mg base 4 "slide" ["width", "a", "k"] oU):FnOk P w K mg base CX0 5 f fd ["self", "width", "a"] (spMv c 8):=by
 refine F.ok j8 (fun vs H Q E h=>?_) (fun cdv A outer s H vs Q E hr h=>?_)
 ·obtain ⟨x,w',a,j,g,y,rfl,_⟩:=h
  rfl
 obtain ⟨x,w',a,j,g,y,rfl,⟨dx,hx,ln⟩,w0,w1,a0,a1,j0,j1,q⟩:=h
 refine ⟨_,(aj (ao (aC H_slide (hr.mono (by lia)) rfl (ae (pv 1) (ae (pv 2) (ae (aB (pv 0) rfl) ah)))))),?_⟩
 have P:=aV w0 w1
 obtain ⟨cl,na⟩:=T.clF (k:=8) (by decide)
 exact ⟨_,rfl,_,rfl,_,rfl,x,_,dx,_,_,rfl,hx,cl,na _ (by simp [nOf]),rfl,w',a,j,rfl,w0,w1,j0,q⟩
theorem aU {c:Ad} {ks:List Nat} {k:Nat} {vs:List V} {H:Hp} {Q:VK} {E:XK} (hk:k ∈ ks) (h:bw c [k] vs H Q E):bw c ks vs H Q E:=by
 obtain ⟨x,w',r,e,m,t⟩:=h
 exact ⟨x,w',r,e,(List.mem_singleton.mp m).symm ▸ hk,t⟩
theorem bg {c:Ad} {ks:List Nat} {k:Nat} {vs:List V} {H:Hp} {Q:VK} {E:XK} (hk:k ∈ ks) (h:ca c [k] vs H Q E):ca c ks vs H Q E:=by
 obtain ⟨x,d,m',w',r,kvs,ms,e,m,t⟩:=h
 exact ⟨x,d,m',w',r,kvs,ms,e,(List.mem_singleton.mp m).symm ▸ hk,t⟩
theorem mk_in {m:Str} (h:m = "round"\/m = "stop"\/m = "nothing"):inV (.str m) [.str "round",.str "stop",.str "nothing"] = true:=by
 rcases h with rfl | rfl | rfl <;> decide +kernel
theorem kf {f:Addr} {fd:FuncData} (F:Fun K "good_at" "Set.good_at" dU f fd) (T:Txt K mg c) (H_is_register:Has P w K mg base 1 "is_register" ["thing"] mB) (H_is_word:Has P w K mg base 3 "is_word" ["width", "thing"] je):FnOk P w K mg base CX0 4 f fd ["self", "width"] (bw c [0]):=by
 refine F.ok km (fun vs H Q E h=>?_) (fun cdv A outer s H vs Q E hr h=>?_)
 ·obtain ⟨x,w',r,rfl,_⟩:=h
  rfl
 obtain ⟨x,w',r,rfl,hk,⟨dx,hx,ln⟩,rk,w0,w1,q⟩:=h
 refine slE ⟨_,(ax (bR (ao (df (aC H_is_register (hr.mono (by lia)) rfl (ae (aB (pv 0) rfl) ah)) (dN (aC H_is_word (hr.mono (by lia)) rfl (ae (pv 1) (ae (aB (pv 0) rfl) ah)))))))),?_⟩
 cases r with
 | copy _ _=>simp only [Rw.k,List.mem_cons,List.not_mem_nil,or_false] at hk; simp only [Rw.ok] at rk; lia
 | car _ _ _ _ _=>simp only [Rw.k,List.mem_cons,List.not_mem_nil,or_false] at hk; simp only [Rw.ok] at rk; lia
 | jn _ _ _ _=>simp only [Rw.k,List.mem_cons,List.not_mem_nil,or_false] at hk; simp only [Rw.ok] at rk; lia
 | mv _ _ _ _=>simp only [Rw.k,List.mem_cons,List.not_mem_nil,or_false] at hk; simp only [Rw.ok] at rk; lia
 | pick _ _ _ _=>simp only [Rw.k,List.mem_cons,List.not_mem_nil,or_false] at hk; simp only [Rw.ok] at rk; lia
 | mark _ _ _=>simp only [Rw.k,List.mem_cons,List.not_mem_nil,or_false] at hk; simp only [Rw.ok] at rk; lia
 | set g b =>
 obtain ⟨og,b0,b1⟩:=rk
 obtain ⟨cl,na⟩:=T.clF (k:=0) (by decide)
 exact ⟨_,rfl,x,_,dx,_,_,rfl,hx,cl,na _ (by simp [nOf]),rfl,nil_ <| nH og fun H2 s2=>⟨_,rfl,eG ⟨_,rfl,_,rfl,x,_,dx,_,_,rfl,(s2 _ _ hx),cl,na _ (by simp [nOf]),rfl,w',b,rfl,w0,w1,b0,b1,q H2 s2⟩⟩⟩
theorem jU {f:Addr} {fd:FuncData} (F:Fun K "good_at" "Copy.good_at" dC f fd) (T:Txt K mg c) (H_are_registers:Has P w K mg base 2 "are_registers" ["things"] jG):FnOk P w K mg base CX0 3 f fd ["self", "width"] (bw c [1]):=by
 refine F.ok jX (fun vs H Q E h=>?_) (fun cdv A outer s H vs Q E hr h=>?_)
 ·obtain ⟨x,w',r,rfl,_⟩:=h
  rfl
 obtain ⟨x,w',r,rfl,hk,⟨dx,hx,ln⟩,rk,w0,w1,q⟩:=h
 refine slE ⟨_,(ax (bR (ao (aC H_are_registers (hr.mono (by lia)) rfl (ae (bt (ae (aB (pv 0) rfl) (ae (aB (pv 0) rfl) ah))) ah))))),?_⟩
 cases r with
 | set _ _=>simp only [Rw.k,List.mem_cons,List.not_mem_nil,or_false] at hk; simp only [Rw.ok] at rk; lia
 | car _ _ _ _ _=>simp only [Rw.k,List.mem_cons,List.not_mem_nil,or_false] at hk; simp only [Rw.ok] at rk; lia
 | jn _ _ _ _=>simp only [Rw.k,List.mem_cons,List.not_mem_nil,or_false] at hk; simp only [Rw.ok] at rk; lia
 | mv _ _ _ _=>simp only [Rw.k,List.mem_cons,List.not_mem_nil,or_false] at hk; simp only [Rw.ok] at rk; lia
 | pick _ _ _ _=>simp only [Rw.k,List.mem_cons,List.not_mem_nil,or_false] at hk; simp only [Rw.ok] at rk; lia
 | mark _ _ _=>simp only [Rw.k,List.mem_cons,List.not_mem_nil,or_false] at hk; simp only [Rw.ok] at rk; lia
 | copy g a =>
 obtain ⟨og,oa⟩:=rk
 obtain ⟨cl,na⟩:=T.clF (k:=1) (by decide)
 refine ⟨_,rfl,x,_,dx,_,_,rfl,hx,cl,na _ (by simp [nOf]),rfl,_,rfl,x,_,dx,_,_,rfl,hx,cl,na _ (by simp [nOf]),rfl,(by show 2<=sizeLine; decide),fun l hl=>?_⟩
 have s1:=ap hl (.lst [.str g,.str a])
 refine ⟨l,[g,a],rfl,af,by show 2<=10; decide,List.forall_mem_cons.mpr ⟨og,List.forall_mem_cons.mpr ⟨oa,fun _ h=>nomatch h⟩⟩,fun H2 s2=>?_⟩
 have S2:=s1.trans s2
 exact q H2 S2
theorem cN {f:Addr} {fd:FuncData} (F:Fun K "good_at" "Carrying.good_at" bV f fd) (T:Txt K mg c) (H_are_registers:Has P w K mg base 2 "are_registers" ["things"] jG) (H_is_register:Has P w K mg base 1 "is_register" ["thing"] mB):FnOk P w K mg base CX0 3 f fd ["self", "width"] (bw c [2,3]):=by
 refine F.ok gP (fun vs H Q E h=>?_) (fun cdv A outer s H vs Q E hr h=>?_)
 ·obtain ⟨x,w',r,rfl,_⟩:=h
  rfl
 obtain ⟨x,w',r,rfl,hk,⟨dx,hx,ln⟩,rk,w0,w1,q⟩:=h
 refine slE ⟨_,(ax (bR (ao (df (aC H_are_registers (hr.mono (by lia)) rfl (ae (bt (ae (aB (pv 0) rfl) (ae (aB (pv 0) rfl) (ae (aB (pv 0) rfl) ah)))) ah)) (dN (pe_or (cy op_isN (aB (pv 0) rfl) mV (ay _)) (dN (aC H_is_register (hr.mono (by lia)) rfl (ae (aB (pv 0) rfl) ah))))))))),?_⟩
 cases r with
 | set _ _=>simp only [Rw.k,List.mem_cons,List.not_mem_nil,or_false] at hk; simp only [Rw.ok] at rk; lia
 | copy _ _=>simp only [Rw.k,List.mem_cons,List.not_mem_nil,or_false] at hk; simp only [Rw.ok] at rk; lia
 | jn _ _ _ _=>simp only [Rw.k,List.mem_cons,List.not_mem_nil,or_false] at hk; simp only [Rw.ok] at rk; lia
 | mv _ _ _ _=>simp only [Rw.k,List.mem_cons,List.not_mem_nil,or_false] at hk; simp only [Rw.ok] at rk; lia
 | pick _ _ _ _=>simp only [Rw.k,List.mem_cons,List.not_mem_nil,or_false] at hk; simp only [Rw.ok] at rk; lia
 | mark _ _ _=>simp only [Rw.k,List.mem_cons,List.not_mem_nil,or_false] at hk; simp only [Rw.ok] at rk; lia
 | car k g cv a b =>
 obtain ⟨ok,og,oc,oa,ob⟩:=rk
 have k15:k < 15:=by lia
 obtain ⟨cl,na⟩:=T.clF k15
 have nk:nOf k = (["goal", "carry", "one", "other"]:List Str):=by rcases ok with rfl | rfl <;> rfl
 have hx:H x = some (.ins (fOf c k) dx ((["goal", "carry", "one", "other"]:List Str).zip [.str g,oV cv,.str a,.str b])):=by rw [<- nk]; exact hx
 rw [nk] at na
 refine ⟨_,rfl,x,_,dx,_,_,rfl,hx,cl,na _ (by simp),rfl,_,rfl,x,_,dx,_,_,rfl,hx,cl,na _ (by simp),rfl,_,rfl,x,_,dx,_,_,rfl,hx,cl,na _ (by simp),rfl,(by show 3<=sizeLine; decide),fun l hl=>?_⟩
 have s1:=ap hl (.lst [.str g,.str a,.str b])
 refine ⟨l,[g,a,b],rfl,af,by show 3<=10; decide,List.forall_mem_cons.mpr ⟨og,List.forall_mem_cons.mpr ⟨oa,List.forall_mem_cons.mpr ⟨ob,fun _ h=>nomatch h⟩⟩⟩,fun H2 s2=>?_⟩
 have S2:=s1.trans s2
 have hx2:=S2 _ _ hx
 refine ⟨_,rfl,eG ?_⟩
 cases cv with
 | none=>exact ⟨_,rfl,x,_,dx,_,_,rfl,hx2,cl,na _ (by simp),rfl,rfl,_,rfl,eG (q H2 S2)⟩
 | some z=>exact ⟨_,rfl,x,_,dx,_,_,rfl,hx2,cl,na _ (by simp),rfl,rfl,_,rfl,cE ⟨_,rfl,x,_,dx,_,_,rfl,hx2,cl,na _ (by simp),rfl,nil_ <| nH (oc z rfl) fun H3 s3=>q H3 (S2.trans s3)⟩⟩
theorem aX {f:Addr} {fd:FuncData} (F:Fun K "good_at" "Joining.good_at" cm f fd) (T:Txt K mg c) (H_are_registers:Has P w K mg base 2 "are_registers" ["things"] jG):FnOk P w K mg base CX0 3 f fd ["self", "width"] (bw c [4,5,9,10,11,12]):=by
 refine F.ok gW (fun vs H Q E h=>?_) (fun cdv A outer s H vs Q E hr h=>?_)
 ·obtain ⟨x,w',r,rfl,_⟩:=h
  rfl
 obtain ⟨x,w',r,rfl,hk,⟨dx,hx,ln⟩,rk,w0,w1,q⟩:=h
 refine slE ⟨_,(ax (bR (ao (aC H_are_registers (hr.mono (by lia)) rfl (ae (bt (ae (aB (pv 0) rfl) (ae (aB (pv 0) rfl) (ae (aB (pv 0) rfl) ah)))) ah))))),?_⟩
 cases r with
 | set _ _=>simp only [Rw.k,List.mem_cons,List.not_mem_nil,or_false] at hk; simp only [Rw.ok] at rk; lia
 | copy _ _=>simp only [Rw.k,List.mem_cons,List.not_mem_nil,or_false] at hk; simp only [Rw.ok] at rk; lia
 | car _ _ _ _ _=>simp only [Rw.k,List.mem_cons,List.not_mem_nil,or_false] at hk; simp only [Rw.ok] at rk; lia
 | mv _ _ _ _=>simp only [Rw.k,List.mem_cons,List.not_mem_nil,or_false] at hk; simp only [Rw.ok] at rk; lia
 | pick _ _ _ _=>simp only [Rw.k,List.mem_cons,List.not_mem_nil,or_false] at hk; simp only [Rw.ok] at rk; lia
 | mark _ _ _=>simp only [Rw.k,List.mem_cons,List.not_mem_nil,or_false] at hk; simp only [Rw.ok] at rk; lia
 | jn k g a b =>
 obtain ⟨ok,og,oa,ob⟩:=rk
 have k15:k < 15:=by lia
 obtain ⟨cl,na⟩:=T.clF k15
 have nk:nOf k = (["goal", "one", "other"]:List Str):=by rcases ok with rfl | rfl | rfl | rfl | rfl | rfl <;> rfl
 have hx:H x = some (.ins (fOf c k) dx ((["goal", "one", "other"]:List Str).zip [.str g,.str a,.str b])):=by rw [<- nk]; exact hx
 rw [nk] at na
 refine ⟨_,rfl,x,_,dx,_,_,rfl,hx,cl,na _ (by simp),rfl,_,rfl,x,_,dx,_,_,rfl,hx,cl,na _ (by simp),rfl,_,rfl,x,_,dx,_,_,rfl,hx,cl,na _ (by simp),rfl,(by show 3<=sizeLine; decide),fun l hl=>?_⟩
 have s1:=ap hl (.lst [.str g,.str a,.str b])
 refine ⟨l,[g,a,b],rfl,af,by show 3<=10; decide,List.forall_mem_cons.mpr ⟨og,List.forall_mem_cons.mpr ⟨oa,List.forall_mem_cons.mpr ⟨ob,fun _ h=>nomatch h⟩⟩⟩,fun H2 s2=>?_⟩
 have S2:=s1.trans s2
 exact q H2 S2
theorem cj {f:Addr} {fd:FuncData} (F:Fun K "good_at" "Moving.good_at" cw f fd) (T:Txt K mg c) (H_are_registers:Has P w K mg base 2 "are_registers" ["things"] jG) (H_is_between:Has P w K mg base 2 "is_between" ["thing", "low", "high"] cV):FnOk P w K mg base CX0 3 f fd ["self", "width"] (bw c [6,7,8]):=by
 refine F.ok iM (fun vs H Q E h=>?_) (fun cdv A outer s H vs Q E hr h=>?_)
 ·obtain ⟨x,w',r,rfl,_⟩:=h
  rfl
 obtain ⟨x,w',r,rfl,hk,⟨dx,hx,ln⟩,rk,w0,w1,q⟩:=h
 refine slE ⟨_,(ax (bR (ao (df (aC H_are_registers (hr.mono (by lia)) rfl (ae (bt (ae (aB (pv 0) rfl) (ae (aB (pv 0) rfl) ah))) ah)) (dN (aC H_is_between (hr.mono (by lia)) rfl (ae (aB (pv 0) rfl) (ae ag (ae (aE eY (pv 1) ag) ah))))))))),?_⟩
 cases r with
 | set _ _=>simp only [Rw.k,List.mem_cons,List.not_mem_nil,or_false] at hk; simp only [Rw.ok] at rk; lia
 | copy _ _=>simp only [Rw.k,List.mem_cons,List.not_mem_nil,or_false] at hk; simp only [Rw.ok] at rk; lia
 | car _ _ _ _ _=>simp only [Rw.k,List.mem_cons,List.not_mem_nil,or_false] at hk; simp only [Rw.ok] at rk; lia
 | jn _ _ _ _=>simp only [Rw.k,List.mem_cons,List.not_mem_nil,or_false] at hk; simp only [Rw.ok] at rk; lia
 | pick _ _ _ _=>simp only [Rw.k,List.mem_cons,List.not_mem_nil,or_false] at hk; simp only [Rw.ok] at rk; lia
 | mark _ _ _=>simp only [Rw.k,List.mem_cons,List.not_mem_nil,or_false] at hk; simp only [Rw.ok] at rk; lia
 | mv k g a j =>
 obtain ⟨ok,og,oa,j0,j1⟩:=rk
 have k15:k < 15:=by lia
 obtain ⟨cl,na⟩:=T.clF k15
 have nk:nOf k = (["goal", "one", "k"]:List Str):=by rcases ok with rfl | rfl | rfl <;> rfl
 have hx:H x = some (.ins (fOf c k) dx ((["goal", "one", "k"]:List Str).zip [.str g,.str a,.int j])):=by rw [<- nk]; exact hx
 rw [nk] at na
 refine ⟨_,rfl,x,_,dx,_,_,rfl,hx,cl,na _ (by simp),rfl,_,rfl,x,_,dx,_,_,rfl,hx,cl,na _ (by simp),rfl,(by show 2<=sizeLine; decide),fun l hl=>?_⟩
 have s1:=ap hl (.lst [.str g,.str a])
 refine ⟨l,[g,a],rfl,af,by show 2<=10; decide,List.forall_mem_cons.mpr ⟨og,List.forall_mem_cons.mpr ⟨oa,fun _ h=>nomatch h⟩⟩,fun H2 s2=>?_⟩
 have S2:=s1.trans s2
 have hx2:=S2 _ _ hx
 exact ⟨_,rfl,eG ⟨_,rfl,x,_,dx,_,_,rfl,hx2,cl,na _ (by simp),rfl,_,rfl,_,_,rfl,rfl,j,_,_,rfl,j0,by lia,q H2 S2⟩⟩
theorem ju {f:Addr} {fd:FuncData} (F:Fun K "good_at" "Pick.good_at" dA f fd) (T:Txt K mg c) (H_are_registers:Has P w K mg base 2 "are_registers" ["things"] jG):FnOk P w K mg base CX0 3 f fd ["self", "width"] (bw c [13]):=by
 refine F.ok jV (fun vs H Q E h=>?_) (fun cdv A outer s H vs Q E hr h=>?_)
 ·obtain ⟨x,w',r,rfl,_⟩:=h
  rfl
 obtain ⟨x,w',r,rfl,hk,⟨dx,hx,ln⟩,rk,w0,w1,q⟩:=h
 refine slE ⟨_,(ax (bR (ao (aC H_are_registers (hr.mono (by lia)) rfl (ae (bt (ae (aB (pv 0) rfl) (ae (aB (pv 0) rfl) (ae (aB (pv 0) rfl) (ae (aB (pv 0) rfl) ah))))) ah))))),?_⟩
 cases r with
 | set _ _=>simp only [Rw.k,List.mem_cons,List.not_mem_nil,or_false] at hk; simp only [Rw.ok] at rk; lia
 | copy _ _=>simp only [Rw.k,List.mem_cons,List.not_mem_nil,or_false] at hk; simp only [Rw.ok] at rk; lia
 | car _ _ _ _ _=>simp only [Rw.k,List.mem_cons,List.not_mem_nil,or_false] at hk; simp only [Rw.ok] at rk; lia
 | jn _ _ _ _=>simp only [Rw.k,List.mem_cons,List.not_mem_nil,or_false] at hk; simp only [Rw.ok] at rk; lia
 | mv _ _ _ _=>simp only [Rw.k,List.mem_cons,List.not_mem_nil,or_false] at hk; simp only [Rw.ok] at rk; lia
 | mark _ _ _=>simp only [Rw.k,List.mem_cons,List.not_mem_nil,or_false] at hk; simp only [Rw.ok] at rk; lia
 | pick g y a b =>
 obtain ⟨og,oy,oa,ob⟩:=rk
 obtain ⟨cl,na⟩:=T.clF (k:=13) (by decide)
 refine ⟨_,rfl,x,_,dx,_,_,rfl,hx,cl,na _ (by simp [nOf]),rfl,_,rfl,x,_,dx,_,_,rfl,hx,cl,na _ (by simp [nOf]),rfl,_,rfl,x,_,dx,_,_,rfl,hx,cl,na _ (by simp [nOf]),rfl,_,rfl,x,_,dx,_,_,rfl,hx,cl,na _ (by simp [nOf]),rfl,(by show 4<=sizeLine; decide),fun l hl=>?_⟩
 have s1:=ap hl (.lst [.str g,.str y,.str a,.str b])
 refine ⟨l,[g,y,a,b],rfl,af,by show 4<=10; decide,List.forall_mem_cons.mpr ⟨og,List.forall_mem_cons.mpr ⟨oy,List.forall_mem_cons.mpr ⟨oa,List.forall_mem_cons.mpr ⟨ob,fun _ h=>nomatch h⟩⟩⟩⟩,fun H2 s2=>?_⟩
 have S2:=s1.trans s2
 exact q H2 S2
theorem jB {f:Addr} {fd:FuncData} (F:Fun K "good_at" "Mark.good_at" dB f fd) (T:Txt K mg c) (H_is_between:Has P w K mg base 2 "is_between" ["thing", "low", "high"] cV) (H_is_register:Has P w K mg base 1 "is_register" ["thing"] mB):FnOk P w K mg base CX0 3 f fd ["self", "width"] (bw c [14]):=by
 refine F.ok jS (fun vs H Q E h=>?_) (fun cdv A outer s H vs Q E hr h=>?_)
 ·obtain ⟨x,w',r,rfl,_⟩:=h
  rfl
 obtain ⟨x,w',r,rfl,hk,⟨dx,hx,ln⟩,rk,w0,w1,q⟩:=h
 refine slE ⟨_,(ax (bR (ao (df (aC H_is_between (hr.mono (by lia)) rfl (ae (aB (pv 0) rfl) (ae ag (ae ag ah)))) (df (cy mQ (aB (pv 0) rfl) (iS rfl T.g_MARKS) (by with_unfolding_all rfl)) (dN (aC H_is_register (hr.mono (by lia)) rfl (ae (aB (pv 0) rfl) ah)))))))),?_⟩
 cases r with
 | set _ _=>simp only [Rw.k,List.mem_cons,List.not_mem_nil,or_false] at hk; simp only [Rw.ok] at rk; lia
 | copy _ _=>simp only [Rw.k,List.mem_cons,List.not_mem_nil,or_false] at hk; simp only [Rw.ok] at rk; lia
 | car _ _ _ _ _=>simp only [Rw.k,List.mem_cons,List.not_mem_nil,or_false] at hk; simp only [Rw.ok] at rk; lia
 | jn _ _ _ _=>simp only [Rw.k,List.mem_cons,List.not_mem_nil,or_false] at hk; simp only [Rw.ok] at rk; lia
 | mv _ _ _ _=>simp only [Rw.k,List.mem_cons,List.not_mem_nil,or_false] at hk; simp only [Rw.ok] at rk; lia
 | pick _ _ _ _=>simp only [Rw.k,List.mem_cons,List.not_mem_nil,or_false] at hk; simp only [Rw.ok] at rk; lia
 | mark n m y =>
 obtain ⟨n0,n1,om,oy⟩:=rk
 obtain ⟨cl,na⟩:=T.clF (k:=14) (by decide)
 refine ⟨_,rfl,x,_,dx,_,_,rfl,hx,cl,na _ (by simp [nOf]),rfl,n,_,_,rfl,n0,n1,_,rfl,eG ⟨_,rfl,x,_,dx,_,_,rfl,hx,cl,na _ (by simp [nOf]),rfl,_,_,rfl,.inr (T.q_MARKS _),rfl,rfl,?_⟩⟩
 rw [if_neg (by decide),mk_in om]
 exact ⟨_,rfl,eG ⟨_,rfl,x,_,dx,_,_,rfl,hx,cl,na _ (by simp [nOf]),rfl,nil_ <| nH oy fun H2 s2=>q H2 s2⟩⟩
theorem qJ {f:Addr} {fd:FuncData} (F:Fun K "act" "Set.act" jy f fd) (T:Txt K mg c) :FnOk P w K mg base CX0 1 f fd ["self", "width", "words", "marks"] (ca c [0]):=by
 refine F.ok qP (fun vs H Q E h=>?_) (fun cdv A outer s H vs Q E hr h=>?_)
 ·obtain ⟨x,d,m',w',r,kvs,ms,rfl,_⟩:=h
  rfl
 obtain ⟨x,d,m',w',r,kvs,ms,rfl,hk,⟨dx,hx,ln⟩,rk,w0,w1,hd',wd,hm,ml,q⟩:=h
 refine slE ⟨_,(ax (bR (be (aN hr) (pv 2) (aB (pv 0) rfl) (aB (pv 0) rfl) rfl))),?_⟩
 have hk0:=hk
 cases r with
 | copy _ _=>simp only [Rw.k,List.mem_cons,List.not_mem_nil,or_false] at hk; simp only [Rw.ok] at rk; lia
 | car _ _ _ _ _=>simp only [Rw.k,List.mem_cons,List.not_mem_nil,or_false] at hk; simp only [Rw.ok] at rk; lia
 | jn _ _ _ _=>simp only [Rw.k,List.mem_cons,List.not_mem_nil,or_false] at hk; simp only [Rw.ok] at rk; lia
 | mv _ _ _ _=>simp only [Rw.k,List.mem_cons,List.not_mem_nil,or_false] at hk; simp only [Rw.ok] at rk; lia
 | pick _ _ _ _=>simp only [Rw.k,List.mem_cons,List.not_mem_nil,or_false] at hk; simp only [Rw.ok] at rk; lia
 | mark _ _ _=>simp only [Rw.k,List.mem_cons,List.not_mem_nil,or_false] at hk; simp only [Rw.ok] at rk; lia
 | set g b =>
 obtain ⟨og,b0,b1⟩:=rk
 have L1000:(20000:Nat)<=sizeLine:=by decide
 have l5:=wd.ln
 have nxd:x ≠ d:=fun z=>by rw [z,hd'] at hx; cases hx
 have ndm:d ≠ m':=fun z=>by rw [z,hm] at hd'; cases hd'
 have wi:=wd.ints
 obtain ⟨cl,na⟩:=T.clF (k:=0) (by decide)
 exact ⟨_,rfl,x,_,dx,_,_,rfl,hx,cl,na _ (by simp [nOf]),rfl,_,rfl,_,rfl,x,_,dx,_,_,rfl,hx,cl,na _ (by simp [nOf]),rfl,d,_,rfl,DPut.k (k:=.inr g) hd' (by lia),q _ (by rw [af]; rfl) (by show upd _ d _ m' = _; rw [am (Ne.symm ndm)]; exact hm) (fun b' o' n1 n2 e=>by rw [am n1]; exact e)⟩
theorem pH {f:Addr} {fd:FuncData} (F:Fun K "act" "Copy.act" ij f fd) (T:Txt K mg c) :FnOk P w K mg base CX0 1 f fd ["self", "width", "words", "marks"] (ca c [1]):=by
 refine F.ok pA (fun vs H Q E h=>?_) (fun cdv A outer s H vs Q E hr h=>?_)
 ·obtain ⟨x,d,m',w',r,kvs,ms,rfl,_⟩:=h
  rfl
 obtain ⟨x,d,m',w',r,kvs,ms,rfl,hk,⟨dx,hx,ln⟩,rk,w0,w1,hd',wd,hm,ml,q⟩:=h
 refine slE ⟨_,(ax (bR (be (aN hr) (pv 2) (aB (pv 0) rfl) (aO (aN hr) (pv 2) (aB (pv 0) rfl) ag ⟨rfl,rfl,rfl,rfl⟩) rfl))),?_⟩
 have hk0:=hk
 cases r with
 | set _ _=>simp only [Rw.k,List.mem_cons,List.not_mem_nil,or_false] at hk; simp only [Rw.ok] at rk; lia
 | car _ _ _ _ _=>simp only [Rw.k,List.mem_cons,List.not_mem_nil,or_false] at hk; simp only [Rw.ok] at rk; lia
 | jn _ _ _ _=>simp only [Rw.k,List.mem_cons,List.not_mem_nil,or_false] at hk; simp only [Rw.ok] at rk; lia
 | mv _ _ _ _=>simp only [Rw.k,List.mem_cons,List.not_mem_nil,or_false] at hk; simp only [Rw.ok] at rk; lia
 | pick _ _ _ _=>simp only [Rw.k,List.mem_cons,List.not_mem_nil,or_false] at hk; simp only [Rw.ok] at rk; lia
 | mark _ _ _=>simp only [Rw.k,List.mem_cons,List.not_mem_nil,or_false] at hk; simp only [Rw.ok] at rk; lia
 | copy g a =>
 obtain ⟨og,oa⟩:=rk
 have L1000:(20000:Nat)<=sizeLine:=by decide
 have l5:=wd.ln
 have nxd:x ≠ d:=fun z=>by rw [z,hd'] at hx; cases hx
 have ndm:d ≠ m':=fun z=>by rw [z,hm] at hd'; cases hd'
 have wi:=wd.ints
 obtain ⟨cl,na⟩:=T.clF (k:=1) (by decide)
 exact ⟨_,rfl,d,rfl,⟨_,hd'⟩,_,rfl,x,_,dx,_,_,rfl,hx,cl,na _ (by simp [nOf]),rfl,_,_,rfl,hd',wi,_,rfl,_,rfl,x,_,dx,_,_,rfl,hx,cl,na _ (by simp [nOf]),rfl,d,_,rfl,DPut.k (k:=.inr g) hd' (by lia),q _ (by rw [af]; rfl) (by show upd _ d _ m' = _; rw [am (Ne.symm ndm)]; exact hm) (fun b' o' n1 n2 e=>by rw [am n1]; exact e)⟩
theorem ft {f:Addr} {fd:FuncData} (F:Fun K "act" "Carrying.act" dy f fd) (T:Txt K mg c)  (MR:∀ i ∈ [2,3],MHas P w K mg base 5 (fOf c i) "reckoned" ["self", "width", "a", "b"] (rR i)):FnOk P w K mg base CX0 6 f fd ["self", "width", "words", "marks"] (ca c [2,3]):=by
 refine F.ok sc_Carrying_act (fun vs H Q E h=>?_) (fun cdv A outer s H vs Q E hr h=>?_)
 ·obtain ⟨x,d,m',w',r,kvs,ms,rfl,_⟩:=h
  rfl
 obtain ⟨x,d,m',w',r,kvs,ms,rfl,hk,⟨dx,hx,ln⟩,rk,w0,w1,hd',wd,hm,ml,q⟩:=h
 refine slE ⟨_,(aA (bR (aH (i:=4) sc_Carrying_act.nd rfl (Or.inl rfl) (fK (k:=5) (pv 0) (hr.mono (by lia)) (ae (pv 1) (ae (aO (aN hr) (pv 2) (aB (pv 0) rfl) ag ⟨rfl,rfl,rfl,rfl⟩) (ae (aO (aN hr) (pv 2) (aB (pv 0) rfl) ag ⟨rfl,rfl,rfl,rfl⟩) ah))))))
  (aA (bR (be (aN hr) (pv 2) (aB (pv 0) rfl) (av aq (pv 4) ag (fun _ _=>rfl)) rfl))
  (ax (bL (au tE (aB (pv 0) rfl) mV (ay _))
   (ax (bR (be (aN hr) (pv 2) (aB (pv 0) rfl) (av aq (pv 4) ag (fun _ _=>rfl)) rfl)))
   br)))),?_⟩
 have hk0:=hk
 cases r with
 | set _ _=>simp only [Rw.k,List.mem_cons,List.not_mem_nil,or_false] at hk; simp only [Rw.ok] at rk; lia
 | copy _ _=>simp only [Rw.k,List.mem_cons,List.not_mem_nil,or_false] at hk; simp only [Rw.ok] at rk; lia
 | jn _ _ _ _=>simp only [Rw.k,List.mem_cons,List.not_mem_nil,or_false] at hk; simp only [Rw.ok] at rk; lia
 | mv _ _ _ _=>simp only [Rw.k,List.mem_cons,List.not_mem_nil,or_false] at hk; simp only [Rw.ok] at rk; lia
 | pick _ _ _ _=>simp only [Rw.k,List.mem_cons,List.not_mem_nil,or_false] at hk; simp only [Rw.ok] at rk; lia
 | mark _ _ _=>simp only [Rw.k,List.mem_cons,List.not_mem_nil,or_false] at hk; simp only [Rw.ok] at rk; lia
 | car k g cv a b =>
 obtain ⟨ok,og,oc,oa,ob⟩:=rk
 have L1000:(20000:Nat)<=sizeLine:=by decide
 have l5:=wd.ln
 have nxd:x ≠ d:=fun z=>by rw [z,hd'] at hx; cases hx
 have ndm:d ≠ m':=fun z=>by rw [z,hm] at hd'; cases hd'
 have wi:=wd.ints
 have k15:k < 15:=by lia
 obtain ⟨cl,na⟩:=T.clF k15
 have nk:nOf k = (["goal", "carry", "one", "other"]:List Str):=by rcases ok with rfl | rfl <;> rfl
 have hx0:H x = some (.ins (fOf c k) dx ((["goal", "carry", "one", "other"]:List Str).zip [.str g,oV cv,.str a,.str b])):=by rw [<- nk]; exact hx
 rw [nk] at na
 have mr:=MR k hk0
 refine ⟨_,rfl,x,_,dx,_,_,_,rfl,hx0,rfl,mr,_,rfl,_,rfl,d,rfl,⟨_,hd'⟩,_,rfl,x,_,dx,_,_,rfl,hx0,cl,na _ (by simp),rfl,_,_,rfl,hd',wi,_,rfl,d,rfl,⟨_,hd'⟩,_,rfl,x,_,dx,_,_,rfl,hx0,cl,na _ (by simp),rfl,_,_,rfl,hd',wi,.ref x,w',_,_,rfl,w0,w1,fun t ht=>?_⟩
 obtain ⟨G1,e1,s1,f1⟩:=dL ht (.tup [.int (cr0 w' k (gI kvs a) (gI kvs b)),.int (cr1 w' k (gI kvs a) (gI kvs b))])
 rw [e1]
 have hx1:=s1 _ _ hx0
 have hd1:=s1 _ _ hd'
 refine ⟨_,rfl,t,_,_,_,rfl,rfl,SqT.of f1,rfl,_,rfl,_,rfl,x,_,dx,_,_,rfl,hx1,cl,na _ (by simp),rfl,d,_,rfl,DPut.k (k:=.inr g) hd1 (by lia),?_⟩
 have hx2:upd G1 d (.dK (cp kvs (.inr g) (.int (cr0 w' k (gI kvs a) (gI kvs b))))) x = some (.ins (fOf c k) dx ((["goal", "carry", "one", "other"]:List Str).zip [.str g,oV cv,.str a,.str b])):=by rw [am nxd]; exact hx1
 have l6:=bA kvs (.inr g) (.int (cr0 w' k (gI kvs a) (gI kvs b)))
 have ntd:t ≠ d:=fun z=>by rw [z,hd1] at f1; cases f1
 cases cv with
 | none =>
  refine ⟨_,rfl,x,_,dx,_,_,rfl,hx2,cl,na _ (by simp),rfl,rfl,_,rfl,cE ?_⟩
  exact q _ (by rw [af]; rfl) (by show upd _ d _ m' = _; rw [am (Ne.symm ndm)]; exact s1 _ _ hm) (fun b' o' n1 n2 e=>by rw [am n1]; exact s1 _ _ e)
 | some z =>
  refine ⟨_,rfl,x,_,dx,_,_,rfl,hx2,cl,na _ (by simp),rfl,rfl,_,rfl,eG ?_⟩
  refine ⟨_,rfl,t,_,_,_,rfl,rfl,SqT.of (by rw [am ntd]; exact f1),rfl,_,rfl,_,rfl,x,_,dx,_,_,rfl,hx2,cl,na _ (by simp),rfl,d,_,rfl,DPut.k (k:=.inr z) af (by lia),?_⟩
  exact q _ (by rw [af]; rfl) (by show upd _ d _ m' = _; rw [am (Ne.symm ndm),am (Ne.symm ndm)]; exact s1 _ _ hm) (fun b' o' n1 n2 e=>by rw [am n1,am n1]; exact s1 _ _ e)
theorem bD {f:Addr} {fd:FuncData} (F:Fun K "act" "Joining.act" eu f fd) (T:Txt K mg c)  (MR:∀ i ∈ [4,5,9,10,11,12],MHas P w K mg base 5 (fOf c i) "reckoned" ["self", "width", "a", "b"] (rh i)):FnOk P w K mg base CX0 6 f fd ["self", "width", "words", "marks"] (ca c [4,5,9,10,11,12]):=by
 refine F.ok kD (fun vs H Q E h=>?_) (fun cdv A outer s H vs Q E hr h=>?_)
 ·obtain ⟨x,d,m',w',r,kvs,ms,rfl,_⟩:=h
  rfl
 obtain ⟨x,d,m',w',r,kvs,ms,rfl,hk,⟨dx,hx,ln⟩,rk,w0,w1,hd',wd,hm,ml,q⟩:=h
 refine slE ⟨_,(ax (bR (be (aN hr) (pv 2) (aB (pv 0) rfl) (fK (k:=5) (pv 0) (hr.mono (by lia)) (ae (pv 1) (ae (aO (aN hr) (pv 2) (aB (pv 0) rfl) ag ⟨rfl,rfl,rfl,rfl⟩) (ae (aO (aN hr) (pv 2) (aB (pv 0) rfl) ag ⟨rfl,rfl,rfl,rfl⟩) ah)))) rfl))),?_⟩
 have hk0:=hk
 cases r with
 | set _ _=>simp only [Rw.k,List.mem_cons,List.not_mem_nil,or_false] at hk; simp only [Rw.ok] at rk; lia
 | copy _ _=>simp only [Rw.k,List.mem_cons,List.not_mem_nil,or_false] at hk; simp only [Rw.ok] at rk; lia
 | car _ _ _ _ _=>simp only [Rw.k,List.mem_cons,List.not_mem_nil,or_false] at hk; simp only [Rw.ok] at rk; lia
 | mv _ _ _ _=>simp only [Rw.k,List.mem_cons,List.not_mem_nil,or_false] at hk; simp only [Rw.ok] at rk; lia
 | pick _ _ _ _=>simp only [Rw.k,List.mem_cons,List.not_mem_nil,or_false] at hk; simp only [Rw.ok] at rk; lia
 | mark _ _ _=>simp only [Rw.k,List.mem_cons,List.not_mem_nil,or_false] at hk; simp only [Rw.ok] at rk; lia
 | jn k g a b =>
 obtain ⟨ok,og,oa,ob⟩:=rk
 have L1000:(20000:Nat)<=sizeLine:=by decide
 have l5:=wd.ln
 have nxd:x ≠ d:=fun z=>by rw [z,hd'] at hx; cases hx
 have ndm:d ≠ m':=fun z=>by rw [z,hm] at hd'; cases hd'
 have wi:=wd.ints
 have k15:k < 15:=by lia
 obtain ⟨cl,na⟩:=T.clF k15
 have nk:nOf k = (["goal", "one", "other"]:List Str):=by rcases ok with rfl | rfl | rfl | rfl | rfl | rfl <;> rfl
 have hx0:H x = some (.ins (fOf c k) dx ((["goal", "one", "other"]:List Str).zip [.str g,.str a,.str b])):=by rw [<- nk]; exact hx
 rw [nk] at na
 obtain ⟨ga,a0,a1⟩:=wd.get a
 obtain ⟨gb,b0,b1⟩:=wd.get b
 have mr:=MR k hk0
 refine ⟨_,rfl,x,_,dx,_,_,_,rfl,hx0,rfl,mr,_,rfl,_,rfl,d,rfl,⟨_,hd'⟩,_,rfl,x,_,dx,_,_,rfl,hx0,cl,na _ (by simp),rfl,_,_,rfl,hd',wi,_,rfl,d,rfl,⟨_,hd'⟩,_,rfl,x,_,dx,_,_,rfl,hx0,cl,na _ (by simp),rfl,_,_,rfl,hd',wi,.ref x,w',_,_,rfl,w0,w1,a0,a1,b0,b1,?_⟩
 exact ⟨_,rfl,_,rfl,x,_,dx,_,_,rfl,hx0,cl,na _ (by simp),rfl,d,_,rfl,DPut.k (k:=.inr g) hd' (by lia),q _ (by rw [af]; rfl) (by show upd _ d _ m' = _; rw [am (Ne.symm ndm)]; exact hm) (fun b' o' n1 n2 e=>by rw [am n1]; exact e)⟩
theorem dX {f:Addr} {fd:FuncData} (F:Fun K "act" "Moving.act" fA f fd) (T:Txt K mg c)  (MR:∀ i ∈ [6,7,8],MHas P w K mg base 5 (fOf c i) "moved" ["self", "width", "a"] (spMv c i)):FnOk P w K mg base CX0 6 f fd ["self", "width", "words", "marks"] (ca c [6,7,8]):=by
 refine F.ok lS (fun vs H Q E h=>?_) (fun cdv A outer s H vs Q E hr h=>?_)
 ·obtain ⟨x,d,m',w',r,kvs,ms,rfl,_⟩:=h
  rfl
 obtain ⟨x,d,m',w',r,kvs,ms,rfl,hk,⟨dx,hx,ln⟩,rk,w0,w1,hd',wd,hm,ml,q⟩:=h
 refine slE ⟨_,(ax (bR (be (aN hr) (pv 2) (aB (pv 0) rfl) (fK (k:=5) (pv 0) (hr.mono (by lia)) (ae (pv 1) (ae (aO (aN hr) (pv 2) (aB (pv 0) rfl) ag ⟨rfl,rfl,rfl,rfl⟩) ah))) rfl))),?_⟩
 have hk0:=hk
 cases r with
 | set _ _=>simp only [Rw.k,List.mem_cons,List.not_mem_nil,or_false] at hk; simp only [Rw.ok] at rk; lia
 | copy _ _=>simp only [Rw.k,List.mem_cons,List.not_mem_nil,or_false] at hk; simp only [Rw.ok] at rk; lia
 | car _ _ _ _ _=>simp only [Rw.k,List.mem_cons,List.not_mem_nil,or_false] at hk; simp only [Rw.ok] at rk; lia
 | jn _ _ _ _=>simp only [Rw.k,List.mem_cons,List.not_mem_nil,or_false] at hk; simp only [Rw.ok] at rk; lia
 | pick _ _ _ _=>simp only [Rw.k,List.mem_cons,List.not_mem_nil,or_false] at hk; simp only [Rw.ok] at rk; lia
 | mark _ _ _=>simp only [Rw.k,List.mem_cons,List.not_mem_nil,or_false] at hk; simp only [Rw.ok] at rk; lia
 | mv k g a j =>
 obtain ⟨ok,og,oa,j0,j1⟩:=rk
 have L1000:(20000:Nat)<=sizeLine:=by decide
 have l5:=wd.ln
 have nxd:x ≠ d:=fun z=>by rw [z,hd'] at hx; cases hx
 have ndm:d ≠ m':=fun z=>by rw [z,hm] at hd'; cases hd'
 have wi:=wd.ints
 have k15:k < 15:=by lia
 obtain ⟨cl,na⟩:=T.clF k15
 have nk:nOf k = (["goal", "one", "k"]:List Str):=by rcases ok with rfl | rfl | rfl <;> rfl
 have hx0:H x = some (.ins (fOf c k) dx ((["goal", "one", "k"]:List Str).zip [.str g,.str a,.int j])):=by rw [<- nk]; exact hx
 rw [nk] at na
 obtain ⟨ga,a0,a1⟩:=wd.get a
 have mr:=MR k hk0
 refine ⟨_,rfl,x,_,dx,_,_,_,rfl,hx0,rfl,mr,_,rfl,_,rfl,d,rfl,⟨_,hd'⟩,_,rfl,x,_,dx,_,_,rfl,hx0,cl,na _ (by simp),rfl,_,_,rfl,hd',wi,x,w',_,j,_,_,rfl,⟨dx,hx,ln⟩,w0,w1,a0,a1,j0,j1,?_⟩
 exact ⟨_,rfl,_,rfl,x,_,dx,_,_,rfl,hx0,cl,na _ (by simp),rfl,d,_,rfl,DPut.k (k:=.inr g) hd' (by lia),q _ (by rw [af]; rfl) (by show upd _ d _ m' = _; rw [am (Ne.symm ndm)]; exact hm) (fun b' o' n1 n2 e=>by rw [am n1]; exact e)⟩
theorem oN {f:Addr} {fd:FuncData} (F:Fun K "act" "Pick.act" ii f fd) (T:Txt K mg c) :FnOk P w K mg base CX0 1 f fd ["self", "width", "words", "marks"] (ca c [13]):=by
 refine F.ok oP (fun vs H Q E h=>?_) (fun cdv A outer s H vs Q E hr h=>?_)
 ·obtain ⟨x,d,m',w',r,kvs,ms,rfl,_⟩:=h
  rfl
 obtain ⟨x,d,m',w',r,kvs,ms,rfl,hk,⟨dx,hx,ln⟩,rk,w0,w1,hd',wd,hm,ml,q⟩:=h
 refine slE ⟨_,(ax (bR (be (aN hr) (pv 2) (aB (pv 0) rfl) (aO (aN hr) (pv 2) (fJ (au sL (aO (aN hr) (pv 2) (aB (pv 0) rfl) ag ⟨rfl,rfl,rfl,rfl⟩) ag (ay _)) (aB (pv 0) rfl) (aB (pv 0) rfl)) ag ⟨rfl,rfl,rfl,rfl⟩) rfl))),?_⟩
 have hk0:=hk
 cases r with
 | set _ _=>simp only [Rw.k,List.mem_cons,List.not_mem_nil,or_false] at hk; simp only [Rw.ok] at rk; lia
 | copy _ _=>simp only [Rw.k,List.mem_cons,List.not_mem_nil,or_false] at hk; simp only [Rw.ok] at rk; lia
 | car _ _ _ _ _=>simp only [Rw.k,List.mem_cons,List.not_mem_nil,or_false] at hk; simp only [Rw.ok] at rk; lia
 | jn _ _ _ _=>simp only [Rw.k,List.mem_cons,List.not_mem_nil,or_false] at hk; simp only [Rw.ok] at rk; lia
 | mv _ _ _ _=>simp only [Rw.k,List.mem_cons,List.not_mem_nil,or_false] at hk; simp only [Rw.ok] at rk; lia
 | mark _ _ _=>simp only [Rw.k,List.mem_cons,List.not_mem_nil,or_false] at hk; simp only [Rw.ok] at rk; lia
 | pick g y a b =>
 obtain ⟨og,oy,oa,ob⟩:=rk
 have L1000:(20000:Nat)<=sizeLine:=by decide
 have l5:=wd.ln
 have nxd:x ≠ d:=fun z=>by rw [z,hd'] at hx; cases hx
 have ndm:d ≠ m':=fun z=>by rw [z,hm] at hd'; cases hd'
 have wi:=wd.ints
 obtain ⟨cl,na⟩:=T.clF (k:=13) (by decide)
 refine ⟨_,rfl,d,rfl,⟨_,hd'⟩,_,rfl,d,rfl,⟨_,hd'⟩,_,rfl,x,_,dx,_,_,rfl,hx,cl,na _ (by simp [nOf]),rfl,_,_,rfl,hd',wi,rfl,_,rfl,?_⟩
 by_cases c0:gI kvs y = 0
 ·refine nZ (congrArg V.int c0) ⟨_,rfl,x,_,dx,_,_,rfl,hx,cl,na _ (by simp [nOf]),rfl,_,_,rfl,hd',wi,_,rfl,_,rfl,x,_,dx,_,_,rfl,hx,cl,na _ (by simp [nOf]),rfl,d,_,rfl,DPut.k (k:=.inr g) hd' (by lia),?_⟩
  refine q _ (by rw [af]; show _ = some (HO.dK (stK kvs g (gI kvs (if gI kvs y ≠ 0 then a else b)))); rw [if_neg (fun h=>h c0)]; rfl) (by show upd _ d _ m' = _; rw [am (Ne.symm ndm)]; exact hm) (fun b' o' n1 n2 e=>by rw [am n1]; exact e)
 ·refine iteN (fun z=>c0 (by injection z)) ⟨_,rfl,x,_,dx,_,_,rfl,hx,cl,na _ (by simp [nOf]),rfl,_,_,rfl,hd',wi,_,rfl,_,rfl,x,_,dx,_,_,rfl,hx,cl,na _ (by simp [nOf]),rfl,d,_,rfl,DPut.k (k:=.inr g) hd' (by lia),?_⟩
  refine q _ (by rw [af]; show _ = some (HO.dK (stK kvs g (gI kvs (if gI kvs y ≠ 0 then a else b)))); rw [if_pos c0]; rfl) (by show upd _ d _ m' = _; rw [am (Ne.symm ndm)]; exact hm) (fun b' o' n1 n2 e=>by rw [am n1]; exact e)
theorem oG {f:Addr} {fd:FuncData} (F:Fun K "act" "Mark.act" ip f fd) (T:Txt K mg c) :FnOk P w K mg base CX0 1 f fd ["self", "width", "words", "marks"] (ca c [14]):=by
 refine F.ok pE (fun vs H Q E h=>?_) (fun cdv A outer s H vs Q E hr h=>?_)
 ·obtain ⟨x,d,m',w',r,kvs,ms,rfl,_⟩:=h
  rfl
 obtain ⟨x,d,m',w',r,kvs,ms,rfl,hk,⟨dx,hx,ln⟩,rk,w0,w1,hd',wd,hm,ml,q⟩:=h
 refine slE ⟨_,(ax (bL (au sL (aO (aN hr) (pv 2) (aB (pv 0) rfl) ag ⟨rfl,rfl,rfl,rfl⟩) ag (ay _))
   (ax (qD (pe_bmZ PySem.F.plainAttrs_list PySem.F.slot_list_append PySem.F.type_list_append bB (pv 3) (lN (sE (aF (aB (pv 0) rfl) (aF (aB (pv 0) rfl) ee))) ee))))
   br)),?_⟩
 have hk0:=hk
 cases r with
 | set _ _=>simp only [Rw.k,List.mem_cons,List.not_mem_nil,or_false] at hk; simp only [Rw.ok] at rk; lia
 | copy _ _=>simp only [Rw.k,List.mem_cons,List.not_mem_nil,or_false] at hk; simp only [Rw.ok] at rk; lia
 | car _ _ _ _ _=>simp only [Rw.k,List.mem_cons,List.not_mem_nil,or_false] at hk; simp only [Rw.ok] at rk; lia
 | jn _ _ _ _=>simp only [Rw.k,List.mem_cons,List.not_mem_nil,or_false] at hk; simp only [Rw.ok] at rk; lia
 | mv _ _ _ _=>simp only [Rw.k,List.mem_cons,List.not_mem_nil,or_false] at hk; simp only [Rw.ok] at rk; lia
 | pick _ _ _ _=>simp only [Rw.k,List.mem_cons,List.not_mem_nil,or_false] at hk; simp only [Rw.ok] at rk; lia
 | mark n m y =>
 obtain ⟨n0,n1,om,oy⟩:=rk
 have L1000:(20000:Nat)<=sizeLine:=by decide
 have l5:=wd.ln
 have nxd:x ≠ d:=fun z=>by rw [z,hd'] at hx; cases hx
 have ndm:d ≠ m':=fun z=>by rw [z,hm] at hd'; cases hd'
 have wi:=wd.ints
 obtain ⟨cl,na⟩:=T.clF (k:=14) (by decide)
 refine ⟨_,rfl,d,rfl,⟨_,hd'⟩,_,rfl,x,_,dx,_,_,rfl,hx,cl,na _ (by simp [nOf]),rfl,_,_,rfl,hd',wi,rfl,_,rfl,?_⟩
 by_cases c0:gI kvs y = 0
 ·refine nZ (congrArg V.int c0) ?_
  exact q H hd' (by show Mk1 H m' ms (if gI kvs y ≠ 0 then _ else _); rw [if_neg (fun h=>h c0)]; exact hm) (fun b' o' n1 n2 e=>e)
 ·refine iteN (fun z=>c0 (by injection z)) ?_
  refine ⟨_,rfl,.inl ⟨rfl,_,SqL.of hm⟩,_,rfl,x,_,dx,_,_,rfl,hx,cl,na _ (by simp [nOf]),rfl,_,rfl,x,_,dx,_,_,rfl,hx,cl,na _ (by simp [nOf]),rfl,(by show 2<=sizeLine; decide),fun t ht=>?_⟩
  have s1:=ap ht (.tup [.int n,.str m])
  have hm1:=s1 _ _ hm
  have ntm:t ≠ m':=fun z=>by rw [z,hm] at ht; cases ht
  refine ⟨m',_,_,rfl,rfl,hm1,(by lia),?_⟩
  refine q _ (by show upd _ m' _ d = _; rw [am ndm]; exact s1 _ _ hd') ?_ (fun b' o' n1 n2 e=>by rw [am n2]; exact s1 _ _ e)
  show Mk1 _ m' ms (if gI kvs y ≠ 0 then _ else _)
  rw [if_pos c0]
  exact ⟨t,af,by rw [am ntm]; exact af⟩
theorem nJ {k:Nat} {fs:List V} {m:Str} (hm:∀ k ∈ List.range 15,m ∉ nOf k) (h:k < 15):((nOf k).zip fs).lookup m = none:=by
 have e:∀ (ns:List Str) (fs:List V),m ∉ ns->(ns.zip fs).lookup m = none:=fun ns=>by
  induction ns with
  | nil=>intro fs _; rfl
  | cons a t ih =>
   intro fs hn
   cases fs with
   | nil=>rfl
   | cons b u =>
    show (match m == a with | true=>some b | false=>(t.zip u).lookup m) = none
    rw [show (m == a) = false from beq_eq_false_iff_ne.mpr fun z=>hn (by rw [z]; exact List.mem_cons_self ..)]
    exact ih u fun z=>hn (List.mem_cons_of_mem _ z)
 exact e _ _ (hm k (List.mem_range.mpr h))
theorem Txt.kitS {K:Frag} {mg:Str->Option Value} {c:Ad} (T:Txt K mg c) {k:Nat} (h:k < 15):kitOne K (.ref (fOf c k)) (.ref c.Step) = some true:=sQ T.st.1 T.st.2 (T.kd (k:=k) (by lia)).2.2.1
theorem Txt.kitT {K:Frag} {mg:Str->Option Value} {c:Ad} (T:Txt K mg c) {k:Nat} (h:k < 15):kitOne K (.ref (fOf c k)) (.ref c.Turns) = some false:=by
 have:=T.kit (k:=k) (i:=15) (by lia) (by decide)
 rw [decide_eq_false (by lia)] at this
 exact this
theorem ik {cf:Nat->Int} {k:Nat} (h:k < 16):cX (cr cf) (.inr (wOf k)) = some (.int (cf k)):=by
 unfold cr
 have e:∀ (l:List Nat),(∀ i ∈ l,i < 16)->k ∈ l->cX (l.map fun i=>((Sum.inr (wOf i),V.int (cf i)):Key × V)) (.inr (wOf k)) = some (.int (cf k)):=fun l=>by
  induction l with
  | nil=>intro _ m; cases m
  | cons a t ih =>
   intro hl m
   by_cases c:a = k
   ·subst c
    exact bq rfl
   ·rw [List.map_cons,bi (fun z=>c (rG (hl a (List.mem_cons_self ..)) h (by injection z with z; rw [z])))]
    exact ih (fun i hi=>hl i (List.mem_cons_of_mem _ hi)) ((List.mem_cons.mp m).resolve_left (fun z=>c z.symm))
 exact e _ (fun i hi=>List.mem_range.mp hi) (List.mem_range.mpr h)
theorem tK {cf:Nat->Int} {k:Nat} {m:Int} (h:k < 16):cp (cr cf) (.inr (wOf k)) (.int (cf k + m)) = cr (cAdd cf k m):=by
 unfold cp
 rw [cK,ik h]
 show (cr cf).map (fun kv=>if kv.1 = Sum.inr (wOf k) then (kv.1,V.int (cf k + m)) else kv) = _
 unfold cr
 rw [List.map_map]
 refine List.map_congr_left fun i hi=>?_
 have hi:=List.mem_range.mp hi
 show (if (Sum.inr (wOf i):Key) = Sum.inr (wOf k) then ((Sum.inr (wOf i):Key),V.int (cf k + m)) else (Sum.inr (wOf i),V.int (cf i))) = (Sum.inr (wOf i),V.int (cAdd cf k m i))
 unfold cAdd
 by_cases c:i = k
 ·subst c
  rw [if_pos rfl,if_pos rfl]
 ·rw [if_neg c,if_neg (fun z=>c (rG hi h (by injection z with z; rw [z])))]
theorem bZ (cf:Nat->Int):(cr cf).length = 16:=by unfold cr; rw [List.length_map,List.length_range]
theorem wOf_ok {k:Nat} (h:k < 15):k < 16:=by lia
theorem tW (cf:Nat->Int):((List.range 16).map cf).sum = cf 0 + (cf 1 + (cf 2 + (cf 3 + (cf 4 + (cf 5 + (cf 6 + (cf 7 + (cf 8 + (cf 9 + (cf 10 + (cf 11 + (cf 12 + (cf 13 + (cf 14 + (cf 15 + 0))))))))))))))):=rfl
theorem sum_add (cf:Nat->Int) {k:Nat} (m:Int) (h:k < 16):((List.range 16).map (cAdd cf k m)).sum = ((List.range 16).map cf).sum + m:=by
 rw [tW,tW]
 unfold cAdd
 rcases (by lia:k = 0\/k = 1\/k = 2\/k = 3\/k = 4\/k = 5\/k = 6\/k = 7\/k = 8\/k = 9\/k = 10\/k = 11\/k = 12\/k = 13\/k = 14\/k = 15) with rfl | rfl | rfl | rfl | rfl | rfl | rfl | rfl | rfl | rfl | rfl | rfl | rfl | rfl | rfl | rfl <;> simp <;> lia
theorem jd (cf:Nat->Int):(cr cf).map (·.2) = ((List.range 16).map cf).map V.int:=by
 unfold cr
 rw [List.map_map,List.map_map]
 rfl
theorem take_cnt {j:Nat} (h:j < 16):cp ((cr fun _=>0).take j) (.inr (wOf j)) (.int 0) = (cr fun _=>0).take (j + 1):=by
 rw [fR]
 ·rw [List.take_add_one]
  unfold cr
  rw [List.getElem?_map,List.getElem?_range h]
  rfl
 ·cases e:cX ((cr fun _=>0).take j) (.inr (wOf j)) with
  | none=>rfl
  | some v =>
   have m:=fO e
   obtain ⟨i,hi⟩:=List.mem_iff_getElem?.mp m
   rw [List.getElem?_take] at hi
   split at hi
   ·rename_i c
    unfold cr at hi
    rw [List.getElem?_map,List.getElem?_range (by lia)] at hi
    have hi:(some (Sum.inr (wOf i),V.int 0):Option (Key × V)) = some (Sum.inr (wOf j),v):=hi
    injection hi with hi
    have h1:=congrArg Prod.fst hi
    have:=rG (show i < 16 by lia) h (by injection h1 with h1; rw [h1])
    lia
   ·cases hi
theorem sF {j:Nat} {v:V} (h:(rw16.map V.str)[j]? = some v):v = .str (wOf j)/\j < 16:=by
 have hj:j < 16:=(List.getElem?_eq_some_iff.mp h).1
 have a:∀ i ∈ List.range 16,rw16[i]? = some (wOf i):=by decide +kernel
 rw [List.getElem?_map,a j (List.mem_range.mpr hj)] at h
 cases h
 exact ⟨rfl,hj⟩
theorem iu {f:Addr} {fd:FuncData} (F:Fun K "need_registers" "need_registers" cF f fd) (T:Txt K mg c) (H_is_register:Has P w K mg base 1 "is_register" ["thing"] mB) (H_is_word:Has P w K mg base 3 "is_word" ["width", "thing"] je):FnOk P w K mg base CX0 4 f fd ["width", "registers"] ou:=by
 refine F.ok sc_need_registers (fun vs H Q E h=>?_) (fun cdv A outer s H vs Q E hr h=>?_)
 ·obtain ⟨d,w',kvs,rfl,_⟩:=h
  rfl
 obtain ⟨d,w',kvs,rfl,hd,wd,w0,w1,q⟩:=h
 refine ⟨_,(ai (ps_thaw (cI PassesOwn.never rfl (tF (pv 1)) (bF (i:=2) sc_need_registers.nd rfl (Or.inl rfl))
   (aj (aQ (bJ (bC (aD aJ rfl T.n_isinstance boot_isinstance (ae (pv 2) (ae (gM rfl T.n_str boot_str) ah)))))
    (aj fQ)
    aG))))
  (aj (cI PassesOwn.never rfl (bn (aD (nj rfl) rfl T.n_sorted boot_sorted (ae (pv 1) ah))) (bF (i:=3) sc_need_registers.nd rfl (Or.inl rfl))
   (aj (aQ (PW.pt (eQ (bJ (bC (aC H_is_register (hr.mono (by lia)) rfl (ae (pv 3) ah)))) (fk (bJ (bC (aC H_is_word (hr.mono (by lia)) rfl (ae (pv 0) (ae (jT (aN hr) (pv 1) (pv 3) (fun _ _=>rfl)) ah))))))))
    (aj fQ)
    aG))))),?_⟩
 have L1000:(1000:Nat)<=sizeLine:=by decide
 have l5:=wd.ln
 refine ⟨_,rfl,d,kvs,rfl,hd,fun o=>?_⟩
 refine for_dict (kvs:=kvs) (o:=o) (a:=d) (fun j σ H2=>∃ y z:Option V,σ = [some (.int w'),some (.ref d),y,z]/\H2 = upd H d (.frz o (.dK kvs))) ⟨_,_,rfl,rfl⟩ ?_ ?_ ?_
 ·rintro j σ H2 hj ⟨y,z,rfl,rfl⟩
  exact af
 ·rintro j kv σ H2 hkv ⟨y,z,rfl,rfl⟩
  obtain ⟨zz,i,rfl,_⟩:=wd.it kv (List.mem_of_getElem? hkv)
  exact ⟨_,rfl,_,_,_,_,_,rfl,rfl,TyOf.str _,jm _,_,rfl,cE ⟨_,_,rfl,rfl⟩⟩
 ·rintro σ H2 ⟨y,z,rfl,rfl⟩
  refine ⟨d,o,kvs,af,(fun o' u e=>nomatch hd.symm.trans e),?_⟩
  have e0:upd (upd H d (.frz o (.dK kvs))) d (.dK kvs) = H:=by
   funext b
   by_cases cb:b = d
   ·rw [cb,af,hd]
   ·rw [am cb,am cb]
  rw [e0]
  have kz:kvs.map (·.1) = (kvs.map fun kv=>match kv.1 with | .inr z=>z | .inl _=>"").map Sum.inr:=by
   rw [List.map_map]
   refine List.map_congr_left fun kv hkv=>?_
   obtain ⟨zz,i,rfl,_⟩:=wd.it kv hkv
   rfl
  refine ⟨_,rfl,d,kvs,_,rfl,hd,kz,by rw [List.length_map]; lia,fun l ws hl pm=>?_⟩
  have s1:=ap hl (.lst (ws.map V.str))
  have mem:∀ z ∈ ws,∃ i:Int,cX kvs (.inr z) = some (.int i)/\Rg z/\0<=i/\i < 2 ^ w'.toNat:=fun z hz=>by
   have h1:=pm.mem_iff.mp hz
   obtain ⟨kv,hkv,e⟩:=List.mem_map.mp h1
   obtain ⟨zz,i,rfl,_⟩:=wd.it kv hkv
   obtain rfl:zz = z:=e
   cases ev:cX kvs (.inr zz) with
   | none=>exact absurd (List.mem_map_of_mem (f:=Prod.fst) hkv) (p0 ev)
   | some v =>
    obtain ⟨z2,i2,e2,r2,a2,b2⟩:=wd.it _ (fO ev)
    cases e2
    exact ⟨i2,rfl,r2,a2,b2⟩
  refine ⟨l,rfl,⟨_,SqL.of af⟩,bT (xs:=ws.map V.str) (fun j σ H2=>∃ y z:Option V,σ = [some (.int w'),some (.ref d),y,z]/\H2 l = some (.lst (ws.map V.str))/\Same H H2) ⟨_,_,rfl,af,s1⟩ ?_ ?_ ?_⟩
  ·rintro j σ H2 hj ⟨y,z,rfl,h2,s2⟩
   exact SqL.of h2
  ·rintro j v σ H2 hv ⟨y,z,rfl,h2,s2⟩
   rw [List.getElem?_map] at hv
   cases ez:ws[j]? with
   | none=>rw [ez] at hv; cases hv
   | some zz =>
    rw [ez] at hv
    cases hv
    obtain ⟨i,ev,rz,i0,i1⟩:=mem zz (List.mem_of_getElem? ez)
    refine ⟨_,rfl,nil_ <| nH rz fun H3 s3=>⟨_,rfl,cE ?_⟩⟩
    refine ⟨_,rfl,_,rfl,_,rfl,d,.int i,rfl,.inl ⟨kvs,.inr zz,.inl (s3 _ _ (s2 _ _ hd)),rfl,ev.symm⟩,w',i,rfl,w0,w1,i0,i1,_,rfl,cE ?_⟩
    exact ⟨_,_,rfl,s3 _ _ h2,s2.trans s3⟩
  ·rintro σ H2 ⟨y,z,rfl,h2,s2⟩
   exact q H2 s2
theorem Txt.tyT {K:Frag} {mg:Str->Option Value} {c:Ad} (T:Txt K mg c) {H:Hp} {x dx:Addr} {fs:List (Str × V)} (e:H x = some (.ins c.Turns dx fs)):TyOf K H (.ref x) (.ref c.Turns):=TyOf.ins e T.cl_Turns (T.kd (k:=15) (by decide)).2.2.2.1 T.kf_og T.kf_ot (T.kd (k:=15) (by decide)).2.2.2.2.1
theorem Txt.kitU {K:Frag} {mg:Str->Option Value} {c:Ad} (T:Txt K mg c):kitOne K (.ref c.Turns) (.ref c.Turns) = some true:=T.kit (k:=15) (i:=15) (by decide) (by decide)
theorem iZ {f:Addr} {fd:FuncData} (F:Fun K "good_at" "Turns.good_at" cT f fd) (T:Txt K mg c) (H_is_between:Has P w K mg base 2 "is_between" ["thing", "low", "high"] cV):FnOk P w K mg base CX0 3 f fd ["self", "width"] (kQ c):=by
 refine F.ok i7 (fun vs H Q E h=>?_) (fun cdv A outer s H vs Q E hr h=>?_)
 ·obtain ⟨x,w',n,xs,rfl,_⟩:=h
  rfl
 obtain ⟨x,w',n,xs,rfl,⟨dx,l,hx,hl⟩,n1,n2,ne,q⟩:=h
 refine ⟨_,(aj (ao (df (aC H_is_between (hr.mono (by lia)) rfl (ae (aB (pv 0) rfl) (ae ag (ae ag ah)))) (df (aD aJ rfl T.n_isinstance boot_isinstance (ae (aB (pv 0) rfl) (ae (gM rfl T.n_list boot_list) ah))) (dN (cy (op_ne0 (Nat.lt_of_succ_lt (aN hr))) (aB (pv 0) rfl) (bt ah) (ay _))))))),?_⟩
 refine ⟨_,rfl,x,_,dx,_,_,rfl,hx,T.cl_Turns,T.na_Turns_times,rfl,_,_,_,rfl,by lia,by lia,_,rfl,eG ?_⟩
 refine ⟨_,rfl,x,_,dx,_,_,rfl,hx,T.cl_Turns,T.na_Turns_steps,rfl,_,_,_,_,_,rfl,rfl,TyOf.lst hl,rfl,_,rfl,eG ?_⟩
 refine ⟨_,rfl,x,_,dx,_,_,rfl,hx,T.cl_Turns,T.na_Turns_steps,rfl,(by show 0<=sizeLine; decide),fun l2 h2=>?_⟩
 have s2:=ap h2 (.lst [])
 refine ⟨l,l2,xs,rfl,rfl,SqL.of (s2 _ _ hl),SqL.of af,?_⟩
 cases xs with
 | nil=>exact absurd rfl ne
 | cons a t=>exact q _ s2
theorem qY {f:Addr} {fd:FuncData} (F:Fun K "is_good" "is_good" j2 f fd) (T:Txt K mg c)  (MG:∀ k,k < 15->MHas P w K mg base 4 (fOf c k) "good_at" ["self", "width"] (bw c [k])) (MGU:MHas P w K mg base 4 c.Turns "good_at" ["self", "width"] (kQ c)):FnOk P w K mg base CX0 5 f fd ["width", "thing", "about"] (kL c):=by
 refine F.ok rg (fun vs H Q E h=>?_) (fun cdv A outer s H vs Q E hr h=>?_)
 ·obtain ⟨d,x,w',a,zs,t,rfl,_⟩:=h
  rfl
 obtain ⟨d,x,w',a,zs,t,rfl,st,ok,w0,w1,a0,ad,q⟩:=h
 refine ⟨_,(ai (aQ (PW.pt (eQ (bJ (bC (aD aJ rfl T.n_isinstance boot_isinstance (ae (pv 1) (ae (iS rfl T.g_Step) ah))))) (fk (bJ (bC (fK (k:=4) (pv 1) (hr.mono (by lia)) (ae (pv 0) ah)))))))
   (aj (ao hX))
   aG)
  (aj (ao (pe_or (qx (aD aJ rfl T.n_isinstance boot_isinstance (ae (pv 1) (ae (iS rfl T.g_Turns) ah)))) (dN (cy kr (pv 2) (qg rfl T.g_MOST_TURNS) (ay _))))))),?_⟩
 cases t with
 | row r =>
  obtain ⟨dx,hx,ln⟩:StepAt c H x r.k r.fs:=st
  have rk:r.ok w':=ok.1
  have k15:=Rw.k15 rk
  refine ⟨_,rfl,_,_,_,_,_,rfl,rfl,T.ty k15 hx,T.kitS k15,_,rfl,cE ?_⟩
  refine ⟨_,rfl,x,_,dx,_,_,_,rfl,hx,nJ (by decide +kernel) k15,MG _ k15,_,rfl,x,w',r,rfl,List.mem_singleton.mpr rfl,⟨dx,hx,ln⟩,rk,w0,w1,fun H2 s2=>⟨_,rfl,cE ?_⟩⟩
  exact ⟨_,rfl,_,_,_,_,_,rfl,rfl,T.ty k15 (s2 _ _ hx),T.kitT k15,_,rfl,_,rfl,eG (q H2 s2)⟩
 | turns n ts =>
  obtain ⟨xs,⟨dx,l,hx,hl⟩,la⟩:∃ xs,dS c H x (.int (n:Int)) xs/\L2A (StT c H d) xs ts:=st
  obtain ⟨n1,n2,ne,t100,tok⟩:1<=n/\n<=64/\ts ≠ []/\ts.length<=100/\∀ t ∈ ts,TOk w' zs d t:=ok
  have d1:1<=d:=by
   cases d with
   | zero=>exact absurd tr0 ne
   | succ d=>lia
  have xne:xs ≠ []:=fun z=>ne (List.length_eq_zero_iff.mp (by rw [<- la.1,z]; rfl))
  refine ⟨_,rfl,_,_,_,_,_,rfl,rfl,T.tyT hx,sQ T.st.1 T.st.2 (T.kd (k:=15) (by decide)).2.2.1,_,rfl,cE ?_⟩
  refine ⟨_,rfl,x,_,dx,_,_,_,rfl,hx,rfl,MGU,_,rfl,x,w',n,xs,rfl,⟨dx,l,hx,hl⟩,n1,n2,xne,fun H2 s2=>⟨_,rfl,cE ?_⟩⟩
  refine ⟨_,rfl,_,_,_,_,_,rfl,rfl,T.tyT (s2 _ _ hx),T.kitU,_,rfl,_,rfl,cE ?_⟩
  refine ⟨_,rfl,_,_,rfl,rfl,?_⟩
  have e5:decide (a < 5) = true:=decide_eq_true (by lia)
  show Q (.bl (decide (a < 5))) H2
  rw [e5]
  exact q H2 s2
theorem jE {f:Addr} {fd:FuncData} (F:Fun K "place_behind" "place_behind" dm f fd) (T:Txt K mg c) (H_is_good:Has P w K mg base 5 "is_good" ["width", "thing", "about"] (kL c)) {d:Nat} (H_place_behind:Has P w K mg base (d + 5) "place_behind" ["width", "steps", "place", "about"] (spN (g8 c) d)):FnOk P w K mg base CX0 (d + 6) f fd ["width", "steps", "place", "about"] (g8 c (d + 1)):=by
 refine F.ok sc_place_behind (fun vs H Q E h=>?_) (fun cdv A outer s H vs Q E hr h=>?_)
 ·obtain ⟨l,w',p,a,zs,xs,ts,rfl,_⟩:=h
  rfl
 obtain ⟨l,w',p,a,zs,xs,ts,rfl,hl,la,tok,w0,w1,a0,ad,q⟩:=h
 refine ⟨_,(ai (cI PassesOwn.never rfl (bn (pv 1)) (bF (i:=4) sc_place_behind.nd rfl (Or.inl rfl))
   (ai (aQ (bJ (bC (aC H_is_good (hr.mono (by lia)) rfl (ae (pv 0) (ae (pv 4) (ae (pv 3) ah))))))
    (aj fQ)
    aG)
   (ai (aH (i:=2) sc_place_behind.nd rfl (Or.inl rfl) (aE bY (pv 2) ag))
   (aj (aQ (bC (aD aJ rfl T.n_isinstance boot_isinstance (ae (pv 4) (ae (iS rfl T.g_Turns) ah))))
    (aj (aH (i:=2) sc_place_behind.nd rfl (Or.inl rfl) (aC H_place_behind (hr.mono (by lia)) rfl (ae (pv 0) (ae (aB (pv 4) rfl) (ae (pv 2) (ae (aE bY (pv 3) ag) ah)))))))
    aG)))))
  (aj (ao (pv 2)))),?_⟩
 refine ⟨_,rfl,l,rfl,⟨_,SqL.of hl⟩,bT (xs:=xs) (fun j σ H2=>∃ (y:Option V) (i:Int),σ = [some (.int w'),some (.ref l),some (.int i),some (.int a),y]/\Same H H2) ⟨_,_,rfl,Same.refl _⟩ ?_ ?_ ?_⟩
 ·rintro j σ H2 hj ⟨y,i,rfl,s2⟩
  exact SqL.of (s2 _ _ hl)
 ·rintro j v σ H2 hv ⟨y,i,rfl,s2⟩
  obtain ⟨x,t,rfl,et,st⟩:=la.get hv
  have ok:=tok t (List.mem_of_getElem? et)
  have st2:StT c H2 (d + 1) x t:=st.same s2
  refine ⟨_,rfl,_,rfl,_,rfl,d,x,w',a,zs,t,rfl,st2,ok,w0,w1,a0,by lia,fun H3 s3=>⟨_,rfl,cE ?_⟩⟩
  have st3:StT c H3 (d + 1) x t:=st2.same s3
  refine ⟨_,rfl,_,_,rfl,rfl,?_⟩
  cases t with
  | row r =>
   obtain ⟨dx,hx,ln⟩:StepAt c H3 x r.k r.fs:=st3
   have k15:=Rw.k15 ok.1
   exact ⟨_,rfl,_,_,_,_,_,rfl,rfl,T.ty k15 hx,T.kitT k15,_,rfl,cE ⟨_,_,rfl,s2.trans s3⟩⟩
  | turns n us =>
   obtain ⟨ys,⟨dx,l2,hx,hl2⟩,lb⟩:∃ xs,dS c H3 x (.int (n:Int)) xs/\L2A (StT c H3 d) xs us:=st3
   obtain ⟨n1,n2,ne,t100,uok⟩:1<=n/\n<=64/\us ≠ []/\us.length<=100/\∀ t ∈ us,TOk w' zs d t:=ok
   refine ⟨_,rfl,_,_,_,_,_,rfl,rfl,T.tyT hx,T.kitU,_,rfl,eG ?_⟩
   refine ⟨_,rfl,_,rfl,x,_,dx,_,_,rfl,hx,T.cl_Turns,T.na_Turns_steps,rfl,_,rfl,_,rfl,_,_,rfl,rfl,?_⟩
   cases d with
   | zero=>exact absurd tr0 ne
   | succ d=>exact ⟨l2,w',_,_,zs,ys,us,rfl,hl2,lb,uok,w0,w1,by lia,by lia,fun i' H4 s4=>⟨_,_,rfl,(s2.trans s3).trans s4⟩⟩
 ·rintro σ H2 ⟨y,i,rfl,s2⟩
  exact ⟨_,rfl,q i H2 s2⟩
theorem j5 {f:Addr} {fd:FuncData} (F:Fun K "count_words" "count_words" dP f fd) (T:Txt K mg c) (MW:∀ k,k < 15->MHas P w K mg base 1 (fOf c k) "word" ["self"] (eE (wOf k))) (MWU:MHas P w K mg base 1 c.Turns "word" ["self"] (eE "turns")) {d:Nat} (H_count_words:Has P w K mg base (d + 5) "count_words" ["steps", "times", "counts"] (spN (gZ c) d)):FnOk P w K mg base CX0 (d + 6) f fd ["steps", "times", "counts"] (gZ c (d + 1)):=by
 refine F.ok sc_count_words (fun vs H Q E h=>?_) (fun cdv A outer s H vs Q E hr h=>?_)
 ·obtain ⟨Hs,l,dd,m,w',zs,xs,ts,cf,rfl,_⟩:=h
  rfl
 obtain ⟨Hs,l,dd,m,w',zs,xs,ts,cf,rfl,hl,la,tok,ss,hdd,hd,q⟩:=h
 refine ⟨_,(aj (cI PassesOwn.never rfl (bn (pv 0)) (bF (i:=3) sc_count_words.nd rfl (Or.inl rfl))
   (ai (aH (i:=4) sc_count_words.nd rfl (Or.inl rfl) (fJ (bC (aD aJ rfl T.n_isinstance boot_isinstance (ae (pv 3) (ae (iS rfl T.g_Turns) ah)))) (aE cG (pv 1) (aB (pv 3) rfl)) (pv 1)))
   (ai (be (aN hr) (pv 2) (dO (k:=1) (pv 3) (hr.mono (by lia))) (aE bY (jT (aN hr) (pv 2) (dO (k:=1) (pv 3) (hr.mono (by lia))) (fun _ _=>rfl)) (pv 4)) rfl)
   (aj (aQ (bC (aD aJ rfl T.n_isinstance boot_isinstance (ae (pv 3) (ae (iS rfl T.g_Turns) ah))))
    (aj (aL (aC H_count_words (hr.mono (by lia)) rfl (ae (aB (pv 3) rfl) (ae (pv 4) (ae (pv 2) ah))))))
    aG)))))),?_⟩
 have L1000:(1000:Nat)<=sizeLine:=by decide
 have nd:∀ {b o},Hs b = some o->b ≠ dd:=fun {b o} e z=>by rw [z,hdd] at e; cases e
 refine ⟨_,rfl,l,rfl,⟨_,SqL.of (ss _ _ hl)⟩,bT (xs:=xs) (fun j σ H2=>∃ y z:Option V,σ = [some (.ref l),some (.int m),some (.ref dd),y,z]/\H2 dd = some (.dK (cr (n6 cf m (evL (d + 1) (ts.take j)))))/\SameX dd H H2) ⟨_,_,rfl,(by rw [show evL (d + 1) (ts.take 0) = [] from rfl,p5]; exact hd),SameX.refl _ _⟩ ?_ ?_ ?_⟩
 ·rintro j σ H2 hj ⟨y,z,rfl,h2,s2⟩
  exact SqL.of (s2 _ _ (nd hl) (ss _ _ hl))
 ·rintro j v σ H2 hv ⟨y,z,rfl,h2,s2⟩
  obtain ⟨x,t,rfl,et,st⟩:=la.get hv
  have ok:=tok t (List.mem_of_getElem? et)
  have S2:Same Hs H2:=fun b o e=>s2 _ _ (nd e) (ss _ _ e)
  rw [cL et]
  rw [qc]
  generalize n6 cf m (evL (d + 1) (ts.take j)) = cg at h2 ⊢
  cases t with
  | row r =>
   obtain ⟨dx,hx,ln⟩:StepAt c Hs x r.k r.fs:=st
   have k15:=Rw.k15 ok.1
   have nad:=nd hx
   have hx2:=S2 _ _ hx
   refine ⟨_,rfl,_,_,_,_,_,rfl,rfl,T.ty k15 hx2,T.kitT k15,_,rfl,cE ⟨_,rfl,?_⟩⟩
   refine ⟨_,rfl,_,rfl,x,_,dx,_,_,_,rfl,hx2,nJ (by decide +kernel) k15,MW _ k15,x,rfl,dd,_,rfl,.inl ⟨_,.inr (wOf r.k),.inl h2,rfl,(ik (wOf_ok k15)).symm⟩,?_⟩
   refine ⟨_,rfl,_,_,rfl,rfl,_,rfl,_,rfl,x,_,dx,_,_,_,rfl,hx2,nJ (by decide +kernel) k15,MW _ k15,x,rfl,dd,_,rfl,DPut.k (k:=.inr (wOf r.k)) h2 (by rw [bZ]; lia),?_⟩
   rw [tK (wOf_ok k15)]
   refine ⟨_,rfl,_,_,_,_,_,rfl,rfl,T.ty k15 (by rw [am nad]; exact hx2),T.kitT k15,_,rfl,cE ?_⟩
   exact ⟨_,_,rfl,(by rw [af,show evs (d + 1) (.row r) = [some r] from rfl,qb]; rfl),fun b o n e=>by rw [am n]; exact s2 _ _ n e⟩
  | turns n us =>
   obtain ⟨ys,⟨dx,l2,hx,hl2⟩,lb⟩:∃ xs,dS c Hs x (.int (n:Int)) xs/\L2A (StT c Hs d) xs us:=st
   obtain ⟨n1,n2,ne,t100,uok⟩:1<=n/\n<=64/\us ≠ []/\us.length<=100/\∀ t ∈ us,TOk w' zs d t:=ok
   have nad:=nd hx
   have hx2:=S2 _ _ hx
   refine ⟨_,rfl,_,_,_,_,_,rfl,rfl,T.tyT hx2,T.kitU,_,rfl,eG ⟨_,rfl,_,rfl,x,_,dx,_,_,rfl,hx2,T.cl_Turns,T.na_Turns_times,rfl,_,_,rfl,rfl,.inr ⟨by lia,by lia⟩,?_⟩⟩
   have w15:wOf 15 = "turns":=rfl
   refine ⟨_,rfl,_,rfl,x,_,dx,_,_,_,rfl,hx2,rfl,MWU,x,rfl,dd,_,rfl,.inl ⟨_,.inr (wOf 15),.inl h2,rfl,(ik (by decide)).symm⟩,?_⟩
   refine ⟨_,rfl,_,_,rfl,rfl,_,rfl,_,rfl,x,_,dx,_,_,_,rfl,hx2,rfl,MWU,x,rfl,dd,_,rfl,DPut.k (k:=.inr (wOf 15)) h2 (by rw [bZ]; lia),?_⟩
   rw [tK (cf:=cg) (k:=15) (m:=m * n) (by decide)]
   have hx3:upd H2 dd (.dK (cr (cAdd cg 15 (m * n)))) x = some (.ins c.Turns dx [("times",.int (n:Int)),("steps",.ref l2)]):=by rw [am nad]; exact hx2
   refine ⟨_,rfl,_,_,_,_,_,rfl,rfl,T.tyT hx3,T.kitU,_,rfl,eG ?_⟩
   refine ⟨_,rfl,x,_,dx,_,_,rfl,hx3,T.cl_Turns,T.na_Turns_steps,rfl,_,rfl,_,rfl,?_⟩
   cases d with
   | zero=>exact absurd tr0 ne
   | succ d =>
    refine ⟨Hs,l2,dd,m * n,w',zs,ys,us,cAdd cg 15 (m * n),rfl,hl2,lb,uok,fun b o e=>by rw [am (nd e)]; exact S2 _ _ e,hdd,af,fun H4 h4 s4=>?_⟩
    refine ⟨_,_,rfl,?_,fun b o n e=>s4 _ _ n (by rw [am n]; exact s2 _ _ n e)⟩
    rw [show evs (d + 1 + 1) (TS.turns n us) = (List.replicate n (none :: evL (d + 1) us)).flatten from rfl,qK]
    exact h4
 ·rintro σ H2 ⟨y,z,rfl,h2,s2⟩
  rw [la.1,List.take_length] at h2
  exact q H2 h2 s2
theorem tf (es:List (Option Rw)) (h:∀ e ∈ es,kOf e < 16):∀ (cf:Nat->Int) (m:Int),((List.range 16).map (n6 cf m es)).sum = ((List.range 16).map cf).sum + m * es.length:=by
 induction es with
 | nil=>intro cf m; rw [p5]; show _ = _ + m * 0; lia
 | cons e t ih =>
  intro cf m
  rw [show e :: t = [e] ++ t from rfl,qc,ih (fun q hq=>h q (List.mem_cons_of_mem _ hq)),qb,sum_add cf m (h e (List.mem_cons_self ..))]
  show _ + m + m * (t.length:Int) = _ + m * ((t.length + 1:Nat):Int)
  push_cast
  rw [Int.mul_add,Int.mul_one]
  lia
theorem TOk.rows {w:Int} {zs:List Str}:∀ {d:Nat} {t:Tr d},TOk w zs d t->∀ r,some r ∈ evs d t->r.ok w/\r.inZ zs
 | 0,t,_,_,_=>Empty.elim t
 | d + 1,t,h,r,hr=>by
  have h':TS.okk w zs (TOk w zs d) t:=h
  have hr':some r ∈ TS.ev (evs d) t:=hr
  revert h' hr'
  cases (show TS (Tr d) from t) with
  | row q =>
   intro h' hr'
   have:=List.mem_singleton.mp hr'
   cases this
   exact h'
  | turns n ts =>
   intro h' hr'
   obtain ⟨l,hl,m⟩:=List.mem_flatten.mp hr'
   rw [(List.mem_replicate.mp hl).2] at m
   rcases List.mem_cons.mp m with z | m
   ·cases z
   ·obtain ⟨t',ht',m⟩:=List.mem_flatMap.mp m
    exact TOk.rows (h'.2.2.2.2 t' ht') r m
theorem rws_mem {r:Rw} {es:List (Option Rw)}:r ∈ rws es ↔ some r ∈ es:=by
 unfold rws
 rw [List.mem_filterMap]
 exact ⟨fun ⟨a,h,e⟩=>by rw [show a = some r from e] at h; exact h,fun h=>⟨_,h,rfl⟩⟩
theorem jI {w:Int} {zs:List Str} {d:Nat} {ts:List (Tr d)} (h:∀ t ∈ ts,TOk w zs d t):∀ r ∈ rws (evL d ts),r.ok w/\r.inZ zs:=fun r hr=>by
 obtain ⟨t,ht,m⟩:=List.mem_flatMap.mp (rws_mem.mp hr)
 exact (h t ht).rows r m
theorem evL_k {w:Int} {zs:List Str} {d:Nat} {ts:List (Tr d)} (h:∀ t ∈ ts,TOk w zs d t):∀ e ∈ evL d ts,kOf e < 16:=fun e he=>by
 cases e with
 | none=>show 15 < 16; decide
 | some r=>have:=Rw.k15 (jI h r (rws_mem.mpr he)).1; show r.k < 16; lia
theorem me {f:Addr} {fd:FuncData} (F:Fun K "need_steps" "need_steps" eS f fd) (T:Txt K mg c) (H_need_width:Has P w K mg base 3 "need_width" ["width"] dn) (H_place_behind:Has P w K mg base 12 "place_behind" ["width", "steps", "place", "about"] (g8 c 6)) (H_row_words:Has P w K mg base 1 "row_words" [] spRW) (H_count_words:Has P w K mg base 12 "count_words" ["steps", "times", "counts"] (gZ c 6)):FnOk P w K mg base CX0 13 f fd ["width", "steps"] (jF c):=by
 refine F.ok sc_need_steps (fun vs H Q E h=>?_) (fun cdv A outer s H vs Q E hr h=>?_)
 ·obtain ⟨l,w',zs,xs,ts,rfl,_⟩:=h
  rfl
 obtain ⟨l,w',zs,xs,ts,rfl,hl,la,tok,ln,w0,w1,q⟩:=h
 refine ⟨_,(ai (aL (aC H_need_width (hr.mono (by lia)) rfl (ae (pv 0) ah)))
  (ai (aQ (bJ (bC (aD aJ rfl T.n_isinstance boot_isinstance (ae (pv 1) (ae (gM rfl T.n_list boot_list) ah)))))
   (aj fQ)
   aG)
  (ai (aL (aC H_place_behind (hr.mono (by lia)) rfl (ae (pv 0) (ae (pv 1) (ae ag (ae ag ah))))))
  (ai (aH (i:=2) sc_need_steps.nd rfl (Or.inl rfl) fP)
  (ai (cI PassesOwn.never rfl (bn (iO H_row_words (hr.mono (by lia)) rfl)) (bF (i:=3) sc_need_steps.nd rfl (Or.inl rfl))
   (aj (be (aN hr) (pv 2) (pv 3) ag rfl)))
  (ai (aL (aC H_count_words (hr.mono (by lia)) rfl (ae (pv 1) (ae ag (ae (pv 2) ah)))))
  (ai (aQ (au qZ (aD (ia rfl) rfl T.n_sum boot_sum (ae (eF PySem.F.plainAttrs_dict PySem.F.slot_dict_values PySem.F.type_dict_values dM (pv 2)) ah)) (qg rfl T.g_MOST_DONE) (ay _))
   (aj fQ)
   aG)
  (aj (ao (pv 2)))))))))),?_⟩
 have L1000:(1000:Nat)<=sizeLine:=by decide
 refine ⟨_,rfl,w',rfl,w0,w1,?_⟩
 refine ⟨_,rfl,_,_,_,_,_,rfl,rfl,TyOf.lst hl,rfl,_,rfl,cE ?_⟩
 refine ⟨_,rfl,_,rfl,l,w',0,0,zs,xs,ts,rfl,hl,la,tok,w0,w1,by decide,by decide,fun i H1 s1=>?_⟩
 intro d hd
 have s2:=ap hd (.dK [])
 refine ⟨rfl,fun lw hw=>?_⟩
 have g1:upd H1 d (.dK []) d = some (.dK ((cr fun _=>0).take 0)):=af
 have s3:=ap hw (.lst (rw16.map V.str))
 refine ⟨lw,rfl,⟨_,SqL.of af⟩,bT (xs:=rw16.map V.str) (fun j σ H2=>∃ y:Option V,σ = [some (.int w'),some (.ref l),some (.ref d),y]/\H2 d = some (.dK ((cr fun _=>0).take j))/\H2 lw = some (.lst (rw16.map V.str))/\Same H H2) ⟨_,rfl,s3 _ _ g1,af,s1.trans (s2.trans s3)⟩ ?_ ?_ ?_⟩
 ·rintro j σ H2 hj ⟨y,rfl,h2,hw2,ss⟩
  exact SqL.of hw2
 ·rintro j v σ H2 hv ⟨y,rfl,h2,hw2,ss⟩
  obtain ⟨rfl,j16⟩:=sF hv
  have ndl:lw ≠ d:=fun z=>by rw [z,h2] at hw2; cases hw2
  refine ⟨_,rfl,_,rfl,d,_,rfl,DPut.k (k:=.inr (wOf j)) h2 (by rw [List.length_take,bZ]; lia),?_⟩
  rw [take_cnt j16]
  exact ⟨_,rfl,af,by rw [am ndl]; exact hw2,Same.updL ss (Same.none s1 hd)⟩
 ·rintro σ H2 ⟨y,rfl,h2,hw2,ss⟩
  have h2:H2 d = some (.dK (cr fun _=>0)):=by
   rw [h2,show (rw16.map V.str).length = 16 from rfl,List.take_of_length_le (by rw [bZ]; exact Nat.le_refl _)]
  have fd:H d = none:=Same.none s1 hd
  refine ⟨_,rfl,_,rfl,H,l,d,1,w',zs,xs,ts,_,rfl,hl,la,tok,ss,fd,h2,fun H3 h3 s3'=>?_⟩
  have sm:=tf (evL 6 ts) (evL_k tok) (fun _=>0) 1
  have SS:Same H H3:=fun b o e=>s3' _ _ (aw e fd) (ss _ _ e)
  refine ⟨_,rfl,.inr (.inr (.inl ⟨rfl,.inl ⟨_,h3⟩⟩)),d,_,rfl,rfl,h3,fun rv hrv=>?_⟩
  have s4:=ap hrv (vwV rv d)
  refine ⟨rv,d,_,_,rfl,af,s4 _ _ h3,jd _,_,_,rfl,rfl,_,rfl,aI ?_ ?_⟩
  ·rw [sm,tW]
   lia
  ·exact ⟨_,rfl,q d _ fd (s4 _ _ h3) (SS.trans s4)⟩
theorem j9 {f:Addr} {fd:FuncData} (F:Fun K "check_steps" "check_steps" dZ f fd) (T:Txt K mg c) (H_need_steps:Has P w K mg base 13 "need_steps" ["width", "steps"] (jF c)):FnOk P w K mg base CX0 14 f fd ["width", "steps"] (kS c):=by
 refine F.ok kn (fun vs H Q E h=>?_) (fun cdv A outer s H vs Q E hr h=>?_)
 ·obtain ⟨l,w',zs,xs,ts,rfl,_⟩:=h
  rfl
 obtain ⟨l,w',zs,xs,ts,rfl,hl,la,tok,ln,w0,w1,q⟩:=h
 refine ⟨_,(aj (ao (aD (ia rfl) rfl T.n_sum boot_sum (ae (eF PySem.F.plainAttrs_dict PySem.F.slot_dict_values PySem.F.type_dict_values dM (aC H_need_steps (hr.mono (by lia)) rfl (ae (pv 0) (ae (pv 1) ah)))) ah)))),?_⟩
 refine ⟨_,rfl,_,rfl,l,w',zs,xs,ts,rfl,hl,la,tok,ln,w0,w1,fun d H1 hd h1 s1=>?_⟩
 refine ⟨.inr (.inr (.inl ⟨rfl,.inl ⟨_,h1⟩⟩)),d,_,rfl,rfl,h1,fun rv hrv=>?_⟩
 have s4:=ap hrv (vwV rv d)
 refine ⟨rv,d,_,_,rfl,af,s4 _ _ h1,jd _,?_⟩
 have sm:=tf (evL 6 ts) (evL_k tok) (fun _=>0) 1
 rw [sm,tW,show (0:Int) + (0 + (0 + (0 + (0 + (0 + (0 + (0 + (0 + (0 + (0 + (0 + (0 + (0 + (0 + (0 + 0))))))))))))))) + 1 * ((evL 6 ts).length:Int) = (evL 6 ts).length by lia]
 exact q _ (s1.trans s4)
theorem qz {α:Type} (f:α->List (Option Rw)) (n:Nat) (ts:List α):(TS.ev f (.turns n ts)).length = n * (1 + (ts.flatMap f).length):=by
 show (List.replicate n (none :: ts.flatMap f)).flatten.length = _
 rw [List.length_flatten,List.map_replicate,List.sum_replicate_nat,List.length_cons,Nat.add_comm]
theorem act_go {k d:Nat} (MA:∀ i,i < 15->MHas P w K mg base k (fOf c i) "act" ["self", "width", "words", "marks"] (ca c [i])) (MT:MHas P w K mg base k c.Turns "act" ["self", "width", "words", "marks"] (spN (kF c) d)) {Hs G:Hp} {x dd m:Addr} {w':Int} {zs:List Str} {t:TS (Tr d)} {kvs:List (Key × V)} {ms:List V} {ps:List (V × V)} {Q:VK} {E:XK}
  (st:StT c Hs (d + 1) x t) (ok:TOk w' zs (d + 1) t) (S:Same Hs G) (hdd:Hs dd = none) (hm:Hs m = none) (zo:ZOk zs) (w0:4<=w') (w1:w'<=32) (gd:G dd = some (.dK kvs)) (wz:Wz w' zs kvs) (gm:G m = some (.lst ms)) (pm:PrsAt G ms ps) (ln:ps.length + (evs (d + 1) t).length<=10000)
  (q:∀ ms' G',G' dd = some (.dK (bf w' kvs (rws (evs (d + 1) t))))->G' m = some (.lst ms')->PrsAt G' ms' (ps ++ bE w' kvs (rws (evs (d + 1) t)))->(∀ b o,b ≠ dd->b ≠ m->G b = some o->G' b = some o)->Q .non G') :
  ∃ (a C dx:Addr) (fs:List (Str × V)) (qs:List Str) (sp:Sp),V.ref x = .ref a/\G a = some (.ins C dx fs)/\fs.lookup ("act":Str) = none/\MHas P w K mg base k C "act" qs sp/\sp [.ref x,.int w',.ref dd,.ref m] G Q E:=by
 cases t with
 | row r =>
  have sa:StepAt c Hs x r.k r.fs:=st
  have rok:r.ok w'/\r.inZ zs:=ok
  have k15:=Rw.k15 rok.1
  have sG:=sa.same S
  obtain ⟨dx,hx,lnn⟩:=id sG
  refine ⟨x,_,dx,_,_,_,rfl,hx,nJ (by decide +kernel) k15,MA _ k15,x,dd,m,w',r,kvs,ms,rfl,List.mem_singleton.mpr rfl,sG,rok.1,w0,w1,gd,wz.wd zo,gm,(by rw [pm.1]; lia),fun G' gd' gm' sG'=>?_⟩
  have pm':PrsAt G' ms ps:=pm.same fun b ys e=>sG' _ _ (fun z=>by rw [z,gd] at e; cases e) (fun z=>by rw [z,gm] at e; cases e) e
  obtain ⟨ms',gm2,pm2⟩:=gm'.prs pm'
  refine q ms' G' gd' gm2 ?_ sG'
  rw [show bE w' kvs (rws (evs (d + 1) (.row r))) = mkL (r.mk kvs) ++ [] from rfl,List.append_nil]
  exact pm2
 | turns n us =>
  obtain ⟨ys,ta,lb⟩:∃ xs,dS c Hs x (.int (n:Int)) xs/\L2A (StT c Hs d) xs us:=st
  obtain ⟨n1,n2,ne,t100,uok⟩:1<=n/\n<=64/\us ≠ []/\us.length<=100/\∀ t ∈ us,TOk w' zs d t:=ok
  have ln':ps.length + n * (1 + (evL d us).length)<=10000:=by
   have:=qz (evs d) n us
   have ln:ps.length + (TS.ev (evs d) (.turns n us)).length<=10000:=ln
   rw [this] at ln
   exact ln
  rw [Nat.mul_add] at ln'
  obtain ⟨dx,l,hx,hl⟩:=id ta
  refine ⟨x,_,dx,_,_,_,rfl,S _ _ hx,rfl,MT,?_⟩
  cases d with
  | zero=>exact absurd tr0 ne
  | succ d=>exact ⟨Hs,x,dd,m,w',n,zs,ys,us,kvs,ms,ps,rfl,ta,lb,n2,uok,S,hdd,hm,zo,w0,w1,gd,wz,gm,pm,by lia,q⟩
theorem jc (E:List (Option Rw)) (i:Nat):(List.replicate (i + 1) E).flatten = (List.replicate i E).flatten ++ E:=by
 rw [List.replicate_succ',List.flatten_append]
 show _ ++ (E ++ []) = _
 rw [List.append_nil]
theorem rep_len (E:List (Option Rw)) (i:Nat):(List.replicate i E).flatten.length = i * E.length:=by
 rw [List.length_flatten,List.map_replicate,List.sum_replicate_nat]
theorem cZ {d:Nat} (ts:List (Tr d)) (j:Nat):(evL d (ts.take j)).length<=(evL d ts).length:=by
 have e:evL d ts = evL d (ts.take j) ++ evL d (ts.drop j):=by
  unfold evL
  rw [<- List.flatMap_append,List.take_append_drop]
 rw [e,List.length_append]
 lia
theorem m6 {f:Addr} {fd:FuncData} (F:Fun K "act" "Turns.act" gg f fd) (T:Txt K mg c) (MA:∀ k,k < 15->MHas P w K mg base 6 (fOf c k) "act" ["self", "width", "words", "marks"] (ca c [k])) {d:Nat} (MT:MHas P w K mg base (d + 6) c.Turns "act" ["self", "width", "words", "marks"] (spN (kF c) d)):FnOk P w K mg base CX0 (d + 7) f fd ["self", "width", "words", "marks"] (kF c (d + 1)):=by
 refine F.ok sc_Turns_act (fun vs H Q E h=>?_) (fun cdv A outer s H vs Q E hr h=>?_)
 ·obtain ⟨Hs,x,dd,m,w',n,zs,xs,ts,kvs,ms,ps,rfl,_⟩:=h
  rfl
 obtain ⟨Hs,x,dd,m,w',n,zs,xs,ts,kvs,ms,ps,rfl,⟨dx,l,hx,hl⟩,la,n64,tok,S,hdd,hm,zo,w0,w1,gd,wz,gm,pm,ln,q⟩:=h
 refine ⟨_,(aj (cI PassesOwn.never rfl (eN rfl T.n_range (ae (aB (pv 0) rfl) ah)) (bF (i:=4) sc_Turns_act.nd rfl (Or.inl rfl))
   (aj (cI PassesOwn.never rfl (bn (aB (pv 0) rfl)) (bF (i:=5) sc_Turns_act.nd rfl (Or.inl rfl))
    (aj (aL (fK (k:=d+6) (pv 5) (hr.mono (by lia)) (ae (pv 1) (ae (pv 2) (ae (pv 3) ah)))))))))),?_⟩
 have nd:∀ {b o},Hs b = some o->b ≠ dd/\b ≠ m:=fun {b o} e=>⟨fun z=>(by rw [z,hdd] at e; cases e),fun z=>(by rw [z,hm] at e; cases e)⟩
 have rk:=jI tok
 generalize hE:(none :: evL (d + 1) ts:List (Option Rw)) = EE at *
 refine ⟨_,rfl,x,_,dx,_,_,rfl,S _ _ hx,T.cl_Turns,T.na_Turns_times,rfl,_,rfl,by lia,by lia,eT (n:=n) (fun i σ G=>∃ (y z:Option V) (ms:List V),σ = [some (.ref x),some (.int w'),some (.ref dd),some (.ref m),y,z]/\G dd = some (.dK (bf w' kvs (rws (List.replicate i EE).flatten)))/\G m = some (.lst ms)/\PrsAt G ms (ps ++ bE w' kvs (rws (List.replicate i EE).flatten))/\(∀ b o,b ≠ dd->b ≠ m->H b = some o->G b = some o)) ⟨_,_,ms,rfl,gd,gm,(by rw [show bE w' kvs (rws (List.replicate 0 EE).flatten) = [] from rfl,List.append_nil]; exact pm),fun b o _ _ e=>e⟩ ?_ ?_⟩
 ·rintro i σ G hi ⟨y,z,ms1,rfl,gd1,gm1,pm1,kp1⟩
  have S1:Same Hs G:=fun b o e=>kp1 _ _ (nd e).1 (nd e).2 (S _ _ e)
  have wz1:Wz w' zs (bf w' kvs (rws (List.replicate i EE).flatten)):=Wz.all zo (fun r hr'=>by
   have hr':=rws_mem.mp hr'
   obtain ⟨l',hl',m'⟩:=List.mem_flatten.mp hr'
   rw [(List.mem_replicate.mp hl').2,<- hE] at m'
   rcases List.mem_cons.mp m' with z | m'
   ·cases z
   ·exact rk r (rws_mem.mpr m')) w0 w1 wz
  have pl1:(ps ++ bE w' kvs (rws (List.replicate i EE).flatten)).length + (evL (d + 1) ts).length<=10000:=by
   have a1:=dI w' (rws (List.replicate i EE).flatten) kvs
   have a2:(rws (List.replicate i EE).flatten).length<=i * (evL (d + 1) ts).length:=by
    have:rws (List.replicate i EE).flatten = (List.replicate i (rws (evL (d + 1) ts))).flatten:=by
     clear gd1 gm1 pm1 kp1 wz1 a1 hi
     induction i with
     | zero=>rfl
     | succ i ih =>
      rw [jc,cu,ih,<- hE,List.replicate_succ',List.flatten_append]
      show _ ++ rws (evL (d + 1) ts) = _ ++ (rws (evL (d + 1) ts) ++ [])
      rw [List.append_nil]
    rw [this,List.length_flatten,List.map_replicate,List.sum_replicate_nat]
    exact Nat.mul_le_mul_left _ (dY _)
   have a3:i * (evL (d + 1) ts).length + (evL (d + 1) ts).length<=n * (evL (d + 1) ts).length:=by
    rw [<- Nat.succ_mul]
    exact Nat.mul_le_mul_right _ hi
   rw [List.length_append]
   lia
  have tk:∀ es,rws (es ++ [none]) = rws es:=fun es=>by rw [cu]; exact List.append_nil _
  have act1:bf w' kvs (rws (List.replicate (i + 1) EE).flatten) = bf w' (bf w' kvs (rws (List.replicate i EE).flatten)) (rws (evL (d + 1) ts)):=by
   rw [jc,cu,fL,<- hE]
   rfl
  have mk1:bE w' kvs (rws (List.replicate (i + 1) EE).flatten) = bE w' kvs (rws (List.replicate i EE).flatten) ++ bE w' (bf w' kvs (rws (List.replicate i EE).flatten)) (rws (evL (d + 1) ts)):=by
   rw [jc,cu,eK,<- hE]
   rfl
  rw [act1,mk1,<- List.append_assoc]
  generalize bf w' kvs (rws (List.replicate i EE).flatten) = k1 at gd1 wz1 ⊢
  generalize ps ++ bE w' kvs (rws (List.replicate i EE).flatten) = p1 at pm1 pl1 ⊢
  refine ⟨_,rfl,x,_,dx,_,_,rfl,S1 _ _ hx,T.cl_Turns,T.na_Turns_steps,rfl,l,rfl,⟨_,SqL.of (S1 _ _ hl)⟩,bT (xs:=xs) (fun j σ G'=>∃ (y z:Option V) (ms:List V),σ = [some (.ref x),some (.int w'),some (.ref dd),some (.ref m),y,z]/\G' dd = some (.dK (bf w' k1 (rws (evL (d + 1) (ts.take j)))))/\G' m = some (.lst ms)/\PrsAt G' ms (p1 ++ bE w' k1 (rws (evL (d + 1) (ts.take j))))/\(∀ b o,b ≠ dd->b ≠ m->H b = some o->G' b = some o)) ⟨_,_,ms1,rfl,gd1,gm1,(by rw [show bE w' k1 (rws (evL (d + 1) (ts.take 0))) = [] from rfl,List.append_nil]; exact pm1),kp1⟩ ?_ ?_ ?_⟩
  ·rintro j σ G' hj ⟨y,z,ms,rfl,gd2,gm2,pm2,kp2⟩
   exact SqL.of (kp2 _ _ (nd hl).1 (nd hl).2 (S _ _ hl))
  ·rintro j v σ G' hv ⟨y,z,ms2,rfl,gd2,gm2,pm2,kp2⟩
   obtain ⟨x',t,rfl,et,st⟩:=la.get hv
   have S2:Same Hs G':=fun b o e=>kp2 _ _ (nd e).1 (nd e).2 (S _ _ e)
   have wz2:Wz w' zs (bf w' k1 (rws (evL (d + 1) (ts.take j)))):=Wz.all zo (jI fun t ht=>tok t (List.mem_of_mem_take ht)) w0 w1 wz1
   have pl2:(p1 ++ bE w' k1 (rws (evL (d + 1) (ts.take j)))).length + (evs (d + 1) t).length<=10000:=by
    have a1:=dI w' (rws (evL (d + 1) (ts.take j))) k1
    have a2:=dY (evL (d + 1) (ts.take j))
    have a3:=cZ ts (j + 1)
    rw [cL et,List.length_append] at a3
    rw [List.length_append]
    lia
   rw [cL et,cu,fL,eK,<- List.append_assoc]
   generalize bf w' k1 (rws (evL (d + 1) (ts.take j))) = k2 at gd2 wz2 ⊢
   generalize p1 ++ bE w' k1 (rws (evL (d + 1) (ts.take j))) = p2 at pm2 pl2 ⊢
   obtain ⟨a',C',dx',fs',qs',sp',e1,e2,e3,e4,e5⟩:=act_go (E:=E0) (fun i hi=>(MA i hi).mono (show 6<=d + 6 by lia)) MT st (tok t (List.mem_of_getElem? et)) S2 hdd hm zo w0 w1 gd2 wz2 gm2 pm2 pl2 (Q:=fun _ G3=>∃ (y' z':Option V) (ms:List V),[some (V.ref x),some (.int w'),some (.ref dd),some (.ref m),y,some (.ref x')] = [some (V.ref x),some (.int w'),some (.ref dd),some (.ref m),y',z']/\G3 dd = some (.dK (bf w' k2 (rws (evs (d + 1) t))))/\G3 m = some (.lst ms)/\PrsAt G3 ms (p2 ++ bE w' k2 (rws (evs (d + 1) t)))/\(∀ b o,b ≠ dd->b ≠ m->H b = some o->G3 b = some o)) (fun ms' G3 g1 g2 g3 g4=>⟨y,_,ms',rfl,g1,g2,g3,fun b o n1 n2 e=>g4 b o n1 n2 (kp2 b o n1 n2 e)⟩)
   exact ⟨_,rfl,a',C',dx',fs',qs',sp',e1,e2,e3,e4,_,rfl,_,rfl,_,rfl,e5⟩
  ·rintro σ G' ⟨y,z,ms,rfl,gd2,gm2,pm2,kp2⟩
   rw [la.1,List.take_length] at gd2 pm2
   exact ⟨_,_,ms,rfl,gd2,gm2,pm2,kp2⟩
 ·rintro σ G ⟨y,z,ms1,rfl,gd1,gm1,pm1,kp1⟩
  rw [<- hE] at gd1 pm1
  exact q ms1 G gd1 gm1 pm1 kp1
theorem mz {f:Addr} {fd:FuncData} (F:Fun K "run_steps" "run_steps" gS f fd) (T:Txt K mg c) (H_need_steps:Has P w K mg base 13 "need_steps" ["width", "steps"] (jF c)) (H_need_registers:Has P w K mg base 4 "need_registers" ["width", "registers"] ou) (MA:∀ k,k < 15->MHas P w K mg base 6 (fOf c k) "act" ["self", "width", "words", "marks"] (ca c [k])) (MT:MHas P w K mg base 12 c.Turns "act" ["self", "width", "words", "marks"] (spN (kF c) 5)):FnOk P w K mg base CX0 14 f fd ["width", "steps", "registers"] (sZ c):=by
 refine F.ok sc_run_steps (fun vs H Q E h=>?_) (fun cdv A outer s H vs Q E hr h=>?_)
 ·obtain ⟨l,d,w',zs,xs,ts,kvs,rfl,_⟩:=h
  rfl
 obtain ⟨l,d,w',zs,xs,ts,kvs,rfl,hl,la,tok,ln,zo,w0,w1,hd,wz,q⟩:=h
 refine ⟨_,(ai (aH (i:=3) sc_run_steps.nd rfl (Or.inl rfl) (aC H_need_steps (hr.mono (by lia)) rfl (ae (pv 0) (ae (pv 1) ah))))
  (ai (aL (aC H_need_registers (hr.mono (by lia)) rfl (ae (pv 0) (ae (pv 2) ah))))
  (ai (aH (i:=4) sc_run_steps.nd rfl (Or.inl rfl) (bh hI rfl T.n_dict boot_dict (ae (pv 2) ah)))
  (ai (aH (i:=5) sc_run_steps.nd rfl (Or.inl rfl) (bt ah))
  (ai (cI PassesOwn.never rfl (bn (pv 1)) (bF (i:=6) sc_run_steps.nd rfl (Or.inl rfl))
   (aj (aL (fK (k:=12) (pv 6) (hr.mono (by lia)) (ae (pv 0) (ae (pv 4) (ae (pv 5) ah)))))))
  (aj (ao (bK (ae (pv 4) (ae (pv 5) (ae (pv 3) ah))))))))))),?_⟩
 refine ⟨_,rfl,_,rfl,l,w',zs,xs,ts,rfl,hl,la,tok,ln,w0,w1,fun cn H1 hcn h1 s1=>?_⟩
 refine ⟨_,rfl,_,rfl,d,w',kvs,rfl,s1 _ _ hd,wz.wd zo,w0,w1,fun H2 s2=>?_⟩
 have S2:=s1.trans s2
 refine ⟨_,rfl,d,kvs,rfl,S2 _ _ hd,fun dw hdw=>?_⟩
 obtain ⟨G3,e3,s3,f3⟩:=dL hdw (.dK kvs)
 rw [e3]
 refine ⟨(by show 0<=sizeLine; decide),fun m hm=>?_⟩
 obtain ⟨G4,e4,s4,f4⟩:=dL hm (.lst [])
 rw [e4]
 have S4:=(S2.trans s3).trans s4
 have ncd:cn ≠ dw:=fun z=>by rw [<- z,s2 _ _ h1] at hdw; cases hdw
 have ncm:cn ≠ m:=fun z=>by rw [<- z,s3 _ _ (s2 _ _ h1)] at hm; cases hm
 have fdw:H dw = none:=Same.none S2 hdw
 have fm:H m = none:=Same.none (S2.trans s3) hm
 refine ⟨_,rfl,l,rfl,⟨_,SqL.of (S4 _ _ hl)⟩,bT (xs:=xs) (fun j σ G=>∃ (y:Option V) (ms:List V),σ = [some (.int w'),some (.ref l),some (.ref d),some (.ref cn),some (.ref dw),some (.ref m),y]/\Same H G/\G cn = some (.dK (cr (n6 (fun _=>0) 1 (evL 6 ts))))/\G dw = some (.dK (bf w' kvs (rws (evL 6 (ts.take j)))))/\G m = some (.lst ms)/\PrsAt G ms (bE w' kvs (rws (evL 6 (ts.take j))))) ⟨_,[],rfl,S4,s4 _ _ (s3 _ _ (s2 _ _ h1)),s4 _ _ f3,f4,PrsAt.nil⟩ ?_ ?_ ?_⟩
 ·rintro j σ G hj ⟨y,ms,rfl,SG,hc,_⟩
  exact SqL.of (SG _ _ hl)
 ·rintro j v σ G hv ⟨y,ms,rfl,SG,hc,gd,gm,pm⟩
  obtain ⟨x',t,rfl,et,st⟩:=la.get hv
  have wz2:Wz w' zs (bf w' kvs (rws (evL 6 (ts.take j)))):=Wz.all zo (jI fun t ht=>tok t (List.mem_of_mem_take ht)) w0 w1 wz
  have pl2:(bE w' kvs (rws (evL 6 (ts.take j)))).length + (evs 6 t).length<=10000:=by
   have a1:=dI w' (rws (evL 6 (ts.take j))) kvs
   have a2:=dY (evL 6 (ts.take j))
   have a3:=cZ ts (j + 1)
   rw [cL et,List.length_append] at a3
   lia
  rw [cL et,cu,fL,eK]
  generalize bf w' kvs (rws (evL 6 (ts.take j))) = k2 at gd wz2 ⊢
  generalize bE w' kvs (rws (evL 6 (ts.take j))) = p2 at pm pl2 ⊢
  obtain ⟨a',C',dx',fs',qs',sp',e1,e2,e3,e4,e5⟩:=act_go (E:=E0) (fun i hi=>(MA i hi).mono (show 6<=12 by decide)) MT st (tok t (List.mem_of_getElem? et)) SG fdw fm zo w0 w1 gd wz2 gm pm pl2 (Q:=fun _ G3=>∃ (y:Option V) (ms:List V),[some (V.int w'),some (.ref l),some (.ref d),some (.ref cn),some (.ref dw),some (.ref m),some (.ref x')] = [some (V.int w'),some (.ref l),some (.ref d),some (.ref cn),some (.ref dw),some (.ref m),y]/\Same H G3/\G3 cn = some (.dK (cr (n6 (fun _=>0) 1 (evL 6 ts))))/\G3 dw = some (.dK (bf w' k2 (rws (evs 6 t))))/\G3 m = some (.lst ms)/\PrsAt G3 ms (p2 ++ bE w' k2 (rws (evs 6 t)))) (fun ms' G3 g1 g2 g3 g4=>⟨_,ms',rfl,fun b o e=>g4 b o (aw e fdw) (aw e fm) (SG _ _ e),g4 _ _ ncd ncm hc,g1,g2,g3⟩)
  exact ⟨_,rfl,a',C',dx',fs',qs',sp',e1,e2,e3,e4,_,rfl,_,rfl,_,rfl,e5⟩
 ·rintro σ G ⟨y,ms,rfl,SG,hc,gd,gm,pm⟩
  rw [la.1,List.take_length] at gd pm
  refine ⟨_,rfl,_,rfl,_,rfl,(by show 3<=sizeLine; decide),fun t ht=>?_⟩
  have s5:=ap ht (.tup [.ref dw,.ref m,.ref cn])
  exact q t dw m cn ms _ af (s5 _ _ gd) (s5 _ _ gm) (pm.same fun b ys e=>s5 _ _ e) (s5 _ _ hc) fdw fm hcn (SG.trans s5)
def fz (H:Hp) (a:Addr):Hp:=fun b=>if b = a then none else H b
theorem bx {H:Hp} {a b:Addr} (h:b ≠ a):fz H a b = H b:=if_neg h
theorem lx {H:Hp} {a:Addr} {o:HO}:fz (upd H a o) a = fz H a:=funext fun b=>by
 unfold fz
 split
 ·rfl
 ·rename_i c; rw [am c]
theorem dg {H:Hp} {a:Addr}:Same (fz H a) H:=fun b o e=>by
 unfold fz at e
 split at e
 ·cases e
 ·exact e
theorem eP {H H':Hp} {a:Addr} (s:Same H H'):Same (fz H a) (fz H' a):=fun b o e=>by
 unfold fz at e ⊢
 split at e
 ·cases e
 ·rename_i c; rw [if_neg c]; exact s _ _ e
def j6 (H H':Hp):Hp:=fun b=>match H b with
 | none=>H' b
 | some _=>none
theorem de {H H':Hp} {b:Addr} (h:H b = none):j6 H H' b = H' b:=by unfold j6; rw [h]
theorem fg {H H':Hp} {b:Addr} {o:HO} (e:j6 H H' b = some o):H b = none/\H' b = some o:=by
 unfold j6 at e
 split at e
 ·rename_i h; exact ⟨h,e⟩
 ·cases e
theorem hV {H H1 H2:Hp} (s:Same H1 H2):Same (j6 H H1) (j6 H H2):=fun b o e=>by
 obtain ⟨h,e⟩:=fg e
 rw [de h]; exact s _ _ e
theorem sP {H H1 G:Hp} {D:Addr} {o:HO} (s:Same H H1) (hD:H1 D = some o):Same (j6 H1 G) (fz (j6 H G) D):=fun b o' e=>by
 obtain ⟨h,e⟩:=fg e
 have n:b ≠ D:=fun z=>by rw [z,hD] at h; cases h
 rw [bx n,de (Same.none s h)]; exact e
def iF (c:Ad) (d:Nat):Sp:=fun vs H Q _=>∃ (x:Addr) (w:Int) (zs:List Str) (n:Nat) (xs:List V) (ts:List (Tr d)),vs = [.ref x]/\dS c H x (.int (n:Int)) xs/\L2A (StT c H d) xs ts/\ts.length<=100/\(∀ t ∈ ts,TOk w zs d t)/\∀ (r L:Addr) (ys:List V) H',H r = none->H L = none->H' r = some (.tup [.str "turns",.int (n:Int),.ref L])->H' L = some (.lst ys)->L2A (TpT (j6 H H') d) ys ts->Same H H'->Q (.ref r) H'
theorem rK {k d:Nat} (MT:∀ i,i < 15->MHas P w K mg base k (fOf c i) "told" ["self"] (bo c [i])) (MU:MHas P w K mg base k c.Turns "told" ["self"] (spN (iF c) d)) {G:Hp} {x:Addr} {w':Int} {zs:List Str} {t:TS (Tr d)} {Q:VK} {E:XK}
  (st:StT c G (d + 1) x t) (ok:TOk w' zs (d + 1) t) (q:∀ r G',G r = none->TpT (j6 G G') (d + 1) r t->Same G G'->Q (.ref r) G') :
  ∃ (a C dx:Addr) (fs:List (Str × V)) (qs:List Str) (sp:Sp),V.ref x = .ref a/\G a = some (.ins C dx fs)/\fs.lookup ("told":Str) = none/\MHas P w K mg base k C "told" qs sp/\sp [.ref x] G Q E:=by
 cases t with
 | row r =>
  have sa:StepAt c G x r.k r.fs:=st
  have rok:r.ok w'/\r.inZ zs:=ok
  have k15:=Rw.k15 rok.1
  obtain ⟨dx,hx,lnn⟩:=id sa
  exact ⟨x,_,dx,_,_,_,rfl,hx,nJ (by decide +kernel) k15,MT _ k15,x,_,_,rfl,List.mem_singleton.mpr rfl,sa,fun r' hr'=>q r' _ hr' (by show j6 _ _ _ = _; rw [de hr']; exact af) (ap hr' _)⟩
 | turns n us =>
  obtain ⟨ys,ta,lb⟩:∃ xs,dS c G x (.int (n:Int)) xs/\L2A (StT c G d) xs us:=st
  obtain ⟨n1,n2,ne,t100,uok⟩:1<=n/\n<=64/\us ≠ []/\us.length<=100/\∀ t ∈ us,TOk w' zs d t:=ok
  obtain ⟨dx,l,hx,hl⟩:=id ta
  refine ⟨x,_,dx,_,_,_,rfl,hx,rfl,MU,?_⟩
  cases d with
  | zero=>exact absurd tr0 ne
  | succ d=>exact ⟨x,w',zs,n,ys,us,rfl,ta,lb,t100,uok,fun r L ys' G' hr hL h1 h2 h3 s=>q r G' hr ⟨L,ys',(de hr).trans h1,(de hL).trans h2,h3⟩ s⟩
theorem lL {f:Addr} {fd:FuncData} (F:Fun K "told" "Turns.told" fh f fd) (T:Txt K mg c) (MT:∀ k,k < 15->MHas P w K mg base 2 (fOf c k) "told" ["self"] (bo c [k])) {d:Nat} (MU:MHas P w K mg base (d + 2) c.Turns "told" ["self"] (spN (iF c) d)):FnOk P w K mg base CX0 (d + 3) f fd ["self"] (iF c (d + 1)):=by
 refine F.ok md (fun vs H Q E h=>?_) (fun cdv A outer s H vs Q E hr h=>?_)
 ·obtain ⟨x,w',zs,n,xs,ts,rfl,_⟩:=h
  rfl
 obtain ⟨x,w',zs,n,xs,ts,rfl,⟨dx,l,hx,hl⟩,la,ln,tok,q⟩:=h
 refine ⟨_,(aj (ao (bK (ae ar (ae (aB (pv 0) rfl) (ae (cY rfl (by first | rfl | with_unfolding_all rfl) (by decide +kernel) rfl (by decide +kernel) rfl (bn (aB (pv 0) rfl)) (fun C s2 H2 fp=>(nF (k:=d+2) (P:=P) (w:=w) (K:=K) (mg:=mg) (base:=base) rfl rfl rfl rfl rfl (pv 0) (hr.mono (by lia))))) ah)))))),?_⟩
 have L1000:(1000:Nat)<=sizeLine:=by decide
 refine ⟨_,rfl,x,_,dx,_,_,rfl,hx,T.cl_Turns,T.na_Turns_times,rfl,?_⟩
 refine ⟨_,rfl,x,_,dx,_,_,rfl,hx,T.cl_Turns,T.na_Turns_steps,rfl,?_⟩
 refine ⟨l,rfl,⟨_,SqL.of hl⟩,fun D hD=>?_⟩
 refine bN (xs:=xs) (fun j HJ=>∃ ys,HJ D = some (.lst ys)/\L2A (TpT (fz (j6 H HJ) D) (d + 1)) ys (ts.take j)/\Same H HJ) ⟨[],af,L2A.nil,ap hD _⟩ ?_ ?_ ?_
 ·rintro j HJ hj ⟨ys,hy,ta,sJ⟩
  exact SqL.of (sJ _ _ hl)
 ·rintro j v HJ hv ⟨ys,hy,ta,sJ⟩
  obtain ⟨x',t,rfl,et,st⟩:=la.get hv
  have jl:=(List.getElem?_eq_some_iff.mp hv).1
  have yl:ys.length = j:=by rw [ta.1,List.length_take]; have:=la.1; lia
  have ty:j < 100:=by have:=la.1; lia
  obtain ⟨a',C',dx',fs',qs',sp',e1,e2,e3,e4,e5⟩:=rK (E:=E0) (fun i hi=>(MT i hi).mono (show 2<=d + 2 by lia)) MU (st.same sJ) (tok t (List.mem_of_getElem? et)) (Q:=fun y H2=>∃ zs',H2 D = some (.lst zs')/\zs'.length < sizeLine/\∃ m',m' < xs.length - j/\m' = xs.length - (j + 1)/\j + 1<=xs.length/\∃ ys_1,upd H2 D (.lst (zs' ++ [y])) D = some (.lst ys_1)/\L2A (TpT (fz (j6 H (upd H2 D (.lst (zs' ++ [y])))) D) (d + 1)) ys_1 (ts.take (j + 1))/\Same H (upd H2 D (.lst (zs' ++ [y])))) (fun r G' hr' tp s1=>by
   refine ⟨ys,s1 _ _ hy,by lia,_,(show xs.length - (j + 1) < xs.length - j by lia),rfl,(by lia),ys ++ [.ref r],af,?_,Same.updL (sJ.trans s1) hD⟩
   rw [dJ et]
   have eh:fz (j6 H (upd G' D (.lst (ys ++ [.ref r])))) D = fz (j6 H G') D:=funext fun b=>by
    by_cases n:b = D
    ·unfold fz; rw [if_pos n,if_pos n]
    ·rw [bx n,bx n]
     unfold j6
     rw [am n]
   rw [eh]
   exact (ta.mono fun _ _ _ k=>k.same (eP (hV s1))).app (L2A.one (tp.same (sP sJ hy))))
  exact ⟨_,rfl,a',C',dx',fs',qs',sp',e1,e2,e3,e4,e5⟩
 ·rintro HJ ⟨ys,hy,ta,sJ⟩
  refine ⟨(by show 3<=sizeLine; decide),fun r hr'=>?_⟩
  have s1:=ap hr' (.tup [.str "turns",.int (n:Int),.ref D])
  rw [la.1,List.take_length] at ta
  exact q r D ys _ (Same.none sJ hr') hD af (s1 _ _ hy) (ta.mono fun _ _ _ k=>(k.same dg).same (hV s1)) (sJ.trans s1)
theorem cnt_at {cf:Nat->Int} {j:Nat} {kv:Key × V} (h:(cr cf)[j]? = some kv):j < 16/\kv = (.inr (wOf j),.int (cf j)):=by
 unfold cr at h
 rw [List.getElem?_map] at h
 by_cases c:j < 16
 ·rw [List.getElem?_range c] at h
  cases h
  exact ⟨c,rfl⟩
 ·rw [List.getElem?_eq_none (by rw [List.length_range]; lia)] at h
  cases h
def prV (kvs:List (Key × V)) (i:Nat):V:=(cX kvs (.inr (wOf i))).getD .non
def prI (kvs:List (Key × V)) (i:Nat):Int:=match prV kvs i with
 | .int n=>n
 | _=>0
theorem prI_of {kvs:List (Key × V)} {i:Nat} {a b:Int} (h:btw (prV kvs i) a b = true):prV kvs i = .int (prI kvs i):=by
 unfold prI
 cases e:prV kvs i with
 | int n=>rfl
 | _=>rw [e] at h; cases h
theorem prI_rg {kvs:List (Key × V)} {i:Nat} {a b:Int} (h:btw (prV kvs i) a b = true):a<=prI kvs i/\prI kvs i<=b:=by
 rw [prI_of h] at h
 have h:(decide (a<=prI kvs i) && decide (prI kvs i<=b)) = true:=h
 rw [Bool.and_eq_true] at h
 exact ⟨of_decide_eq_true h.1,of_decide_eq_true h.2⟩
theorem mH {f:Nat->Int} {j:Nat} (h:j < 16):cp ((cr f).take j) (.inr (wOf j)) (.int (f j)) = (cr f).take (j + 1):=by
 rw [fR]
 ·rw [List.take_add_one]
  unfold cr
  rw [List.getElem?_map,List.getElem?_range h]
  rfl
 ·cases e:cX ((cr f).take j) (.inr (wOf j)) with
  | none=>rfl
  | some v =>
   have m:=fO e
   obtain ⟨i,hi⟩:=List.mem_iff_getElem?.mp m
   rw [List.getElem?_take] at hi
   split at hi
   ·rename_i c
    unfold cr at hi
    rw [List.getElem?_map,List.getElem?_range (by lia)] at hi
    have hi:(some (Sum.inr (wOf i),V.int (f i)):Option (Key × V)) = some (Sum.inr (wOf j),v):=hi
    injection hi with hi
    have h1:=congrArg Prod.fst hi
    have:=rG (show i < 16 by lia) h (by injection h1 with h1; rw [h1])
    lia
   ·cases hi
def qd (kvs:List (Key × V)):Prop:=∀ i,i < 16->btw (prV kvs i) 0 1000 = true
def BadPr (kvs:List (Key × V)):Prop:=∃ i,i < 16/\btw (prV kvs i) 0 1000 = false
theorem qy {kvs:List (Key × V)} (h:BadPr kvs) (g:qd kvs):False:=by
 obtain ⟨i,hi,e⟩:=h
 rw [g i hi] at e; cases e
def spNPT (c:Ad):Sp:=fun vs H Q E=>∃ (a:Addr) (kvs:List (Key × V)),vs = [.ref a]/\H a = some (.dK kvs)/\(∀ i,i < 16->Th H (prV kvs i))/\(qd kvs->∀ t H',H t = none->H' t = some (.dK (cr (prI kvs)))->Same H H'->Q (.ref t) H')/\(BadPr kvs->∀ d H',H' d = some (.xd [("found",.ref a)])->Same H H'->E (.ref c.NoPrices) (some d) H')
theorem oF (K:Frag):kitOne K (.type "dict") (.type "dict") = some true:=by with_unfolding_all rfl
theorem kA {f:Addr} {fd:FuncData} (F:Fun K "need_prices" "need_prices" eg f fd) (T:Txt K mg c) (H_is_between:Has P w K mg base 2 "is_between" ["thing", "low", "high"] qh) (X_NoPrices:XHas P w K mg base 1 "NoPrices" c.NoPrices "found"):FnOk P w K mg base (CX2 P w base) 3 f fd ["prices"] (spNPT c):=by
 refine Fun.okY F sc_need_prices (fun vs H Q E h=>?_) (fun cdv A outer s H vs Q E hr h=>?_)
 ·obtain ⟨a,kvs,rfl,_⟩:=h
  rfl
 obtain ⟨a,kvs,rfl,h,th,qv,qe⟩:=h
 refine ⟨_,(ai (aQ (bJ (bC (aD aJ rfl T.n_isinstance boot_isinstance (ae (pv 0) (ae (gM rfl T.n_dict boot_dict) ah)))))
   (aj (nQ X_NoPrices (hr.mono (by lia)) rfl (ae (pv 0) ah)))
   aG)
  (ai (aH (i:=1) sc_need_prices.nd rfl (Or.inl rfl) fP)
  (ai (cI PassesOwn.leaving rfl (pi_tup (iS rfl T.g_ROW_WORDS)) (bF (i:=2) sc_need_prices.nd rfl (Or.inl rfl))
   (ai (aH (i:=3) sc_need_prices.nd rfl (Or.inl rfl) (pe_dget1 (aN hr) (pv 0) (pv 2) ⟨rfl,rfl,rfl,rfl⟩))
   (ai (aQ (bJ (bC (aC H_is_between (hr.mono (by lia)) rfl (ae (pv 3) (ae ag (ae ag ah))))))
    (aj (nQ X_NoPrices (hr.mono (by lia)) rfl (ae (pv 0) ah)))
    aG)
   (aj (be (aN hr) (pv 1) (pv 2) (pv 3) rfl)))))
  (aj (ao (pv 1)))))),?_⟩
 refine ⟨_,rfl,_,_,_,_,_,rfl,rfl,TyOf.dK h,oF _,_,rfl,cE ?_⟩
 refine fun t ht=>⟨_,rfl,⟨_,T.q_ROW_WORDS _⟩,for_tup (xs:=rw16.map V.str) (fun i σ H2=>∃ x2 x3,σ = [some (.ref a),some (.ref t),x2,x3]/\H2 t = some (.dK ((cr (prI kvs)).take i))/\(∀ j,j < i->btw (prV kvs j) 0 1000 = true)/\Same H H2) ⟨_,_,rfl,af,(fun j hj=>nomatch hj),ap ht _⟩ (fun i σ H2 _ _=>T.q_ROW_WORDS _) ?_ ?_⟩
 ·rintro i y σ H2 hy ⟨x2,x3,rfl,t2,al,s2⟩
  obtain ⟨rfl,hi⟩:=sF hy
  have h2:=s2 _ _ h
  refine ⟨_,rfl,a,rfl,.inl ⟨kvs,.inl h2⟩,_,rfl,_,DGet.k (k:=.inr (wOf i)) h2,?_⟩
  refine ⟨_,rfl,_,_,_,rfl,(th i hi).same s2,_,rfl,?_⟩
  cases hb:btw (prV kvs i) 0 1000 with
  | false =>
   have hb':=hb
   unfold prV at hb
   rw [hb]
   exact eG ⟨_,rfl,_,rfl,fun d hd=>qe ⟨i,hi,hb'⟩ d _ af (s2.trans (ap hd _))⟩
  | true =>
   have en:=prI_of hb
   have hb':=hb
   unfold prV at hb en
   rw [hb]
   refine cE ?_
   rw [en]
   refine ⟨_,rfl,_,rfl,_,rfl,t,_,rfl,DPut.k (k:=.inr (wOf i)) t2 (by rw [List.length_take,bZ]; exact Nat.lt_of_le_of_lt (Nat.min_le_right _ _) (by decide)),?_⟩
   rw [mH hi]
   refine ⟨_,_,rfl,af,fun j hj=>?_,Same.updL s2 ht⟩
   by_cases z:j = i
   ·rw [z]; exact hb'
   ·exact al j (by lia)
 ·rintro σ H2 ⟨x2,x3,rfl,t2,al,s2⟩
  rw [show (rw16.map V.str).length = 16 from rfl,List.take_of_length_le (by rw [bZ]; exact Nat.le_refl _)] at t2
  exact ⟨_,rfl,qv (fun i hi=>al i hi) t H2 ht t2 s2⟩
def nX (es:List (Option Rw)) (pf:Nat->Int):Int:=((List.range 16).map fun i=>(cC es i:Int) * pf i).sum
def qj (c:Ad):Sp:=fun vs H Q E=>∃ (l a:Addr) (w:Int) (zs:List Str) (xs:List V) (ts:List (Tr 6)) (kvs:List (Key × V)),vs = [.int w,.ref l,.ref a]/\H l = some (.lst xs)/\L2A (StT c H 6) xs ts/\(∀ t ∈ ts,TOk w zs 6 t)/\(evL 6 ts).length<=10000/\4<=w/\w<=32/\H a = some (.dK kvs)/\(∀ i,i < 16->Th H (prV kvs i))/\(qd kvs->∀ H',Same H H'->Q (.int (nX (evL 6 ts) (prI kvs))) H')/\(BadPr kvs->∀ d H',H' d = some (.xd [("found",.ref a)])->Same H H'->E (.ref c.NoPrices) (some d) H')
theorem rj {f:Addr} {fd:FuncData} (F:Fun K "cost_of" "cost_of" hU f fd) (T:Txt K mg c) (H_need_steps:Has P w K mg base 13 "need_steps" ["width", "steps"] (jF c)) (H_need_prices:HasY P w K mg base 3 "need_prices" ["prices"] (spNPT c)):FnOk P w K mg base (CX2 P w base) 14 f fd ["width", "steps", "prices"] (qj c):=by
 refine Fun.okY F sc_cost_of (fun vs H Q E h=>?_) (fun cdv A outer s H vs Q E hr h=>?_)
 ·obtain ⟨l,a,w',zs,xs,ts,kvs,rfl,_⟩:=h
  rfl
 obtain ⟨l,a,w',zs,xs,ts,kvs,rfl,hl,la,tok,ln,w0,w1,ha,th,qv,qe⟩:=h
 refine ⟨_,(ai (aH (i:=3) sc_cost_of.nd rfl (Or.inr rfl) (aC H_need_steps (hr.mono (by lia)) rfl (ae (pv 0) (ae (pv 1) ah))))
  (ai (aH (i:=4) sc_cost_of.nd rfl (Or.inr rfl) (pe_fnYX H_need_prices (hr.mono (by lia)) rfl (ae (pv 2) ah)))
  (aj (ao (aD (qt rfl) rfl T.n_sum boot_sum (ae (pe_thaw (kY [4,3] ["table", "counts"] rfl (by first | rfl | with_unfolding_all rfl) (by rfl) (by exact (List.forall_mem_cons.mpr ⟨rfl,(List.forall_mem_cons.mpr ⟨rfl,(fun _ h=>nomatch h)⟩)⟩)) (by decide +kernel) rfl (by decide +kernel) rfl (by decide +kernel) (by exact (List.forall_mem_cons.mpr ⟨⟨by first | exact Or.inl rfl | exact Or.inr rfl,rfl⟩,(List.forall_mem_cons.mpr ⟨⟨by first | exact Or.inl rfl | exact Or.inr rfl,rfl⟩,(fun _ h=>nomatch h)⟩)⟩)) rfl (by rfl) (tF (pv 3)) (fun C s2 H2 fp=>(aE cG (jT (aN hr) (pv 2) (pv 0) (fun _ _=>rfl)) (jT (aN hr) (pv 1) (pv 0) (fun _ _=>rfl)))))) ah)))))),?_⟩
 refine ⟨_,rfl,_,rfl,l,w',zs,xs,ts,rfl,hl,la,tok,ln,w0,w1,fun cn H1 hcn h1 s1=>?_⟩
 refine ⟨_,rfl,a,kvs,rfl,s1 _ _ ha,(fun i hi=>(th i hi).same s1),fun g t H2 ht h2 s2=>?_,fun b d H2 hd s2=>qe b d H2 hd (s1.trans s2)⟩
 have hcn2:=s2 _ _ h1
 generalize hcf:n6 (fun _=>0) 1 (evL 6 ts) = cf at *
 refine ⟨_,rfl,cn,_,rfl,hcn2,fun o D hD=>?_⟩
 have nD:D ≠ cn:=fun e=>by rw [e,af] at hD; cases hD
 have nt:t ≠ cn:=fun e=>by rw [e,h1] at ht; cases ht
 refine si (fun i HI=>HI D = some (.lst (((List.range i).map fun i=>cf i * prI kvs i).map V.int))/\HI cn = some (.frz o (.dK (cr cf)))/\HI t = some (.dK (cr (prI kvs)))/\Same (upd H2 cn (.frz o (.dK (cr cf)))) HI) ⟨af,(by rw [am (Ne.symm nD),af]),(by rw [am (fun z=>by rw [<- z,am nt,h2] at hD; cases hD),am nt]; exact h2),ap hD _⟩ (fun i HI _ ⟨_,h,_⟩=>h) ?_ ?_
 ·rintro i kv HI hi hk ⟨hA,hc,ht2,sI⟩
  obtain ⟨i16,rfl⟩:=cnt_at hk
  have ntD:t ≠ D:=fun z=>by rw [z,hA] at ht2; cases ht2
  refine ⟨_,rfl,_,rfl,cn,_,rfl,.inl ⟨_,.inr (wOf i),.inr ⟨o,hc⟩,rfl,(ik i16).symm⟩,?_⟩
  have pg:=prI_rg (g i i16)
  refine ⟨_,rfl,_,rfl,t,_,rfl,.inl ⟨_,.inr (wOf i),.inl ht2,rfl,(ik i16).symm⟩,_,_,rfl,rfl,.inr ⟨by lia,by lia⟩,?_⟩
  refine ⟨_,hA,(by rw [List.length_map,List.length_map,List.length_range]; exact Nat.lt_trans i16 (by decide)),_,(show (cr cf).length - (i + 1) < (cr cf).length - i by rw [bZ]; lia),rfl,hi,?_,?_,?_,Same.updL sI hD⟩
  ·rw [af,List.range_succ,List.map_append,List.map_append]
   rfl
  ·rw [am (Ne.symm nD)]; exact hc
  ·rw [am ntD]; exact ht2
 rintro H5 ⟨hA,hc,ht5,s5⟩
 refine ⟨cn,o,_,hc,(fun o u z=>by rw [show (ig (CX2 P w base) P w K mg base ["width", "steps", "prices", "counts", "table"] "cost_of" (ak hU) f cdv A outer s H E).H₀ = H from rfl,hcn] at z; cases z),?_⟩
 rw [bZ] at hA
 refine ⟨D,_,rfl,SqL.of (by rw [am nD]; exact hA),?_⟩
 have ec:((List.range 16).map fun i=>cf i * prI kvs i).sum = nX (evL 6 ts) (prI kvs):=by
  unfold nX
  rw [<- hcf]
  refine congrArg List.sum (List.map_congr_left fun i _=>?_)
  show ((0:Int) + 1 * _) * _ = _
  rw [Int.zero_add,Int.one_mul]
 rw [ec]
 refine qv g _ fun b o' e=>?_
 have nb:b ≠ cn:=fun z=>by rw [z,hcn] at e; cases e
 rw [am nb]
 exact s5 _ _ (by rw [am nb]; exact s2 _ _ (s1 _ _ e))
theorem nh {f:Addr} {fd:FuncData} (F:Fun K "_law_cell" "_law_cell" gG f fd) (T:Txt K mg c) :FnOk P w K mg base CX0 1 f fd ["_law_script", "_law_k"] (qA K):=by
 refine F.ok sc__law_cell (fun vs H Q E h=>?_) (fun cdv A outer s H vs Q E hr h=>?_)
 ·obtain ⟨a,ns,k,rfl,_⟩:=h
  rfl
 obtain ⟨a,ns,k,rfl,hS,h0,h1,q⟩:=h
 refine ⟨_,(ai (aQ (au kr (pv 1) (aD aW rfl T.n_len boot_len (ae (pv 0) ah)) (ay _))
   (aj (ao (av aK (pv 0) (pv 1) (fun _ _=>rfl))))
   aG)
  (ai (aH (i:=2) sc__law_cell.nd rfl (Or.inl rfl) (aE bY (aE cG (pv 1) ag) ag))
  (ai (aQ (au qZ (aD aW rfl T.n_len boot_len (ae (pv 0) ah)) ag (ay _))
   (aj (aH (i:=2) sc__law_cell.nd rfl (Or.inl rfl) (aE bM (aE bY (aE cG (av aK (pv 0) (aE bM (aE cG (pv 1) ag) (aD aW rfl T.n_len boot_len (ae (pv 0) ah))) (fun _ _=>rfl)) ag) (aE cG (pv 1) ag)) ag)))
   aG)
  (aj (ao (aE bM (aE cG (pv 2) (pv 2)) ag)))))),?_⟩
 have hl:(ns.map V.int).length = ns.length:=List.length_map _
 refine ⟨_,rfl,_,rfl,a,_,rfl,.inl hS,_,_,rfl,rfl,_,rfl,?_⟩
 by_cases hc:k < (((ns.map V.int).length:Nat):Int)
 ·refine bP hc ?_
  rw [hl] at hc
  have e:k = ((k.toNat:Nat):Int):=by lia
  have g:=getI ns k.toNat (by lia)
  rw [<- e] at g
  exact ⟨_,rfl,_,rfl,a,_,_,_,rfl,rfl,hS,g,q _⟩
 ·refine aI hc ?_
  refine ⟨_,rfl,_,_,rfl,rfl,.inr ⟨by decide,by decide⟩,_,_,rfl,rfl,?_⟩
  refine ⟨_,rfl,a,_,rfl,.inl hS,_,_,rfl,rfl,_,rfl,?_⟩
  by_cases hn:0 < (((ns.map V.int).length:Nat):Int)
  ·refine bP hn ?_
   have j0:=Int.emod_nonneg (k * 7) (show (((ns.map V.int).length:Nat):Int) ≠ 0 by lia)
   have j1:=Int.emod_lt_of_pos (k * 7) hn
   have hj:(k * 7 % (((ns.map V.int).length:Nat):Int)).toNat < ns.length:=by rw [<- hl]; lia
   have g:=getI ns _ hj
   have e:k * 7 % (((ns.map V.int).length:Nat):Int) = (((k * 7 % (((ns.map V.int).length:Nat):Int)).toNat:Nat):Int):=by lia
   rw [<- e] at g
   refine ⟨_,rfl,_,rfl,_,_,rfl,rfl,.inr ⟨by decide,by decide⟩,_,rfl,a,_,rfl,.inl hS,_,_,rfl,rfl,hn,a,_,_,_,rfl,rfl,hS,g,_,_,rfl,rfl,.inr ⟨by decide,by decide⟩,_,rfl,_,_,rfl,rfl,.inr ⟨by decide,by decide⟩,_,_,rfl,rfl,_,_,rfl,rfl,(by show (0:Int) < 2147483647; decide),?_⟩
   exact ⟨_,rfl,_,rfl,_,_,rfl,rfl,lZ (by decide) (by decide),_,_,rfl,rfl,(by show (0:Int) < 2147483629; decide),q _⟩
  ·refine aI hn ?_
   exact ⟨_,rfl,_,rfl,_,_,rfl,rfl,.inl ⟨by show -(2 ^ 64) < k * 7919 + 5; lia,by show k * 7919 + 5 < 2 ^ 64; lia⟩,_,_,rfl,rfl,(by show (0:Int) < 2147483629; decide),q _⟩
theorem lX {f:Addr} {fd:FuncData} (F:Fun K "_law_begun" "_law_begun" eX f fd) (T:Txt K mg c) :FnOk P w K mg base CX0 1 f fd ["_law_cell_here"] spBox:=by
 refine F.ok sc__law_begun (fun vs H Q E h=>?_) (fun cdv A outer s H vs Q E hr h=>?_)
 ·obtain ⟨c,rfl,_⟩:=h
  rfl
 obtain ⟨c,rfl,q⟩:=h
 refine ⟨_,(ai (aH (i:=1) sc__law_begun.nd rfl (Or.inl rfl) ag)
  (ai (aQ (au op_ge (pv 0) (aE op_pow ag ag) (ay _))
   (aj (aH (i:=1) sc__law_begun.nd rfl (Or.inl rfl) (pv 0)))
   aG)
  (aj (ao (bt (ae (pv 1) (ae ag (ae (aE bM (pv 0) ag) ah)))))))),?_⟩
 refine ⟨_,rfl,_,_,rfl,rfl,⟨by decide,by decide,by decide⟩,_,_,rfl,rfl,_,rfl,?_⟩
 by_cases hc:(10:Int) ^ (18:Int).toNat<=c
 ·refine bP hc ?_
  refine ⟨_,rfl,?_⟩
  refine ⟨_,rfl,_,rfl,_,_,rfl,rfl,(by show (0:Int) < 2147483647; decide),(by show 3<=sizeLine; decide),fun p hp=>?_⟩
  exact q p _ hp ⟨_,_,_,af⟩ (ap hp _)
 ·refine aI hc ?_
  refine ⟨_,rfl,_,rfl,_,_,rfl,rfl,(by show (0:Int) < 2147483647; decide),(by show 3<=sizeLine; decide),fun p hp=>?_⟩
  exact q p _ hp ⟨_,_,_,af⟩ (ap hp _)
theorem nW {f:Addr} {fd:FuncData} (F:Fun K "_law_draw" "_law_draw" gL f fd) (T:Txt K mg c) :FnOk P w K mg base CX0 1 f fd ["_law_state", "_law_many"] cU:=by
 refine F.ok sc__law_draw (fun vs H Q E h=>?_) (fun cdv A outer s H vs Q E hr h=>?_)
 ·obtain ⟨p,m,rfl,_⟩:=h
  rfl
 obtain ⟨p,m,rfl,⟨r,s1,c,hp⟩,h1,h2,q⟩:=h
 refine ⟨_,(ai (aQ (au qZ (av aK (pv 0) ag (fun _ _=>rfl)) ag (ay _))
   (ai (aH (i:=2) sc__law_draw.nd rfl (Or.inl rfl) (aE bM (av aK (pv 0) ag (fun _ _=>rfl)) (pv 1)))
   (ai (ps_asg (aE fN (av aK (pv 0) ag (fun _ _=>rfl)) (pv 1)) (pg_sub (pv 0) ag qw))
   (aj (ao (pv 2)))))
   aG)
  (ai (ps_asg (aE bY (av aK (pv 0) ag (fun _ _=>rfl)) ag) (pg_sub (pv 0) ag qw))
  (ai (aH (i:=3) sc__law_draw.nd rfl (Or.inl rfl) (aE bM (aE bY (aE cG (av aK (pv 0) ag (fun _ _=>rfl)) ag) (aE cG (av aK (pv 0) ag (fun _ _=>rfl)) ag)) ag))
  (ai (aH (i:=3) sc__law_draw.nd rfl (Or.inl rfl) (aE bM (aE bY (aE cG (pv 3) (pv 3)) (aE cG (av aK (pv 0) ag (fun _ _=>rfl)) ag)) ag))
  (aj (ao (aE bM (aE bM (aE cG (pv 3) (pv 3)) ag) (pv 1)))))))),?_⟩
 refine ⟨_,rfl,p,_,_,_,rfl,rfl,SqL.of hp,rfl,_,_,rfl,rfl,_,rfl,?_⟩
 by_cases hc:0 < r
 ·refine bP hc ?_
  refine ⟨_,rfl,p,_,_,_,rfl,rfl,SqL.of hp,rfl,_,rfl,_,_,rfl,rfl,h1,?_⟩
  refine ⟨_,rfl,p,_,_,_,rfl,rfl,SqL.of hp,rfl,_,rfl,_,_,rfl,rfl,⟨h1,eL h1 h2⟩,?_⟩
  refine ⟨_,rfl,p,_,_,_,rfl,rfl,hp,rfl,?_⟩
  refine ⟨_,rfl,?_⟩
  exact q _ _ (Int.emod_nonneg _ (by lia)) (Int.emod_lt_of_pos _ h1) ⟨_,_,_,af⟩ SameX.upd
 ·refine aI hc ?_
  refine ⟨_,rfl,p,_,_,_,rfl,rfl,SqL.of hp,rfl,_,_,rfl,rfl,?_⟩
  refine ⟨_,rfl,p,_,_,_,rfl,rfl,hp,rfl,?_⟩
  refine ⟨_,rfl,p,_,_,_,rfl,rfl,SqL.of af,rfl,_,_,rfl,rfl,.inr ⟨by decide,by decide⟩,_,rfl,p,_,_,_,rfl,rfl,SqL.of af,rfl,_,_,rfl,rfl,.inr ⟨by decide,by decide⟩,_,_,rfl,rfl,_,_,rfl,rfl,(by show (0:Int) < 2147483647; decide),?_⟩
  refine ⟨_,rfl,_,rfl,_,_,rfl,rfl,lZ (by decide) (by decide),_,rfl,p,_,_,_,rfl,rfl,SqL.of af,rfl,_,_,rfl,rfl,.inr ⟨by decide,by decide⟩,_,_,rfl,rfl,_,_,rfl,rfl,(by show (0:Int) < 2147483629; decide),?_⟩
  refine ⟨_,rfl,_,rfl,_,_,rfl,rfl,lZ (by decide) (by decide),_,_,rfl,rfl,(by show (0:Int) < 2147483587; decide),_,rfl,_,_,rfl,rfl,h1,?_⟩
  exact q _ _ (Int.emod_nonneg _ (by lia)) (Int.emod_lt_of_pos _ h1) ⟨_,_,_,af⟩ SameX.upd
theorem kM {f:Addr} {fd:FuncData} (F:Fun K "_law_whole" "_law_whole" fB f fd) (T:Txt K mg c) :FnOk P w K mg base CX0 1 f fd ["_law_found"] fZ:=by
 refine F.ok kX (fun vs H Q E h=>?_) (fun cdv A outer s H vs Q E hr h=>?_)
 ·obtain ⟨i,rfl,_⟩:=h
  rfl
 obtain ⟨i,rfl,q⟩:=h
 refine ⟨_,(aj (ao (df (aD aJ rfl T.n_isinstance boot_isinstance (ae (pv 0) (ae (gM rfl T.n_int boot_int) ah))) (dN (qx (aD aJ rfl T.n_isinstance boot_isinstance (ae (pv 0) (ae (gM rfl T.n_bool boot_bool) ah)))))))),?_⟩
 refine ⟨_,rfl,_,_,_,_,_,rfl,rfl,TyOf.int _,fX _,_,rfl,eG ?_⟩
 refine ⟨_,rfl,_,_,_,_,_,rfl,rfl,TyOf.int _,fE _,_,rfl,?_⟩
 exact q
def spWrd:Sp:=fun vs H Q _=>∃ (p:Addr) (w:Int),vs = [.ref p,.int w]/\Box H p/\4<=w/\w<=32/\∀ (i:Int) H',0<=i->i < 2 ^ w.toNat->Box H' p->SameX p H H'->Q (.int i) H'
theorem pow_lt {a b:Int} (h0:0<=a) (h:a < b):(2:Int) ^ a.toNat < 2 ^ b.toNat:=by
 have:(2:Nat) ^ a.toNat < 2 ^ b.toNat:=Nat.pow_lt_pow_right (by decide) (by lia)
 exact_mod_cast this
def wrdP (w:Int) (v:V):Prop:=∃ i:Int,v = .int i/\0<=i/\i < 2 ^ w.toNat
theorem nM {f:Addr} {fd:FuncData} (F:Fun K "_law_word" "_law_word" gq f fd) (T:Txt K mg c) (H__law_draw:Has P w K mg base 1 "_law_draw" ["_law_state", "_law_many"] cU):FnOk P w K mg base CX0 2 f fd ["_law_state", "_law_width"] spWrd:=by
 refine F.ok sc__law_word (fun vs H Q E h=>?_) (fun cdv A outer s H vs Q E hr h=>?_)
 ·obtain ⟨p,w',rfl,_⟩:=h
  rfl
 obtain ⟨p,w',rfl,b,w0,w1,q⟩:=h
 refine slE ⟨_,(aA (bR (aH (i:=2) sc__law_word.nd rfl (Or.inl rfl) (aE jj ag (pv 1))))
  (aA (bR (aH (i:=3) sc__law_word.nd rfl (Or.inl rfl) (aC H__law_draw (hr.mono (by lia)) rfl (ae (pv 0) (ae ag ah)))))
  (aA (bL (au kr (pv 3) ag (ay _))
   (ax (bR (ao (av aK (bt (ae ag (ae ag (ae (aE eY (pv 2) ag) ah)))) (pv 3) (fun _ _=>rfl)))))
   br)
  (aA (bL (au bc (pv 3) ag (ay _))
   (ax (bR (ao (aE eY (aE fN (pv 2) ag) (aC H__law_draw (hr.mono (by lia)) rfl (ae (pv 0) (ae ag ah)))))))
   br)
  (aA (bL (au bc (pv 3) ag (ay _))
   (ax (bR (ao (aE jj ag (aC H__law_draw (hr.mono (by lia)) rfl (ae (pv 0) (ae (pv 1) ah)))))))
   br)
  (aA (bL (au bc (pv 3) ag (ay _))
   (ax (bR (ao (aE bM (aC H__law_draw (hr.mono (by lia)) rfl (ae (pv 0) (ae ag ah))) (pv 2)))))
   br)
  (ax (bR (ao (aE bM (aE bY (aE iI (aC H__law_draw (hr.mono (by lia)) rfl (ae (pv 0) (ae ag ah))) ag) (aC H__law_draw (hr.mono (by lia)) rfl (ae (pv 0) (ae ag ah)))) (pv 2))))))))))),?_⟩
 have P:=aV w0 w1
 have shw:(0<=w'/\w'<=100000/\intBits 1<=100000):=⟨by lia,by lia,oJ (by decide) (by decide)⟩
 refine ⟨_,rfl,_,_,rfl,rfl,shw,?_⟩
 refine ⟨_,rfl,p,_,rfl,b,by decide,by decide,fun d H1 d0 d1 b1 x1=>?_⟩
 refine ⟨_,rfl,_,_,rfl,rfl,_,rfl,?_⟩
 walk_at "c" <;> intro c3
 ·refine ⟨_,rfl,_,_,rfl,rfl,(by show 3<=sizeLine; decide),fun l hl=>?_⟩
  obtain ⟨v,⟨i,rfl,i0,i1⟩,ev⟩:=i3 (xs:=[.int 0,.int 1,.int (1 * 2 ^ w'.toNat - 1)]) (Pr:=wrdP w') d0 (by show d < 3; lia) (rE ⟨⟨_,rfl,by lia,by lia⟩,⟨_,rfl,by lia,by lia⟩,⟨_,rfl,by lia,by lia⟩,trivial⟩)
  exact ⟨_,rfl,l,_,_,_,rfl,rfl,SqL.of af,ev,q i _ i0 i1 (b1.same (ap hl _)) (x1.trans (SameX.of (ap hl _)))⟩
 refine ⟨_,rfl,rfl,_,rfl,?_⟩
 walk_at "c" <;> intro c4
 ·exact ⟨_,rfl,_,_,rfl,rfl,⟨by decide,by decide⟩,_,rfl,p,_,rfl,b1,by decide,by decide,fun d2 H2 _ _ b2 x2=>⟨_,_,rfl,rfl,q _ _ (by lia) (by lia) b2 (x1.trans x2)⟩⟩
 refine ⟨_,rfl,rfl,_,rfl,?_⟩
 walk_at "c" <;> intro c5
 ·exact ⟨_,rfl,_,rfl,p,_,rfl,b1,by lia,by lia,fun d2 H2 e0 e1 b2 x2=>⟨_,_,rfl,rfl,⟨by lia,by lia,oJ (by decide) (by decide)⟩,q _ _ (Int.le_of_lt (bS _)) (by rw [Int.one_mul]; exact pow_lt e0 e1) b2 (x1.trans x2)⟩⟩
 refine ⟨_,rfl,rfl,_,rfl,?_⟩
 walk_at "c" <;> intro c6
 ·exact ⟨_,rfl,p,_,rfl,b1,by decide,by decide,fun d2 H2 e0 e1 b2 x2=>⟨_,rfl,_,_,rfl,rfl,(by lia),q _ _ (Int.emod_nonneg _ (by lia)) (by have:=Int.emod_lt_of_pos d2 (show 0 < 1 * (2:Int) ^ w'.toNat by lia); lia) b2 (x1.trans x2)⟩⟩
 ·refine ⟨_,rfl,p,_,rfl,b1,by decide,by decide,fun d2 H2 e0 e1 b2 x2=>⟨_,_,rfl,rfl,⟨oJ (by lia) (by lia),oJ (by decide) (by decide)⟩,?_⟩⟩
  exact ⟨_,rfl,p,_,rfl,b2,by decide,by decide,fun d3 H3 _ _ b3 x3=>⟨_,_,rfl,rfl,_,rfl,_,_,rfl,rfl,(by lia),q _ _ (Int.emod_nonneg _ (by lia)) (by have:=Int.emod_lt_of_pos (d2 * 65536 + d3) (show 0 < 1 * (2:Int) ^ w'.toNat by lia); lia) b3 ((x1.trans x2).trans x3)⟩⟩
def Nms (H:Hp) (l:Addr) (zs:List Str):Prop:=H l = some (.lst (zs.map V.str))/\2<=zs.length/\zs.length<=5/\∀ z ∈ zs,RgA z/\z.length<=8
def pC:Sp:=fun vs H Q _=>∃ p:Addr,vs = [.ref p]/\Box H p/\∀ (l:Addr) (zs:List Str) H',H l = none->Nms H' l zs->Box H' p->SameX p H H'->Q (.ref l) H'
def regB (z:Str):Bool:=decide (1<=z.length) && decide (z.length<=8) && (match z.cps[0]? with | some n=>inS LT ⟨#[n]⟩ | none=>false) && z.cps.toList.all fun n=>inS LF ⟨#[n]⟩
theorem regB_ok {z:Str} (h:regB z = true):RgA z/\z.length<=8:=by
 unfold regB at h
 simp only [Bool.and_eq_true,decide_eq_true_eq] at h
 obtain ⟨⟨⟨h1,h2⟩,h3⟩,h4⟩:=h
 refine ⟨⟨h1,fun n e=>?_,fun n hn=>List.all_eq_true.mp h4 n hn⟩,h2⟩
 rw [e] at h3
 exact h3
def pool15:List Str:=["a", "ab", "b", "z9", "x", "x0", "sum", "end", "abcdefgh", "w1234567", "turns", "m", "aa", "q7", "set"]
theorem pool_ok:∀ z ∈ pool15,RgA z/\z.length<=8:=fun z hz=>regB_ok ((by decide +kernel:∀ z ∈ pool15,regB z = true) z hz)
theorem lD {f:Addr} {fd:FuncData} (F:Fun K "_law_names" "_law_names" fD f fd) (T:Txt K mg c) (H__law_draw:Has P w K mg base 1 "_law_draw" ["_law_state", "_law_many"] cU):FnOk P w K mg base CX0 2 f fd ["_law_state"] pC:=by
 refine F.ok sc__law_names (fun vs H Q E h=>?_) (fun cdv A outer s H vs Q E hr h=>?_)
 ·obtain ⟨p,rfl,_⟩:=h
  rfl
 obtain ⟨p,rfl,b,q⟩:=h
 refine slE ⟨_,(aA (kK (i:=1) sc__law_names.nd rfl (Or.inl rfl) (jN (aF ar (aF ar (aF ar (aF ar (aF ar (aF ar (aF ar (aF ar (aF ar (aF ar (aF ar (aF ar (aF ar (aF ar (aF ar ee)))))))))))))))))
  (aA (bR (aH (i:=2) sc__law_names.nd rfl (Or.inl rfl) ar))
  (aA (bR (aH (i:=3) sc__law_names.nd rfl (Or.inl rfl) (aC H__law_draw (hr.mono (by lia)) rfl (ae (pv 0) (ae ag ah)))))
  (aA (bR (aH (i:=4) sc__law_names.nd rfl (Or.inl rfl) (bt ah)))
  (aA (pw PassesOwn.never rfl (eN rfl T.n_range (ae (aE bY ag (aC H__law_draw (hr.mono (by lia)) rfl (ae (pv 0) (ae ag ah)))) ah)) (bF (i:=5) sc__law_names.nd rfl (Or.inl rfl))
   (aA (bR (aH (i:=6) sc__law_names.nd rfl (Or.inl rfl) (av aK (pv 1) (aE bM (aE bY (pv 3) (aE cG ag (pv 5))) ag) (fun _ _=>rfl))))
   (sA (bL (au bc (aC H__law_draw (hr.mono (by lia)) rfl (ae (pv 0) (ae ag ah))) ag (ay _))
    (aA (bR (aH (i:=6) sc__law_names.nd rfl (Or.inl rfl) (av rZ (pv 2) (aC H__law_draw (hr.mono (by lia)) rfl (ae (pv 0) (ae ag ah))) (fun _ _=>rfl))))
    (ax (pw PassesOwn.never rfl (eN rfl T.n_range (ae (aC H__law_draw (hr.mono (by lia)) rfl (ae (pv 0) (ae ag ah))) ah)) (bF (i:=7) sc__law_names.nd rfl (Or.inl rfl))
     (ax (bR (aH (i:=6) sc__law_names.nd rfl (Or.inl rfl) (aE qM (pv 6) (av rZ (pv 2) (aC H__law_draw (hr.mono (by lia)) rfl (ae (pv 0) (ae ag ah))) (fun _ _=>rfl)))))))))
    br)
   (ax (bR (aL (lY PySem.F.plainAttrs_list PySem.F.slot_list_append PySem.F.type_list_append bB (pv 4) (ae (pv 6) ah))))))))
  (ax (bR (ao (pv 4))))))))),?_⟩
 have L1000:(1000:Nat)<=sizeLine:=by decide
 refine ⟨(by show 15<=sizeLine; decide),fun pl hpl=>?_⟩
 obtain ⟨G0,w0,s0,f0⟩:=dL hpl (.lst (pool15.map V.str))
 rw [show upd H pl (.lst [.str "a",.str "ab",.str "b",.str "z9",.str "x",.str "x0",.str "sum",.str "end",.str "abcdefgh",.str "w1234567",.str "turns",.str "m",.str "aa",.str "q7",.str "set"]) = G0 from w0]
 have b0:=b.same s0
 have npl:=b.ne hpl
 refine ⟨_,rfl,p,_,rfl,b0,by decide,by decide,fun d H1 d0 d1 b1 x1=>?_⟩
 refine ⟨(by show 0<=sizeLine; decide),fun l hl=>?_⟩
 have s2:=ap hl (.lst [])
 have X2:SameX p H (upd H1 l (.lst [])):=(SameX.of s0).trans (x1.trans (SameX.of s2))
 have fr:H l = none:=by
  cases e:H l with
  | none=>rfl
  | some o =>
   by_cases c:l = p
   ·exact absurd c (b1.ne hl)
   ·rw [x1 _ _ c (s0 _ _ e)] at hl; cases hl
 have np:=b1.ne hl
 have f2:upd H1 l (.lst []) pl = some (.lst (pool15.map V.str)):=s2 _ _ (x1 _ _ npl f0)
 have nlp:l ≠ pl:=fun z=>by rw [z,x1 _ _ npl f0] at hl; cases hl
 have b2:=b1.same s2
 have g2:upd H1 l (.lst []) l = some (.lst (([]:List Str).map V.str)):=af
 generalize upd H1 l (.lst []) = G at X2 f2 b2 g2 ⊢
 clear x1 b1 hl s2 b0 f0 w0 s0 hpl
 refine ⟨_,rfl,p,_,rfl,b2,by decide,by decide,fun r G1 r0 r1 b3 x3=>⟨_,_,rfl,rfl,_,rfl,by lia,by lia,eT (n:=(2 + r).toNat) (fun j σ G=>∃ (y5 y6 y7:Option V) (zs:List Str),σ = [some (.ref p),some (.ref pl),some (.str LF),some (.int d),some (.ref l),y5,y6,y7]/\G l = some (.lst (zs.map V.str))/\zs.length = j/\(∀ z ∈ zs,RgA z/\z.length<=8)/\Box G p/\SameX p H G/\G pl = some (.lst (pool15.map V.str))) ⟨_,_,_,[],rfl,x3 _ _ np g2,rfl,(fun z hz=>by cases hz),b3,X2.trans x3,x3 _ _ npl f2⟩ ?_ ?_⟩⟩
 ·clear X2 f2 b2 g2 b3 x3
  rintro j σ G hj ⟨y5,y6,y7,zs,rfl,gl,zl,ok,bG,XG,gp⟩
  have k0:=Int.emod_nonneg (d + 4 * (0 + (j:Int))) (show (15:Int) ≠ 0 by decide)
  have k1:=Int.emod_lt_of_pos (d + 4 * (0 + (j:Int))) (show (0:Int) < 15 by decide)
  obtain ⟨v,⟨z0,rfl,z0k⟩,ev⟩:=i3 (xs:=pool15.map V.str) (Pr:=fun v=>∃ z,v = .str z/\RgA z/\z.length<=8) k0 k1 (fun x hx=>by obtain ⟨z,hz,rfl⟩:=List.mem_map.mp hx; exact ⟨z,rfl,pool_ok z hz⟩)
  refine ⟨_,rfl,_,rfl,_,rfl,_,_,rfl,rfl,.inl ⟨by decide,by decide⟩,_,_,rfl,rfl,_,_,rfl,rfl,(show (0:Int) < 15 by decide),pl,_,_,_,rfl,rfl,SqL.of gp,ev,?_⟩
  refine ⟨fun σ G'=>∃ (y7:Option V) (z:Str),σ = [some (.ref p),some (.ref pl),some (.str LF),some (.int d),some (.ref l),some (.int (0 + (j:Int))),some (.str z),y7]/\RgA z/\z.length<=8/\Box G' p/\SameX p G G',?_,?_⟩
  ·refine ⟨_,rfl,p,_,rfl,bG,by decide,by decide,fun e G1 e0 e1 b1 x1=>⟨rfl,_,rfl,?_⟩⟩
   walk_at "c" <;> intro c1
   rotate_left
   ·exact ⟨_,z0,rfl,z0k.1,z0k.2,b1,x1⟩
   refine ⟨_,rfl,_,rfl,p,_,rfl,b1,by decide,by decide,fun f G2 f0 f1 b2 x2=>?_⟩
   obtain ⟨n,en,h1,h2⟩:=lfI f0 (by lia)
   refine ⟨LF,_,n,rfl,rfl,(by show 36<=sizeLine; lia),en,?_⟩
   refine ⟨_,rfl,p,_,rfl,b2,by decide,by decide,fun g G3 g0 g1 b3 x3=>⟨_,rfl,by lia,by lia,eT (n:=g.toNat) (fun i σ G'=>∃ (y7:Option V) (z:Str),σ = [some (.ref p),some (.ref pl),some (.str LF),some (.int d),some (.ref l),some (.int (0 + (j:Int))),some (.str z),y7]/\RgA z/\z.length = 1 + i/\Box G' p/\SameX p G G') ⟨_,_,rfl,RgA.one (h2 f1) h1,rfl,b3,(x1.trans x2).trans x3⟩ ?_ ?_⟩⟩
   ·rintro i σ G' hi ⟨y7,z,rfl,rz,lz,bz,xz⟩
    refine ⟨_,rfl,_,rfl,_,rfl,p,_,rfl,bz,by decide,by decide,fun f G4 f0 f1 b4 x4=>?_⟩
    obtain ⟨n,en,h1,_⟩:=lfI f0 f1
    have sn:=rz.snoc h1
    refine ⟨LF,_,n,rfl,rfl,(by show 36<=sizeLine; lia),en,_,_,rfl,rfl,(by show z.length + 1<=sizeLine; lia),?_⟩
    exact ⟨_,_,rfl,sn.1,by lia,b4,xz.trans x4⟩
   ·rintro σ G' ⟨y7,z,rfl,rz,lz,bz,xz⟩
    exact ⟨_,z,rfl,rz,by lia,bz,xz⟩
  rintro σ G' ⟨y7,z,rfl,rz,lz,bz,xz⟩
  refine ⟨_,rfl,.inl ⟨rfl,_,SqL.of (xz _ _ np gl)⟩,_,rfl,l,_,_,rfl,rfl,xz _ _ np gl,(by rw [List.length_map]; lia),?_⟩
  refine ⟨_,_,_,zs ++ [z],rfl,(by rw [af,List.map_append]; rfl),(by rw [List.length_append,zl]; rfl),(fun w' hw=>?_),?_,?_,?_⟩
  ·rcases List.mem_append.mp hw with hw | hw
   ·exact ok w' hw
   ·rw [List.mem_singleton.mp hw]; exact ⟨rz,lz⟩
  ·obtain ⟨a1,a2,a3,e⟩:=bz
   exact ⟨a1,a2,a3,by rw [am (Ne.symm np)]; exact e⟩
  ·intro b' o hb e
   have:=xz _ _ hb (XG _ _ hb e)
   rw [am (aw e fr)]
   exact this
  ·rw [am (Ne.symm nlp)]
   exact xz _ _ npl gp
 ·rintro σ G' ⟨y5,y6,y7,zs,rfl,gl,zl,ok,bG,XG,gp⟩
  exact ⟨_,rfl,q l zs G' fr ⟨gl,by lia,by lia,ok⟩ bG XG⟩
def tG:Sp:=fun vs H Q _=>∃ (p l:Addr) (zs:List Str),vs = [.ref p,.ref l]/\Box H p/\Nms H l zs/\l ≠ p/\∀ (z:Str) H',z ∈ zs->Box H' p->SameX p H H'->Q (.str z) H'
theorem mS {f:Addr} {fd:FuncData} (F:Fun K "_law_name" "_law_name" gU f fd) (T:Txt K mg c) (H__law_draw:Has P w K mg base 1 "_law_draw" ["_law_state", "_law_many"] cU):FnOk P w K mg base CX0 2 f fd ["_law_state", "_law_names_here"] tG:=by
 refine F.ok nK (fun vs H Q E h=>?_) (fun cdv A outer s H vs Q E hr h=>?_)
 ·obtain ⟨p,l,zs,rfl,_⟩:=h
  rfl
 obtain ⟨p,l,zs,rfl,b,⟨hl,n2,n5,ok⟩,np,q⟩:=h
 refine ⟨_,(aj (ao (av aK (pv 1) (aC H__law_draw (hr.mono (by lia)) rfl (ae (pv 0) (ae (aD aW rfl T.n_len boot_len (ae (pv 1) ah)) ah))) (fun _ _=>rfl)))),?_⟩
 refine ⟨_,rfl,_,rfl,_,rfl,l,_,rfl,.inl (SqL.of hl),p,_,rfl,b,(by rw [List.length_map]; lia),(by rw [List.length_map]; lia),fun d H1 d0 d1 b1 x1=>?_⟩
 obtain ⟨v,⟨z,hz,rfl⟩,ev⟩:=i3 (xs:=zs.map V.str) (Pr:=fun v=>∃ z,z ∈ zs/\v = .str z) d0 d1 (fun x hx=>by obtain ⟨z,hz,rfl⟩:=List.mem_map.mp hx; exact ⟨z,hz,rfl⟩)
 exact ⟨l,_,_,_,rfl,rfl,SqL.of (x1 _ _ np hl),ev,q z H1 hz b1 x1⟩
def lj:Sp:=fun vs H Q _=>vs = []/\∀ (l:Addr) H',H l = none->H' l = some (.lst (sorts15.map V.str))->Same H H'->Q (.ref l) H'
theorem lg {f:Addr} {fd:FuncData} (F:Fun K "_law_sorts" "_law_sorts" fc f fd) (T:Txt K mg c) :FnOk P w K mg base CX0 1 f fd [] lj:=by
 refine F.ok sc__law_sorts (fun vs H Q E h=>?_) (fun cdv A outer s H vs Q E hr h=>?_)
 ·obtain ⟨rfl,_⟩:=h
  rfl
 obtain ⟨rfl,q⟩:=h
 refine slE ⟨_,(aA (kK (i:=0) sc__law_sorts.nd rfl (Or.inl rfl) (jN (aF ar (aF ar (aF ar (aF ar (aF ar (aF ar (aF ar (aF ar (aF ar (aF ar (aF ar (aF ar ee))))))))))))))
  (ax (bR (ao (aE lM (pv 0) (bt (ae ar (ae ar (ae ar ah))))))))),?_⟩
 refine ⟨(by show 12<=sizeLine; decide),fun l1 h1=>?_⟩
 obtain ⟨G1,w1,s1,f1⟩:=dL h1 (.lst [.str "set",.str "copy",.str "sum",.str "gap",.str "low",.str "high",.str "left",.str "right",.str "slide",.str "and",.str "or",.str "unlike"])
 rw [w1]
 refine ⟨_,rfl,(by show 3<=sizeLine; decide),fun l2 h2=>?_⟩
 obtain ⟨G2,w2,s2,f2⟩:=dL h2 (.lst [.str "under",.str "pick",.str "mark"])
 rw [w2]
 refine ⟨l1,l2,_,_,rfl,rfl,SqL.of (s2 _ _ f1),SqL.of f2,(by show 12 + 3<=sizeLine; decide),fun l3 h3=>?_⟩
 exact q l3 _ (Same.none (s1.trans s2) h3) af ((s1.trans s2).trans (ap h3 _))
def tV:Sp:=fun vs H Q _=>∃ (p l:Addr) (w:Int) (zs:List Str),vs = [.ref p,.int w,.ref l]/\Box H p/\4<=w/\w<=32/\Nms H l zs/\l ≠ p/\∀ (t:Addr) (r:Rw) H',H' t = some (.tup (.str (wOf r.k) :: r.fs))->r.ok w->r.inZ zs->Box H' p->SameX p H H'->Q (.ref t) H'
theorem Nms.sx {H H':Hp} {p l:Addr} {zs:List Str} (h:Nms H l zs) (x:SameX p H H') (n:l ≠ p):Nms H' l zs:=⟨x _ _ n h.1,h.2⟩
theorem oW {f:Addr} {fd:FuncData} (F:Fun K "_law_row" "_law_row" iC f fd) (T:Txt K mg c) (H__law_name:Has P w K mg base 2 "_law_name" ["_law_state", "_law_names_here"] tG) (H__law_sorts:Has P w K mg base 1 "_law_sorts" [] lj) (H__law_draw:Has P w K mg base 1 "_law_draw" ["_law_state", "_law_many"] cU) (H__law_word:Has P w K mg base 2 "_law_word" ["_law_state", "_law_width"] spWrd):FnOk P w K mg base CX0 3 f fd ["_law_state", "_law_width", "_law_names_here"] tV:=by
 refine F.ok sc__law_row (fun vs H Q E h=>?_) (fun cdv A outer s H vs Q E hr h=>?_)
 ·obtain ⟨p,l,w',zs,rfl,_⟩:=h
  rfl
 obtain ⟨p,l,w',zs,rfl,b,w0,w1,nm,np,q⟩:=h
 refine slE ⟨_,(aA (bR (aH (i:=3) sc__law_row.nd rfl (Or.inl rfl) (av aK (iO H__law_sorts (hr.mono (by lia)) rfl) (aC H__law_draw (hr.mono (by lia)) rfl (ae (pv 0) (ae ag ah))) (fun _ _=>rfl))))
  (aA (bR (aH (i:=4) sc__law_row.nd rfl (Or.inl rfl) (aC H__law_name (hr.mono (by lia)) rfl (ae (pv 0) (ae (pv 2) ah)))))
  (aA (bR (aH (i:=5) sc__law_row.nd rfl (Or.inl rfl) (aC H__law_name (hr.mono (by lia)) rfl (ae (pv 0) (ae (pv 2) ah)))))
  (aA (bR (aH (i:=6) sc__law_row.nd rfl (Or.inl rfl) (aC H__law_name (hr.mono (by lia)) rfl (ae (pv 0) (ae (pv 2) ah)))))
  (aA (bL (au bc (pv 3) ar (ay _))
   (ax (bR (ao (bK (ae ar (ae (pv 4) (ae (aC H__law_word (hr.mono (by lia)) rfl (ae (pv 0) (ae (pv 1) ah))) ah)))))))
   br)
  (aA (bL (au bc (pv 3) ar (ay _))
   (ax (bR (ao (bK (ae ar (ae (pv 4) (ae (pv 5) ah)))))))
   br)
  (aA (bL (PW.pt (eQ (au bc (pv 3) ar (ay _)) (fk (au bc (pv 3) ar (ay _)))))
   (ax (bR (ao (bK (ae (pv 3) (ae (pv 4) (ae (av aK (bt (ae mV (ae (aC H__law_name (hr.mono (by lia)) rfl (ae (pv 0) (ae (pv 2) ah))) ah))) (aC H__law_draw (hr.mono (by lia)) rfl (ae (pv 0) (ae ag ah))) (fun _ _=>rfl)) (ae (pv 5) (ae (pv 6) ah)))))))))
   br)
  (aA (bL (PW.pt (eQ (au bc (pv 3) ar (ay _)) (eQ (au bc (pv 3) ar (ay _)) (fk (au bc (pv 3) ar (ay _))))))
   (ax (bR (ao (bK (ae (pv 3) (ae (pv 4) (ae (pv 5) (ae (av aK (bt (ae ag (ae (aE eY (pv 1) ag) (ae (aC H__law_draw (hr.mono (by lia)) rfl (ae (pv 0) (ae (pv 1) ah))) ah)))) (aC H__law_draw (hr.mono (by lia)) rfl (ae (pv 0) (ae ag ah))) (fun _ _=>rfl)) ah))))))))
   br)
  (aA (bL (au bc (pv 3) ar (ay _))
   (ax (bR (ao (bK (ae ar (ae (pv 4) (ae (aC H__law_name (hr.mono (by lia)) rfl (ae (pv 0) (ae (pv 2) ah))) (ae (pv 5) (ae (pv 6) ah)))))))))
   br)
  (aA (bL (au bc (pv 3) ar (ay _))
   (aA (kK (i:=7) sc__law_row.nd rfl (Or.inl rfl) (pe_ixS aK (jN (aF ag (aF ag (aF (aC H__law_draw (hr.mono (by lia)) rfl (ae (pv 0) (ae ag ah))) (aF (aC H__law_draw (hr.mono (by lia)) rfl (ae (pv 0) (ae ag ah))) ee))))) (aC H__law_draw (hr.mono (by lia)) rfl (ae (pv 0) (ae ag ah))) (fun _ _=>rfl)))
   (ax (bR (ao (bK (ae ar (ae (pv 7) (ae (av aK (bt (ae ar (ae ar (ae ar ah)))) (aC H__law_draw (hr.mono (by lia)) rfl (ae (pv 0) (ae ag ah))) (fun _ _=>rfl)) (ae (pv 5) ah)))))))))
   br)
  (ax (bR (ao (bK (ae (pv 3) (ae (pv 4) (ae (pv 5) (ae (pv 6) ah)))))))))))))))))),?_⟩
 refine ⟨rfl,fun l0 H0 l00 f0 s0=>⟨_,rfl,p,_,rfl,b.same s0,by decide,by decide,fun kk Hk k0 k1 bk xk=>?_⟩⟩
 obtain ⟨k,rfl⟩:=Int.eq_ofNat_of_zero_le k0
 have k15:k < 15:=by lia
 have sa:=sorts_at (k:=(k:Int)) (by lia) (by lia)
 rw [Int.toNat_natCast] at sa
 have nlp:l0 ≠ p:=b.ne l00
 refine ⟨l0,_,_,_,rfl,rfl,SqL.of (xk _ _ nlp f0),sa,?_⟩
 have b0:=bk
 have nm0:Nms Hk l zs:=nm.sx ((SameX.of s0).trans xk) np
 refine ⟨_,rfl,_,rfl,p,l,zs,rfl,b0,nm0,np,fun z1 H1 m1 b1 x1=>?_⟩
 refine ⟨_,rfl,_,rfl,p,l,zs,rfl,b1,nm0.sx x1 np,np,fun z2 H2 m2 b2 x2=>?_⟩
 refine ⟨_,rfl,_,rfl,p,l,zs,rfl,b2,nm0.sx (x1.trans x2) np,np,fun z3 H3 m3 b3 x3=>?_⟩
 have X3:SameX p H H3:=((SameX.of s0).trans xk).trans ((x1.trans x2).trans x3)
 have nm3:Nms H3 l zs:=nm.sx X3 np
 have NK:=nm.2.2.2
 have g1:Rg z1:=NK z1 m1
 have g2:Rg z2:=NK z2 m2
 have g3:Rg z3:=NK z3 m3
 clear sa f0 b0 nm0 x1 x2 x3 b1 b2 xk bk s0 b nm
 have ne:∀ j,j < 16->k ≠ j->¬ V.str (wOf k) = V.str (wOf j):=fun j hj h z=>h (rG (by lia) hj z)
 refine ⟨_,rfl,rfl,_,rfl,?_⟩
 by_cases c0:k = 0
 ·subst c0
  refine bP rfl ⟨_,rfl,_,rfl,_,rfl,p,_,rfl,b3,w0,w1,fun i H4 i0 i1 b4 x4=>⟨(by show 3<=sizeLine; decide),fun t ht=>?_⟩⟩
  exact q t (.set z1 i) _ af ⟨g1,i0,i1⟩ m1 (b4.same (ap ht _)) (X3.trans (x4.trans (SameX.of (ap ht _))))
 refine aI (ne 0 (by decide) c0) ⟨_,rfl,rfl,_,rfl,?_⟩
 by_cases c1:k = 1
 ·subst c1
  refine bP rfl ⟨_,rfl,_,rfl,(by show 3<=sizeLine; decide),fun t ht=>?_⟩
  exact q t (.copy z1 z2) _ af ⟨g1,g2⟩ m1 (b3.same (ap ht _)) (X3.trans (SameX.of (ap ht _)))
 refine aI (ne 1 (by decide) c1) ?_
 refine ⟨_,rfl,rfl,_,rfl,?_⟩
 by_cases c2:k = 2
 ·subst c2
  refine bP rfl ?_
  refine ⟨_,rfl,_,rfl,_,rfl,_,rfl,p,l,zs,rfl,b3,nm3,np,fun z4 H4 m4 b4 x4=>⟨(by show 2<=sizeLine; decide),fun m hm=>?_⟩⟩
  obtain ⟨G5,w5,s5,f5⟩:=dL hm (.lst [.non,.str z4])
  rw [w5]
  refine ⟨_,rfl,p,_,rfl,b4.same s5,by decide,by decide,fun d H6 d0 d1 b6 x6=>?_⟩
  obtain ⟨v,⟨cv,rfl,hv,hz⟩,ev⟩:=i3 (xs:=[.non,.str z4]) (Pr:=fun v=>∃ cv:Option Str,v = oV cv/\(∀ z,cv = some z->Rg z)/\∀ z,cv = some z->z ∈ zs) d0 d1 (rE ⟨⟨none,rfl,(fun z e=>nomatch e),fun z e=>nomatch e⟩,⟨some z4,rfl,(fun z e=>by injection e with e; rw [<- e]; exact NK z4 m4),fun z e=>by injection e with e; rw [<- e]; exact m4⟩,trivial⟩)
  refine ⟨m,_,_,_,rfl,rfl,SqL.of (x6 _ _ (b4.ne hm) f5),ev,_,rfl,_,rfl,(by show 5<=sizeLine; decide),fun t ht=>?_⟩
  exact q t (.car 2 z1 cv z2 z3) _ af ⟨.inl rfl,g1,hv,g2,g3⟩ ⟨m1,hz⟩ (b6.same (ap ht _)) (X3.trans (x4.trans ((SameX.of s5).trans (x6.trans (SameX.of (ap ht _))))))
 refine aI (ne 2 (by decide) c2) ⟨_,rfl,rfl,_,rfl,?_⟩
 by_cases c3:k = 3
 ·subst c3
  refine bP rfl ?_
  refine ⟨_,rfl,_,rfl,_,rfl,_,rfl,p,l,zs,rfl,b3,nm3,np,fun z4 H4 m4 b4 x4=>⟨(by show 2<=sizeLine; decide),fun m hm=>?_⟩⟩
  obtain ⟨G5,w5,s5,f5⟩:=dL hm (.lst [.non,.str z4])
  rw [w5]
  refine ⟨_,rfl,p,_,rfl,b4.same s5,by decide,by decide,fun d H6 d0 d1 b6 x6=>?_⟩
  obtain ⟨v,⟨cv,rfl,hv,hz⟩,ev⟩:=i3 (xs:=[.non,.str z4]) (Pr:=fun v=>∃ cv:Option Str,v = oV cv/\(∀ z,cv = some z->Rg z)/\∀ z,cv = some z->z ∈ zs) d0 d1 (rE ⟨⟨none,rfl,(fun z e=>nomatch e),fun z e=>nomatch e⟩,⟨some z4,rfl,(fun z e=>by injection e with e; rw [<- e]; exact NK z4 m4),fun z e=>by injection e with e; rw [<- e]; exact m4⟩,trivial⟩)
  refine ⟨m,_,_,_,rfl,rfl,SqL.of (x6 _ _ (b4.ne hm) f5),ev,_,rfl,_,rfl,(by show 5<=sizeLine; decide),fun t ht=>?_⟩
  exact q t (.car 3 z1 cv z2 z3) _ af ⟨.inr rfl,g1,hv,g2,g3⟩ ⟨m1,hz⟩ (b6.same (ap ht _)) (X3.trans (x4.trans ((SameX.of s5).trans (x6.trans (SameX.of (ap ht _))))))
 refine aI (ne 3 (by decide) c3) ⟨_,rfl,rfl,_,rfl,?_⟩
 by_cases c6:k = 6
 ·subst c6
  refine bP rfl ?_
  refine ⟨_,rfl,_,rfl,_,rfl,_,rfl,_,_,rfl,rfl,_,rfl,_,rfl,p,_,rfl,b3,by lia,by lia,fun d4 H4 q0 q1 b4 x4=>⟨(by show 3<=sizeLine; decide),fun m hm=>?_⟩⟩
  obtain ⟨G5,w5,s5,f5⟩:=dL hm (.lst [.int 0,.int (w' - 1),.int d4])
  rw [w5]
  refine ⟨_,rfl,p,_,rfl,b4.same s5,by decide,by decide,fun d H6 d0 d1 b6 x6=>?_⟩
  obtain ⟨v,⟨j,rfl,j0,j1⟩,ev⟩:=i3 (xs:=[.int 0,.int (w' - 1),.int d4]) (Pr:=fun v=>∃ j:Int,v = .int j/\0<=j/\j < w') d0 d1 (rE ⟨⟨_,rfl,by lia,by lia⟩,⟨_,rfl,by lia,by lia⟩,⟨_,rfl,by lia,by lia⟩,trivial⟩)
  refine ⟨m,_,_,_,rfl,rfl,SqL.of (x6 _ _ (b4.ne hm) f5),ev,(by show 4<=sizeLine; decide),fun t ht=>?_⟩
  exact q t (.mv 6 z1 z2 j) _ af ⟨.inl rfl,g1,g2,j0,j1⟩ m1 (b6.same (ap ht _)) (X3.trans (x4.trans ((SameX.of s5).trans (x6.trans (SameX.of (ap ht _))))))
 refine aI (ne 6 (by decide) c6) ⟨_,rfl,rfl,_,rfl,?_⟩
 by_cases c7:k = 7
 ·subst c7
  refine bP rfl ?_
  refine ⟨_,rfl,_,rfl,_,rfl,_,rfl,_,_,rfl,rfl,_,rfl,_,rfl,p,_,rfl,b3,by lia,by lia,fun d4 H4 q0 q1 b4 x4=>⟨(by show 3<=sizeLine; decide),fun m hm=>?_⟩⟩
  obtain ⟨G5,w5,s5,f5⟩:=dL hm (.lst [.int 0,.int (w' - 1),.int d4])
  rw [w5]
  refine ⟨_,rfl,p,_,rfl,b4.same s5,by decide,by decide,fun d H6 d0 d1 b6 x6=>?_⟩
  obtain ⟨v,⟨j,rfl,j0,j1⟩,ev⟩:=i3 (xs:=[.int 0,.int (w' - 1),.int d4]) (Pr:=fun v=>∃ j:Int,v = .int j/\0<=j/\j < w') d0 d1 (rE ⟨⟨_,rfl,by lia,by lia⟩,⟨_,rfl,by lia,by lia⟩,⟨_,rfl,by lia,by lia⟩,trivial⟩)
  refine ⟨m,_,_,_,rfl,rfl,SqL.of (x6 _ _ (b4.ne hm) f5),ev,(by show 4<=sizeLine; decide),fun t ht=>?_⟩
  exact q t (.mv 7 z1 z2 j) _ af ⟨.inr (.inl rfl),g1,g2,j0,j1⟩ m1 (b6.same (ap ht _)) (X3.trans (x4.trans ((SameX.of s5).trans (x6.trans (SameX.of (ap ht _))))))
 refine aI (ne 7 (by decide) c7) ⟨_,rfl,rfl,_,rfl,?_⟩
 by_cases c8:k = 8
 ·subst c8
  refine bP rfl ?_
  refine ⟨_,rfl,_,rfl,_,rfl,_,rfl,_,_,rfl,rfl,_,rfl,_,rfl,p,_,rfl,b3,by lia,by lia,fun d4 H4 q0 q1 b4 x4=>⟨(by show 3<=sizeLine; decide),fun m hm=>?_⟩⟩
  obtain ⟨G5,w5,s5,f5⟩:=dL hm (.lst [.int 0,.int (w' - 1),.int d4])
  rw [w5]
  refine ⟨_,rfl,p,_,rfl,b4.same s5,by decide,by decide,fun d H6 d0 d1 b6 x6=>?_⟩
  obtain ⟨v,⟨j,rfl,j0,j1⟩,ev⟩:=i3 (xs:=[.int 0,.int (w' - 1),.int d4]) (Pr:=fun v=>∃ j:Int,v = .int j/\0<=j/\j < w') d0 d1 (rE ⟨⟨_,rfl,by lia,by lia⟩,⟨_,rfl,by lia,by lia⟩,⟨_,rfl,by lia,by lia⟩,trivial⟩)
  refine ⟨m,_,_,_,rfl,rfl,SqL.of (x6 _ _ (b4.ne hm) f5),ev,(by show 4<=sizeLine; decide),fun t ht=>?_⟩
  exact q t (.mv 8 z1 z2 j) _ af ⟨.inr (.inr rfl),g1,g2,j0,j1⟩ m1 (b6.same (ap ht _)) (X3.trans (x4.trans ((SameX.of s5).trans (x6.trans (SameX.of (ap ht _))))))
 refine aI (ne 8 (by decide) c8) ⟨_,rfl,rfl,_,rfl,?_⟩
 by_cases c13:k = 13
 ·subst c13
  refine bP rfl ⟨_,rfl,_,rfl,_,rfl,p,l,zs,rfl,b3,nm3,np,fun z4 H4 m4 b4 x4=>⟨_,rfl,_,rfl,(by show 5<=sizeLine; decide),fun t ht=>?_⟩⟩
  exact q t (.pick z1 z4 z2 z3) _ af ⟨g1,NK z4 m4,g2,g3⟩ m1 (b4.same (ap ht _)) (X3.trans (x4.trans (SameX.of (ap ht _))))
 refine aI (ne 13 (by decide) c13) ⟨_,rfl,rfl,_,rfl,?_⟩
 by_cases c14:k = 14
 ·subst c14
  refine bP rfl ⟨_,rfl,p,_,rfl,b3,by decide,by decide,fun d4 H4 q0 q1 b4 x4=>⟨_,rfl,p,_,rfl,b4,by decide,by decide,fun d5 H5 r0 r1 b5 x5=>⟨(by show 4<=sizeLine; decide),fun m hm=>?_⟩⟩⟩
  obtain ⟨G6,w6,s6,f6⟩:=dL hm (.lst [.int 0,.int 9999,.int d4,.int d5])
  rw [w6]
  refine ⟨_,rfl,p,_,rfl,b5.same s6,by decide,by decide,fun d H7 d0 d1 b7 x7=>?_⟩
  obtain ⟨v,⟨n,rfl,n0,n1⟩,ev⟩:=i3 (xs:=[.int 0,.int 9999,.int d4,.int d5]) (Pr:=fun v=>∃ j:Int,v = .int j/\0<=j/\j<=9999) d0 d1 (rE ⟨⟨_,rfl,by lia,by lia⟩,⟨_,rfl,by lia,by lia⟩,⟨_,rfl,by lia,by lia⟩,⟨_,rfl,by lia,by lia⟩,trivial⟩)
  refine ⟨m,_,_,_,rfl,rfl,SqL.of (x7 _ _ (b5.ne hm) f6),ev,?_⟩
  refine ⟨_,rfl,(by show 3<=sizeLine; decide),fun m' hm'=>?_⟩
  obtain ⟨G8,w8,s8,f8⟩:=dL hm' (.lst [.str "round",.str "stop",.str "nothing"])
  rw [w8]
  refine ⟨_,rfl,p,_,rfl,b7.same s8,by decide,by decide,fun d H9 d0 d1 b9 x9=>?_⟩
  obtain ⟨v',⟨mm,rfl,hmm⟩,ev'⟩:=i3 (xs:=[.str "round",.str "stop",.str "nothing"]) (Pr:=fun v=>∃ mm:Str,v = .str mm/\(mm = "round"\/mm = "stop"\/mm = "nothing")) d0 d1 (rE ⟨⟨_,rfl,.inl rfl⟩,⟨_,rfl,.inr (.inl rfl)⟩,⟨_,rfl,.inr (.inr rfl)⟩,trivial⟩)
  refine ⟨m',_,_,_,rfl,rfl,SqL.of (x9 _ _ (b7.ne hm') f8),ev',_,rfl,(by show 4<=sizeLine; decide),fun t ht=>?_⟩
  exact q t (.mark n mm z2) _ af ⟨n0,n1,hmm,g2⟩ trivial (b9.same (ap ht _)) (X3.trans (x4.trans (x5.trans ((SameX.of s6).trans (x7.trans ((SameX.of s8).trans (x9.trans (SameX.of (ap ht _)))))))))
 refine aI (ne 14 (by decide) c14) ⟨_,rfl,_,rfl,_,rfl,_,rfl,(by show 4<=sizeLine; decide),fun t ht=>?_⟩
 exact q t (.jn k z1 z2 z3) _ af ⟨by lia,g1,g2,g3⟩ m1 (b3.same (ap ht _)) (X3.trans (SameX.of (ap ht _)))
theorem aZ {x dx C:Addr} {H H':Hp} (hx:H x = none) (hd:H dx = none) (s:SameX x (upd (upd H dx (.own x)) x (.ins C dx [])) H'):Same H H':=fun b o h=>s b o (aw h hx) (by rw [am (aw h hx),am (aw h hd)]; exact h)
theorem sK {H:Hp} {x dx:Addr} {o o':HO} (hx:H x = none) (hd:H dx = none) (n:dx ≠ x):Same H (upd (upd H dx o) x o'):=(ap hd _).trans (ap (by rw [am (Ne.symm n)]; exact hx) _)
def sX (c:Ad) (ks:List Nat):Sp:=fun vs H Q _=>∃ (t:Addr) (k:Nat) (fs:List V),vs = [.ref t]/\H t = some (.tup (.str (wOf k) :: fs))/\k ∈ ks/\fs.length = (nOf k).length/\∀ (x:Addr) H',H x = none->StepAt c H' x k fs->Same H H'->Q (.ref x) H'
theorem iH {f:Addr} {fd:FuncData} (F:Fun K "_law_made_pair" "_law_made_pair" cA f fd) (T:Txt K mg c)  (C_Mark:CHas P w K mg base 1 c.Mark "Mark" ["self", "line", "mark", "by"] (aP K ["line", "mark", "by"])) (C_Low:CHas P w K mg base 1 c.Low "Low" ["self", "goal", "one", "other"] (aP K ["goal", "one", "other"])) (C_High:CHas P w K mg base 1 c.High "High" ["self", "goal", "one", "other"] (aP K ["goal", "one", "other"])) (C_And:CHas P w K mg base 1 c.And "And" ["self", "goal", "one", "other"] (aP K ["goal", "one", "other"])) (C_Or:CHas P w K mg base 1 c.Or "Or" ["self", "goal", "one", "other"] (aP K ["goal", "one", "other"])) (C_Unlike:CHas P w K mg base 1 c.Unlike "Unlike" ["self", "goal", "one", "other"] (aP K ["goal", "one", "other"])) (C_Under:CHas P w K mg base 1 c.Under "Under" ["self", "goal", "one", "other"] (aP K ["goal", "one", "other"])) (C_Left:CHas P w K mg base 1 c.Left "Left" ["self", "goal", "one", "k"] (aP K ["goal", "one", "k"])) (C_Right:CHas P w K mg base 1 c.Right "Right" ["self", "goal", "one", "k"] (aP K ["goal", "one", "k"])) (C_Slide:CHas P w K mg base 1 c.Slide "Slide" ["self", "goal", "one", "k"] (aP K ["goal", "one", "k"])):FnOk P w K mg base CX0 3 f fd ["_law_row_here"] (sX c [4,5,9,10,11,12,6,7,8,14]):=by
 refine F.ok iL (fun vs H Q E h=>?_) (fun cdv A outer s H vs Q E hr h=>?_)
 ·obtain ⟨t,k,fs,rfl,_⟩:=h
  rfl
 obtain ⟨t,k,fs,rfl,ht,hk,ln,q⟩:=h
 refine ⟨_,(ai (aQ (au bc (av aq (pv 0) ag (fun _ _=>rfl)) ar (ay _))
   (aj (ao (cH C_Low (hr.mono (by lia)) rfl (ae (av aq (pv 0) ag (fun _ _=>rfl)) (ae (av aq (pv 0) ag (fun _ _=>rfl)) (ae (av aq (pv 0) ag (fun _ _=>rfl)) ah))))))
   aG)
  (ai (aQ (au bc (av aq (pv 0) ag (fun _ _=>rfl)) ar (ay _))
   (aj (ao (cH C_High (hr.mono (by lia)) rfl (ae (av aq (pv 0) ag (fun _ _=>rfl)) (ae (av aq (pv 0) ag (fun _ _=>rfl)) (ae (av aq (pv 0) ag (fun _ _=>rfl)) ah))))))
   aG)
  (ai (aQ (au bc (av aq (pv 0) ag (fun _ _=>rfl)) ar (ay _))
   (aj (ao (cH C_And (hr.mono (by lia)) rfl (ae (av aq (pv 0) ag (fun _ _=>rfl)) (ae (av aq (pv 0) ag (fun _ _=>rfl)) (ae (av aq (pv 0) ag (fun _ _=>rfl)) ah))))))
   aG)
  (ai (aQ (au bc (av aq (pv 0) ag (fun _ _=>rfl)) ar (ay _))
   (aj (ao (cH C_Or (hr.mono (by lia)) rfl (ae (av aq (pv 0) ag (fun _ _=>rfl)) (ae (av aq (pv 0) ag (fun _ _=>rfl)) (ae (av aq (pv 0) ag (fun _ _=>rfl)) ah))))))
   aG)
  (ai (aQ (au bc (av aq (pv 0) ag (fun _ _=>rfl)) ar (ay _))
   (aj (ao (cH C_Unlike (hr.mono (by lia)) rfl (ae (av aq (pv 0) ag (fun _ _=>rfl)) (ae (av aq (pv 0) ag (fun _ _=>rfl)) (ae (av aq (pv 0) ag (fun _ _=>rfl)) ah))))))
   aG)
  (ai (aQ (au bc (av aq (pv 0) ag (fun _ _=>rfl)) ar (ay _))
   (aj (ao (cH C_Under (hr.mono (by lia)) rfl (ae (av aq (pv 0) ag (fun _ _=>rfl)) (ae (av aq (pv 0) ag (fun _ _=>rfl)) (ae (av aq (pv 0) ag (fun _ _=>rfl)) ah))))))
   aG)
  (ai (aQ (au bc (av aq (pv 0) ag (fun _ _=>rfl)) ar (ay _))
   (aj (ao (cH C_Left (hr.mono (by lia)) rfl (ae (av aq (pv 0) ag (fun _ _=>rfl)) (ae (av aq (pv 0) ag (fun _ _=>rfl)) (ae (av aq (pv 0) ag (fun _ _=>rfl)) ah))))))
   aG)
  (ai (aQ (au bc (av aq (pv 0) ag (fun _ _=>rfl)) ar (ay _))
   (aj (ao (cH C_Right (hr.mono (by lia)) rfl (ae (av aq (pv 0) ag (fun _ _=>rfl)) (ae (av aq (pv 0) ag (fun _ _=>rfl)) (ae (av aq (pv 0) ag (fun _ _=>rfl)) ah))))))
   aG)
  (ai (aQ (au bc (av aq (pv 0) ag (fun _ _=>rfl)) ar (ay _))
   (aj (ao (cH C_Slide (hr.mono (by lia)) rfl (ae (av aq (pv 0) ag (fun _ _=>rfl)) (ae (av aq (pv 0) ag (fun _ _=>rfl)) (ae (av aq (pv 0) ag (fun _ _=>rfl)) ah))))))
   aG)
  (aj (ao (cH C_Mark (hr.mono (by lia)) rfl (ae (av aq (pv 0) ag (fun _ _=>rfl)) (ae (av aq (pv 0) ag (fun _ _=>rfl)) (ae (av aq (pv 0) ag (fun _ _=>rfl)) ah))))))))))))))),?_⟩
 have k15:k < 15:=by simp only [List.mem_cons,List.not_mem_nil,or_false] at hk; lia
 have ne:∀ j,j < 16->k ≠ j->¬ V.str (wOf k) = V.str (wOf j):=fun j hj h z=>h (rG (by lia) hj z)
 refine ⟨_,rfl,t,_,_,_,rfl,rfl,SqT.of ht,at0 _ _,rfl,_,rfl,?_⟩
 by_cases c4:k = 4
 ·subst c4
  obtain ⟨a0,a1,a2,rfl⟩:=iY ln
  obtain ⟨cl,na⟩:=T.clF (k:=4) (by decide)
  refine bP rfl ⟨_,rfl,t,_,_,_,rfl,rfl,SqT.of ht,rfl,_,rfl,t,_,_,_,rfl,rfl,SqT.of ht,rfl,_,rfl,t,_,_,_,rfl,rfl,SqT.of ht,rfl,fun x dx hx hdx hne=>⟨x,_,dx,_,rfl,rfl,af,cl,na,fun H' hx' sx=>⟨rfl,q x H' hx ⟨dx,hx',rfl⟩ (aZ hx hdx sx)⟩⟩⟩
 refine aI (ne 4 (by decide) c4) ?_
 refine ⟨_,rfl,t,_,_,_,rfl,rfl,SqT.of ht,at0 _ _,rfl,_,rfl,?_⟩
 by_cases c5:k = 5
 ·subst c5
  obtain ⟨a0,a1,a2,rfl⟩:=iY ln
  obtain ⟨cl,na⟩:=T.clF (k:=5) (by decide)
  refine bP rfl ⟨_,rfl,t,_,_,_,rfl,rfl,SqT.of ht,rfl,_,rfl,t,_,_,_,rfl,rfl,SqT.of ht,rfl,_,rfl,t,_,_,_,rfl,rfl,SqT.of ht,rfl,fun x dx hx hdx hne=>⟨x,_,dx,_,rfl,rfl,af,cl,na,fun H' hx' sx=>⟨rfl,q x H' hx ⟨dx,hx',rfl⟩ (aZ hx hdx sx)⟩⟩⟩
 refine aI (ne 5 (by decide) c5) ?_
 refine ⟨_,rfl,t,_,_,_,rfl,rfl,SqT.of ht,at0 _ _,rfl,_,rfl,?_⟩
 by_cases c9:k = 9
 ·subst c9
  obtain ⟨a0,a1,a2,rfl⟩:=iY ln
  obtain ⟨cl,na⟩:=T.clF (k:=9) (by decide)
  refine bP rfl ⟨_,rfl,t,_,_,_,rfl,rfl,SqT.of ht,rfl,_,rfl,t,_,_,_,rfl,rfl,SqT.of ht,rfl,_,rfl,t,_,_,_,rfl,rfl,SqT.of ht,rfl,fun x dx hx hdx hne=>⟨x,_,dx,_,rfl,rfl,af,cl,na,fun H' hx' sx=>⟨rfl,q x H' hx ⟨dx,hx',rfl⟩ (aZ hx hdx sx)⟩⟩⟩
 refine aI (ne 9 (by decide) c9) ?_
 refine ⟨_,rfl,t,_,_,_,rfl,rfl,SqT.of ht,at0 _ _,rfl,_,rfl,?_⟩
 by_cases c10:k = 10
 ·subst c10
  obtain ⟨a0,a1,a2,rfl⟩:=iY ln
  obtain ⟨cl,na⟩:=T.clF (k:=10) (by decide)
  refine bP rfl ⟨_,rfl,t,_,_,_,rfl,rfl,SqT.of ht,rfl,_,rfl,t,_,_,_,rfl,rfl,SqT.of ht,rfl,_,rfl,t,_,_,_,rfl,rfl,SqT.of ht,rfl,fun x dx hx hdx hne=>⟨x,_,dx,_,rfl,rfl,af,cl,na,fun H' hx' sx=>⟨rfl,q x H' hx ⟨dx,hx',rfl⟩ (aZ hx hdx sx)⟩⟩⟩
 refine aI (ne 10 (by decide) c10) ?_
 refine ⟨_,rfl,t,_,_,_,rfl,rfl,SqT.of ht,at0 _ _,rfl,_,rfl,?_⟩
 by_cases c11:k = 11
 ·subst c11
  obtain ⟨a0,a1,a2,rfl⟩:=iY ln
  obtain ⟨cl,na⟩:=T.clF (k:=11) (by decide)
  refine bP rfl ⟨_,rfl,t,_,_,_,rfl,rfl,SqT.of ht,rfl,_,rfl,t,_,_,_,rfl,rfl,SqT.of ht,rfl,_,rfl,t,_,_,_,rfl,rfl,SqT.of ht,rfl,fun x dx hx hdx hne=>⟨x,_,dx,_,rfl,rfl,af,cl,na,fun H' hx' sx=>⟨rfl,q x H' hx ⟨dx,hx',rfl⟩ (aZ hx hdx sx)⟩⟩⟩
 refine aI (ne 11 (by decide) c11) ?_
 refine ⟨_,rfl,t,_,_,_,rfl,rfl,SqT.of ht,at0 _ _,rfl,_,rfl,?_⟩
 by_cases c12:k = 12
 ·subst c12
  obtain ⟨a0,a1,a2,rfl⟩:=iY ln
  obtain ⟨cl,na⟩:=T.clF (k:=12) (by decide)
  refine bP rfl ⟨_,rfl,t,_,_,_,rfl,rfl,SqT.of ht,rfl,_,rfl,t,_,_,_,rfl,rfl,SqT.of ht,rfl,_,rfl,t,_,_,_,rfl,rfl,SqT.of ht,rfl,fun x dx hx hdx hne=>⟨x,_,dx,_,rfl,rfl,af,cl,na,fun H' hx' sx=>⟨rfl,q x H' hx ⟨dx,hx',rfl⟩ (aZ hx hdx sx)⟩⟩⟩
 refine aI (ne 12 (by decide) c12) ?_
 refine ⟨_,rfl,t,_,_,_,rfl,rfl,SqT.of ht,at0 _ _,rfl,_,rfl,?_⟩
 by_cases c6:k = 6
 ·subst c6
  obtain ⟨a0,a1,a2,rfl⟩:=iY ln
  obtain ⟨cl,na⟩:=T.clF (k:=6) (by decide)
  refine bP rfl ⟨_,rfl,t,_,_,_,rfl,rfl,SqT.of ht,rfl,_,rfl,t,_,_,_,rfl,rfl,SqT.of ht,rfl,_,rfl,t,_,_,_,rfl,rfl,SqT.of ht,rfl,fun x dx hx hdx hne=>⟨x,_,dx,_,rfl,rfl,af,cl,na,fun H' hx' sx=>⟨rfl,q x H' hx ⟨dx,hx',rfl⟩ (aZ hx hdx sx)⟩⟩⟩
 refine aI (ne 6 (by decide) c6) ?_
 refine ⟨_,rfl,t,_,_,_,rfl,rfl,SqT.of ht,at0 _ _,rfl,_,rfl,?_⟩
 by_cases c7:k = 7
 ·subst c7
  obtain ⟨a0,a1,a2,rfl⟩:=iY ln
  obtain ⟨cl,na⟩:=T.clF (k:=7) (by decide)
  refine bP rfl ⟨_,rfl,t,_,_,_,rfl,rfl,SqT.of ht,rfl,_,rfl,t,_,_,_,rfl,rfl,SqT.of ht,rfl,_,rfl,t,_,_,_,rfl,rfl,SqT.of ht,rfl,fun x dx hx hdx hne=>⟨x,_,dx,_,rfl,rfl,af,cl,na,fun H' hx' sx=>⟨rfl,q x H' hx ⟨dx,hx',rfl⟩ (aZ hx hdx sx)⟩⟩⟩
 refine aI (ne 7 (by decide) c7) ?_
 refine ⟨_,rfl,t,_,_,_,rfl,rfl,SqT.of ht,at0 _ _,rfl,_,rfl,?_⟩
 by_cases c8:k = 8
 ·subst c8
  obtain ⟨a0,a1,a2,rfl⟩:=iY ln
  obtain ⟨cl,na⟩:=T.clF (k:=8) (by decide)
  refine bP rfl ⟨_,rfl,t,_,_,_,rfl,rfl,SqT.of ht,rfl,_,rfl,t,_,_,_,rfl,rfl,SqT.of ht,rfl,_,rfl,t,_,_,_,rfl,rfl,SqT.of ht,rfl,fun x dx hx hdx hne=>⟨x,_,dx,_,rfl,rfl,af,cl,na,fun H' hx' sx=>⟨rfl,q x H' hx ⟨dx,hx',rfl⟩ (aZ hx hdx sx)⟩⟩⟩
 refine aI (ne 8 (by decide) c8) ?_
 have e14:k = 14:=by simp only [List.mem_cons,List.not_mem_nil,or_false] at hk; lia
 subst e14
 obtain ⟨a0,a1,a2,rfl⟩:=iY ln
 obtain ⟨cl,na⟩:=T.clF (k:=14) (by decide)
 refine ⟨_,rfl,t,_,_,_,rfl,rfl,SqT.of ht,rfl,_,rfl,t,_,_,_,rfl,rfl,SqT.of ht,rfl,_,rfl,t,_,_,_,rfl,rfl,SqT.of ht,rfl,fun x dx hx hdx hne=>⟨x,_,dx,_,rfl,rfl,af,cl,na,fun H' hx' sx=>⟨rfl,q x H' hx ⟨dx,hx',rfl⟩ (aZ hx hdx sx)⟩⟩⟩
theorem hu2 {A:Around} {k:Nat} (hr:Room k A):A.units + 1 + 1 < cLine:=by have:=hr.un; lia
theorem selfE {K:Frag} {H:Hp} {d:Nat} {x:V} (h:cq x = true\/∃ a,x = .ref a):EqD K H d x x true:=by
 rcases h with h | ⟨a,rfl⟩
 ·have e:eqV x x = true:=by
   cases x <;> first | rfl | (cases h; done) | (simp [eqV])
  have z:=EqD.flat (K:=K) (H:=H) (d:=d) h h
  rw [e] at z
  exact z
 ·exact EqD.same
theorem aT {n:Nat}:(List.range n).all (fun _=>true) = true:=by rw [List.all_eq_true]; intro _ _; rfl
theorem eqRow {K:Frag} {H:Hp} {d:Nat} {a b:Addr} {xs:List V} (ha:H a = some (.tup xs)) (hb:H b = some (.tup xs)) (h:∀ x ∈ xs,cq x = true\/∃ a,x = .ref a):EqD K H (d + 1) (.ref a) (.ref b) true:=by
 by_cases e:a = b
 ·rw [e]; exact EqD.same
 have z:=EqD.tup (K:=K) (H:=H) (d:=d) (e:=fun _=>true) e (SqT.of ha) (SqT.of hb) fun j h1 _=>by
  have e:xs.getD j .non = xs[j]:=by rw [List.getD_eq_getElem?_getD,List.getElem?_eq_getElem h1]; rfl
  rw [e]
  exact selfE (h _ (List.getElem_mem h1))
 rw [aT,beq_self_eq_true] at z
 exact z
theorem ne_w {k:Nat} (hk:k < 15):∀ j,j < 16->k ≠ j->¬ V.str (wOf k) = V.str (wOf j):=fun j hj h z=>h (rG (by lia) hj z)
def oB:Sp:=fun vs H Q _=>∃ (k:Nat) (w a b:Int),vs = [.str (wOf k),.int a,.int b,.int (1 * 2 ^ w.toNat)]/\(k = 4\/k = 5\/k = 9\/k = 10\/k = 11\/k = 12)/\4<=w/\w<=32/\0<=a/\a < 2 ^ w.toNat/\0<=b/\b < 2 ^ w.toNat/\Q (.int (jnV w k a b)) H
theorem iD {f:Addr} {fd:FuncData} (F:Fun K "_law_pair_word" "_law_pair_word" cx f fd) (T:Txt K mg c) :FnOk P w K mg base CX0 1 f fd ["_law_word_here", "_law_a", "_law_b", "_law_size"] oB:=by
 refine F.ok iy (fun vs H Q E h=>?_) (fun cdv A outer s H vs Q E hr h=>?_)
 ·obtain ⟨k,w',a,b,rfl,_⟩:=h
  rfl
 obtain ⟨k,w',a,b,rfl,hk,w0,w1,a0,a1,b0,b1,q⟩:=h
 refine ⟨_,(ai (aQ (au bc (pv 0) ar (ay _))
   (aj (ao (aE bM (aE iI (pv 1) (pv 2)) (pv 3))))
   aG)
  (ai (aQ (au bc (pv 0) ar (ay _))
   (aj (ao (aE fN (aE iI (pv 1) (pv 2)) (pv 3))))
   aG)
  (ai (aQ (au bc (pv 0) ar (ay _))
   (aj (ao (aE op_and (pv 1) (pv 2))))
   aG)
  (ai (aQ (au bc (pv 0) ar (ay _))
   (aj (ao (aE op_or (pv 1) (pv 2))))
   aG)
  (ai (aQ (au bc (pv 0) ar (ay _))
   (aj (ao (aE op_xor (pv 1) (pv 2))))
   aG)
  (aj (ao (bh hR rfl T.n_int boot_int (ae (cy kr (pv 1) (pv 2) (ay _)) ah))))))))),?_⟩
 have P:=aV w0 w1
 have ne:=ne_w (k:=k) (by lia)
 have bm:intBits a<=100000/\intBits b<=100000:=⟨oJ (by lia) (by lia),oJ (by lia) (by lia)⟩
 refine ⟨_,rfl,rfl,_,rfl,?_⟩
 by_cases c4:k = 4
 ·subst c4
  exact bP rfl ⟨_,rfl,_,rfl,_,_,rfl,rfl,bm,_,rfl,_,_,rfl,rfl,bS _,q⟩
 refine aI (ne 4 (by decide) c4) ⟨_,rfl,rfl,_,rfl,?_⟩
 by_cases c5:k = 5
 ·subst c5
  have q:Q (.int (a * b / 2 ^ w'.toNat)) H:=q
  rw [<- Int.one_mul ((2:Int) ^ w'.toNat)] at q
  exact bP rfl ⟨_,rfl,_,rfl,_,_,rfl,rfl,bm,_,rfl,_,_,rfl,rfl,⟨bS _,eL (bS _) (by lia)⟩,q⟩
 refine aI (ne 5 (by decide) c5) ⟨_,rfl,rfl,_,rfl,?_⟩
 by_cases c9:k = 9
 ·subst c9
  exact bP rfl ⟨_,rfl,_,rfl,_,_,rfl,rfl,q⟩
 refine aI (ne 9 (by decide) c9) ⟨_,rfl,rfl,_,rfl,?_⟩
 by_cases c10:k = 10
 ·subst c10
  exact bP rfl ⟨_,rfl,_,rfl,_,_,rfl,rfl,q⟩
 refine aI (ne 10 (by decide) c10) ⟨_,rfl,rfl,_,rfl,?_⟩
 by_cases c11:k = 11
 ·subst c11
  exact bP rfl ⟨_,rfl,_,rfl,_,_,rfl,rfl,q⟩
 refine aI (ne 11 (by decide) c11) ?_
 have c12:k = 12:=by lia
 subst c12
 have q:Q (.int (if a < b then 1 else 0)) H:=q
 refine ⟨_,rfl,_,rfl,_,_,rfl,rfl,.inr ⟨_,rfl,?_⟩⟩
 by_cases hc:a < b
 ·rw [if_pos hc] at q
  rw [decide_eq_true hc]
  exact q
 ·rw [if_neg hc] at q
  rw [decide_eq_false hc]
  exact q
def rY:Sp:=fun vs H Q _=>∃ (k:Nat) (w a j:Int),vs = [.str (wOf k),.int a,.int j,.int (1 * 2 ^ w.toNat)]/\(k = 6\/k = 7\/k = 8)/\4<=w/\w<=32/\0<=a/\a < 2 ^ w.toNat/\0<=j/\j < w/\Q (.int (mvV w k a j)) H
theorem lW {f:Addr} {fd:FuncData} (F:Fun K "_law_moved" "_law_moved" eO f fd) (T:Txt K mg c) :FnOk P w K mg base CX0 1 f fd ["_law_word_here", "_law_a", "_law_k", "_law_size"] rY:=by
 refine F.ok lv (fun vs H Q E h=>?_) (fun cdv A outer s H vs Q E hr h=>?_)
 ·obtain ⟨k,w',a,j,rfl,_⟩:=h
  rfl
 obtain ⟨k,w',a,j,rfl,hk,w0,w1,a0,a1,j0,j1,q⟩:=h
 refine ⟨_,(ai (aQ (au bc (pv 0) ar (ay _))
   (aj (ao (aE bM (aE iI (pv 1) (aE jj ag (pv 2))) (pv 3))))
   aG)
  (ai (aQ (au bc (pv 0) ar (ay _))
   (aj (ao (aE fN (pv 1) (aE jj ag (pv 2)))))
   aG)
  (aj (ao (aE bM (aE fN (aE eY (pv 1) (aE iI (pv 3) (bh hR rfl T.n_int boot_int (ae (cy op_ge (aE iI ag (pv 1)) (pv 3) (ay _)) ah)))) (aE jj ag (pv 2))) (pv 3)))))),?_⟩
 have P:=aV w0 w1
 have pj:=pow_lt j0 j1
 have pp:=bS j.toNat
 have ne:=ne_w (k:=k) (by lia)
 have sj:(0<=j/\j<=100000/\intBits 1<=100000):=⟨by lia,by lia,oJ (by decide) (by decide)⟩
 refine ⟨_,rfl,rfl,_,rfl,?_⟩
 by_cases c6:k = 6
 ·subst c6
  have q:Q (.int ((a * 2 ^ j.toNat) % (1 * 2 ^ w'.toNat))) H:=q
  rw [<- Int.one_mul ((2:Int) ^ j.toNat)] at q
  exact bP rfl ⟨_,rfl,_,rfl,_,_,rfl,rfl,sj,_,_,rfl,rfl,⟨oJ (by lia) (by lia),oJ (by lia) (by lia)⟩,_,rfl,_,_,rfl,rfl,bS _,q⟩
 refine aI (ne 6 (by decide) c6) ⟨_,rfl,rfl,_,rfl,?_⟩
 by_cases c7:k = 7
 ·subst c7
  have q:Q (.int (a / 2 ^ j.toNat)) H:=q
  rw [<- Int.one_mul ((2:Int) ^ j.toNat)] at q
  exact bP rfl ⟨_,rfl,_,rfl,_,_,rfl,rfl,sj,_,_,rfl,rfl,⟨bS _,eL (bS _) (by lia)⟩,q⟩
 refine aI (ne 7 (by decide) c7) ?_
 have c8:k = 8:=by lia
 subst c8
 have q:Q (.int ((cnt w' a / 2 ^ j.toNat) % (1 * 2 ^ w'.toNat))) H:=q
 rw [<- Int.one_mul ((2:Int) ^ j.toNat)] at q
 have hf:=pw_half w0
 refine ⟨_,rfl,_,rfl,_,rfl,_,_,rfl,rfl,⟨oJ (by decide) (by decide),oJ (by lia) (by lia)⟩,_,rfl,_,_,rfl,rfl,.inr ⟨_,rfl,?_⟩⟩
 have ec:a - 1 * 2 ^ w'.toNat * (if decide (2 * a ≥ 1 * 2 ^ w'.toNat) = true then 1 else 0) = cnt w' a:=by
  unfold cnt
  by_cases hc:a < 1 * 2 ^ (w' - 1).toNat
  ·rw [if_pos hc,decide_eq_false (by lia),if_neg (by decide),Int.mul_zero,Int.sub_zero]
  ·rw [if_neg hc,decide_eq_true (by lia),if_pos rfl,Int.mul_one]
 rw [<- ec] at q
 exact ⟨_,_,rfl,rfl,⟨oJ (by lia) (by lia),(by split <;> exact oJ (by decide) (by decide))⟩,_,_,rfl,rfl,_,rfl,_,_,rfl,rfl,sj,_,_,rfl,rfl,⟨bS _,eL (bS _) (by lia)⟩,_,rfl,_,_,rfl,rfl,bS _,q⟩
theorem in3 {k:Nat} (h:k < 15):inV (.str (wOf k)) [.str "left",.str "right",.str "slide"] = decide (k = 6\/k = 7\/k = 8):=by
 have a:∀ k ∈ List.range 15,inV (.str (wOf k)) [.str "left",.str "right",.str "slide"] = decide (k = 6\/k = 7\/k = 8):=by decide +kernel
 exact a k (List.mem_range.mpr h)
def rX:Sp:=fun vs H Q _=>∃ (t d m:Addr) (w:Int) (r:Rw) (kvs:List (Key × V)) (ms:List V),vs = [.int (1 * 2 ^ w.toNat),.ref t,.ref d,.ref m]/\H t = some (.tup (.str (wOf r.k) :: r.fs))/\r.ok w/\4<=w/\w<=32/\H d = some (.dK kvs)/\Wd w kvs/\H m = some (.lst ms)/\ms.length<=10000 /\
 ∀ H',H' d = some (.dK (r.act w kvs))->Mk1 H' m ms (r.mk kvs)->(∀ b o,b ≠ d->b ≠ m->H b = some o->H' b = some o)->Q .non H'
theorem cr1_sum {w a b:Int} (w0:4<=w) (w1:w<=32) (a0:0<=a) (a1:a < 2 ^ w.toNat) (b0:0<=b) (b1:b < 2 ^ w.toNat):cr1 w 2 a b = if a + b < 1 * 2 ^ w.toNat then 0 else 1:=by
 show (a + b) / 2 ^ w.toNat = _
 have P:=aV w0 w1
 generalize (2:Int) ^ w.toNat = S at *
 by_cases c:a + b < 1 * S
 ·rw [if_pos c]
  exact Int.ediv_eq_zero_of_lt (by lia) (by lia)
 ·rw [if_neg c]
  have this:=Int.add_mul_ediv_right (a + b - S) 1 (show S ≠ 0 by lia)
  rw [show a + b - S + 1 * S = a + b by lia] at this
  rw [this,Int.ediv_eq_zero_of_lt (by lia) (by lia)]
  rfl
theorem mY {f:Addr} {fd:FuncData} (F:Fun K "_law_done" "_law_done" gR f fd) (T:Txt K mg c) (H__law_moved:Has P w K mg base 1 "_law_moved" ["_law_word_here", "_law_a", "_law_k", "_law_size"] rY) (H__law_pair_word:Has P w K mg base 1 "_law_pair_word" ["_law_word_here", "_law_a", "_law_b", "_law_size"] oB):FnOk P w K mg base CX0 2 f fd ["_law_size", "_law_row_here", "_law_held_here", "_law_marks"] rX:=by
 refine F.ok sc__law_done (fun vs H Q E h=>?_) (fun cdv A outer s H vs Q E hr h=>?_)
 ·obtain ⟨t,d,m',w',r,kvs,ms,rfl,_⟩:=h
  rfl
 obtain ⟨t,d,m',w',r,kvs,ms,rfl,ht,rk,w0,w1,hd,wd,hm,ml,q⟩:=h
 refine slE ⟨_,(ax (bL (au bc (av aq (pv 1) ag (fun _ _=>rfl)) ar (ay _))
   (ax (bR (be (aN hr) (pv 2) (av aq (pv 1) ag (fun _ _=>rfl)) (av aq (pv 1) ag (fun _ _=>rfl)) rfl)))
   (ax (bL (au bc (av aq (pv 1) ag (fun _ _=>rfl)) ar (ay _))
    (ax (bR (be (aN hr) (pv 2) (av aq (pv 1) ag (fun _ _=>rfl)) (aO (aN hr) (pv 2) (av aq (pv 1) ag (fun _ _=>rfl)) ag ⟨rfl,rfl,rfl,rfl⟩) rfl)))
    (ax (bL (au bc (av aq (pv 1) ag (fun _ _=>rfl)) ar (ay _))
     (ax (bL (au sL (aO (aN hr) (pv 2) (av aq (pv 1) ag (fun _ _=>rfl)) ag ⟨rfl,rfl,rfl,rfl⟩) ag (ay _))
      (ax (qD (pe_bmZ PySem.F.plainAttrs_list PySem.F.slot_list_append PySem.F.type_list_append bB (pv 3) (lN (sE (aF (av aq (pv 1) ag (fun _ _=>rfl)) (aF (av aq (pv 1) ag (fun _ _=>rfl)) ee))) ee))))
      br))
     (ax (bL (au bc (av aq (pv 1) ag (fun _ _=>rfl)) ar (ay _))
      (aA (bR (aH (i:=4) sc__law_done.nd rfl (Or.inl rfl) (aE bY ag (bh hR rfl T.n_int boot_int (ae (cy bc (aO (aN hr) (pv 2) (av aq (pv 1) ag (fun _ _=>rfl)) ag ⟨rfl,rfl,rfl,rfl⟩) ag (ay _)) ah)))))
      (ax (bR (be (aN hr) (pv 2) (av aq (pv 1) ag (fun _ _=>rfl)) (aO (aN hr) (pv 2) (av aq (pv 1) (pv 4) (fun _ _=>rfl)) ag ⟨rfl,rfl,rfl,rfl⟩) rfl))))
      (ax (bL (PW.pt (eQ (au bc (av aq (pv 1) ag (fun _ _=>rfl)) ar (ay _)) (fk (au bc (av aq (pv 1) ag (fun _ _=>rfl)) ar (ay _)))))
       (aA (bR (aH (i:=5) sc__law_done.nd rfl (Or.inl rfl) (aO (aN hr) (pv 2) (av aq (pv 1) ag (fun _ _=>rfl)) ag ⟨rfl,rfl,rfl,rfl⟩)))
       (aA (bR (aH (i:=6) sc__law_done.nd rfl (Or.inl rfl) (aO (aN hr) (pv 2) (av aq (pv 1) ag (fun _ _=>rfl)) ag ⟨rfl,rfl,rfl,rfl⟩)))
       (aA (bR (aH (i:=7) sc__law_done.nd rfl (Or.inl rfl) (aE eY (pv 5) (pv 6))))
       (aA (bL (au bc (av aq (pv 1) ag (fun _ _=>rfl)) ar (ay _))
        (ax (bR (aH (i:=7) sc__law_done.nd rfl (Or.inl rfl) (aE bY (pv 5) (pv 6)))))
        br)
       (aA (bR (be (aN hr) (pv 2) (av aq (pv 1) ag (fun _ _=>rfl)) (aE bM (pv 7) (pv 0)) rfl))
       (ax (bL (au tE (av aq (pv 1) ag (fun _ _=>rfl)) mV (ay _))
        (ax (bR (be (aN hr) (pv 2) (av aq (pv 1) ag (fun _ _=>rfl)) (bh hR rfl T.n_int boot_int (ae (qx (p6 qS kr ag (pv 7) (pv 0))) ah)) rfl)))
        br)))))))
       (ax (bL (au mQ (av aq (pv 1) ag (fun _ _=>rfl)) (bt (ae ar (ae ar (ae ar ah)))) (by with_unfolding_all rfl))
        (ax (bR (be (aN hr) (pv 2) (av aq (pv 1) ag (fun _ _=>rfl)) (aC H__law_moved (hr.mono (by lia)) rfl (ae (av aq (pv 1) ag (fun _ _=>rfl)) (ae (aO (aN hr) (pv 2) (av aq (pv 1) ag (fun _ _=>rfl)) ag ⟨rfl,rfl,rfl,rfl⟩) (ae (av aq (pv 1) ag (fun _ _=>rfl)) (ae (pv 0) ah))))) rfl)))
        (ax (bR (be (aN hr) (pv 2) (av aq (pv 1) ag (fun _ _=>rfl)) (aC H__law_pair_word (hr.mono (by lia)) rfl (ae (av aq (pv 1) ag (fun _ _=>rfl)) (ae (aO (aN hr) (pv 2) (av aq (pv 1) ag (fun _ _=>rfl)) ag ⟨rfl,rfl,rfl,rfl⟩) (ae (aO (aN hr) (pv 2) (av aq (pv 1) ag (fun _ _=>rfl)) ag ⟨rfl,rfl,rfl,rfl⟩) (ae (pv 0) ah))))) rfl))))))))))))))),?_⟩
 have P:=aV w0 w1
 have L1000:(20000:Nat)<=sizeLine:=by decide
 have l5:=wd.ln
 have ntd:t ≠ d:=fun z=>by rw [z,hd] at ht; cases ht
 have ndm:d ≠ m':=fun z=>by rw [z,hm] at hd; cases hd
 have wi:=wd.ints
 have k15:=Rw.k15 rk
 have ne:=ne_w k15
 cases r with
 | set g b =>
  refine ⟨_,rfl,t,_,_,_,rfl,rfl,SqT.of ht,at0 _ _,rfl,_,rfl,?_⟩
  refine bP rfl ⟨_,rfl,t,_,_,_,rfl,rfl,SqT.of ht,rfl,_,rfl,_,rfl,t,_,_,_,rfl,rfl,SqT.of ht,rfl,d,_,rfl,DPut.k (k:=.inr g) hd (by lia),?_⟩
  exact q _ (by rw [af]; rfl) (by show upd _ d _ m' = _; rw [am (Ne.symm ndm)]; exact hm) (fun b' o' n1 n2 e=>by rw [am n1]; exact e)
 | copy g a =>
  refine ⟨_,rfl,t,_,_,_,rfl,rfl,SqT.of ht,at0 _ _,rfl,_,rfl,?_⟩
  refine aI (ne 0 (by decide) (by show (1:Nat) ≠ 0; decide)) ⟨_,rfl,t,_,_,_,rfl,rfl,SqT.of ht,at0 _ _,rfl,_,rfl,?_⟩
  refine bP rfl ⟨_,rfl,d,rfl,⟨_,hd⟩,_,rfl,t,_,_,_,rfl,rfl,SqT.of ht,rfl,_,_,rfl,hd,wi,_,rfl,_,rfl,t,_,_,_,rfl,rfl,SqT.of ht,rfl,d,_,rfl,DPut.k (k:=.inr g) hd (by lia),?_⟩
  exact q _ (by rw [af]; rfl) (by show upd _ d _ m' = _; rw [am (Ne.symm ndm)]; exact hm) (fun b' o' n1 n2 e=>by rw [am n1]; exact e)
 | mark n m y =>
  refine ⟨_,rfl,t,_,_,_,rfl,rfl,SqT.of ht,at0 _ _,rfl,_,rfl,?_⟩
  refine aI (ne 0 (by decide) (by show (14:Nat) ≠ 0; decide)) ⟨_,rfl,t,_,_,_,rfl,rfl,SqT.of ht,at0 _ _,rfl,_,rfl,?_⟩
  refine aI (ne 1 (by decide) (by show (14:Nat) ≠ 1; decide)) ⟨_,rfl,t,_,_,_,rfl,rfl,SqT.of ht,at0 _ _,rfl,_,rfl,?_⟩
  refine bP rfl ⟨_,rfl,d,rfl,⟨_,hd⟩,_,rfl,t,_,_,_,rfl,rfl,SqT.of ht,rfl,_,_,rfl,hd,wi,rfl,_,rfl,?_⟩
  by_cases c0:gI kvs y = 0
  ·refine nZ (congrArg V.int c0) ?_
   exact q H hd (by show Mk1 H m' ms (if gI kvs y ≠ 0 then _ else _); rw [if_neg (fun h=>h c0)]; exact hm) (fun b' o' n1 n2 e=>e)
  ·refine iteN (fun z=>c0 (by injection z)) ?_
   refine ⟨_,rfl,.inl ⟨rfl,_,SqL.of hm⟩,_,rfl,t,_,_,_,rfl,rfl,SqT.of ht,rfl,_,rfl,t,_,_,_,rfl,rfl,SqT.of ht,rfl,(by show 2<=sizeLine; decide),fun t' ht'=>?_⟩
   have s1:=ap ht' (.tup [.int n,.str m])
   have hm1:=s1 _ _ hm
   have ntm:t' ≠ m':=fun z=>by rw [z,hm] at ht'; cases ht'
   refine ⟨m',_,_,rfl,rfl,hm1,(by lia),?_⟩
   refine q _ (by show upd _ m' _ d = _; rw [am ndm]; exact s1 _ _ hd) ?_ (fun b' o' n1 n2 e=>by rw [am n2]; exact s1 _ _ e)
   show Mk1 _ m' ms (if gI kvs y ≠ 0 then _ else _)
   rw [if_pos c0]
   exact ⟨t',af,by rw [am ntm]; exact af⟩
 | pick g y a b =>
  refine ⟨_,rfl,t,_,_,_,rfl,rfl,SqT.of ht,at0 _ _,rfl,_,rfl,?_⟩
  refine aI (ne 0 (by decide) (by show (13:Nat) ≠ 0; decide)) ⟨_,rfl,t,_,_,_,rfl,rfl,SqT.of ht,at0 _ _,rfl,_,rfl,?_⟩
  refine aI (ne 1 (by decide) (by show (13:Nat) ≠ 1; decide)) ⟨_,rfl,t,_,_,_,rfl,rfl,SqT.of ht,at0 _ _,rfl,_,rfl,?_⟩
  refine aI (ne 14 (by decide) (by show (13:Nat) ≠ 14; decide)) ⟨_,rfl,t,_,_,_,rfl,rfl,SqT.of ht,at0 _ _,rfl,_,rfl,?_⟩
  refine bP rfl ⟨_,rfl,d,rfl,⟨_,hd⟩,_,rfl,t,_,_,_,rfl,rfl,SqT.of ht,rfl,_,_,rfl,hd,wi,rfl,.inr ⟨_,rfl,_,_,rfl,rfl,?_⟩⟩
  by_cases c0:gI kvs y = 0
  ·rw [decide_eq_true (congrArg V.int c0)]
   refine ⟨_,rfl,d,rfl,⟨_,hd⟩,_,rfl,_,rfl,t,_,_,_,rfl,rfl,SqT.of ht,rfl,_,_,rfl,hd,wi,_,rfl,_,rfl,t,_,_,_,rfl,rfl,SqT.of ht,rfl,d,_,rfl,DPut.k (k:=.inr g) hd (by lia),?_⟩
   refine q _ (by rw [af]; show _ = some (HO.dK (stK kvs g (gI kvs (if gI kvs y ≠ 0 then a else b)))); rw [if_neg (fun h=>h c0)]; rfl) (by show upd _ d _ m' = _; rw [am (Ne.symm ndm)]; exact hm) (fun b' o' n1 n2 e=>by rw [am n1]; exact e)
  ·rw [decide_eq_false (fun z=>c0 (by injection z))]
   refine ⟨_,rfl,d,rfl,⟨_,hd⟩,_,rfl,_,rfl,t,_,_,_,rfl,rfl,SqT.of ht,rfl,_,_,rfl,hd,wi,_,rfl,_,rfl,t,_,_,_,rfl,rfl,SqT.of ht,rfl,d,_,rfl,DPut.k (k:=.inr g) hd (by lia),?_⟩
   refine q _ (by rw [af]; show _ = some (HO.dK (stK kvs g (gI kvs (if gI kvs y ≠ 0 then a else b)))); rw [if_pos c0]; rfl) (by show upd _ d _ m' = _; rw [am (Ne.symm ndm)]; exact hm) (fun b' o' n1 n2 e=>by rw [am n1]; exact e)
 | car k g cv a b =>
  obtain ⟨ok,og,oc,oa,ob⟩:=rk
  obtain ⟨_,a0,a1⟩:=wd.get a
  obtain ⟨_,b0,b1⟩:=wd.get b
  have l6:=bA kvs (.inr g) (.int (cr0 w' k (gI kvs a) (gI kvs b)))
  rcases ok with rfl | rfl
  ·refine ⟨_,rfl,t,_,_,_,rfl,rfl,SqT.of ht,at0 _ _,rfl,_,rfl,?_⟩
   refine aI (ne 0 (by decide) (by show (2:Nat) ≠ 0; decide)) ⟨_,rfl,t,_,_,_,rfl,rfl,SqT.of ht,at0 _ _,rfl,_,rfl,?_⟩
   refine aI (ne 1 (by decide) (by show (2:Nat) ≠ 1; decide)) ⟨_,rfl,t,_,_,_,rfl,rfl,SqT.of ht,at0 _ _,rfl,_,rfl,?_⟩
   refine aI (ne 14 (by decide) (by show (2:Nat) ≠ 14; decide)) ⟨_,rfl,t,_,_,_,rfl,rfl,SqT.of ht,at0 _ _,rfl,_,rfl,?_⟩
   refine aI (ne 13 (by decide) (by show (2:Nat) ≠ 13; decide)) ⟨_,rfl,t,_,_,_,rfl,rfl,SqT.of ht,at0 _ _,rfl,_,rfl,?_⟩
   refine bP rfl ⟨_,rfl,d,rfl,⟨_,hd⟩,_,rfl,t,_,_,_,rfl,rfl,SqT.of ht,rfl,_,_,rfl,hd,wi,_,rfl,d,rfl,⟨_,hd⟩,_,rfl,t,_,_,_,rfl,rfl,SqT.of ht,rfl,_,_,rfl,hd,wi,_,rfl,_,rfl,_,_,rfl,rfl,?_⟩
   refine ⟨_,rfl,t,_,_,_,rfl,rfl,SqT.of ht,at0 _ _,rfl,_,rfl,?_⟩
   refine bP rfl ⟨_,rfl,_,rfl,_,_,rfl,rfl,?_⟩
   refine ⟨_,rfl,_,rfl,_,_,rfl,rfl,bS _,_,rfl,_,rfl,t,_,_,_,rfl,rfl,SqT.of ht,rfl,d,_,rfl,DPut.k (k:=.inr g) hd (by lia),?_⟩
   have ht2:upd H d (.dK (cp kvs (.inr g) (.int ((gI kvs a + gI kvs b) % (1 * 2 ^ w'.toNat))))) t = some (.tup [.str (wOf 2),.str g,oV cv,.str a,.str b]):=by rw [am ntd]; exact ht
   cases cv with
   | none =>
    refine ⟨_,rfl,t,_,_,_,rfl,rfl,SqT.of ht2,rfl,rfl,_,rfl,cE ?_⟩
    exact q _ (by rw [af]; rfl) (by show upd _ d _ m' = _; rw [am (Ne.symm ndm)]; exact hm) (fun b' o' n1 n2 e=>by rw [am n1]; exact e)
   | some z =>
    refine ⟨_,rfl,t,_,_,_,rfl,rfl,SqT.of ht2,rfl,rfl,_,rfl,eG ?_⟩
    have cs:=cr1_sum w0 w1 a0 a1 b0 b1
    refine ⟨_,rfl,_,_,rfl,rfl,_,rfl,bP (by lia) ⟨_,rfl,_,_,rfl,rfl,_,rfl,.inr ⟨_,rfl,?_⟩⟩⟩
    have ev:(if (!decide (gI kvs a + gI kvs b < 1 * 2 ^ w'.toNat)) = true then (1:Int) else 0) = cr1 w' 2 (gI kvs a) (gI kvs b):=by
     rw [cs]
     by_cases hc:gI kvs a + gI kvs b < 1 * 2 ^ w'.toNat
     ·rw [if_pos hc,decide_eq_true hc]; rfl
     ·rw [if_neg hc,decide_eq_false hc]; rfl
    rw [ev]
    refine ⟨_,rfl,_,rfl,t,_,_,_,rfl,rfl,SqT.of ht2,rfl,d,_,rfl,DPut.k (k:=.inr z) af (Nat.lt_of_le_of_lt (bA kvs _ _) (by lia)),?_⟩
    exact q _ (by rw [af]; rfl) (by show upd _ d _ m' = _; rw [am (Ne.symm ndm),am (Ne.symm ndm)]; exact hm) (fun b' o' n1 n2 e=>by rw [am n1,am n1]; exact e)
  ·refine ⟨_,rfl,t,_,_,_,rfl,rfl,SqT.of ht,at0 _ _,rfl,_,rfl,?_⟩
   refine aI (ne 0 (by decide) (by show (3:Nat) ≠ 0; decide)) ⟨_,rfl,t,_,_,_,rfl,rfl,SqT.of ht,at0 _ _,rfl,_,rfl,?_⟩
   refine aI (ne 1 (by decide) (by show (3:Nat) ≠ 1; decide)) ⟨_,rfl,t,_,_,_,rfl,rfl,SqT.of ht,at0 _ _,rfl,_,rfl,?_⟩
   refine aI (ne 14 (by decide) (by show (3:Nat) ≠ 14; decide)) ⟨_,rfl,t,_,_,_,rfl,rfl,SqT.of ht,at0 _ _,rfl,_,rfl,?_⟩
   refine aI (ne 13 (by decide) (by show (3:Nat) ≠ 13; decide)) ⟨_,rfl,t,_,_,_,rfl,rfl,SqT.of ht,at0 _ _,rfl,_,rfl,?_⟩
   refine aI (ne 2 (by decide) (by show (3:Nat) ≠ 2; decide)) ⟨_,rfl,t,_,_,_,rfl,rfl,SqT.of ht,at0 _ _,rfl,_,rfl,?_⟩
   refine bP rfl ⟨_,rfl,d,rfl,⟨_,hd⟩,_,rfl,t,_,_,_,rfl,rfl,SqT.of ht,rfl,_,_,rfl,hd,wi,_,rfl,d,rfl,⟨_,hd⟩,_,rfl,t,_,_,_,rfl,rfl,SqT.of ht,rfl,_,_,rfl,hd,wi,_,rfl,_,rfl,_,_,rfl,rfl,?_⟩
   refine ⟨_,rfl,t,_,_,_,rfl,rfl,SqT.of ht,at0 _ _,rfl,_,rfl,?_⟩
   refine aI (ne 2 (by decide) (by show (3:Nat) ≠ 2; decide)) ?_
   refine ⟨_,rfl,_,rfl,_,_,rfl,rfl,bS _,_,rfl,_,rfl,t,_,_,_,rfl,rfl,SqT.of ht,rfl,d,_,rfl,DPut.k (k:=.inr g) hd (by lia),?_⟩
   have ht2:upd H d (.dK (cp kvs (.inr g) (.int ((gI kvs a - gI kvs b) % (1 * 2 ^ w'.toNat))))) t = some (.tup [.str (wOf 3),.str g,oV cv,.str a,.str b]):=by rw [am ntd]; exact ht
   cases cv with
   | none =>
    refine ⟨_,rfl,t,_,_,_,rfl,rfl,SqT.of ht2,rfl,rfl,_,rfl,cE ?_⟩
    exact q _ (by rw [af]; rfl) (by show upd _ d _ m' = _; rw [am (Ne.symm ndm)]; exact hm) (fun b' o' n1 n2 e=>by rw [am n1]; exact e)
   | some z =>
    refine ⟨_,rfl,t,_,_,_,rfl,rfl,SqT.of ht2,rfl,rfl,_,rfl,eG ?_⟩
    have fin:∀ y:Int,y = cr1 w' 3 (gI kvs a) (gI kvs b)->Q .non (upd (upd H d (.dK (cp kvs (.inr g) (.int ((gI kvs a - gI kvs b) % (1 * 2 ^ w'.toNat)))))) d (.dK (cp (cp kvs (.inr g) (.int ((gI kvs a - gI kvs b) % (1 * 2 ^ w'.toNat)))) (.inr z) (.int y)))):=fun y ey=>by
     rw [ey]
     exact q _ (by rw [af]; rfl) (by show upd _ d _ m' = _; rw [am (Ne.symm ndm),am (Ne.symm ndm)]; exact hm) (fun b' o' n1 n2 e=>by rw [am n1,am n1]; exact e)
    by_cases hc:gI kvs a < gI kvs b
    ·refine ⟨_,rfl,_,_,rfl,rfl,_,rfl,aI (by lia) ⟨_,rfl,.inr ⟨_,rfl,_,rfl,_,rfl,t,_,_,_,rfl,rfl,SqT.of ht2,rfl,d,_,rfl,DPut.k (k:=.inr z) af (Nat.lt_of_le_of_lt (bA kvs _ _) (by lia)),fin _ ?_⟩⟩⟩
     show (1:Int) = if gI kvs a < gI kvs b then 1 else 0
     rw [if_pos hc]
    ·refine ⟨_,rfl,_,_,rfl,rfl,_,rfl,bP (by lia) ⟨_,rfl,_,_,rfl,rfl,_,rfl,.inr ⟨_,rfl,_,rfl,_,rfl,t,_,_,_,rfl,rfl,SqT.of ht2,rfl,d,_,rfl,DPut.k (k:=.inr z) af (Nat.lt_of_le_of_lt (bA kvs _ _) (by lia)),fin _ ?_⟩⟩⟩
     rw [decide_eq_true (by lia)]
     show (0:Int) = if gI kvs a < gI kvs b then 1 else 0
     rw [if_neg hc]
 | mv k g a j =>
  obtain ⟨ok,og,oa,j0,j1⟩:=rk
  obtain ⟨_,a0,a1⟩:=wd.get a
  have k15:k < 15:=by lia
  refine ⟨_,rfl,t,_,_,_,rfl,rfl,SqT.of ht,at0 _ _,rfl,_,rfl,?_⟩
  refine aI (ne 0 (by decide) (by show k ≠ 0; lia)) ⟨_,rfl,t,_,_,_,rfl,rfl,SqT.of ht,at0 _ _,rfl,_,rfl,?_⟩
  refine aI (ne 1 (by decide) (by show k ≠ 1; lia)) ⟨_,rfl,t,_,_,_,rfl,rfl,SqT.of ht,at0 _ _,rfl,_,rfl,?_⟩
  refine aI (ne 14 (by decide) (by show k ≠ 14; lia)) ⟨_,rfl,t,_,_,_,rfl,rfl,SqT.of ht,at0 _ _,rfl,_,rfl,?_⟩
  refine aI (ne 13 (by decide) (by show k ≠ 13; lia)) ⟨_,rfl,t,_,_,_,rfl,rfl,SqT.of ht,at0 _ _,rfl,_,rfl,?_⟩
  refine aI (ne 2 (by decide) (by show k ≠ 2; lia)) ⟨_,rfl,t,_,_,_,rfl,rfl,SqT.of ht,at0 _ _,rfl,_,rfl,?_⟩
  refine aI (ne 3 (by decide) (by show k ≠ 3; lia)) ⟨_,rfl,t,_,_,_,rfl,rfl,SqT.of ht,at0 _ _,(by show 3<=sizeLine; decide),fun l hl=>?_⟩
  obtain ⟨G1,e1,s1,f1⟩:=dL hl (.lst [.str "left",.str "right",.str "slide"])
  rw [e1]
  refine ⟨l,_,rfl,.inl (SqL.of f1),rfl,rfl,?_⟩
  rw [if_neg (by decide),show (Rw.mv k g a j).k = k from rfl,in3 k15,decide_eq_true ok]
  have ht1:G1 t = some (.tup [.str (wOf k),.str g,.str a,.int j]):=s1 _ _ ht
  have hd1:=s1 _ _ hd
  refine ⟨_,rfl,eG ⟨_,rfl,t,_,_,_,rfl,rfl,SqT.of ht1,rfl,_,rfl,d,rfl,⟨_,hd1⟩,_,rfl,t,_,_,_,rfl,rfl,SqT.of ht1,rfl,_,_,rfl,hd1,wi,_,rfl,t,_,_,_,rfl,rfl,SqT.of ht1,rfl,_,rfl,k,w',_,j,rfl,ok,w0,w1,a0,a1,j0,j1,?_⟩⟩
  refine ⟨_,rfl,_,rfl,t,_,_,_,rfl,rfl,SqT.of ht1,rfl,d,_,rfl,DPut.k (k:=.inr g) hd1 (by lia),?_⟩
  exact q _ (by rw [af]; rfl) (by show upd _ d _ m' = _; rw [am (Ne.symm ndm)]; exact s1 _ _ hm) (fun b' o' n1 n2 e=>by rw [am n1]; exact s1 _ _ e)
 | jn k g a b =>
  obtain ⟨ok,og,oa,ob⟩:=rk
  obtain ⟨_,a0,a1⟩:=wd.get a
  obtain ⟨_,b0,b1⟩:=wd.get b
  have k15:k < 15:=by lia
  refine ⟨_,rfl,t,_,_,_,rfl,rfl,SqT.of ht,at0 _ _,rfl,_,rfl,?_⟩
  refine aI (ne 0 (by decide) (by show k ≠ 0; lia)) ⟨_,rfl,t,_,_,_,rfl,rfl,SqT.of ht,at0 _ _,rfl,_,rfl,?_⟩
  refine aI (ne 1 (by decide) (by show k ≠ 1; lia)) ⟨_,rfl,t,_,_,_,rfl,rfl,SqT.of ht,at0 _ _,rfl,_,rfl,?_⟩
  refine aI (ne 14 (by decide) (by show k ≠ 14; lia)) ⟨_,rfl,t,_,_,_,rfl,rfl,SqT.of ht,at0 _ _,rfl,_,rfl,?_⟩
  refine aI (ne 13 (by decide) (by show k ≠ 13; lia)) ⟨_,rfl,t,_,_,_,rfl,rfl,SqT.of ht,at0 _ _,rfl,_,rfl,?_⟩
  refine aI (ne 2 (by decide) (by show k ≠ 2; lia)) ⟨_,rfl,t,_,_,_,rfl,rfl,SqT.of ht,at0 _ _,rfl,_,rfl,?_⟩
  refine aI (ne 3 (by decide) (by show k ≠ 3; lia)) ⟨_,rfl,t,_,_,_,rfl,rfl,SqT.of ht,at0 _ _,(by show 3<=sizeLine; decide),fun l hl=>?_⟩
  obtain ⟨G1,e1,s1,f1⟩:=dL hl (.lst [.str "left",.str "right",.str "slide"])
  rw [e1]
  refine ⟨l,_,rfl,.inl (SqL.of f1),rfl,rfl,?_⟩
  rw [if_neg (by decide),show (Rw.jn k g a b).k = k from rfl,in3 k15,decide_eq_false (by lia)]
  have ht1:G1 t = some (.tup [.str (wOf k),.str g,.str a,.str b]):=s1 _ _ ht
  have hd1:=s1 _ _ hd
  refine ⟨_,rfl,cE ⟨_,rfl,t,_,_,_,rfl,rfl,SqT.of ht1,rfl,_,rfl,d,rfl,⟨_,hd1⟩,_,rfl,t,_,_,_,rfl,rfl,SqT.of ht1,rfl,_,_,rfl,hd1,wi,_,rfl,d,rfl,⟨_,hd1⟩,_,rfl,t,_,_,_,rfl,rfl,SqT.of ht1,rfl,_,_,rfl,hd1,wi,_,rfl,k,w',_,_,rfl,ok,w0,w1,a0,a1,b0,b1,?_⟩⟩
  refine ⟨_,rfl,_,rfl,t,_,_,_,rfl,rfl,SqT.of ht1,rfl,d,_,rfl,DPut.k (k:=.inr g) hd1 (by lia),?_⟩
  exact q _ (by rw [af]; rfl) (by show upd _ d _ m' = _; rw [am (Ne.symm ndm)]; exact s1 _ _ hm) (fun b' o' n1 n2 e=>by rw [am n1]; exact s1 _ _ e)
theorem mK {X:Cx} {K:Frag} (h:X.K = K):fi X (.builtin "isinstance") (fun xs H Q=>∃ x c t cv b,xs = [x,c]/\clsV c = some cv/\TyOf K H x t/\kitOne K t cv = some b/\Q (.bl b) H):=by
 subst h
 exact aJ
def g9:Sp:=fun vs H Q _=>vs = []/\∀ (l:Addr) H',H l = none->H' l = some (.lst (rw16.map V.str))->Same H H'->Q (.ref l) H'
theorem lT {f:Addr} {fd:FuncData} (F:Fun K "_law_words" "_law_words" eV f fd) (T:Txt K mg c) (H__law_sorts:Has P w K mg base 1 "_law_sorts" [] lj):FnOk P w K mg base CX0 2 f fd [] g9:=by
 refine F.ok lc (fun vs H Q E h=>?_) (fun cdv A outer s H vs Q E hr h=>?_)
 ·obtain ⟨rfl,_⟩:=h
  rfl
 obtain ⟨rfl,q⟩:=h
 refine slE ⟨_,(ax (bR (ao (aE lM (iO H__law_sorts (hr.mono (by lia)) rfl) (bt (ae ar ah)))))),?_⟩
 refine ⟨rfl,fun l1 H1 h1 f1 s1=>?_⟩
 refine ⟨(by show 1<=sizeLine; decide),fun l2 h2=>?_⟩
 obtain ⟨G2,w2,s2,f2⟩:=dL h2 (.lst [.str "turns"])
 rw [w2]
 refine ⟨l1,l2,_,_,rfl,rfl,SqL.of (s2 _ _ f1),SqL.of f2,(by show 15 + 1<=sizeLine; decide),fun l3 h3=>?_⟩
 exact q l3 _ (Same.none (s1.trans s2) h3) af ((s1.trans s2).trans (ap h3 _))
theorem nePrs {K:Frag} {H:Hp} {d:Nat} {p q:Addr} {xs ys:List V} {ps:List (V × V)} {Q:V->Hp->Prop} (hp:H p = some (.lst xs)) (hq:H q = some (.lst ys)) (a:PrsAt H xs ps) (b:PrsAt H ys ps) (ff:∀ x ∈ ps,cq x.1 = true/\cq x.2 = true) (k:Q (.bl false) H):rEqLD K (d + 1) true (.ref p) (.ref q) H Q:=by
 refine ⟨p,q,xs,ys,fun _=>true,rfl,rfl,SqL.of hp,SqL.of hq,by rw [a.1,b.1],fun j hj=>?_,?_⟩
 ·have hr:j < ps.length:=by rw [<- a.1]; exact hj
  have hy:j < ys.length:=by rw [b.1]; exact hr
  obtain ⟨a1,e1,h1⟩:=a.2 j _ _ (List.getElem?_eq_getElem hj) (List.getElem?_eq_getElem hr)
  obtain ⟨a2,e2,h2⟩:=b.2 j _ _ (List.getElem?_eq_getElem hy) (List.getElem?_eq_getElem hr)
  rw [List.getD_eq_getElem?_getD,List.getD_eq_getElem?_getD,List.getElem?_eq_getElem hj,List.getElem?_eq_getElem hy,e1,e2]
  have f:=ff _ (List.getElem_mem hr)
  exact eqRow h1 h2 (rE ⟨.inl f.1,.inl f.2,trivial⟩)
 ·rw [aT]
  exact k
def cPs (cf:Nat->Int) (n:Nat):List (V × V):=(List.range n).map fun i=>(.str (wOf i),.int (cf i))
def oX:Sp:=fun vs H Q _=>∃ (t b ml cd dw m cn:Addr) (kvs ck:List (Key × V)) (xs ys:List V) (ps:List (V × V)) (cf:Nat->Int),vs = [.ref t,.ref b,.ref ml,.ref cd]/\H t = some (.tup [.ref dw,.ref m,.ref cn])/\H dw = some (.dK kvs)/\H b = some (.dK kvs)/\IntD kvs/\kvs.length<=100/\H m = some (.lst xs)/\PrsAt H xs ps/\H ml = some (.lst ys)/\PrsAt H ys ps/\ps.length<=10000/\(∀ p ∈ ps,(∃ n:Int,p.1 = .int n)/\cq p.1 = true/\cq p.2 = true) /\
 H cn = some (.dK (cr cf))/\H cd = some (.dK ck)/\IntD ck/\(∀ i,i < 16->gI ck (wOf i) = cf i)/\∀ H',Same H H'->Q (.bl true) H'
theorem m5 {f:Addr} {fd:FuncData} (F:Fun K "_law_same" "_law_same" gF f fd) (T:Txt K mg c) (H__law_whole:Has P w K mg base 1 "_law_whole" ["_law_found"] fZ) (H__law_words:Has P w K mg base 2 "_law_words" [] g9):FnOk P w K mg base CX0 3 f fd ["_law_found", "_law_held_here", "_law_marks", "_law_counts"] oX:=by
 refine F.ok nz (fun vs H Q E h=>?_) (fun cdv A outer s H vs Q E hr h=>?_)
 ·obtain ⟨t,b,ml,cd,dw,m,cn,kvs,ck,xs,ys,ps,cf,rfl,_⟩:=h
  rfl
 obtain ⟨t,b,ml,cd,dw,m,cn,kvs,ck,xs,ys,ps,cf,rfl,ht,hdw,hb,wi,kl,hx,px,hy,py,ol,ho,hcn,hcd,ici,hck,q⟩:=h
 refine ⟨_,(ai (aQ (PW.pt (eQ (bJ (bC (aD aJ rfl T.n_isinstance boot_isinstance (ae (pv 0) (ae (gM rfl T.n_tuple boot_tuple) ah))))) (eQ (au sL (aD aW rfl T.n_len boot_len (ae (pv 0) ah)) ag (ay _)) (eQ (bJ (bC (aD aJ rfl T.n_isinstance boot_isinstance (ae (av aq (pv 0) ag (fun _ _=>rfl)) (ae (gM rfl T.n_dict boot_dict) ah))))) (fk (au (oO (Nat.lt_of_succ_lt (aN hr))) (av aq (pv 0) ag (fun _ _=>rfl)) (pv 1) (ay _)))))))
   (aj (ao hX))
   aG)
  (ai (aQ (PW.pt (eQ (bJ (bC (aD aJ rfl T.n_isinstance boot_isinstance (ae (av aq (pv 0) ag (fun _ _=>rfl)) (ae (gM rfl T.n_list boot_list) ah))))) (eQ (au (lJ (d:=1) (hu2 hr)) (av aq (pv 0) ag (fun _ _=>rfl)) (pv 2) (ay _)) (fk (bJ (bC (aD aJ rfl T.n_isinstance boot_isinstance (ae (av aq (pv 0) ag (fun _ _=>rfl)) (ae (gM rfl T.n_dict boot_dict) ah)))))))))
   (aj (ao hX))
   aG)
  (ai (aQ (bJ (bC (aD (ej rfl) rfl T.n_all boot_all (ae (cY rfl (by first | rfl | with_unfolding_all rfl) (by decide +kernel) rfl (by decide +kernel) rfl (bn (av aq (pv 0) ag (fun _ _=>rfl))) (fun C s2 H2 fp=>(df (aD (mK (K:=K) rfl) rfl T.n_isinstance boot_isinstance (ae (pv 0) (ae (gM rfl T.n_tuple boot_tuple) ah))) (dN (aC H__law_whole (hr.mono (by lia)) rfl (ae (av (ix_tupK (K:=K) rfl) (pv 0) ag (fun _ _=>rfl)) ah)))))) ah))))
   (aj (ao hX))
   aG)
  (ai (aQ (au (lJ (d:=1) (hu2 hr)) (bh (iJ rfl) rfl T.n_list boot_list (ae (eF PySem.F.plainAttrs_dict PySem.F.slot_dict_items PySem.F.type_dict_items kR (av aq (pv 0) ag (fun _ _=>rfl))) ah)) (kY [3] ["_law_counts"] rfl (by first | rfl | with_unfolding_all rfl) (by rfl) (by exact (List.forall_mem_cons.mpr ⟨rfl,(fun _ h=>nomatch h)⟩)) (by decide +kernel) rfl (by decide +kernel) rfl (by decide +kernel) (by exact (List.forall_mem_cons.mpr ⟨⟨by first | exact Or.inl rfl | exact Or.inr rfl,rfl⟩,(fun _ h=>nomatch h)⟩)) rfl (by rfl) (bn (iO H__law_words (hr.mono (by lia)) rfl)) (fun C s2 H2 fp=>(bK (ae (pv 0) (ae (aO (aN hr) (pv 1) (pv 0) ag ⟨rfl,rfl,rfl,rfl⟩) ah))))) (ay _))
   (aj (ao hX))
   aG)
  (aj (ao (aD (ej rfl) rfl T.n_all boot_all (ae (cY rfl (by first | rfl | with_unfolding_all rfl) (by decide +kernel) rfl (by decide +kernel) rfl (bn (aE lM (bh (kE rfl) rfl T.n_list boot_list (ae (eF PySem.F.plainAttrs_dict PySem.F.slot_dict_values PySem.F.type_dict_values dM (av aq (pv 0) ag (fun _ _=>rfl))) ah)) (bh (kE rfl) rfl T.n_list boot_list (ae (eF PySem.F.plainAttrs_dict PySem.F.slot_dict_values PySem.F.type_dict_values dM (av aq (pv 0) ag (fun _ _=>rfl))) ah)))) (fun C s2 H2 fp=>(aC H__law_whole (hr.mono (by lia)) rfl (ae (pv 0) ah)))) ah)))))))),?_⟩
 have L1000:(20000:Nat)<=sizeLine:=by decide
 have xl:xs.length<=10000:=by rw [px.1]; exact ol
 refine ⟨_,rfl,_,_,_,_,_,rfl,rfl,TyOf.tup ht,rfl,_,rfl,cE ?_⟩
 refine ⟨_,rfl,t,_,rfl,.inr (SqT.of ht),rfl,_,rfl,nZ rfl ?_⟩
 refine ⟨_,rfl,t,_,_,_,rfl,rfl,SqT.of ht,rfl,_,_,_,_,_,rfl,rfl,TyOf.dK hdw,rfl,_,rfl,cE ?_⟩
 refine ⟨_,rfl,t,_,_,_,rfl,rfl,SqT.of ht,rfl,_,rfl,dw,b,kvs,rfl,rfl,hdw,hb,wi,_,rfl,cE ?_⟩
 refine ⟨_,rfl,t,_,_,_,rfl,rfl,SqT.of ht,rfl,_,_,_,_,_,rfl,rfl,TyOf.lst hx,rfl,_,rfl,cE ?_⟩
 refine ⟨_,rfl,t,_,_,_,rfl,rfl,SqT.of ht,rfl,_,rfl,?_⟩
 refine nePrs (d:=0) hx hy px py (fun p hp=>(ho p hp).2) ?_
 refine ⟨_,rfl,cE ?_⟩
 refine ⟨_,rfl,t,_,_,_,rfl,rfl,SqT.of ht,rfl,_,_,_,_,_,rfl,rfl,TyOf.dK hcn,rfl,_,rfl,cE ?_⟩
 have rp:∀ n,(List.replicate n true).all id = true:=fun n=>by rw [List.all_eq_true]; exact fun b hb=>(List.mem_replicate.mp hb).2
 refine ⟨_,rfl,t,_,_,_,rfl,rfl,SqT.of ht,rfl,m,rfl,⟨_,SqL.of hx⟩,fun D hD=>?_⟩
 refine bN (xs:=xs) (fun j HJ=>HJ D = some (.lst ((List.replicate j true).map V.bl))/\Same H HJ) ⟨af,ap hD _⟩ ?_ ?_ ?_
 ·rintro j HJ hj ⟨_,sJ⟩
  exact SqL.of (sJ _ _ hx)
 ·rintro j v HJ hv ⟨hz,sJ⟩
  have jl:=(List.getElem?_eq_some_iff.mp hv).1
  have jo:j < ps.length:=by rw [<- px.1]; exact jl
  obtain ⟨a,rfl,ha⟩:=px.2 j v _ hv (List.getElem?_eq_getElem jo)
  obtain ⟨⟨n,en⟩,_⟩:=ho _ (List.getElem_mem jo)
  rw [en] at ha
  refine ⟨_,rfl,_,_,_,_,_,rfl,rfl,TyOf.tup (sJ _ _ ha),rfl,_,rfl,eG ⟨_,rfl,a,_,_,_,rfl,rfl,SqT.of (sJ _ _ ha),rfl,n,rfl,_,hz,(by rw [List.length_map,List.length_replicate]; lia),_,(show xs.length - (j + 1) < _ by lia),rfl,(by lia),?_,Same.updL sJ hD⟩⟩
  rw [af,List.replicate_succ',List.map_append]
  rfl
 rintro H1 ⟨hz,s1⟩
 refine ⟨D,_,rfl,SqL.of hz,?_⟩
 rw [rp]
 refine ⟨_,rfl,cE ?_⟩
 clear hz hD
 have hcn1:=s1 _ _ hcn
 refine ⟨_,rfl,t,_,_,_,rfl,rfl,SqT.of (s1 _ _ ht),rfl,.inr (.inr (.inl ⟨rfl,.inl ⟨_,hcn1⟩⟩)),cn,_,rfl,rfl,hcn1,fun rv hrv=>?_⟩
 obtain ⟨G2,e2,s2,f2⟩:=dL hrv (vwI rv cn)
 rw [e2]
 refine ⟨rv,cn,_,rfl,f2,s2 _ _ hcn1,fun li as G3 hli h3 la hp s3=>?_⟩
 have PA:PrsAt G3 (as.map V.ref) (cPs cf 16):=by
  refine ⟨by rw [List.length_map,la,bZ]; unfold cPs; rw [List.length_map,List.length_range],fun j x p e1 e2=>?_⟩
  rw [List.getElem?_map] at e1
  cases ea:as[j]? with
  | none=>rw [ea] at e1; cases e1
  | some a =>
   rw [ea] at e1
   cases e1
   have ja:j < as.length:=(List.getElem?_eq_some_iff.mp ea).1
   have jk:j < (cr cf).length:=by rw [<- la]; exact ja
   have ek:=List.getElem?_eq_getElem jk
   obtain ⟨j16,e'⟩:=cnt_at ek
   have:=hp j a _ ea ek
   rw [e'] at this
   unfold cPs at e2
   rw [List.getElem?_map,List.getElem?_range j16] at e2
   cases e2
   exact ⟨a,rfl,this⟩
 refine ⟨rfl,fun lw G4 hlw h4 s4=>⟨lw,rfl,⟨_,SqL.of h4⟩,fun D hD=>?_⟩⟩
 have S4:Same H G4:=((s1.trans s2).trans s3).trans s4
 refine bN (xs:=rw16.map V.str) (fun j HJ=>∃ zs,HJ D = some (.lst zs)/\PrsAt HJ zs (cPs cf j)/\Same G4 HJ) ⟨[],af,PrsAt.nil,ap hD _⟩ ?_ ?_ ?_
 ·rintro j HJ hj ⟨zs,_,_,sJ⟩
  exact SqL.of (sJ _ _ h4)
 ·rintro j v HJ hv ⟨zs,hz,pz,sJ⟩
  obtain ⟨rfl,j16⟩:=sF hv
  have hcdJ:=sJ _ _ (S4 _ _ hcd)
  have zl:zs.length = j:=by rw [pz.1]; unfold cPs; rw [List.length_map,List.length_range]
  refine ⟨_,rfl,_,rfl,cd,rfl,⟨_,hcdJ⟩,_,rfl,_,_,rfl,hcdJ,ici,(by show 2<=sizeLine; decide),fun tt htt=>?_⟩
  rw [hck j j16]
  have s5:=ap htt (.tup [.str (wOf j),.int (cf j)])
  refine ⟨zs,s5 _ _ hz,by lia,_,(show (rw16.map V.str).length - (j + 1) < _ by show 16 - (j + 1) < 16 - j; lia),rfl,(by show j + 1<=16; lia),zs ++ [.ref tt],af,?_,Same.updL (sJ.trans s5) hD⟩
  rw [show cPs cf (j + 1) = cPs cf j ++ [(.str (wOf j),.int (cf j))] by unfold cPs; rw [List.range_succ,List.map_append]; rfl]
  refine ((pz.same fun b xs e=>s5 _ _ e).app (PrsAt.one (p:=(.str (wOf j),.int (cf j))) af)).same fun b xs e=>?_
  rw [am fun z=>by rw [z,s5 _ _ hz] at e; cases e]
  exact e
 rintro H5 ⟨zs,hz,pz,s5⟩
 have S5:=S4.trans s5
 have pa5:PrsAt H5 (as.map V.ref) (cPs cf 16):=PA.same fun a xs e=>s5 _ _ (s4 _ _ e)
 refine nePrs (d:=0) (s5 _ _ (s4 _ _ h3)) hz pa5 pz (fun x hx=>?_) ?_
 ·unfold cPs at hx
  obtain ⟨i,_,rfl⟩:=List.mem_map.mp hx
  exact ⟨rfl,rfl⟩
 refine ⟨_,rfl,cE ?_⟩
 clear pa5 PA pz hz hD h4 h3 hp la hli f2 e2 hcn1
 have hdw5:=S5 _ _ hdw
 refine ⟨_,rfl,t,_,_,_,rfl,rfl,SqT.of (S5 _ _ ht),rfl,.inr (.inr (.inl ⟨rfl,.inl ⟨_,hdw5⟩⟩)),dw,_,rfl,rfl,hdw5,fun r1 hr1=>?_⟩
 obtain ⟨G6,e6,s6,f6⟩:=dL hr1 (vwV r1 dw)
 rw [e6]
 refine ⟨r1,dw,_,rfl,f6,s6 _ _ hdw5,fun l1 hl1=>?_⟩
 obtain ⟨G7,e7,s7,f7⟩:=dL hl1 (.lst (kvs.map (·.2)))
 rw [e7]
 have S7:=(S5.trans s6).trans s7
 have hcn7:=S7 _ _ hcn
 refine ⟨_,rfl,t,_,_,_,rfl,rfl,SqT.of (S7 _ _ ht),rfl,.inr (.inr (.inl ⟨rfl,.inl ⟨_,hcn7⟩⟩)),cn,_,rfl,rfl,hcn7,fun r2 hr2=>?_⟩
 obtain ⟨G8,e8,s8,f8⟩:=dL hr2 (vwV r2 cn)
 rw [e8]
 refine ⟨r2,cn,_,rfl,f8,s8 _ _ hcn7,fun l2 hl2=>?_⟩
 obtain ⟨G9,e9,s9,f9⟩:=dL hl2 (.lst ((cr cf).map (·.2)))
 rw [e9]
 have S9:=(S7.trans s8).trans s9
 refine ⟨l1,l2,_,_,rfl,rfl,SqL.of (s9 _ _ (s8 _ _ f7)),SqL.of f9,(by rw [List.length_map,List.length_map,bZ]; lia),fun l3 hl3=>?_⟩
 obtain ⟨Ga,ea,sa,fa⟩:=dL hl3 (.lst (kvs.map (·.2) ++ (cr cf).map (·.2)))
 rw [ea]
 have vi:∀ v ∈ kvs.map (·.2) ++ (cr cf).map (·.2),∃ n:Int,v = .int n:=fun v hv=>by
  rcases List.mem_append.mp hv with hv | hv
  ·obtain ⟨kv,hk,rfl⟩:=List.mem_map.mp hv
   exact wi kv hk
  ·rw [jd] at hv
   obtain ⟨n,_,rfl⟩:=List.mem_map.mp hv
   exact ⟨n,rfl⟩
 have vl:(kvs.map (·.2) ++ (cr cf).map (·.2)).length<=116:=by rw [List.length_append,List.length_map,List.length_map,bZ]; lia
 generalize kvs.map (·.2) ++ (cr cf).map (·.2) = us at fa vi vl
 refine ⟨l3,rfl,⟨_,SqL.of fa⟩,fun D hD=>?_⟩
 refine bN (xs:=us) (fun j HJ=>HJ D = some (.lst ((List.replicate j true).map V.bl))/\Same Ga HJ) ⟨af,ap hD _⟩ ?_ ?_ ?_
 ·rintro j HJ hj ⟨_,sJ⟩
  exact SqL.of (sJ _ _ fa)
 ·rintro j v HJ hv ⟨hz,sJ⟩
  have jl:=(List.getElem?_eq_some_iff.mp hv).1
  obtain ⟨n,rfl⟩:=vi v (List.mem_of_getElem? hv)
  refine ⟨_,rfl,n,rfl,_,hz,(by rw [List.length_map,List.length_replicate]; lia),_,(show us.length - (j + 1) < _ by lia),rfl,(by lia),?_,Same.updL sJ hD⟩
  rw [af,List.replicate_succ',List.map_append]
  rfl
 rintro Hb ⟨hz,sb⟩
 refine ⟨D,_,rfl,SqL.of hz,?_⟩
 rw [rp]
 exact q Hb ((S9.trans sa).trans sb)
theorem wNe {k j:Nat} (hk:k < 16) (hj:j < 16) (h:k ≠ j):¬ V.str (wOf k) = V.str (wOf j):=fun z=>h (rG hk hj z)
theorem Rw.fsl (r:Rw) (w:Int) (h:r.ok w):r.fs.length = (nOf r.k).length:=by
 cases r with
 | car k g c a b=>rcases h.1 with rfl | rfl <;> rfl
 | jn k g a b=>rcases h.1 with rfl | rfl | rfl | rfl | rfl | rfl <;> rfl
 | mv k g a j=>rcases h.1 with rfl | rfl | rfl <;> rfl
 | _=>rfl
def jM (c:Ad) (d:Nat):Sp:=fun vs H Q _=>∃ (t:Addr) (w:Int) (zs:List Str) (tr:Tr d),vs = [.ref t]/\TpT H d t tr/\TOk w zs d tr/\∀ (x:Addr) H',H x = none->StT c (j6 H H') d x tr->Same H H'->Q (.ref x) H'
theorem ni {f:Addr} {fd:FuncData} (F:Fun K "_law_made" "_law_made" gH f fd) (T:Txt K mg c) (H__law_made_pair:Has P w K mg base 3 "_law_made_pair" ["_law_row_here"] (sX c [4,5,9,10,11,12,6,7,8,14])) (C_Turns:CHas P w K mg base 1 c.Turns "Turns" ["self", "times", "steps"] (oh K)) (C_Set:CHas P w K mg base 1 c.Set "Set" ["self", "goal", "bits"] (aP K ["goal", "bits"])) (C_Copy:CHas P w K mg base 1 c.Copy "Copy" ["self", "goal", "one"] (aP K ["goal", "one"])) (C_Sum:CHas P w K mg base 1 c.Sum "Sum" ["self", "goal", "carry", "one", "other"] (aP K ["goal", "carry", "one", "other"])) (C_Gap:CHas P w K mg base 1 c.Gap "Gap" ["self", "goal", "carry", "one", "other"] (aP K ["goal", "carry", "one", "other"])) (C_Pick:CHas P w K mg base 1 c.Pick "Pick" ["self", "goal", "by", "one", "other"] (aP K ["goal", "by", "one", "other"])) {d:Nat} (H__law_made:Has P w K mg base (d + 8) "_law_made" ["_law_row_here"] (spN (jM c) d)):FnOk P w K mg base CX0 (d + 9) f fd ["_law_row_here"] (jM c (d + 1)):=by
 refine F.ok ng (fun vs H Q E h=>?_) (fun cdv A outer s H vs Q E hr h=>?_)
 ·obtain ⟨t,w',zs,tr,rfl,_⟩:=h
  rfl
 obtain ⟨t,w',zs,tr,rfl,tp,ok,q⟩:=h
 refine ⟨_,(ai (aQ (au bc (av aq (pv 0) ag (fun _ _=>rfl)) ar (ay _))
   (aj (ao (cH C_Turns (hr.mono (by lia)) rfl (ae (av aq (pv 0) ag (fun _ _=>rfl)) (ae (cY rfl (by first | rfl | with_unfolding_all rfl) (by decide +kernel) rfl (by decide +kernel) rfl (bn (av aq (pv 0) ag (fun _ _=>rfl))) (fun C s2 H2 fp=>(aC H__law_made (hr.mono (by lia)) rfl (ae (pv 0) ah)))) ah)))))
   aG)
  (ai (aQ (au bc (av aq (pv 0) ag (fun _ _=>rfl)) ar (ay _))
   (aj (ao (cH C_Set (hr.mono (by lia)) rfl (ae (av aq (pv 0) ag (fun _ _=>rfl)) (ae (av aq (pv 0) ag (fun _ _=>rfl)) ah)))))
   aG)
  (ai (aQ (au bc (av aq (pv 0) ag (fun _ _=>rfl)) ar (ay _))
   (aj (ao (cH C_Copy (hr.mono (by lia)) rfl (ae (av aq (pv 0) ag (fun _ _=>rfl)) (ae (av aq (pv 0) ag (fun _ _=>rfl)) ah)))))
   aG)
  (ai (aQ (au bc (av aq (pv 0) ag (fun _ _=>rfl)) ar (ay _))
   (aj (ao (cH C_Sum (hr.mono (by lia)) rfl (ae (av aq (pv 0) ag (fun _ _=>rfl)) (ae (av aq (pv 0) ag (fun _ _=>rfl)) (ae (av aq (pv 0) ag (fun _ _=>rfl)) (ae (av aq (pv 0) ag (fun _ _=>rfl)) ah)))))))
   aG)
  (ai (aQ (au bc (av aq (pv 0) ag (fun _ _=>rfl)) ar (ay _))
   (aj (ao (cH C_Gap (hr.mono (by lia)) rfl (ae (av aq (pv 0) ag (fun _ _=>rfl)) (ae (av aq (pv 0) ag (fun _ _=>rfl)) (ae (av aq (pv 0) ag (fun _ _=>rfl)) (ae (av aq (pv 0) ag (fun _ _=>rfl)) ah)))))))
   aG)
  (ai (aQ (au bc (av aq (pv 0) ag (fun _ _=>rfl)) ar (ay _))
   (aj (ao (cH C_Pick (hr.mono (by lia)) rfl (ae (av aq (pv 0) ag (fun _ _=>rfl)) (ae (av aq (pv 0) ag (fun _ _=>rfl)) (ae (av aq (pv 0) ag (fun _ _=>rfl)) (ae (av aq (pv 0) ag (fun _ _=>rfl)) ah)))))))
   aG)
  (aj (ao (aC H__law_made_pair (hr.mono (by lia)) rfl (ae (pv 0) ah)))))))))),?_⟩
 cases tr with
 | turns n us =>
  obtain ⟨l,xs,ht,hl,la⟩:∃ l xs,H t = some (.tup [.str "turns",.int (n:Int),.ref l])/\H l = some (.lst xs)/\L2A (TpT H d) xs us:=tp
  obtain ⟨n1,n2,ne,t100,uok⟩:1<=n/\n<=64/\us ≠ []/\us.length<=100/\∀ t ∈ us,TOk w' zs d t:=ok
  refine ⟨_,rfl,t,_,_,_,rfl,rfl,SqT.of ht,at0 _ _,rfl,_,rfl,bP rfl ?_⟩
  refine ⟨_,rfl,t,_,_,_,rfl,rfl,SqT.of ht,rfl,_,rfl,t,_,_,_,rfl,rfl,SqT.of ht,rfl,l,rfl,⟨_,SqL.of hl⟩,fun D hD=>?_⟩
  refine bN (xs:=xs) (fun j HJ=>∃ ys,HJ D = some (.lst ys)/\L2A (StT c (fz (j6 H HJ) D) d) ys (us.take j)/\Same H HJ) ⟨[],af,L2A.nil,ap hD _⟩ ?_ ?_ ?_
  ·rintro j HJ hj ⟨ys,hy,ta,sJ⟩
   exact SqL.of (sJ _ _ hl)
  ·rintro j v HJ hv ⟨ys,hy,ta,sJ⟩
   obtain ⟨x',t',rfl,et,st⟩:=la.get hv
   have jl:=(List.getElem?_eq_some_iff.mp hv).1
   have la1:=la.1
   have yl:ys.length = j:=by rw [ta.1,List.length_take]; lia
   have L1000:(1000:Nat)<=sizeLine:=by decide
   cases d with
   | zero=>exact absurd tr0 ne
   | succ d =>
    refine ⟨_,rfl,x',w',zs,t',rfl,st.same sJ,uok t' (List.mem_of_getElem? et),fun r G' hr' tp s1=>?_⟩
    refine ⟨ys,s1 _ _ hy,by lia,_,(show xs.length - (j + 1) < xs.length - j by lia),rfl,(by lia),ys ++ [.ref r],af,?_,Same.updL (sJ.trans s1) hD⟩
    rw [dJ et]
    have eh:fz (j6 H (upd G' D (.lst (ys ++ [.ref r])))) D = fz (j6 H G') D:=funext fun b=>by
     by_cases n:b = D
     ·unfold fz; rw [if_pos n,if_pos n]
     ·rw [bx n,bx n]
      unfold j6
      rw [am n]
    rw [eh]
    exact (ta.mono fun _ _ _ k=>k.same (eP (hV s1))).app (L2A.one (tp.same (sP sJ hy)))
  ·rintro HJ ⟨ys,hy,ta,sJ⟩
   rw [la.1,List.take_length] at ta
   refine fun x dx hx hdx hne=>⟨x,_,dx,D,_,ys,rfl,af,?_,T.cl_Turns,List.forall_mem_cons.mpr ⟨T.na_Turns_times,List.forall_mem_cons.mpr ⟨T.na_Turns_steps,fun _ h=>nomatch h⟩⟩,fun l' H' hl' hx' hl2 sx=>⟨rfl,?_⟩⟩
   ·exact sK hx hdx hne _ _ hy
   have S:=aZ hx hdx sx
   have fx:H x = none:=Same.none sJ hx
   have fl:H l' = none:=Same.none (sJ.trans (sK hx hdx hne)) hl'
   exact q x H' fx ⟨ys,⟨dx,l',(de fx).trans hx',(de fl).trans hl2⟩,ta.mono fun _ _ _ k=>(k.same dg).same (hV S)⟩ (sJ.trans S)
 | row r =>
  have ht:H t = some (.tup (.str (wOf r.k) :: r.fs)):=tp
  have rok:r.ok w'/\r.inZ zs:=ok
  have k15:=Rw.k15 rok.1
  have ln:=r.fsl w' rok.1
  have q':∀ (x:Addr) H',H x = none->StepAt c H' x r.k r.fs->Same H H'->Q (.ref x) H':=fun x H' hx ⟨dx,e,l⟩ s=>q x H' hx ⟨dx,(de hx).trans e,l⟩ s
  clear q tp ok rok
  generalize r.k = k at *
  generalize r.fs = fs at *
  have ne:∀ j,j < 16->k ≠ j->¬ V.str (wOf k) = V.str (wOf j):=fun j hj h=>wNe (by lia) hj h
  refine ⟨_,rfl,t,_,_,_,rfl,rfl,SqT.of ht,at0 _ _,rfl,_,rfl,aI (ne 15 (by decide) (by lia)) ?_⟩
  refine ⟨_,rfl,t,_,_,_,rfl,rfl,SqT.of ht,at0 _ _,rfl,_,rfl,?_⟩
  by_cases c0:k = 0
  ·subst c0
   obtain ⟨a0,a1,rfl⟩:=len2 ln
   obtain ⟨cl,na⟩:=T.clF (k:=0) (by decide)
   refine bP rfl ⟨_,rfl,t,_,_,_,rfl,rfl,SqT.of ht,rfl,_,rfl,t,_,_,_,rfl,rfl,SqT.of ht,rfl,fun x dx hx hdx hne=>⟨x,_,dx,_,rfl,rfl,af,cl,na,fun H' hx' sx=>⟨rfl,q' x H' hx ⟨dx,hx',rfl⟩ (aZ hx hdx sx)⟩⟩⟩
  refine aI (ne 0 (by decide) c0) ?_
  refine ⟨_,rfl,t,_,_,_,rfl,rfl,SqT.of ht,at0 _ _,rfl,_,rfl,?_⟩
  by_cases c1:k = 1
  ·subst c1
   obtain ⟨a0,a1,rfl⟩:=len2 ln
   obtain ⟨cl,na⟩:=T.clF (k:=1) (by decide)
   refine bP rfl ⟨_,rfl,t,_,_,_,rfl,rfl,SqT.of ht,rfl,_,rfl,t,_,_,_,rfl,rfl,SqT.of ht,rfl,fun x dx hx hdx hne=>⟨x,_,dx,_,rfl,rfl,af,cl,na,fun H' hx' sx=>⟨rfl,q' x H' hx ⟨dx,hx',rfl⟩ (aZ hx hdx sx)⟩⟩⟩
  refine aI (ne 1 (by decide) c1) ?_
  refine ⟨_,rfl,t,_,_,_,rfl,rfl,SqT.of ht,at0 _ _,rfl,_,rfl,?_⟩
  by_cases c2:k = 2
  ·subst c2
   obtain ⟨a0,a1,a2,a3,rfl⟩:=len4 ln
   obtain ⟨cl,na⟩:=T.clF (k:=2) (by decide)
   refine bP rfl ⟨_,rfl,t,_,_,_,rfl,rfl,SqT.of ht,rfl,_,rfl,t,_,_,_,rfl,rfl,SqT.of ht,rfl,_,rfl,t,_,_,_,rfl,rfl,SqT.of ht,rfl,_,rfl,t,_,_,_,rfl,rfl,SqT.of ht,rfl,fun x dx hx hdx hne=>⟨x,_,dx,_,rfl,rfl,af,cl,na,fun H' hx' sx=>⟨rfl,q' x H' hx ⟨dx,hx',rfl⟩ (aZ hx hdx sx)⟩⟩⟩
  refine aI (ne 2 (by decide) c2) ?_
  refine ⟨_,rfl,t,_,_,_,rfl,rfl,SqT.of ht,at0 _ _,rfl,_,rfl,?_⟩
  by_cases c3:k = 3
  ·subst c3
   obtain ⟨a0,a1,a2,a3,rfl⟩:=len4 ln
   obtain ⟨cl,na⟩:=T.clF (k:=3) (by decide)
   refine bP rfl ⟨_,rfl,t,_,_,_,rfl,rfl,SqT.of ht,rfl,_,rfl,t,_,_,_,rfl,rfl,SqT.of ht,rfl,_,rfl,t,_,_,_,rfl,rfl,SqT.of ht,rfl,_,rfl,t,_,_,_,rfl,rfl,SqT.of ht,rfl,fun x dx hx hdx hne=>⟨x,_,dx,_,rfl,rfl,af,cl,na,fun H' hx' sx=>⟨rfl,q' x H' hx ⟨dx,hx',rfl⟩ (aZ hx hdx sx)⟩⟩⟩
  refine aI (ne 3 (by decide) c3) ?_
  refine ⟨_,rfl,t,_,_,_,rfl,rfl,SqT.of ht,at0 _ _,rfl,_,rfl,?_⟩
  by_cases c13:k = 13
  ·subst c13
   obtain ⟨a0,a1,a2,a3,rfl⟩:=len4 ln
   obtain ⟨cl,na⟩:=T.clF (k:=13) (by decide)
   refine bP rfl ⟨_,rfl,t,_,_,_,rfl,rfl,SqT.of ht,rfl,_,rfl,t,_,_,_,rfl,rfl,SqT.of ht,rfl,_,rfl,t,_,_,_,rfl,rfl,SqT.of ht,rfl,_,rfl,t,_,_,_,rfl,rfl,SqT.of ht,rfl,fun x dx hx hdx hne=>⟨x,_,dx,_,rfl,rfl,af,cl,na,fun H' hx' sx=>⟨rfl,q' x H' hx ⟨dx,hx',rfl⟩ (aZ hx hdx sx)⟩⟩⟩
  refine aI (ne 13 (by decide) c13) ?_
  exact ⟨_,rfl,t,k,fs,rfl,ht,(by simp only [List.mem_cons,List.not_mem_nil,or_false]; lia),ln,q'⟩
def vI:V->Int
 | .int n=>n
 | _=>0
structure CK (ck:List (Key × V)) (es:List (Option Rw)):Prop where
 it:IntD ck
 ct:∀ i,i < 16->gI ck (wOf i) = (cC es i:Int)
 nd:(ck.map (·.1)).Nodup
 sm:(ck.map fun kv=>vI kv.2).sum = (es.length:Int)
 ln:ck.length<=es.length
theorem CK.nil:CK [] []:=⟨(fun _ h=>nomatch h),fun _ _=>rfl,List.nodup_nil,rfl,Nat.le_refl _⟩
theorem tZ {k:Key} {n:Int}:∀ {l:List (Key × V)} {v:V},(l.map (·.1)).Nodup->cX l k = some v->((l.map fun kv=>if kv.1 = k then (kv.1,V.int n) else kv).map fun kv=>vI kv.2).sum = (l.map fun kv=>vI kv.2).sum - vI v + n
 | [],_,_,h=>by cases h
 | p :: t,v,nd,h=>by
  rw [List.map_cons,List.nodup_cons] at nd
  by_cases c:p.1 = k
  ·rw [bq c] at h
   cases h
   have e:(t.map fun kv=>if kv.1 = k then (kv.1,V.int n) else kv) = t:=by
    refine (List.map_congr_left fun kv hk=>?_).trans (List.map_id _)
    rw [if_neg fun z=>nd.1 (by rw [c,<- z]; exact List.mem_map_of_mem hk)]
    rfl
   rw [List.map_cons,e,if_pos c]
   show n + _ = vI p.2 + _ - vI p.2 + n
   lia
  ·rw [bi c] at h
   have:=tZ (n:=n) nd.2 h
   rw [List.map_cons,if_neg c,List.map_cons,List.map_cons,List.sum_cons,List.sum_cons,this]
   lia
theorem gI_put (kvs:List (Key × V)) (z z':Str) (n:Int):gI (cp kvs (.inr z) (.int n)) z' = if z' = z then n else gI kvs z':=by
 unfold gI
 rw [qf]
 by_cases c:z' = z
 ·rw [if_pos (by rw [c]),if_pos c]
 ·rw [if_neg (fun e=>c (by injection e)),if_neg c]
theorem CK.put {ck:List (Key × V)} {es:List (Option Rw)} (h:CK ck es) {e:Option Rw} (hk:kOf e < 16):CK (cp ck (.inr (wOf (kOf e))) (.int (gI ck (wOf (kOf e)) + 1))) (es ++ [e]):=by
 have key:((cp ck (.inr (wOf (kOf e))) (.int (gI ck (wOf (kOf e)) + 1))).map (·.1)).Nodup/\((cp ck (.inr (wOf (kOf e))) (.int (gI ck (wOf (kOf e)) + 1))).map fun kv=>vI kv.2).sum = (es.length:Int) + 1:=by
  cases ev:cX ck (.inr (wOf (kOf e))) with
  | none =>
   refine ⟨sO _ h.nd ev,?_⟩
   have g0:gI ck (wOf (kOf e)) = 0:=by unfold gI; rw [ev]
   rw [fR _ ev,List.map_append,List.sum_append,h.sm,g0]
   rfl
  | some v =>
   obtain ⟨i,ei⟩:=h.it _ (fO ev)
   have ei:v = .int i:=ei
   have gv:gI ck (wOf (kOf e)) = vI v:=by unfold gI; rw [ev,ei]; rfl
   have pe:cp ck (.inr (wOf (kOf e))) (.int (gI ck (wOf (kOf e)) + 1)) = ck.map fun kv=>if kv.1 = .inr (wOf (kOf e)) then (kv.1,V.int (gI ck (wOf (kOf e)) + 1)) else kv:=by
    unfold cp
    rw [cK,ev]
    rfl
   rw [pe]
   refine ⟨?_,?_⟩
   ·rw [List.map_map,show ((fun kv:Key × V=>kv.1) ∘ fun kv=>if kv.1 = .inr (wOf (kOf e)) then (kv.1,V.int (gI ck (wOf (kOf e)) + 1)) else kv) = fun kv=>kv.1 from funext fun kv=>by show (if _ then _ else _:Key × V).1 = _; split <;> rfl]
    exact h.nd
   ·rw [tZ h.nd ev,h.sm,gv]
    lia
 refine ⟨h.it.put _ _,fun i hi=>?_,key.1,?_,?_⟩
 ·rw [gI_put,qr,sS]
  by_cases c:i = kOf e
  ·rw [c,if_pos rfl,if_pos rfl,h.ct _ hk]; push_cast; rfl
  ·rw [if_neg (fun z=>c (rG hi hk (by rw [z]))),if_neg c,h.ct i hi]; push_cast; lia
 ·rw [key.2,List.length_append,List.length_singleton]; push_cast; rfl
 ·have:=bA ck (.inr (wOf (kOf e))) (.int (gI ck (wOf (kOf e)) + 1))
  have:=h.ln
  rw [List.length_append,List.length_singleton]
  lia
structure RS (H0:Hp) (dd m cn:Addr) (w:Int) (kvs:List (Key × V)) (es:List (Option Rw)) (G:Hp):Prop where
 d:G dd = some (.dK (bf w kvs (rws es)))
 mm:∃ ms,G m = some (.lst ms)/\PrsAt G ms (bE w kvs (rws es))
 c:∃ ck,G cn = some (.dK ck)/\CK ck es
 s:Same H0 G
def jQ (c:Ad) (d:Nat):Sp:=fun vs H Q _=>∃ (H0:Hp) (l dd m cn:Addr) (w:Int) (zs:List Str) (xs:List V) (ts:List (Tr d)) (kvs:List (Key × V)) (es:List (Option Rw)),c = c/\vs = [.int (1 * 2 ^ w.toNat),.ref l,.ref dd,.ref m,.ref cn]/\H0 l = some (.lst xs)/\L2A (TpT H0 d) xs ts/\(∀ t ∈ ts,TOk w zs d t)/\H0 dd = none/\H0 m = none/\H0 cn = none/\dd ≠ cn/\ZOk zs/\4<=w/\w<=32/\Wz w zs kvs/\(∀ r ∈ rws es,r.ok w/\r.inZ zs)/\es.length + (evL d ts).length<=10000/\RS H0 dd m cn w kvs es H/\∀ H',RS H0 dd m cn w kvs (es ++ evL d ts) H'->Q .non H'
section
variable {H0 G:Hp} {dd m cn:Addr} {w':Int} {kvs:List (Key × V)} {es:List (Option Rw)}
theorem RS.put (h:RS H0 dd m cn w' kvs es G) (n1:H0 cn = none) (n2:dd ≠ cn) {ck:List (Key × V)} (hc:G cn = some (.dK ck)) (ct:CK ck es) {e:Option Rw} (hk:kOf e < 16):∃ ck',upd G cn (.dK (cp ck (.inr (wOf (kOf e))) (.int (gI ck (wOf (kOf e)) + 1)))) cn = some (.dK ck')/\CK ck' (es ++ [e])/\upd G cn (.dK (cp ck (.inr (wOf (kOf e))) (.int (gI ck (wOf (kOf e)) + 1)))) dd = some (.dK (bf w' kvs (rws es)))/\(∃ ms,upd G cn (.dK (cp ck (.inr (wOf (kOf e))) (.int (gI ck (wOf (kOf e)) + 1)))) m = some (.lst ms)/\PrsAt (upd G cn (.dK (cp ck (.inr (wOf (kOf e))) (.int (gI ck (wOf (kOf e)) + 1))))) ms (bE w' kvs (rws es)))/\Same H0 (upd G cn (.dK (cp ck (.inr (wOf (kOf e))) (.int (gI ck (wOf (kOf e)) + 1))))):=by
 obtain ⟨hd,⟨ms,hm,pm⟩,_,s⟩:=h
 have nmc:m ≠ cn:=fun z=>by rw [z,hc] at hm; cases hm
 refine ⟨_,af,ct.put hk,by rw [am n2]; exact hd,⟨ms,by rw [am nmc]; exact hm,pm.same fun b xs e=>?_⟩,fun b o e=>?_⟩
 ·rw [am fun z=>by rw [z,hc] at e; cases e]; exact e
 ·rw [am fun z=>by rw [z,n1] at e; cases e]; exact s _ _ e
end
theorem oj {f:Addr} {fd:FuncData} (F:Fun K "_law_run" "_law_run" ir f fd) (T:Txt K mg c) (H__law_done:Has P w K mg base 2 "_law_done" ["_law_size", "_law_row_here", "_law_held_here", "_law_marks"] rX) {d:Nat} (H__law_run:Has P w K mg base (d + 8) "_law_run" ["_law_size", "_law_rows", "_law_held_here", "_law_marks", "_law_counts"] (spN (jQ c) d)):FnOk P w K mg base CX0 (d + 9) f fd ["_law_size", "_law_rows", "_law_held_here", "_law_marks", "_law_counts"] (jQ c (d + 1)):=by
 refine F.ok sc__law_run (fun vs H Q E h=>?_) (fun cdv A outer s H vs Q E hr h=>?_)
 ·obtain ⟨H0,l,dd,m,cn,w',zs,xs,ts,kvs,es,_,rfl,_⟩:=h
  rfl
 obtain ⟨H0,l,dd,m,cn,w',zs,xs,ts,kvs,es,_,rfl,hl,la,tok,n1,n2,n3,ndc,zo,w0,w1,wz,esk,ln,rs,q⟩:=h
 refine ⟨_,(aj (cI PassesOwn.never rfl (bn (pv 1)) (bF (i:=5) sc__law_run.nd rfl (Or.inl rfl))
   (aj (aQ (au bc (av aq (pv 5) ag (fun _ _=>rfl)) ar (ay _))
    (aj (cI PassesOwn.never rfl (eN rfl T.n_range (ae (av aq (pv 5) ag (fun _ _=>rfl)) ah)) (bF (i:=6) sc__law_run.nd rfl (Or.inl rfl))
     (ai (be (aN hr) (pv 4) ar (aE bY (aO (aN hr) (pv 4) ar ag ⟨rfl,rfl,rfl,rfl⟩) ag) rfl)
     (aj (aL (aC H__law_run (hr.mono (by lia)) rfl (ae (pv 0) (ae (av aq (pv 5) ag (fun _ _=>rfl)) (ae (pv 2) (ae (pv 3) (ae (pv 4) ah)))))))))))
    (ai (be (aN hr) (pv 4) (av aq (pv 5) ag (fun _ _=>rfl)) (aE bY (aO (aN hr) (pv 4) (av aq (pv 5) ag (fun _ _=>rfl)) ag ⟨rfl,rfl,rfl,rfl⟩) ag) rfl)
    (aj (aL (aC H__law_done (hr.mono (by lia)) rfl (ae (pv 0) (ae (pv 5) (ae (pv 2) (ae (pv 3) ah)))))))))))),?_⟩
 have L1000:(20000:Nat)<=sizeLine:=by decide
 refine ⟨_,rfl,l,rfl,⟨_,SqL.of (rs.s _ _ hl)⟩,bT (xs:=xs) (fun j σ G=>∃ y z:Option V,σ = [some (.int (1 * 2 ^ w'.toNat)),some (.ref l),some (.ref dd),some (.ref m),some (.ref cn),y,z]/\RS H0 dd m cn w' kvs (es ++ evL (d + 1) (ts.take j)) G) ⟨_,_,rfl,(by rw [show evL (d + 1) (ts.take 0) = [] from rfl,List.append_nil]; exact rs)⟩ ?_ ?_ ?_⟩
 ·rintro j σ G hj ⟨y,z,rfl,r2⟩
  exact SqL.of (r2.s _ _ hl)
 ·rintro j v σ G hv ⟨y,z,rfl,r2⟩
  obtain ⟨x,t,rfl,et,tp⟩:=la.get hv
  have ok:=tok t (List.mem_of_getElem? et)
  have a3:=cZ ts (j + 1)
  rw [cL et,<- List.append_assoc]
  rw [cL et,List.length_append] at a3
  have esk2:∀ r ∈ rws (es ++ evL (d + 1) (ts.take j)),r.ok w'/\r.inZ zs:=fun r hr'=>by
   rw [cu] at hr'
   rcases List.mem_append.mp hr' with h | h
   ·exact esk r h
   ·exact jI (fun t ht=>tok t (List.mem_of_mem_take ht)) r h
  have ln2:(es ++ evL (d + 1) (ts.take j)).length + (evs (d + 1) t).length<=10000:=by rw [List.length_append]; lia
  generalize es ++ evL (d + 1) (ts.take j) = e2 at r2 esk2 ln2 ⊢
  cases t with
  | row r =>
   have ht:H0 x = some (.tup (.str (wOf r.k) :: r.fs)):=tp
   have rok:r.ok w'/\r.inZ zs:=ok
   have k15:=Rw.k15 rok.1
   have ht2:=r2.s _ _ ht
   refine ⟨_,rfl,x,_,_,_,rfl,rfl,SqT.of ht2,at0 _ _,rfl,_,rfl,aI (wNe (j:=15) (by lia) (by decide) (by lia)) ?_⟩
   obtain ⟨ck,hc,ct⟩:=r2.c
   have ckl:=ct.ln
   have kk:kOf (some r) < 16:=by show r.k < 16; lia
   refine ⟨_,rfl,cn,rfl,⟨_,hc⟩,_,rfl,x,_,_,_,rfl,rfl,SqT.of ht2,at0 _ _,ck,_,rfl,hc,ct.it,_,_,rfl,rfl,_,rfl,_,rfl,x,_,_,_,rfl,rfl,SqT.of ht2,at0 _ _,cn,_,rfl,DPut.k (k:=.inr (wOf r.k)) hc (by lia),?_⟩
   obtain ⟨ck',g1,g2,g3,⟨ms,g4,g5⟩,g6⟩:=r2.put n3 ndc hc ct kk
   have e1:cp ck (.inr (wOf (kOf (some r)))) (.int (gI ck (wOf (kOf (some r))) + 1)) = cp ck (.inr (wOf r.k)) (.int (gI ck (wOf r.k) + 1)):=rfl
   rw [e1] at g1 g3 g4 g5 g6
   generalize upd G cn (.dK (cp ck (.inr (wOf r.k)) (.int (gI ck (wOf r.k) + 1)))) = G1 at g1 g3 g4 g5 g6 ⊢
   have wz2:Wz w' zs (bf w' kvs (rws e2)):=Wz.all zo esk2 w0 w1 wz
   have ml:ms.length<=10000:=by
    have a1:=dI w' (rws e2) kvs
    have a2:=dY e2
    rw [g5.1]; lia
   have ncd:cn ≠ dd:=Ne.symm ndc
   have ncm:cn ≠ m:=fun z=>by rw [z,g4] at g1; cases g1
   refine ⟨_,rfl,_,rfl,_,rfl,_,rfl,x,dd,m,w',r,_,ms,rfl,g6 _ _ ht,rok.1,w0,w1,g3,wz2.wd zo,g4,ml,fun G2 h1 h2 h3=>?_⟩
   have pm':PrsAt G2 ms (bE w' kvs (rws e2)):=g5.same fun b ys e=>h3 _ _ (fun z=>by rw [z,g3] at e; cases e) (fun z=>by rw [z,g4] at e; cases e) e
   obtain ⟨ms',gm2,pm2⟩:=h2.prs pm'
   have er:rws (e2 ++ [some r]) = rws e2 ++ [r]:=by rw [cu]; rfl
   refine ⟨_,_,rfl,?_,⟨ms',gm2,?_⟩,⟨ck',h3 _ _ ncd ncm g1,g2⟩,fun b o e=>h3 _ _ (fun z=>by rw [z,n1] at e; cases e) (fun z=>by rw [z,n2] at e; cases e) (g6 _ _ e)⟩
   ·rw [show evs (d + 1) (TS.row r) = [some r] from rfl,er,fL]; exact h1
   ·rw [show evs (d + 1) (TS.row r) = [some r] from rfl,er,eK,show bE w' (bf w' kvs (rws e2)) [r] = mkL (r.mk (bf w' kvs (rws e2))) ++ [] from rfl,List.append_nil]; exact pm2
  | turns n us =>
   obtain ⟨l2,xs2,ht,hl2,lb⟩:∃ l xs,H0 x = some (.tup [.str "turns",.int (n:Int),.ref l])/\H0 l = some (.lst xs)/\L2A (TpT H0 d) xs us:=tp
   obtain ⟨m1,m2,ne,t100,uok⟩:1<=n/\n<=64/\us ≠ []/\us.length<=100/\∀ t ∈ us,TOk w' zs d t:=ok
   have ht2:=r2.s _ _ ht
   refine ⟨_,rfl,x,_,_,_,rfl,rfl,SqT.of ht2,at0 _ _,rfl,_,rfl,bP rfl ?_⟩
   have iY:∀ i,i < n->(e2 ++ (List.replicate i (none :: evL d us)).flatten).length + (1 + (evL d us).length)<=10000:=fun i hi=>by
    have a1:=qz (evs d) n us
    have a2:e2.length + (TS.ev (evs d) (.turns n us)).length<=10000:=ln2
    rw [a1] at a2
    rw [List.length_append,rep_len,List.length_cons]
    have a4:(i + 1) * (1 + (evL d us).length)<=n * (1 + (evL d us).length):=Nat.mul_le_mul_right _ hi
    rw [Nat.succ_mul] at a4
    rw [Nat.add_comm (evL d us).length 1]
    have a5:n * (1 + (us.flatMap (evs d)).length) = n * (1 + (evL d us).length):=rfl
    lia
   refine ⟨_,rfl,x,_,_,_,rfl,rfl,SqT.of ht2,rfl,_,rfl,by lia,by lia,eT (n:=n) (fun i σ G=>∃ z:Option V,σ = [some (.int (1 * 2 ^ w'.toNat)),some (.ref l),some (.ref dd),some (.ref m),some (.ref cn),some (.ref x),z]/\RS H0 dd m cn w' kvs (e2 ++ (List.replicate i (none :: evL d us)).flatten) G) ⟨_,rfl,(by rw [show (List.replicate 0 (none :: evL d us)).flatten = [] from rfl,List.append_nil]; exact r2)⟩ ?_ ?_⟩
   ·rintro i σ G3 hi ⟨z,rfl,r3⟩
    have l3:=iY i hi
    have esk3:∀ r ∈ rws (e2 ++ (List.replicate i (none :: evL d us)).flatten),r.ok w'/\r.inZ zs:=fun r hr'=>by
     rw [cu] at hr'
     rcases List.mem_append.mp hr' with h | h
     ·exact esk2 r h
     ·obtain ⟨l',hl',m'⟩:=List.mem_flatten.mp (rws_mem.mp h)
      rw [(List.mem_replicate.mp hl').2] at m'
      rcases List.mem_cons.mp m' with z | m'
      ·cases z
      ·exact jI uok r (rws_mem.mpr m')
    rw [jc,<- List.append_assoc]
    generalize e2 ++ (List.replicate i (none :: evL d us)).flatten = e3 at r3 l3 esk3 ⊢
    obtain ⟨ck,hc,ct⟩:=r3.c
    have ckl:=ct.ln
    refine ⟨_,rfl,cn,rfl,⟨_,hc⟩,ck,_,rfl,hc,ct.it,_,_,rfl,rfl,_,rfl,cn,_,rfl,DPut.k (k:=.inr (wOf 15)) hc (by lia),?_⟩
    obtain ⟨ck',g1,g2,g3,g4,g6⟩:=r3.put n3 ndc hc ct (e:=none) (by show 15 < 16; decide)
    have e0:rws (e3 ++ [none]) = rws e3:=by rw [cu]; exact List.append_nil _
    have r4:RS H0 dd m cn w' kvs (e3 ++ [none]) (upd G3 cn (.dK (cp ck (.inr (wOf 15)) (.int (gI ck (wOf 15) + 1))))):=⟨by rw [e0]; exact g3,by rw [e0]; exact g4,⟨ck',g1,g2⟩,g6⟩
    refine ⟨_,rfl,_,rfl,x,_,_,_,rfl,rfl,SqT.of (r4.s _ _ ht),rfl,_,rfl,_,rfl,_,rfl,?_⟩
    cases d with
    | zero=>exact absurd tr0 ne
    | succ d =>
     refine ⟨H0,l2,dd,m,cn,w',zs,xs2,us,kvs,e3 ++ [none],rfl,rfl,hl2,lb,uok,n1,n2,n3,ndc,zo,w0,w1,wz,by rw [e0]; exact esk3,by rw [List.length_append,List.length_singleton]; lia,r4,fun H' r5=>⟨_,rfl,?_⟩⟩
     rw [List.append_assoc] at r5
     exact r5
   ·rintro σ G3 ⟨z,rfl,r3⟩
    exact ⟨_,_,rfl,r3⟩
 ·rintro σ G ⟨y,z,rfl,r2⟩
  rw [la.1,List.take_length] at r2
  exact q G r2
def jY (c:Ad) (d:Nat):Sp:=fun vs H Q _=>∃ (H0:Hp) (l:Addr) (w:Int) (zs:List Str) (xs:List V) (ts:List (Tr d)),c = c/\vs = [.ref l]/\H0 l = some (.lst xs)/\L2A (TpT H0 d) xs ts/\Same H0 H/\(∀ t ∈ ts,TOk w zs d t)/\(evL d ts).length<=10000/\∀ (o:Addr) (ys:List V) H',H o = none->H' o = some (.lst ys)->L2A (fun a (r:Rw)=>H0 a = some (.tup (.str (wOf r.k) :: r.fs))) ys (rws (evL d ts))->Same H H'->Q (.ref o) H'
theorem L2A.rep {α:Type} {f:Addr->α->Prop} {xs:List V} {ts:List α} (h:L2A f xs ts):∀ n,L2A f (List.replicate n xs).flatten (List.replicate n ts).flatten
 | 0=>L2A.nil
 | n + 1=>by rw [List.replicate_succ,List.replicate_succ,List.flatten_cons,List.flatten_cons]; exact h.app (L2A.rep h n)
theorem nO (E:List (Option Rw)):∀ n,rws (List.replicate n (none :: E)).flatten = (List.replicate n (rws E)).flatten
 | 0=>rfl
 | n + 1=>by rw [List.replicate_succ,List.replicate_succ,List.flatten_cons,List.flatten_cons,cu,nO E n]; rfl
theorem mq {f:Addr} {fd:FuncData} (F:Fun K "_law_flat" "_law_flat" gk f fd) (T:Txt K mg c)  {d:Nat} (H__law_flat:Has P w K mg base (d + 8) "_law_flat" ["_law_rows"] (spN (jY c) d)):FnOk P w K mg base CX0 (d + 9) f fd ["_law_rows"] (jY c (d + 1)):=by
 refine F.ok sc__law_flat (fun vs H Q E h=>?_) (fun cdv A outer s H vs Q E hr h=>?_)
 ·obtain ⟨H0,l,w',zs,xs,ts,_,rfl,_⟩:=h
  rfl
 obtain ⟨H0,l,w',zs,xs,ts,_,rfl,hl0,la,S0,tok,ln,q⟩:=h
 refine ⟨_,(ai (aH (i:=1) sc__law_flat.nd rfl (Or.inl rfl) (bt ah))
  (ai (cI PassesOwn.never rfl (bn (pv 0)) (bF (i:=2) sc__law_flat.nd rfl (Or.inl rfl))
   (aj (aQ (au bc (av aq (pv 2) ag (fun _ _=>rfl)) ar (ay _))
    (aj (aH (i:=1) sc__law_flat.nd rfl (Or.inl rfl) (aE lM (pv 1) (aE op_rep (aC H__law_flat (hr.mono (by lia)) rfl (ae (av aq (pv 2) ag (fun _ _=>rfl)) ah)) (av aq (pv 2) ag (fun _ _=>rfl))))))
    (aj (aL (lY PySem.F.plainAttrs_list PySem.F.slot_list_append PySem.F.type_list_append bB (pv 1) (ae (pv 2) ah)))))))
  (aj (ao (pv 1))))),?_⟩
 have L1000:(20000:Nat)<=sizeLine:=by decide
 have hl:=S0 _ _ hl0
 refine ⟨(by show 0<=sizeLine; decide),fun o0 ho0=>?_⟩
 refine ⟨_,rfl,l,rfl,⟨_,SqL.of (ap ho0 _ _ _ hl)⟩,bT (xs:=xs) (fun j σ G=>∃ (y:Option V) (o:Addr) (ys:List V),σ = [some (.ref l),some (.ref o),y]/\H o = none/\G o = some (.lst ys)/\L2A (fun a (r:Rw)=>H0 a = some (.tup (.str (wOf r.k) :: r.fs))) ys (rws (evL (d + 1) (ts.take j)))/\Same H G) ⟨_,o0,[],rfl,ho0,af,L2A.nil,ap ho0 _⟩ ?_ ?_ ?_⟩
 ·rintro j σ G hj ⟨y,o,ys,rfl,ho,hy,ly,sG⟩
  exact SqL.of (sG _ _ hl)
 ·rintro j v σ G hv ⟨y,o,ys,rfl,ho,hy,ly,sG⟩
  obtain ⟨x,t,rfl,et,tp⟩:=la.get hv
  have ok:=tok t (List.mem_of_getElem? et)
  have a3:=cZ ts (j + 1)
  rw [cL et,List.length_append] at a3
  have yl:ys.length<=(evL (d + 1) (ts.take j)).length:=by rw [ly.1]; exact dY _
  rw [cL et,cu]
  generalize rws (evL (d + 1) (ts.take j)) = R at ly ⊢
  cases t with
  | row r =>
   have ht:H0 x = some (.tup (.str (wOf r.k) :: r.fs)):=tp
   have rok:r.ok w'/\r.inZ zs:=ok
   have k15:=Rw.k15 rok.1
   refine ⟨_,rfl,x,_,_,_,rfl,rfl,SqT.of (sG _ _ (S0 _ _ ht)),at0 _ _,rfl,_,rfl,aI (wNe (j:=15) (by lia) (by decide) (by lia)) ?_⟩
   refine ⟨_,rfl,.inl ⟨rfl,_,SqL.of hy⟩,_,rfl,o,_,_,rfl,rfl,hy,by lia,?_⟩
   exact ⟨_,o,_,rfl,ho,af,ly.app (L2A.one (f:=fun a (r:Rw)=>H0 a = some (.tup (.str (wOf r.k) :: r.fs))) ht),Same.updL sG ho⟩
  | turns n us =>
   obtain ⟨l2,xs2,ht,hl2,lb⟩:∃ l xs,H0 x = some (.tup [.str "turns",.int (n:Int),.ref l])/\H0 l = some (.lst xs)/\L2A (TpT H0 d) xs us:=tp
   obtain ⟨m1,m2,ne,t100,uok⟩:1<=n/\n<=64/\us ≠ []/\us.length<=100/\∀ t ∈ us,TOk w' zs d t:=ok
   have a1:=qz (evs d) n us
   have a2:(evs (d + 1) (TS.turns n us)).length = n * (1 + (evL d us).length):=a1
   have a4:n * (evL d us).length<=n * (1 + (evL d us).length):=Nat.mul_le_mul_left _ (by lia)
   have a5:1 * (evL d us).length<=n * (evL d us).length:=Nat.mul_le_mul_right _ m1
   refine ⟨_,rfl,x,_,_,_,rfl,rfl,SqT.of (sG _ _ (S0 _ _ ht)),at0 _ _,rfl,_,rfl,bP rfl ?_⟩
   refine ⟨_,rfl,_,rfl,x,_,_,_,rfl,rfl,SqT.of (sG _ _ (S0 _ _ ht)),rfl,?_⟩
   cases d with
   | zero=>exact absurd tr0 ne
   | succ d =>
    refine ⟨H0,l2,w',zs,xs2,us,rfl,rfl,hl2,lb,S0.trans sG,uok,by lia,fun o1 y1 G1 ho1 h1 l1 s1=>?_⟩
    have y1l:y1.length<=(evL (d + 1) us).length:=by rw [l1.1]; exact dY _
    have a6:y1.length * n<=(evL (d + 1) us).length * n:=Nat.mul_le_mul_right _ y1l
    have a7:(evL (d + 1) us).length * n = n * (evL (d + 1) us).length:=Nat.mul_comm _ _
    have sz:y1.length * ((n:Int)).toNat<=sizeLine:=by rw [Int.toNat_natCast]; lia
    refine ⟨_,rfl,x,_,_,_,rfl,rfl,SqT.of (s1 _ _ (sG _ _ (S0 _ _ ht))),rfl,o1,_,y1,rfl,rfl,h1,by lia,by lia,sz,fun o2 ho2=>?_⟩
    obtain ⟨G2,e2,s2,f2⟩:=dL ho2 (.lst (List.replicate ((n:Int)).toNat y1).flatten)
    rw [e2]
    refine ⟨o,o2,_,_,rfl,rfl,SqL.of (s2 _ _ (s1 _ _ hy)),SqL.of f2,(by rw [sD,Int.toNat_natCast,Nat.mul_comm]; lia),fun o3 ho3=>?_⟩
    refine ⟨_,o3,_,rfl,Same.none ((sG.trans s1).trans s2) ho3,af,?_,((sG.trans s1).trans s2).trans (ap ho3 _)⟩
    rw [show evs (d + 1 + 1) (TS.turns n us) = (List.replicate n (none :: evL (d + 1) us)).flatten from rfl,nO,Int.toNat_natCast]
    exact ly.app (l1.rep n)
 ·rintro σ G ⟨y,o,ys,rfl,ho,hy,ly,sG⟩
  rw [la.1,List.take_length] at ly
  exact ⟨_,rfl,q o ys G ho hy ly sG⟩
inductive Sk:Nat->Type where
 | bot (ts:List (Tr 6)):Sk 6
 | push {d:Nat} (b:Sk (d + 1)) (n:Nat) (ts:List (Tr d)):Sk d
def Sk.prod:{d:Nat}->Sk d->Nat
 | _,.bot _=>1
 | _,.push b n _=>b.prod * n
def Sk.W:{d:Nat}->Sk d->Nat
 | _,.bot ts=>(evL 6 ts).length
 | _,.push (d:=d) b n ts=>b.W + b.prod * n * (1 + (evL d ts).length)
def Sk.M:{d:Nat}->Sk d->Nat
 | _,.bot ts=>ts.length
 | _,.push b _ ts=>b.M + ts.length
def Sk.ok (w:Int) (zs:List Str):{d:Nat}->Sk d->Prop
 | _,.bot ts=>∀ t ∈ ts,TOk w zs 6 t
 | _,.push (d:=d) b n ts=>b.ok w zs/\1<=n/\n<=64/\∀ t ∈ ts,TOk w zs d t
def Sk.top:{d:Nat}->Sk d->List (Tr d)
 | _,.bot ts=>ts
 | _,.push _ _ ts=>ts
def Sk.add:{d:Nat}->Sk d->Tr d->Sk d
 | _,.bot ts,t=>.bot (ts ++ [t])
 | _,.push b n ts,t=>.push b n (ts ++ [t])
def Sk.at (Z H:Hp):{d:Nat}->Sk d->List Addr->List Int->List Int->Prop
 | _,.bot ts,hs,rs,qs=>∃ l xs,hs = [l]/\rs = [1]/\qs = [64]/\H l = some (.lst xs)/\L2A (TpT Z 6) xs ts
 | _,.push (d:=d) b n ts,hs,rs,qs=>∃ hs' rs' qs' l xs q,hs = hs' ++ [l]/\rs = rs' ++ [(n:Int)]/\qs = qs' ++ [(q:Nat).cast]/\l ∉ hs'/\(1<=q/\q<=64)/\b.prod * n * q<=64/\b.at Z H hs' rs' qs'/\H l = some (.lst xs)/\L2A (TpT Z d) xs ts
theorem Sk.le6:∀ {d:Nat},Sk d->d<=6
 | _,.bot _=>Nat.le_refl _
 | _,.push b _ _=>Nat.le_of_succ_le b.le6
theorem Sk.at.move {Z Z' H H':Hp} (z:Same Z Z'):∀ {d:Nat} {sk:Sk d} {hs:List Addr} {rs qs:List Int},sk.at Z H hs rs qs->(∀ l ∈ hs,∀ o,H l = some o->H' l = some o)->sk.at Z' H' hs rs qs
 | _,.bot ts,hs,rs,qs,h,m=>by
  obtain ⟨l,xs,rfl,e1,e2,hl,la⟩:=h
  exact ⟨l,xs,rfl,e1,e2,m l (List.mem_singleton.mpr rfl) _ hl,la.mono fun _ _ _ k=>k.same z⟩
 | _,.push b n ts,hs,rs,qs,h,m=>by
  obtain ⟨hs',rs',qs',l,xs,q,rfl,e1,e2,nl,q1,q2,hb,hl,la⟩:=h
  exact ⟨hs',rs',qs',l,xs,q,rfl,e1,e2,nl,q1,q2,Sk.at.move z hb (fun l' h'=>m l' (List.mem_append_left _ h')),m l (List.mem_append_right _ (List.mem_singleton.mpr rfl)) _ hl,la.mono fun _ _ _ k=>k.same z⟩
theorem Sk.at.all {Z H:Hp}:∀ {d:Nat} {sk:Sk d} {hs:List Addr} {rs qs:List Int},sk.at Z H hs rs qs->∀ l ∈ hs,∃ xs,H l = some (.lst xs)
 | _,.bot ts,hs,rs,qs,h,l,hl=>by
  obtain ⟨l',xs,rfl,e1,e2,h',la⟩:=h
  rw [List.mem_singleton.mp hl]
  exact ⟨xs,h'⟩
 | _,.push b n ts,hs,rs,qs,h,l,hl=>by
  obtain ⟨hs',rs',qs',l',xs,q,rfl,e1,e2,nl,q1,q2,hb,h',la⟩:=h
  rcases List.mem_append.mp hl with m | m
  ·exact Sk.at.all hb l m
  ·rw [List.mem_singleton.mp m]
   exact ⟨xs,h'⟩
theorem Sk.at.tp {Z H:Hp} {d:Nat} {sk:Sk d} {hs:List Addr} {rs qs:List Int} (h:sk.at Z H hs rs qs):∃ (hs0:List Addr) (l:Addr) (xs:List V),hs = hs0 ++ [l]/\l ∉ hs0/\H l = some (.lst xs)/\L2A (TpT Z d) xs sk.top:=by
 cases sk with
 | bot ts =>
  obtain ⟨l,xs,rfl,e1,e2,hl,la⟩:=h
  exact ⟨[],l,xs,rfl,List.not_mem_nil,hl,la⟩
 | push b n ts =>
  obtain ⟨hs',rs',qs',l,xs,q,rfl,e1,e2,nl,q1,q2,hb,hl,la⟩:=h
  exact ⟨hs',l,xs,rfl,nl,hl,la⟩
theorem Sk.at.add {Z H H':Hp} {d:Nat} {sk:Sk d} {hs0:List Addr} {l:Addr} {xs:List V} {rs qs:List Int} {a:Addr} {t:Tr d} (h:sk.at Z H (hs0 ++ [l]) rs qs) (hl:H l = some (.lst xs)) (ha:TpT Z d a t) (h1:H' l = some (.lst (xs ++ [.ref a]))) (h2:∀ b ∈ hs0,b ≠ l->∀ o,H b = some o->H' b = some o):(sk.add t).at Z H' (hs0 ++ [l]) rs qs:=by
 cases sk with
 | bot ts =>
  obtain ⟨l',xs',e0,e1,e2,hl',la⟩:=h
  have e3:hs0 = []/\l = l':=by
   cases hs0 with
   | nil=>exact ⟨rfl,by injection e0⟩
   | cons a t=>injection e0 with _ z; cases t <;> cases z
  obtain ⟨rfl,rfl⟩:=e3
  rw [hl] at hl'
  cases hl'
  exact ⟨l,_,rfl,e1,e2,h1,la.app (L2A.one ha)⟩
 | push b n ts =>
  obtain ⟨hs',rs',qs',l',xs',q,e0,e1,e2,nl,q1,q2,hb,hl',la⟩:=h
  obtain ⟨rfl,e3⟩:=List.append_inj' e0 rfl
  cases e3
  rw [hl] at hl'
  cases hl'
  exact ⟨hs0,rs',qs',l,_,q,rfl,e1,e2,nl,q1,q2,hb.move (Same.refl _) (fun b' hb'=>h2 b' hb' fun z=>nl (z ▸ hb')),h1,la.app (L2A.one ha)⟩
theorem Sk.W_add {d:Nat} (sk:Sk d) (t:Tr d):(sk.add t).W = sk.W + sk.prod * (evs d t).length:=by
 have e:∀ ts:List (Tr d),(evL d (ts ++ [t])).length = (evL d ts).length + (evs d t).length:=fun ts=>by
  unfold evL
  rw [List.flatMap_append,List.length_append]
  show _ + ((evs d t) ++ []).length = _
  rw [List.append_nil]
 cases sk with
 | bot ts =>
  show (evL 6 (ts ++ [t])).length = (evL 6 ts).length + 1 * _
  rw [e,Nat.one_mul]
 | push b n ts =>
  show b.W + b.prod * n * (1 + (evL _ (ts ++ [t])).length) = b.W + b.prod * n * (1 + (evL _ ts).length) + b.prod * n * _
  rw [e,<- Nat.add_assoc 1,Nat.mul_add]
  lia
theorem Sk.M_add {d:Nat} (sk:Sk d) (t:Tr d):(sk.add t).M = sk.M + 1:=by
 cases sk with
 | bot ts=>show (ts ++ [t]).length = _; rw [List.length_append]; rfl
 | push b n ts=>show b.M + (ts ++ [t]).length = b.M + ts.length + 1; rw [List.length_append]; rfl
theorem Sk.ok_add {w:Int} {zs:List Str} {d:Nat} {sk:Sk d} {t:Tr d} (h:sk.ok w zs) (ht:TOk w zs d t):(sk.add t).ok w zs:=by
 cases sk with
 | bot ts=>exact fun u hu=>(List.mem_append.mp hu).elim (h u) fun z=>by rw [List.mem_singleton.mp z]; exact ht
 | push b n ts=>exact ⟨h.1,h.2.1,h.2.2.1,fun u hu=>(List.mem_append.mp hu).elim (h.2.2.2 u) fun z=>by rw [List.mem_singleton.mp z]; exact ht⟩
theorem Sk.at.pr {Z H:Hp} {d:Nat} {sk:Sk d} {hs:List Addr} {rs qs:List Int} (h:sk.at Z H hs rs qs):∃ (q:Nat) (qs0:List Int),qs = qs0 ++ [(q:Int)]/\1<=q/\sk.prod * q<=64/\q<=64/\hs.length = 7 - d/\qs.length = hs.length:=by
 have ln:∀ {d:Nat} {sk:Sk d} {hs:List Addr} {rs qs:List Int},sk.at Z H hs rs qs->hs.length = 7 - d/\qs.length = hs.length:=by
  intro d sk
  induction sk with
  | bot ts=>rintro hs rs qs ⟨l,xs,rfl,_,rfl,_⟩; exact ⟨rfl,rfl⟩
  | push b n ts ih =>
   rintro hs rs qs ⟨hs',rs',qs',l,xs,q,rfl,e1,rfl,nl,q1,q2,hb,_⟩
   obtain ⟨i1,i2⟩:=ih hb
   have:=b.le6
   exact ⟨by rw [List.length_append,i1,List.length_singleton]; lia,by rw [List.length_append,List.length_append,i2]; rfl⟩
 obtain ⟨l1,l2⟩:=ln h
 cases sk with
 | bot ts =>
  obtain ⟨l,xs,rfl,e1,rfl,hl,la⟩:=h
  exact ⟨64,[],rfl,by decide,by show 1 * 64<=64; decide,by decide,l1,l2⟩
 | push b n ts =>
  obtain ⟨hs',rs',qs',l,xs,q,rfl,e1,rfl,nl,q1,q2,hb,hl,la⟩:=h
  exact ⟨q,qs',rfl,q1.1,q2,q1.2,l1,l2⟩
structure SK (Z H:Hp) (hd rd rm:Addr) {d:Nat} (sk:Sk d) (hs:List Addr) (rs qs:List Int):Prop where
 zH:Same Z H
 z0:Z hd = none
 z1:Z rd = none
 z2:Z rm = none
 zh:∀ l ∈ hs,Z l = none
 at_:sk.at Z H hs rs qs
 h0:H hd = some (.lst (hs.map V.ref))
 h1:H rd = some (.lst (rs.map V.int))
 h2:H rm = some (.lst (qs.map V.int))
 n0:hd ∉ hs
 n1:rd ∉ hs
 n2:rm ∉ hs
 e1:hd ≠ rd
 e2:hd ≠ rm
 e3:rd ≠ rm
theorem SK.more {Z H H':Hp} {hd rd rm:Addr} {d:Nat} {sk:Sk d} {hs:List Addr} {rs qs:List Int} (k:SK Z H hd rd rm sk hs rs qs) (s:∀ b o,(b = hd\/b = rd\/b = rm\/b ∈ hs\/Z b ≠ none)->H b = some o->H' b = some o):SK Z H' hd rd rm sk hs rs qs :=
 ⟨fun b o e=>s b o (.inr (.inr (.inr (.inr (by rw [e]; simp))))) (k.zH _ _ e),k.z0,k.z1,k.z2,k.zh,k.at_.move (Same.refl _) fun l hl o e=>s l o (.inr (.inr (.inr (.inl hl)))) e,s _ _ (.inl rfl) k.h0,s _ _ (.inr (.inl rfl)) k.h1,s _ _ (.inr (.inr (.inl rfl))) k.h2,k.n0,k.n1,k.n2,k.e1,k.e2,k.e3⟩
theorem SK.same {Z H H':Hp} {hd rd rm:Addr} {d:Nat} {sk:Sk d} {hs:List Addr} {rs qs:List Int} (k:SK Z H hd rd rm sk hs rs qs) (s:Same H H'):SK Z H' hd rd rm sk hs rs qs:=k.more fun b o _ e=>s b o e
def nN:Sp:=fun vs H Q _=>∃ (Z:Hp) (hd rd rm:Addr) (d n:Nat) (b:Sk (d + 1)) (ts:List (Tr d)) (hs:List Addr) (rs qs:List Int),vs = [.ref hd,.ref rd,.ref rm]/\SK Z H hd rd rm (.push b n ts) hs rs qs/\ts.length<=1000/\b.M<=1000 /\
 ∀ (Z':Hp) (hs':List Addr) (rs' qs':List Int) H',SK Z' H' hd rd rm (b.add (TS.turns n ts)) hs' rs' qs'->Same Z Z'->(∀ x o,x ≠ hd->x ≠ rd->x ≠ rm->x ∉ hs->H x = some o->H' x = some o)->(∀ l ∈ hs',l ∈ hs)->Q .non H'
theorem mG {f:Addr} {fd:FuncData} (F:Fun K "_law_shut" "_law_shut" gK f fd) (T:Txt K mg c) :FnOk P w K mg base CX0 1 f fd ["_law_heads", "_law_rounds", "_law_room"] nN:=by
 refine F.ok sc__law_shut (fun vs H Q E h=>?_) (fun cdv A outer s H vs Q E hr h=>?_)
 ·obtain ⟨Z,hd,rd,rm,d,n,b,ts,hs,rs,qs,rfl,_⟩:=h
  rfl
 obtain ⟨Z,hd,rd,rm,d,n,b,ts,hs,rs,qs,rfl,K0,tl,bm,q⟩:=h
 refine ⟨_,(ai (aH (i:=3) sc__law_shut.nd rfl (Or.inl rfl) (eF PySem.F.plainAttrs_list PySem.F.slot_list_pop PySem.F.type_list_pop tw (pv 0)))
  (ai (aL (eF PySem.F.plainAttrs_list PySem.F.slot_list_pop PySem.F.type_list_pop tw (pv 2)))
  (aj (aL (lY PySem.F.plainAttrs_list PySem.F.slot_list_append PySem.F.type_list_append bB (av aK (pv 0) (ny iR ag) (fun _ _=>rfl)) (ae (bK (ae ar (ae (eF PySem.F.plainAttrs_list PySem.F.slot_list_pop PySem.F.type_list_pop tw (pv 1)) (ae (pv 3) ah)))) ah)))))),?_⟩
 obtain ⟨zH,z0,z1,z2,zh,at_,h0,h1,h2,n0,n1,n2,e1,e2,e3⟩:=K0
 obtain ⟨hs',rs',qs',l,xs,q',rfl,rfl,rfl,nl,q1,q2,hb,hl,la⟩:=at_
 have la':∀ {α:Type} (f:α->V) (as:List α) (a:α),((as ++ [a]).map f)[((as ++ [a]).map f).length - 1]? = some (f a):=fun f as a=>by
  rw [List.map_append,List.length_append,List.length_map]
  show (as.map f ++ [f a])[as.length + 1 - 1]? = _
  rw [Nat.add_sub_cancel,List.getElem?_append_right (by rw [List.length_map]; exact Nat.le_refl _),List.length_map,Nat.sub_self,List.getElem?_cons_zero]
 have dl:∀ {α:Type} (f:α->V) (as:List α) (a:α),((as ++ [a]).map f).dropLast = as.map f:=fun f as a=>by rw [List.map_append]; exact List.dropLast_concat
 refine ⟨_,rfl,.inl ⟨rfl,_,SqL.of h0⟩,hd,_,_,rfl,rfl,h0,la' _ _ _,?_⟩
 rw [dl]
 have mem:∀ {x:Addr},x ∈ hs'->x ∈ hs' ++ [l]:=fun h=>List.mem_append_left _ h
 have lm:l ∈ hs' ++ [l]:=List.mem_append_right _ (List.mem_singleton.mpr rfl)
 obtain ⟨hs0,l0,x0,e0,nl0,hl0,la0⟩:=hb.tp
 subst e0
 have l0m:l0 ∈ hs0 ++ [l0]:=List.mem_append_right _ (List.mem_singleton.mpr rfl)
 have h0d:l0 ≠ hd:=fun z=>n0 (z ▸ mem l0m)
 have h0r:l0 ≠ rd:=fun z=>n1 (z ▸ mem l0m)
 have h0m:l0 ≠ rm:=fun z=>n2 (z ▸ mem l0m)
 have h2':upd H hd (.lst ((hs0 ++ [l0]).map V.ref)) rm = some (.lst ((qs' ++ [((q':Nat):Int)]).map V.int)):=by rw [am (Ne.symm e2)]; exact h2
 refine ⟨_,rfl,.inl ⟨rfl,_,SqL.of h2'⟩,rm,_,_,rfl,rfl,h2',la' _ _ _,?_⟩
 rw [dl]
 generalize hG2:upd (upd H hd (.lst ((hs0 ++ [l0]).map V.ref))) rm (.lst (qs'.map V.int)) = G2
 have g2:∀ {x:Addr},x ≠ hd->x ≠ rm->G2 x = H x:=fun a b=>by rw [<- hG2,am b,am a]
 have g2d:G2 hd = some (.lst (hs0.map V.ref ++ [.ref l0])):=by rw [<- hG2,am e2,af,List.map_append]; rfl
 have g2m:G2 rm = some (.lst (qs'.map V.int)):=by rw [<- hG2,af]
 have g2l:G2 l0 = some (.lst x0):=by rw [g2 h0d h0m]; exact hl0
 have g2r:G2 rd = some (.lst ((rs' ++ [(n:Int)]).map V.int)):=by rw [g2 (Ne.symm e1) e3]; exact h1
 refine ⟨_,rfl,_,rfl,hd,_,_,_,rfl,rfl,SqL.of g2d,bI _ _,.inl ⟨rfl,_,SqL.of g2l⟩,?_⟩
 refine ⟨_,rfl,.inl ⟨rfl,_,SqL.of g2r⟩,rd,_,_,rfl,rfl,g2r,la' _ _ _,?_⟩
 rw [dl]
 generalize hG3:upd G2 rd (.lst (rs'.map V.int)) = G3
 have g3:∀ {x:Addr},x ≠ rd->G3 x = G2 x:=fun a=>by rw [<- hG3,am a]
 have g3l:G3 l0 = some (.lst x0):=by rw [g3 h0r]; exact g2l
 refine ⟨_,rfl,(by show 3<=sizeLine; decide),fun t ht=>?_⟩
 have nt:∀ {x:Addr} {o:HO},G3 x = some o->x ≠ t:=fun e z=>by rw [z,ht] at e; cases e
 have nl0t:=nt g3l
 have x0l:x0.length<=1000:=by
  have:b.top.length<=b.M:=by cases b with
   | bot ts=>exact Nat.le_refl _
   | push b n ts=>exact Nat.le_add_left _ _
  rw [la0.1]; lia
 have L1000:(20000:Nat)<=sizeLine:=by decide
 refine ⟨l0,x0,_,rfl,rfl,(by rw [am nl0t]; exact g3l),by lia,?_⟩
 generalize hG:upd (upd G3 t (.tup [.str "turns",.int (n:Int),.ref l])) l0 (.lst (x0 ++ [.ref t])) = G
 have gl0:G l0 = some (.lst (x0 ++ [.ref t])):=by rw [<- hG,af]
 have gt:G t = some (.tup [.str "turns",.int (n:Int),.ref l]):=by rw [<- hG,am (Ne.symm nl0t),af]
 have g:∀ {x:Addr},x ≠ l0->x ≠ t->G x = G3 x:=fun a b=>by rw [<- hG,am a,am b]
 have g3hd:G3 hd = some (.lst ((hs0 ++ [l0]).map V.ref)):=by rw [g3 e1,g2d,List.map_append]; rfl
 have g3rm:G3 rm = some (.lst (qs'.map V.int)):=by rw [g3 (Ne.symm e3)]; exact g2m
 have g3rd:G3 rd = some (.lst (rs'.map V.int)):=by rw [<- hG3,af]
 have go:∀ x o,x ≠ hd->x ≠ rd->x ≠ rm->x ≠ l0->H x = some o->G x = some o/\x ≠ t:=fun x o a b d' e' e=>by
  have e4:G3 x = some o:=by rw [g3 b,g2 a d']; exact e
  exact ⟨by rw [g e' (nt e4)]; exact e4,nt e4⟩
 have nlhd:l ≠ hd:=fun z=>n0 (z ▸ lm)
 have nlrd:l ≠ rd:=fun z=>n1 (z ▸ lm)
 have nlrm:l ≠ rm:=fun z=>n2 (z ▸ lm)
 have nll0:l ≠ l0:=fun z=>nl (z ▸ l0m)
 obtain ⟨gl,nlt⟩:=go l _ nlhd nlrd nlrm nll0 hl
 have Zl:Z l = none:=zh l lm
 have Zt:Z t = none:=by
  cases e:Z t with
  | none=>rfl
  | some o =>
   have a1:t ≠ hd:=fun z=>by rw [z,z0] at e; cases e
   have a2:t ≠ rd:=fun z=>by rw [z,z1] at e; cases e
   have a3:t ≠ rm:=fun z=>by rw [z,z2] at e; cases e
   exact absurd rfl (go t o a1 a2 a3 (Ne.symm nl0t) (zH _ _ e)).2
 have ZZ:Same Z (upd (upd Z l (.lst xs)) t (.tup [.str "turns",.int (n:Int),.ref l])):=fun x o e=>by
  rw [am (aw e Zt),am (aw e Zl)]; exact e
 have Z'n:∀ x,x ≠ l->x ≠ t->upd (upd Z l (.lst xs)) t (.tup [.str "turns",.int (n:Int),.ref l]) x = Z x:=fun x a b=>by rw [am b,am a]
 refine q (upd (upd Z l (.lst xs)) t (.tup [.str "turns",.int (n:Int),.ref l])) (hs0 ++ [l0]) rs' qs' G ⟨fun x o e=>?_,?_,?_,?_,fun x hx=>?_,?_,?_,?_,?_,(fun z=>n0 (mem z)),(fun z=>n1 (mem z)),(fun z=>n2 (mem z)),e1,e2,e3⟩ ZZ ?_ fun x hx=>mem hx
 ·by_cases a:x = t
  ·subst a; rw [af] at e; cases e; exact gt
  ·rw [am a] at e
   by_cases b':x = l
   ·subst b'; rw [af] at e; cases e; exact gl
   ·rw [am b'] at e
    exact (go x o (fun z=>by rw [z,z0] at e; cases e) (fun z=>by rw [z,z1] at e; cases e) (fun z=>by rw [z,z2] at e; cases e) (fun z=>by rw [z,zh l0 (mem l0m)] at e; cases e) (zH _ _ e)).1
 ·rw [Z'n hd (Ne.symm nlhd) (nt g3hd)]; exact z0
 ·rw [Z'n rd (Ne.symm nlrd) (nt g3rd)]; exact z1
 ·rw [Z'n rm (Ne.symm nlrm) (nt g3rm)]; exact z2
 ·have xt:x ≠ t:=fun z=>by
   subst z
   rcases List.mem_append.mp hx with h | h
   ·obtain ⟨ys,hys⟩:=hb.all x hx
    have hx':=List.mem_append_left [l0] h
    exact (go x _ (fun z=>n0 (z ▸ mem hx')) (fun z=>n1 (z ▸ mem hx')) (fun z=>n2 (z ▸ mem hx')) (fun z=>nl0 (z ▸ h)) hys).2 rfl
   ·exact nl0t (List.mem_singleton.mp h).symm
  rw [Z'n x (fun z=>nl (z ▸ hx)) xt]
  exact zh x (mem hx)
 ·refine Sk.at.add (hb.move ZZ fun _ _ _ e=>e) hl0 ?_ gl0 fun x hx n o e=>?_
  ·exact ⟨l,xs,af,by rw [am nlt,af],la.mono fun _ _ _ k=>k.same ZZ⟩
  ·have hx':=List.mem_append_left [l0] hx
   exact (go x o (fun z=>n0 (z ▸ mem hx')) (fun z=>n1 (z ▸ mem hx')) (fun z=>n2 (z ▸ mem hx')) n e).1
 ·rw [g (Ne.symm h0d) (nt g3hd)]; exact g3hd
 ·rw [g (Ne.symm h0r) (nt g3rd)]; exact g3rd
 ·rw [g (Ne.symm h0m) (nt g3rm)]; exact g3rm
 ·exact fun x o a1 a2 a3 a4 e=>(go x o a1 a2 a3 (fun z=>a4 (z ▸ mem l0m)) e).1
theorem SK.row {Z H:Hp} {hd rd rm:Addr} {d:Nat} {sk:Sk (d + 1)} {hs0:List Addr} {l t:Addr} {xs:List V} {rs qs:List Int} (k:SK Z H hd rd rm sk (hs0 ++ [l]) rs qs) (nl:l ∉ hs0) (hl:H l = some (.lst xs)) {r:Rw} (ht:H t = some (.tup (.str (wOf r.k) :: r.fs))):SK (upd Z t (.tup (.str (wOf r.k) :: r.fs))) (upd H l (.lst (xs ++ [.ref t]))) hd rd rm (sk.add (TS.row r)) (hs0 ++ [l]) rs qs:=by
 have lm:l ∈ hs0 ++ [l]:=List.mem_append_right _ (List.mem_singleton.mpr rfl)
 have ntl:t ≠ l:=fun z=>by rw [z,hl] at ht; cases ht
 have ZZ:Same Z (upd Z t (.tup (.str (wOf r.k) :: r.fs))):=fun x o e=>by
  by_cases a:x = t
  ·subst a; rw [k.zH _ _ e] at ht; rw [af]; exact ht.symm
  ·rw [am a]; exact e
 have tt:∀ {x:Addr} {ys:List V},H x = some (.lst ys)->x ≠ t:=fun e z=>by rw [z,ht] at e; cases e
 refine ⟨fun x o e=>?_,?_,?_,?_,fun x hx=>?_,?_,?_,?_,?_,k.n0,k.n1,k.n2,k.e1,k.e2,k.e3⟩
 ·by_cases a:x = t
  ·subst a; rw [af] at e; cases e; rw [am ntl]; exact ht
  ·rw [am a] at e
   rw [am (fun z=>by rw [z,k.zh l lm] at e; cases e)]
   exact k.zH _ _ e
 ·rw [am (tt k.h0)]; exact k.z0
 ·rw [am (tt k.h1)]; exact k.z1
 ·rw [am (tt k.h2)]; exact k.z2
 ·obtain ⟨ys,hy⟩:=k.at_.all x hx
  rw [am (tt hy)]; exact k.zh x hx
 ·refine Sk.at.add (k.at_.move ZZ fun _ _ _ e=>e) hl (show TpT _ (d + 1) t (TS.row r) from af) af fun x hx n o e=>?_
  rw [am n]; exact e
 ·rw [am (fun z=>k.n0 (by rw [z]; exact lm))]; exact k.h0
 ·rw [am (fun z=>k.n1 (by rw [z]; exact lm))]; exact k.h1
 ·rw [am (fun z=>k.n2 (by rw [z]; exact lm))]; exact k.h2
theorem SK.open {Z H G:Hp} {hd rd rm:Addr} {d:Nat} {sk:Sk (d + 1)} {hs:List Addr} {rs qs:List Int} {l:Addr} {n q:Nat} (k:SK Z H hd rd rm sk hs rs qs) (hl:H l = none) (g0:G hd = some (.lst (hs.map V.ref ++ [.ref l]))) (g1:G rd = some (.lst (rs.map V.int ++ [.int (n:Int)]))) (g2:G rm = some (.lst (qs.map V.int ++ [.int (q:Int)]))) (gl:G l = some (.lst [])) (q1:1<=q/\q<=64) (q2:sk.prod * n * q<=64) (go:∀ x o,x ≠ hd->x ≠ rd->x ≠ rm->H x = some o->G x = some o):SK Z G hd rd rm (.push sk n []) (hs ++ [l]) (rs ++ [(n:Int)]) (qs ++ [(q:Int)]):=by
 have Zl:Z l = none:=by
  cases e:Z l with
  | none=>rfl
  | some o=>rw [k.zH _ _ e] at hl; cases hl
 have nm:∀ {x:Addr} {o:HO},H x = some o->x ≠ l:=fun e=>aw e hl
 have nlh:l ∉ hs:=fun h=>by
  obtain ⟨xs,e⟩:=k.at_.all l h
  rw [hl] at e; cases e
 refine ⟨fun x o e=>go x o (fun z=>by rw [z,k.z0] at e; cases e) (fun z=>by rw [z,k.z1] at e; cases e) (fun z=>by rw [z,k.z2] at e; cases e) (k.zH _ _ e),k.z0,k.z1,k.z2,fun x hx=>?_,?_,by rw [g0,List.map_append]; rfl,by rw [g1,List.map_append]; rfl,by rw [g2,List.map_append]; rfl,fun h=>?_,fun h=>?_,fun h=>?_,k.e1,k.e2,k.e3⟩
 ·rcases List.mem_append.mp hx with m | m
  ·exact k.zh x m
  ·rw [List.mem_singleton.mp m]; exact Zl
 ·exact ⟨hs,rs,qs,l,[],q,rfl,rfl,rfl,nlh,q1,q2,k.at_.move (Same.refl _) (fun x hx o e=>go x o (fun z=>k.n0 (z ▸ hx)) (fun z=>k.n1 (z ▸ hx)) (fun z=>k.n2 (z ▸ hx)) e),gl,L2A.nil⟩
 ·rcases List.mem_append.mp h with m | m
  ·exact k.n0 m
  ·exact nm k.h0 (List.mem_singleton.mp m)
 ·rcases List.mem_append.mp h with m | m
  ·exact k.n1 m
  ·exact nm k.h1 (List.mem_singleton.mp m)
 ·rcases List.mem_append.mp h with m | m
  ·exact k.n2 m
  ·exact nm k.h2 (List.mem_singleton.mp m)
def TI (H:Hp) (w:Int) (zs:List Str) (hd rd rm:Addr) (k:Nat) (G:Hp):Prop:=∃ (d:Nat) (sk:Sk (d + 1)) (hs:List Addr) (rs qs:List Int) (Z:Hp),SK Z G hd rd rm sk hs rs qs/\sk.ok w zs/\sk.W<=64 * k/\sk.M<=k/\Same H G/\H hd = none/\H rd = none/\H rm = none/\∀ l ∈ hs,H l = none
section
variable {H G G':Hp} {w':Int} {zs:List Str} {hd rd rm p:Addr} {k:Nat}
theorem TI.pass (h:TI H w' zs hd rd rm k G) (hp:G p = none) (s:∀ b o,b ≠ p->G b = some o->G' b = some o):TI H w' zs hd rd rm k G':=by
 obtain ⟨d,sk,hs,rs,qs,Z,K0,ok,W,M,sG,a,b,c,e⟩:=h
 exact ⟨d,sk,hs,rs,qs,Z,K0.more fun b o _ e=>s b o (aw e hp) e,ok,W,M,fun b o e=>s b o (aw (sG _ _ e) hp) (sG _ _ e),a,b,c,e⟩
theorem TI.same (h:TI H w' zs hd rd rm k G) (s:Same G G'):TI H w' zs hd rd rm k G':=by
 obtain ⟨d,sk,hs,rs,qs,Z,K0,ok,W,M,sG,a,b,c,e⟩:=h
 exact ⟨d,sk,hs,rs,qs,Z,K0.same s,ok,W,M,sG.trans s,a,b,c,e⟩
theorem TI.hd_ (h:TI H w' zs hd rd rm k G):∃ (ys:List V) (l:Addr) (xs:List V),G hd = some (.lst (ys ++ [.ref l]))/\G l = some (.lst xs)/\xs.length<=k/\l ≠ hd/\ys.length<=5:=by
 obtain ⟨d,sk,hs,rs,qs,Z,K0,ok,W,M,sG,a,b,c,e⟩:=h
 obtain ⟨hs0,l,xs,rfl,nl,hl,la⟩:=K0.at_.tp
 obtain ⟨q,qs0,_,_,_,_,ln,_⟩:=K0.at_.pr
 have:sk.top.length<=sk.M:=by cases sk with
  | bot ts=>exact Nat.le_refl _
  | push b n ts=>exact Nat.le_add_left _ _
 refine ⟨hs0.map V.ref,l,xs,by rw [K0.h0,List.map_append]; rfl,hl,by rw [la.1]; lia,fun z=>K0.n0 (by rw [<- z]; exact List.mem_append_right _ (List.mem_singleton.mpr rfl)),?_⟩
 rw [List.length_append,List.length_singleton] at ln
 rw [List.length_map]
 lia
theorem TI.rm_ (h:TI H w' zs hd rd rm k G):∃ (qs0:List V) (q:Nat),G rm = some (.lst (qs0 ++ [.int (q:Int)]))/\1<=q/\q<=64/\qs0.length<=5:=by
 obtain ⟨d,sk,hs,rs,qs,Z,K0,_⟩:=h
 obtain ⟨q,qs0,rfl,q1,_,q2,l1,l2⟩:=K0.at_.pr
 rw [List.length_append,List.length_singleton] at l2
 exact ⟨qs0.map V.int,q,by rw [K0.h2,List.map_append]; rfl,q1,q2,by rw [List.length_map]; lia⟩
theorem TI.rd_ (h:TI H w' zs hd rd rm k G):∃ (rs:List V),G rd = some (.lst rs)/\rs.length<=6:=by
 obtain ⟨d,sk,hs,rs,qs,Z,K0,_⟩:=h
 have ln:∀ {d:Nat} {sk:Sk d} {hs:List Addr} {rs qs:List Int},sk.at Z G hs rs qs->rs.length = hs.length:=by
  intro d sk
  induction sk with
  | bot ts=>rintro hs rs qs ⟨l,xs,rfl,rfl,_⟩; rfl
  | push b n ts ih =>
   rintro hs rs qs ⟨hs',rs',qs',l,xs,q,rfl,rfl,_,nl,q1,q2,hb,_⟩
   rw [List.length_append,List.length_append,ih hb]
   rfl
 obtain ⟨_,_,_,_,_,_,l1,_⟩:=K0.at_.pr
 exact ⟨_,K0.h1,by rw [List.length_map,ln K0.at_]; lia⟩
theorem TI.nes (h:TI H w' zs hd rd rm k G):hd ≠ rd/\hd ≠ rm/\rd ≠ rm:=by
 obtain ⟨d,sk,hs,rs,qs,Z,K0,_⟩:=h
 exact ⟨K0.e1,K0.e2,K0.e3⟩
theorem TI.mono (h:TI H w' zs hd rd rm k G):TI H w' zs hd rd rm (k + 1) G:=by
 obtain ⟨d,sk,hs,rs,qs,Z,K0,ok,W,M,r⟩:=h
 exact ⟨d,sk,hs,rs,qs,Z,K0,ok,by lia,by lia,r⟩
theorem TI.fin (h:TI H w' zs hd rd rm k G) {l:Addr} (g0:G hd = some (.lst [.ref l])):∃ (xs:List V) (ts:List (Tr 6)),G l = some (.lst xs)/\L2A (TpT (fz G l) 6) xs ts/\(∀ t ∈ ts,TOk w' zs 6 t)/\(evL 6 ts).length<=64 * k/\ts.length<=k/\H l = none/\Same H G:=by
 obtain ⟨d,sk,hs,rs,qs,Z,K0,ok,W,M,sG,a,b,c,e⟩:=h
 have e0:=K0.h0
 rw [g0] at e0
 have e0:[V.ref l] = hs.map V.ref:=by injection e0 with e0; injection e0
 obtain ⟨l',rfl⟩:∃ l',hs = [l']:=by
  match hs,e0 with
  | [x],_=>exact ⟨x,rfl⟩
 have el:l = l':=by injection e0 with e0; injection e0
 subst el
 have zl:=K0.zh l (List.mem_singleton.mpr rfl)
 have zz:Same Z (fz G l):=fun x o ex=>by
  rw [bx (aw ex zl)]; exact K0.zH _ _ ex
 cases sk with
 | bot ts =>
  obtain ⟨l2,xs,e5,_,_,hl,la⟩:=K0.at_
  cases e5
  exact ⟨xs,ts,hl,la.mono fun _ _ _ k=>k.same zz,ok,W,M,e l (List.mem_singleton.mpr rfl),sG⟩
 | push b n ts =>
  obtain ⟨hs',rs',qs',l2,xs,q,e5,_,_,_,_,_,hb,_⟩:=K0.at_
  cases hs' with
  | nil =>
   obtain ⟨hs0,l3,_,e6,_⟩:=hb.tp
   cases hs0 <;> cases e6
  | cons x y=>injection e5 with _ z; cases y <;> cases z
theorem qC {hs0:List Addr} {l l':Addr} {ys:List V} (h:(hs0 ++ [l]).map V.ref = ys ++ [V.ref l']):l = l'/\hs0.map V.ref = ys:=by
 rw [List.map_append] at h
 obtain ⟨e1,e2⟩:=List.append_inj' h rfl
 exact ⟨by injection e2 with e2; injection e2,e1⟩
theorem TI.row (h:TI H w' zs hd rd rm k G) {ys:List V} {l:Addr} {xs:List V} (g0:G hd = some (.lst (ys ++ [.ref l]))) (gl:G l = some (.lst xs)) {t:Addr} {r:Rw} (ht:G t = some (.tup (.str (wOf r.k) :: r.fs))) (rok:r.ok w') (rz:r.inZ zs):TI H w' zs hd rd rm (k + 1) (upd G l (.lst (xs ++ [.ref t]))):=by
 obtain ⟨d,sk,hs,rs,qs,Z,K0,ok,W,M,sG,a,b,c,e⟩:=h
 obtain ⟨hs0,l',xs',rfl,nl,hl,la⟩:=K0.at_.tp
 have e0:=K0.h0
 rw [g0] at e0
 have e0:ys ++ [V.ref l] = (hs0 ++ [l']).map V.ref:=by injection e0 with e0; injection e0
 obtain ⟨rfl,_⟩:=qC e0.symm
 obtain ⟨q,qs0,_,q1,qp,_⟩:=K0.at_.pr
 have pl:sk.prod<=64:=Nat.le_trans (Nat.le_mul_of_pos_right _ q1) qp
 have ll:H l' = none:=e l' (List.mem_append_right _ (List.mem_singleton.mpr rfl))
 have eW:(sk.add (TS.row r)).W = sk.W + sk.prod * 1:=Sk.W_add (d:=d + 1) sk (TS.row r)
 have eM:(sk.add (TS.row r)).M = sk.M + 1:=Sk.M_add (d:=d + 1) sk (TS.row r)
 exact ⟨d,sk.add (TS.row r),hs0 ++ [l'],rs,qs,_,K0.row nl gl ht,Sk.ok_add ok ⟨rok,rz⟩,Nat.le_trans (Nat.le_of_eq eW) (by lia),Nat.le_trans (Nat.le_of_eq eM) (by lia),Same.updL sG ll,a,b,c,e⟩
theorem TI.open (h:TI H w' zs hd rd rm k G) {l:Addr} {n q:Nat} (hl:G l = none) (hq:∃ qs0:List V,G rm = some (.lst (qs0 ++ [.int (q:Int)]))) (n1:1<=n) (nq:n<=q) (dd:∃ ys:List V,G hd = some (.lst ys)/\ys.length < 6)
  (go:∀ x o,x ≠ hd->x ≠ rd->x ≠ rm->G x = some o->G' x = some o) (g0:∀ ys,G hd = some (.lst ys)->G' hd = some (.lst (ys ++ [.ref l]))) (g1:∀ ys,G rd = some (.lst ys)->G' rd = some (.lst (ys ++ [.int (n:Int)]))) (g2:∀ ys,G rm = some (.lst ys)->G' rm = some (.lst (ys ++ [.int ((q / n:Nat):Int)]))) (gl:G' l = some (.lst [])) (fl:H l = none):TI H w' zs hd rd rm (k + 1) G':=by
 obtain ⟨d,sk,hs,rs,qs,Z,K0,ok,W,M,sG,a,b,c,e⟩:=h
 obtain ⟨q',qs0,eq,q1,qp,q64,ln,_⟩:=K0.at_.pr
 obtain ⟨qs1,hq⟩:=hq
 have e2:=K0.h2
 rw [hq,eq,List.map_append] at e2
 have e2:qs1 ++ [V.int (q:Int)] = qs0.map V.int ++ [V.int (q':Int)]:=by injection e2 with e2; injection e2
 have e3:=(List.append_inj' e2 rfl).2
 have e3:q = q':=by injection e3 with e3; injection e3 with e3; lia
 subst e3
 obtain ⟨ys,hys,yl⟩:=dd
 rw [K0.h0] at hys
 cases hys
 rw [List.length_map] at yl
 obtain ⟨d',rfl⟩:∃ d',d = d' + 1:=⟨d - 1,by lia⟩
 have qn:1<=q / n:=(Nat.le_div_iff_mul_le (by lia)).mpr (by lia)
 have pn:sk.prod * n * (q / n)<=64:=by
  rw [Nat.mul_assoc]
  exact Nat.le_trans (Nat.mul_le_mul_left _ (Nat.mul_div_le q n)) qp
 refine ⟨d',.push sk n [],hs ++ [l],_,_,Z,K0.open hl (g0 _ K0.h0) (g1 _ K0.h1) (g2 _ K0.h2) gl ⟨qn,Nat.le_trans (Nat.div_le_self _ _) q64⟩ pn go,⟨ok,n1,by lia,fun _ h=>nomatch h⟩,?_,by show sk.M + 0<=_; lia,fun x o e'=>go x o (fun z=>by rw [z,a] at e'; cases e') (fun z=>by rw [z,b] at e'; cases e') (fun z=>by rw [z,c] at e'; cases e') (sG _ _ e'),a,b,c,fun x hx=>?_⟩
 ·show sk.W + sk.prod * n * (1 + 0)<=_
  have:sk.prod * n<=64:=Nat.le_trans (Nat.le_mul_of_pos_right _ qn) pn
  lia
 ·rcases List.mem_append.mp hx with m | m
  ·exact e x m
  ·rw [List.mem_singleton.mp m]; exact fl
theorem TI.shut (h:TI H w' zs hd rd rm k G) (k1:k<=100) {ys:List V} {l:Addr} {xs:List V} (g0:G hd = some (.lst (ys ++ [.ref l]))) (gl:G l = some (.lst xs)) (y1:ys ≠ []) (x1:xs ≠ []) {Q:VK} {E:XK} (q:∀ G',TI H w' zs hd rd rm k G'->(∀ x o,H x = some o->G' x = some o)->(∃ ys',G' hd = some (.lst ys')/\ys'.length = ys.length)->Q .non G'):nN [.ref hd,.ref rd,.ref rm] G Q E:=by
 obtain ⟨d,sk,hs,rs,qs,Z,K0,ok,W,M,sG,a,b,c,e⟩:=h
 obtain ⟨hs0,l',xs',rfl,nl,hl,la⟩:=K0.at_.tp
 have e0:=K0.h0
 rw [g0] at e0
 have e0:ys ++ [V.ref l] = (hs0 ++ [l']).map V.ref:=by injection e0 with e0; injection e0
 obtain ⟨rfl,ey⟩:=qC e0.symm
 rw [gl] at hl
 cases hl
 cases sk with
 | bot ts =>
  obtain ⟨l2,xs2,e5,_⟩:=K0.at_
  have:hs0 = []:=by
   cases hs0 with
   | nil=>rfl
   | cons a t=>injection e5 with _ z; cases t <;> cases z
  rw [this] at ey
  exact absurd ey.symm y1
 | push b' n ts =>
  have M:b'.M + ts.length<=k:=M
  refine ⟨Z,hd,rd,rm,_,n,b',ts,_,rs,qs,rfl,K0,by lia,by lia,fun Z' hs' rs' qs' G' K1 zz kp sub=>?_⟩
  have tne:ts ≠ []:=fun z=>x1 (List.length_eq_zero_iff.mp (by rw [la.1,show Sk.top (.push b' n ts) = ts from rfl,z]; rfl))
  have t1:1<=ts.length:=List.length_pos_iff.mpr tne
  have keepH:∀ x o,H x = some o->G' x = some o:=fun x o e'=>kp x o (fun z=>by rw [z,a] at e'; cases e') (fun z=>by rw [z,b] at e'; cases e') (fun z=>by rw [z,c] at e'; cases e') (fun z=>by rw [e x z] at e'; cases e') (sG _ _ e')
  obtain ⟨_,_,_,_,_,_,l1,_⟩:=K0.at_.pr
  obtain ⟨_,_,_,_,_,_,l2,_⟩:=K1.at_.pr
  have eM:(b'.add (TS.turns n ts)).M = b'.M + 1:=Sk.M_add b' (TS.turns n ts)
  have eW:(b'.add (TS.turns n ts)).W = b'.W + b'.prod * (n * (1 + (evL _ ts).length)):=(Sk.W_add b' (TS.turns n ts)).trans (congrArg (fun z=>b'.W + b'.prod * z) (qz (evs _) n ts))
  refine q G' ⟨_,b'.add (TS.turns n ts),hs',rs',qs',Z',K1,Sk.ok_add ok.1 ⟨ok.2.1,ok.2.2.1,tne,by lia,ok.2.2.2⟩,?_,Nat.le_trans (Nat.le_of_eq eM) (by lia),keepH,a,b,c,fun x hx=>e x (sub x hx)⟩ keepH ⟨_,K1.h0,?_⟩
  ·have W:b'.W + b'.prod * n * (1 + (evL _ ts).length)<=64 * k:=W
   rw [<- Nat.mul_assoc] at eW
   exact Nat.le_trans (Nat.le_of_eq eW) W
  ·rw [List.length_map,<- ey,List.length_map,l2]
   rw [List.length_append,List.length_singleton] at l1
   have:=b'.le6
   lia
end
def t8 (K:Frag):Sp:=fun vs H Q _=>∃ (a ln:Addr) (ns:List Int) (w:Int) (zs:List Str),vs = [.ref a,.int w,.ref ln,.int 40]/\SqL K H a (ns.map V.int)/\4<=w/\w<=32/\Nms H ln zs/\∀ (l:Addr) (xs:List V) (ts:List (Tr 6)) H',H l = none->H' l = some (.lst xs)->L2A (TpT (fz H' l) 6) xs ts->(∀ t ∈ ts,TOk w zs 6 t)->(evL 6 ts).length<=10000->ts.length<=100->Same H H'->Q (.ref l) H'
theorem mU {f:Addr} {fd:FuncData} (F:Fun K "_law_tree" "_law_tree" gs f fd) (T:Txt K mg c) (H__law_begun:Has P w K mg base 1 "_law_begun" ["_law_cell_here"] spBox) (H__law_draw:Has P w K mg base 1 "_law_draw" ["_law_state", "_law_many"] cU) (H__law_shut:Has P w K mg base 1 "_law_shut" ["_law_heads", "_law_rounds", "_law_room"] nN) (H__law_cell:Has P w K mg base 1 "_law_cell" ["_law_script", "_law_k"] (qA K)) (H__law_row:Has P w K mg base 3 "_law_row" ["_law_state", "_law_width", "_law_names_here"] tV):FnOk P w K mg base CX0 4 f fd ["_law_script", "_law_width", "_law_names_here", "_law_most"] (t8 K):=by
 refine F.ok sc__law_tree (fun vs H Q E h=>?_) (fun cdv A outer s H vs Q E hr h=>?_)
 ·obtain ⟨a,ln,ns,w',zs,rfl,_⟩:=h
  rfl
 obtain ⟨a,ln,ns,w',zs,rfl,hS,w0,w1,nm,q⟩:=h
 refine ⟨_,(ai (aH (i:=4) sc__law_tree.nd rfl (Or.inl rfl) (bt (ae (bt ah) ah)))
  (ai (aH (i:=5) sc__law_tree.nd rfl (Or.inl rfl) (bt (ae ag ah)))
  (ai (aH (i:=6) sc__law_tree.nd rfl (Or.inl rfl) (bt (ae ag ah)))
  (ai (cI PassesOwn.never rfl (eN rfl T.n_range (ae (aD (sN rfl) rfl T.n_max boot_max (ae ag (ae (aD (tX rfl) rfl T.n_min boot_min (ae (pv 3) (ae (aD aW rfl T.n_len boot_len (ae (pv 0) ah)) ah))) ah))) ah)) (bF (i:=7) sc__law_tree.nd rfl (Or.inl rfl))
   (ai (aH (i:=8) sc__law_tree.nd rfl (Or.inl rfl) (aC H__law_begun (hr.mono (by lia)) rfl (ae (aC H__law_cell (hr.mono (by lia)) rfl (ae (pv 0) (ae (aE bY (pv 7) ag) ah))) ah)))
   (ai (aH (i:=9) sc__law_tree.nd rfl (Or.inl rfl) (aC H__law_draw (hr.mono (by lia)) rfl (ae (pv 8) (ae ag ah))))
   (aj (aQ (PW.pt (p9 (au kr (pv 9) ag (ay _)) (pB (au kr (aD aW rfl T.n_len boot_len (ae (pv 4) ah)) ag (ay _)))))
    (ai (aH (i:=10) sc__law_tree.nd rfl (Or.inl rfl) (aE bY ag (aC H__law_draw (hr.mono (by lia)) rfl (ae (pv 8) (ae (av aK (pv 6) (ny iR ag) (fun _ _=>rfl)) ah)))))
    (ai (aL (lY PySem.F.plainAttrs_list PySem.F.slot_list_append PySem.F.type_list_append bB (pv 4) (ae (bt ah) ah)))
    (ai (aL (lY PySem.F.plainAttrs_list PySem.F.slot_list_append PySem.F.type_list_append bB (pv 5) (ae (pv 10) ah)))
    (aj (aL (lY PySem.F.plainAttrs_list PySem.F.slot_list_append PySem.F.type_list_append bB (pv 6) (ae (aE fN (av aK (pv 6) (ny iR ag) (fun _ _=>rfl)) (pv 10)) ah)))))))
    (aj (aQ (PW.pt (p9 (au bc (pv 9) ag (ay _)) (p9 (au qZ (aD aW rfl T.n_len boot_len (ae (pv 4) ah)) ag (ay _)) (pB (au (op_ne0 (Nat.lt_of_succ_lt (aN hr))) (av aK (pv 4) (ny iR ag) (fun _ _=>rfl)) (bt ah) (ay _))))))
     (aj (aL (aC H__law_shut (hr.mono (by lia)) rfl (ae (pv 4) (ae (pv 5) (ae (pv 6) ah))))))
     (aj (aL (lY PySem.F.plainAttrs_list PySem.F.slot_list_append PySem.F.type_list_append bB (av aK (pv 4) (ny iR ag) (fun _ _=>rfl)) (ae (aC H__law_row (hr.mono (by lia)) rfl (ae (pv 8) (ae (pv 1) (ae (pv 2) ah)))) ah)))))))))))
  (ai (ps_while PassesOwn.never (au qZ (aD aW rfl T.n_len boot_len (ae (pv 4) ah)) ag (ay _))
   (ai (aQ (au (op_eq0 (Nat.lt_of_succ_lt (aN hr))) (av aK (pv 4) (ny iR ag) (fun _ _=>rfl)) (bt ah) (ay _))
    (aj (aL (lY PySem.F.plainAttrs_list PySem.F.slot_list_append PySem.F.type_list_append bB (av aK (pv 4) (ny iR ag) (fun _ _=>rfl)) (ae (bK (ae ar (ae (av aK (pv 2) ag (fun _ _=>rfl)) (ae (av aK (pv 2) ag (fun _ _=>rfl)) ah)))) ah))))
    aG)
   (aj (aL (aC H__law_shut (hr.mono (by lia)) rfl (ae (pv 4) (ae (pv 5) (ae (pv 6) ah))))))))
  (aj (ao (av aK (pv 4) ag (fun _ _=>rfl))))))))),?_⟩
 have L1000:(20000:Nat)<=sizeLine:=by decide
 have hl:(ns.map V.int).length = ns.length:=List.length_map _
 refine ⟨(by show 0<=sizeLine; decide),fun l0 hl0=>?_⟩
 obtain ⟨G0,w0',s0,f0⟩:=dL hl0 (.lst [])
 rw [w0']
 refine ⟨(by show 1<=sizeLine; decide),fun hd hhd=>?_⟩
 obtain ⟨G1,w1',s1,f1⟩:=dL hhd (.lst [.ref l0])
 rw [w1']
 refine ⟨(by show 1<=sizeLine; decide),fun rd hrd=>?_⟩
 obtain ⟨G2,w2',s2,f2⟩:=dL hrd (.lst [.int 1])
 rw [w2']
 refine ⟨(by show 1<=sizeLine; decide),fun rm hrm=>?_⟩
 obtain ⟨G3,w3',s3,f3⟩:=dL hrm (.lst [.int 64])
 rw [w3']
 have T0:TI H w' zs hd rd rm 0 G3:=by
  have a1:hd ≠ l0:=fun z=>by rw [z,f0] at hhd; cases hhd
  have a2:rd ≠ l0:=fun z=>by rw [z,s1 _ _ f0] at hrd; cases hrd
  have a3:rm ≠ l0:=fun z=>by rw [z,s2 _ _ (s1 _ _ f0)] at hrm; cases hrm
  have a4:hd ≠ rd:=fun z=>by rw [<- z,f1] at hrd; cases hrd
  have a5:hd ≠ rm:=fun z=>by rw [<- z,s2 _ _ f1] at hrm; cases hrm
  have a6:rd ≠ rm:=fun z=>by rw [<- z,f2] at hrm; cases hrm
  exact ⟨5,.bot [],[l0],[1],[64],fun _=>none,⟨(fun _ _ e=>nomatch e),rfl,rfl,rfl,fun _ _=>rfl,⟨l0,[],rfl,rfl,rfl,s3 _ _ (s2 _ _ (s1 _ _ f0)),L2A.nil⟩,s3 _ _ (s2 _ _ f1),s3 _ _ f2,f3,fun z=>a1 (List.mem_singleton.mp z),fun z=>a2 (List.mem_singleton.mp z),fun z=>a3 (List.mem_singleton.mp z),a4,a5,a6⟩,(fun _ h=>nomatch h),Nat.zero_le _,Nat.zero_le _,((s0.trans s1).trans s2).trans s3,Same.none s0 hhd,Same.none (s0.trans s1) hrd,Same.none ((s0.trans s1).trans s2) hrm,fun l hl=>by rw [List.mem_singleton.mp hl]; exact hl0⟩
 clear f0 f1 f2 f3 s0 s1 s2 s3 w0' w1' w2' w3' hl0 hhd hrd hrm
 have sq:∀ {G:Hp},Same H G->SqL K G a (ns.map V.int):=fun s=>s.seq hS
 refine ⟨_,rfl,_,rfl,a,_,rfl,.inl (sq (by obtain ⟨_,_,_,_,_,_,_,_,_,_,sG,_⟩:=T0; exact sG)),_,_,rfl,_,_,rfl,_,rfl,(by rw [hl]; split <;> (try split) <;> lia),(by rw [hl]; split <;> (try split) <;> lia),eT (fun i σ G=>∃ y7 y8 y9 y10:Option V,σ = [some (.ref a),some (.int w'),some (.ref ln),some (.int 40),some (.ref hd),some (.ref rd),some (.ref rm),y7,y8,y9,y10]/\TI H w' zs hd rd rm i G) ⟨_,_,_,_,rfl,T0⟩ ?_ ?_⟩
 ·clear T0
  rintro i σ G hi ⟨y7,y8,y9,y10,rfl,TG⟩
  have i40:i < 40:=by
   rw [hl] at hi
   split at hi <;> (try split at hi) <;> lia
  have sG:Same H G:=by obtain ⟨_,_,_,_,_,_,_,_,_,_,sG,_⟩:=TG; exact sG
  refine ⟨_,rfl,_,rfl,_,_,rfl,rfl,a,ns,_,rfl,sq sG,by lia,by lia,fun c0=>⟨c0,rfl,fun p H3 hp b3 s3=>?_⟩⟩
  refine ⟨_,rfl,p,_,rfl,b3,by decide,by decide,fun wy H4 wy0 wy1 b4 x4=>?_⟩
  have R4:∀ b o,b ≠ p->G b = some o->H4 b = some o:=fun b o n e=>x4 b o n (s3 _ _ e)
  have fp:H p = none:=Same.none sG hp
  have nm4:Nms H4 ln zs:=⟨R4 _ _ (aw nm.1 fp) (sG _ _ nm.1),nm.2⟩
  have nlp:ln ≠ p:=aw nm.1 fp
  obtain ⟨ys,l,xs,g0G,glG,xl,nlh,y5⟩:=TG.hd_
  have nhp:hd ≠ p:=aw g0G hp
  have nlp2:l ≠ p:=aw glG hp
  have g0:=R4 _ _ nhp g0G
  have gl:=R4 _ _ nlp2 glG
  have yl:(ys ++ [V.ref l]).length = ys.length + 1:=by rw [List.length_append]; rfl
  clear s3 x4 b3
  refine ⟨_,rfl,_,_,rfl,rfl,_,rfl,?_⟩
  by_cases c1:wy < 3
  ·refine bP c1 ?_
   refine ⟨_,rfl,hd,_,rfl,.inl (SqL.of g0),_,_,rfl,rfl,_,rfl,?_⟩
   by_cases c2:(((ys ++ [V.ref l]).length:Nat):Int) < 6
   ·refine bP c2 ?_
    obtain ⟨qs0,q',gmG,q1,q64,ql⟩:=TG.rm_
    obtain ⟨rs,grG,rl⟩:=TG.rd_
    obtain ⟨e1,e2,e3⟩:=TG.nes
    have nmp:rm ≠ p:=aw gmG hp
    have nrp:rd ≠ p:=aw grG hp
    refine ⟨_,rfl,_,rfl,_,rfl,rm,_,_,_,rfl,rfl,SqL.of (R4 _ _ nmp gmG),bI _ _,p,_,rfl,b4,by lia,by lia,fun m0 G5 m00 m01 b5 x5=>⟨_,_,rfl,rfl,?_⟩⟩
    have R5:∀ b o,b ≠ p->G b = some o->G5 b = some o:=fun b o n e=>x5 b o n (R4 b o n e)
    refine ⟨_,rfl,.inl ⟨rfl,_,SqL.of (R5 _ _ nhp g0G)⟩,(by show 0<=sizeLine; decide),fun l1 hl1=>?_⟩
    have n5:∀ {b:Addr} {o:HO},G5 b = some o->b ≠ l1:=fun e=>aw e hl1
    obtain ⟨H5,w5,s5,f5⟩:=dL hl1 (.lst [])
    rw [w5]
    have R6:∀ b o,b ≠ p->G b = some o->H5 b = some o:=fun b o n e=>s5 _ _ (R5 b o n e)
    have nl1:∀ b o,G b = some o->b ≠ l1:=fun b o e=>n5 (R5 b o (aw e hp) e)
    have np1:p ≠ l1:=by
     obtain ⟨_,_,_,hb⟩:=b5
     exact n5 hb
    have Gl1:G l1 = none:=by
     cases e:G l1 with
     | none=>rfl
     | some o=>exact absurd rfl (nl1 _ _ e)
    have n1h:l1 ≠ hd:=Ne.symm (nl1 _ _ g0G)
    have n1r:l1 ≠ rd:=Ne.symm (nl1 _ _ grG)
    have n1m:l1 ≠ rm:=Ne.symm (nl1 _ _ gmG)
    refine ⟨hd,_,_,rfl,rfl,R6 _ _ nhp g0G,by lia,?_⟩
    have g1:upd H5 hd (.lst ((ys ++ [.ref l]) ++ [.ref l1])) rd = some (.lst rs):=by rw [am (Ne.symm e1)]; exact R6 _ _ nrp grG
    refine ⟨_,rfl,.inl ⟨rfl,_,SqL.of g1⟩,_,rfl,rd,_,_,rfl,rfl,g1,by lia,?_⟩
    have g2:upd (upd H5 hd (.lst ((ys ++ [.ref l]) ++ [.ref l1]))) rd (.lst (rs ++ [.int (1 + m0)])) rm = some (.lst (qs0 ++ [.int (q':Int)])):=by rw [am (Ne.symm e3),am (Ne.symm e2)]; exact R6 _ _ nmp gmG
    have lq:(1 + m0).natAbs.log2 < 9000:=Nat.lt_of_le_of_lt (Nat.log2_le_self _) (by lia)
    refine ⟨_,rfl,.inl ⟨rfl,_,SqL.of g2⟩,_,rfl,_,rfl,rm,_,_,_,rfl,rfl,SqL.of g2,bI _ _,_,rfl,_,_,rfl,rfl,⟨by lia,lq⟩,rm,_,_,rfl,rfl,g2,(by rw [List.length_append,List.length_singleton]; lia),?_⟩
    obtain ⟨n',en⟩:∃ n:Nat,1 + m0 = (n:Int):=⟨(1 + m0).toNat,by lia⟩
    have ed:((q':Int) / (1 + m0)) = ((q' / n':Nat):Int):=by rw [en]; push_cast; rfl
    refine ⟨_,_,_,_,rfl,TG.open (l:=l1) (n:=n') (q:=q') Gl1 ⟨_,gmG⟩ (by lia) (by lia) ⟨_,g0G,by lia⟩ (fun x o a1 a2 a3 e=>?_) (fun zs' e=>?_) (fun zs' e=>?_) (fun zs' e=>?_) ?_ (Same.none sG Gl1)⟩
    ·rw [am a3,am a2,am a1]; exact R6 _ _ (aw e hp) e
    ·rw [g0G] at e; cases e
     rw [am e2,am e1,af]
    ·rw [grG] at e; cases e
     rw [am e3,af]
     show some (HO.lst (_ ++ [V.int (1 + m0)])) = _
     rw [en]
    ·rw [gmG] at e; cases e
     rw [af]
     show some (HO.lst (_ ++ [V.int ((q':Int) / (1 + m0))])) = _
     rw [ed]
    ·rw [am n1m,am n1r,am n1h]; exact f5
   ·refine aI c2 ?_
    refine ⟨_,rfl,rfl,_,rfl,?_⟩
    by_cases c3:V.int wy = V.int 3
    ·refine bP c3 ?_
     refine ⟨_,rfl,hd,_,rfl,.inl (SqL.of g0),_,_,rfl,rfl,_,rfl,?_⟩
     by_cases c4:(((ys ++ [V.ref l]).length:Nat):Int) > 1
     ·refine bP c4 ?_
      refine ⟨_,rfl,_,rfl,hd,_,_,_,rfl,rfl,SqL.of g0,bI _ _,(by show 0<=sizeLine; decide),fun e he=>?_⟩
      have se:=ap he (.lst [])
      refine ⟨l,e,xs,rfl,rfl,SqL.of (se _ _ gl),SqL.of af,_,rfl,?_⟩
      by_cases c5:xs = []
      ·rw [show (if true = true then !xs.isEmpty else xs.isEmpty) = false by rw [c5]; rfl]
       refine cE ?_
       refine ⟨_,rfl,_,rfl,hd,_,_,_,rfl,rfl,SqL.of (se _ _ g0),bI _ _,.inl ⟨rfl,_,SqL.of (se _ _ gl)⟩,_,rfl,_,rfl,_,rfl,p,ln,w',zs,rfl,(b4.same se),w0,w1,(⟨se _ _ nm4.1,nm4.2⟩:Nms _ ln zs),nlp,fun t r G5 ht rok rz b5 x5=>?_⟩
       exact ⟨l,_,_,rfl,rfl,x5 _ _ nlp2 (se _ _ gl),by lia,_,_,_,_,rfl,(TG.pass hp fun b o n e=>x5 b o n ((fun b o n e=>se _ _ (R4 b o n e)) b o n e)).row (x5 _ _ nhp (se _ _ g0)) (x5 _ _ nlp2 (se _ _ gl)) ht rok rz⟩
      ·rw [show (if true = true then !xs.isEmpty else xs.isEmpty) = true by cases xs with
        | nil=>exact absurd rfl c5
        | cons _ _=>rfl]
       exact eG ⟨_,rfl,_,rfl,_,rfl,nil_ <| TI.shut (TG.pass hp fun b o n e=>se _ _ (R4 b o n e)) (by lia) (se _ _ g0) (se _ _ gl) (fun z=>by rw [yl,z] at c4; exact absurd c4 (by decide)) c5 fun G5 T5 _ _=>⟨_,_,_,_,rfl,T5.mono⟩⟩
     ·refine aI c4 ?_
      refine ⟨_,rfl,_,rfl,hd,_,_,_,rfl,rfl,SqL.of g0,bI _ _,.inl ⟨rfl,_,SqL.of gl⟩,_,rfl,_,rfl,_,rfl,p,ln,w',zs,rfl,b4,w0,w1,nm4,nlp,fun t r G5 ht rok rz b5 x5=>?_⟩
      exact ⟨l,_,_,rfl,rfl,x5 _ _ nlp2 gl,by lia,_,_,_,_,rfl,(TG.pass hp fun b o n e=>x5 b o n (R4 b o n e)).row (x5 _ _ nhp g0) (x5 _ _ nlp2 gl) ht rok rz⟩
    ·refine aI c3 ?_
     refine ⟨_,rfl,_,rfl,hd,_,_,_,rfl,rfl,SqL.of g0,bI _ _,.inl ⟨rfl,_,SqL.of gl⟩,_,rfl,_,rfl,_,rfl,p,ln,w',zs,rfl,b4,w0,w1,nm4,nlp,fun t r G5 ht rok rz b5 x5=>?_⟩
     exact ⟨l,_,_,rfl,rfl,x5 _ _ nlp2 gl,by lia,_,_,_,_,rfl,(TG.pass hp fun b o n e=>x5 b o n (R4 b o n e)).row (x5 _ _ nhp g0) (x5 _ _ nlp2 gl) ht rok rz⟩
  ·refine aI c1 ?_
   refine ⟨_,rfl,rfl,_,rfl,?_⟩
   by_cases c3:V.int wy = V.int 3
   ·refine bP c3 ?_
    refine ⟨_,rfl,hd,_,rfl,.inl (SqL.of g0),_,_,rfl,rfl,_,rfl,?_⟩
    by_cases c4:(((ys ++ [V.ref l]).length:Nat):Int) > 1
    ·refine bP c4 ?_
     refine ⟨_,rfl,_,rfl,hd,_,_,_,rfl,rfl,SqL.of g0,bI _ _,(by show 0<=sizeLine; decide),fun e he=>?_⟩
     have se:=ap he (.lst [])
     refine ⟨l,e,xs,rfl,rfl,SqL.of (se _ _ gl),SqL.of af,_,rfl,?_⟩
     by_cases c5:xs = []
     ·rw [show (if true = true then !xs.isEmpty else xs.isEmpty) = false by rw [c5]; rfl]
      refine cE ?_
      refine ⟨_,rfl,_,rfl,hd,_,_,_,rfl,rfl,SqL.of (se _ _ g0),bI _ _,.inl ⟨rfl,_,SqL.of (se _ _ gl)⟩,_,rfl,_,rfl,_,rfl,p,ln,w',zs,rfl,(b4.same se),w0,w1,(⟨se _ _ nm4.1,nm4.2⟩:Nms _ ln zs),nlp,fun t r G5 ht rok rz b5 x5=>?_⟩
      exact ⟨l,_,_,rfl,rfl,x5 _ _ nlp2 (se _ _ gl),by lia,_,_,_,_,rfl,(TG.pass hp fun b o n e=>x5 b o n ((fun b o n e=>se _ _ (R4 b o n e)) b o n e)).row (x5 _ _ nhp (se _ _ g0)) (x5 _ _ nlp2 (se _ _ gl)) ht rok rz⟩
     ·rw [show (if true = true then !xs.isEmpty else xs.isEmpty) = true by cases xs with
       | nil=>exact absurd rfl c5
       | cons _ _=>rfl]
      exact eG ⟨_,rfl,_,rfl,_,rfl,nil_ <| TI.shut (TG.pass hp fun b o n e=>se _ _ (R4 b o n e)) (by lia) (se _ _ g0) (se _ _ gl) (fun z=>by rw [yl,z] at c4; exact absurd c4 (by decide)) c5 fun G5 T5 _ _=>⟨_,_,_,_,rfl,T5.mono⟩⟩
    ·refine aI c4 ?_
     refine ⟨_,rfl,_,rfl,hd,_,_,_,rfl,rfl,SqL.of g0,bI _ _,.inl ⟨rfl,_,SqL.of gl⟩,_,rfl,_,rfl,_,rfl,p,ln,w',zs,rfl,b4,w0,w1,nm4,nlp,fun t r G5 ht rok rz b5 x5=>?_⟩
     exact ⟨l,_,_,rfl,rfl,x5 _ _ nlp2 gl,by lia,_,_,_,_,rfl,(TG.pass hp fun b o n e=>x5 b o n (R4 b o n e)).row (x5 _ _ nhp g0) (x5 _ _ nlp2 gl) ht rok rz⟩
   ·refine aI c3 ?_
    refine ⟨_,rfl,_,rfl,hd,_,_,_,rfl,rfl,SqL.of g0,bI _ _,.inl ⟨rfl,_,SqL.of gl⟩,_,rfl,_,rfl,_,rfl,p,ln,w',zs,rfl,b4,w0,w1,nm4,nlp,fun t r G5 ht rok rz b5 x5=>?_⟩
    exact ⟨l,_,_,rfl,rfl,x5 _ _ nlp2 gl,by lia,_,_,_,_,rfl,(TG.pass hp fun b o n e=>x5 b o n (R4 b o n e)).row (x5 _ _ nhp g0) (x5 _ _ nlp2 gl) ht rok rz⟩
 ·clear T0
  rintro σ G ⟨y7,y8,y9,y10,rfl,TG⟩
  refine while_by (fun σ G=>∃ (k:Nat) (ys:List V),σ = [some (.ref a),some (.int w'),some (.ref ln),some (.int 40),some (.ref hd),some (.ref rd),some (.ref rm),y7,y8,y9,y10]/\TI H w' zs hd rd rm k G/\G hd = some (.lst ys)/\k + ys.length<=50) (fun _ G=>match G hd with | some (.lst xs)=>xs.length | _=>0) ?_ ?_ ?_
  ·obtain ⟨ys,l,xs,g0,gl,xl,nlh,y5⟩:=TG.hd_
   refine ⟨_,_,rfl,TG,g0,?_⟩
   rw [List.length_append,List.length_singleton,hl]
   split <;> (try split) <;> lia
  ·rintro σ G ⟨k,ys',rfl,TG,gh,kl⟩
   obtain ⟨ys,l,xs,g0,gl,xl,nlh,y5⟩:=TG.hd_
   rw [g0] at gh
   cases gh
   have yl:(ys ++ [V.ref l]).length = ys.length + 1:=by rw [List.length_append]; rfl
   have sG:Same H G:=by obtain ⟨_,_,_,_,_,_,_,_,_,_,sG,_⟩:=TG; exact sG
   refine ⟨_,rfl,hd,_,rfl,.inl (SqL.of g0),_,_,rfl,rfl,_,rfl,?_⟩
   by_cases c4:(((ys ++ [V.ref l]).length:Nat):Int) > 1
   ·refine bP c4 ?_
    have yne:ys ≠ []:=fun z=>by rw [yl,z] at c4; exact absurd c4 (by decide)
    refine ⟨_,rfl,_,rfl,hd,_,_,_,rfl,rfl,SqL.of g0,bI _ _,(by show 0<=sizeLine; decide),fun e he=>?_⟩
    have se:=ap he (.lst [])
    refine ⟨l,e,xs,rfl,rfl,SqL.of (se _ _ gl),SqL.of af,_,rfl,?_⟩
    have Te:=TG.same se
    have fin:∀ (k':Nat) (G1:Hp) (xs':List V) (Q1:VK) (E1:XK),TI H w' zs hd rd rm k' G1->k'<=k + 1->G1 hd = some (.lst (ys ++ [.ref l]))->G1 l = some (.lst xs')->xs' ≠ []->(∀ G2,(∃ (k:Nat) (ys':List V),TI H w' zs hd rd rm k G2/\G2 hd = some (.lst ys')/\k + ys'.length<=50/\ys'.length = ys.length)->Q1 .non G2)->nN [.ref hd,.ref rd,.ref rm] G1 Q1 E1:=fun k' G1 xs' Q1 E1 T1 hk h0 h1 hx hq=>TI.shut T1 (by lia) h0 h1 yne hx fun G2 T2 _ ⟨ys2,y2,l2⟩=>hq G2 ⟨k',ys2,T2,y2,by lia,l2⟩
    by_cases c5:xs = []
    ·rw [show (if false = true then !xs.isEmpty else xs.isEmpty) = true by rw [c5]; rfl]
     refine eG ?_
     obtain ⟨z0,z1,zr,ez⟩:∃ z0 z1 zr,zs = z0 :: z1 :: zr:=by
      match zs,nm.2.1 with
      | a :: b :: c,_=>exact ⟨a,b,c,rfl⟩
     have hln:=se _ _ (sG _ _ nm.1)
     rw [ez] at hln
     refine ⟨_,rfl,_,rfl,hd,_,_,_,rfl,rfl,SqL.of (se _ _ g0),bI _ _,.inl ⟨rfl,_,SqL.of (se _ _ gl)⟩,?_⟩
     refine ⟨_,rfl,ln,_,_,_,rfl,rfl,SqL.of hln,at0 _ _,_,rfl,ln,_,_,_,rfl,rfl,SqL.of hln,(show atI _ ((1:Nat):Int) = some (V.str z1) from fF rfl),(by show 3<=sizeLine; decide),fun t ht=>?_⟩
     have st:=ap ht (.tup [.str "copy",.str z0,.str z1])
     have Tt:=Te.same st
     have rz0:Rg z0:=nm.2.2.2 z0 (by rw [ez]; exact List.mem_cons_self ..)
     have rz1:Rg z1:=nm.2.2.2 z1 (by rw [ez]; exact List.mem_cons_of_mem _ (List.mem_cons_self ..))
     have T2:=Tt.row (st _ _ (se _ _ g0)) (st _ _ (se _ _ gl)) (t:=t) (r:=.copy z0 z1) af ⟨rz0,rz1⟩ (show z0 ∈ zs by rw [ez]; exact List.mem_cons_self ..)
     refine ⟨l,_,_,rfl,rfl,st _ _ (se _ _ gl),by lia,?_⟩
     refine ⟨_,rfl,_,rfl,_,rfl,nil_ <| fin (k + 1) _ _ _ _ T2 (Nat.le_refl _) (by rw [am (Ne.symm nlh)]; exact st _ _ (se _ _ g0)) af (by simp) fun G2 ⟨k2,ys2,T3,h3,l3,l4⟩=>⟨⟨k2,ys2,rfl,T3,h3,l3⟩,?_⟩⟩
     rw [h3,g0]
     show ys2.length < (ys ++ [V.ref l]).length
     rw [l4,yl]
     exact Nat.lt_succ_self _
    ·rw [show (if false = true then !xs.isEmpty else xs.isEmpty) = false by cases xs with
      | nil=>exact absurd rfl c5
      | cons _ _=>rfl]
     refine cE ?_
     refine ⟨_,rfl,_,rfl,_,rfl,nil_ <| fin k _ xs _ _ Te (Nat.le_succ _) (se _ _ g0) (se _ _ gl) c5 fun G2 ⟨k2,ys2,T3,h3,l3,l4⟩=>⟨⟨k2,ys2,rfl,T3,h3,l3⟩,?_⟩⟩
     rw [h3,g0]
     show ys2.length < (ys ++ [V.ref l]).length
     rw [l4,yl]
     exact Nat.lt_succ_self _
   ·refine aI c4 ?_
    have y0:ys = []:=List.length_eq_zero_iff.mp (by lia)
    subst y0
    obtain ⟨xs2,ts,h1,h2,h3,h4,h5,h6,h7⟩:=TG.fin g0
    exact ⟨_,rfl,hd,_,_,_,rfl,rfl,SqL.of g0,rfl,q l xs2 ts G h6 h1 h2 h3 (by lia) (by lia) h7⟩
  ·rintro σ G Q1 Q2 m ⟨v,hv,p',ys',e1,hq,i,j,e2,e3,b,hb,q⟩
   exact ⟨v,hv,p',ys',e1,hq,i,j,e2,e3,b,hb,m _ _ q⟩
def sM:Sp:=fun vs H Q _=>∃ (p l:Addr) (w:Int) (zs:List Str),vs = [.ref p,.int w,.ref l]/\Box H p/\4<=w/\w<=32/\Nms H l zs/\l ≠ p/\∀ (d:Addr) (kvs:List (Key × V)) H',H d = none->H' d = some (.dK kvs)->Wz w zs kvs->Box H' p->SameX p H H'->Q (.ref d) H'
theorem mO {f:Addr} {fd:FuncData} (F:Fun K "_law_held" "_law_held" gQ f fd) (T:Txt K mg c) (H__law_draw:Has P w K mg base 1 "_law_draw" ["_law_state", "_law_many"] cU) (H__law_word:Has P w K mg base 2 "_law_word" ["_law_state", "_law_width"] spWrd):FnOk P w K mg base CX0 3 f fd ["_law_state", "_law_width", "_law_names_here"] sM:=by
 refine F.ok sc__law_held (fun vs H Q E h=>?_) (fun cdv A outer s H vs Q E hr h=>?_)
 ·obtain ⟨p,l,w',zs,rfl,_⟩:=h
  rfl
 obtain ⟨p,l,w',zs,rfl,b,w0,w1,⟨hl,n2,n5,ok⟩,np,q⟩:=h
 refine ⟨_,(ai (aH (i:=3) sc__law_held.nd rfl (Or.inl rfl) fP)
  (ai (cI PassesOwn.never rfl (bn (pv 2)) (bF (i:=4) sc__law_held.nd rfl (Or.inl rfl))
   (aj (aQ (au qZ (aC H__law_draw (hr.mono (by lia)) rfl (ae (pv 0) (ae ag ah))) ag (ay _))
    (aj (be (aN hr) (pv 3) (pv 4) (aC H__law_word (hr.mono (by lia)) rfl (ae (pv 0) (ae (pv 1) ah))) rfl))
    aG)))
  (aj (ao (pv 3))))),?_⟩
 have L1000:(1000:Nat)<=sizeLine:=by decide
 intro d hd
 have s1:=ap hd (.dK [])
 have ndp:d ≠ p:=b.ne hd
 have ndl:d ≠ l:=fun z=>by rw [z,hl] at hd; cases hd
 have inv:∀ {G:Hp},SameX p H G->SameX p H (upd G d (.dK [])):=fun x b' o n e=>by rw [am (aw e hd)]; exact x _ _ n e
 refine ⟨_,rfl,l,rfl,⟨_,SqL.of (s1 _ _ hl)⟩,bT (xs:=zs.map V.str) (fun j σ G=>∃ (y:Option V) (kvs:List (Key × V)),σ = [some (.ref p),some (.int w'),some (.ref l),some (.ref d),y]/\G d = some (.dK kvs)/\Wz w' zs kvs/\kvs.length<=j/\Box G p/\SameX p H G) ⟨_,[],rfl,af,Wz.nil,Nat.le_refl _,b.same s1,SameX.of s1⟩ ?_ ?_ ?_⟩
 ·rintro j σ G hj ⟨y,kvs,rfl,hk,it,ln,bG,xG⟩
  exact SqL.of (xG _ _ np hl)
 ·rintro j v σ G hv ⟨y,kvs,rfl,hk,it,ln,bG,xG⟩
  have jl:=(List.getElem?_eq_some_iff.mp hv).1
  rw [List.length_map] at jl
  rw [List.getElem?_map] at hv
  cases ez:zs[j]? with
  | none=>rw [ez] at hv; cases hv
  | some z =>
   rw [ez] at hv
   cases hv
   have rz:Rg z:=ok z (List.mem_of_getElem? ez)
   refine ⟨_,rfl,p,_,rfl,bG,by decide,by decide,fun e G1 e0 e1 b1 x1=>⟨_,_,rfl,rfl,_,rfl,?_⟩⟩
   walk_at "c" <;> intro c1
   rotate_left
   ·exact ⟨_,kvs,rfl,x1 _ _ ndp hk,it,by lia,b1,xG.trans x1⟩
   refine ⟨_,rfl,_,rfl,p,w',rfl,b1,w0,w1,fun i G2 i0 i1 b2 x2=>?_⟩
   have hk2:=x2 _ _ ndp (x1 _ _ ndp hk)
   refine ⟨_,rfl,_,rfl,d,_,rfl,DPut.k (k:=.inr z) hk2 (by lia),?_⟩
   have lp:=bA kvs (.inr z) (.int i)
   refine ⟨_,cp kvs (.inr z) (.int i),rfl,af,it.put (List.mem_of_getElem? ez) i0 i1,by lia,?_,?_⟩
   ·obtain ⟨a1,a2,a3,e'⟩:=b2
    exact ⟨a1,a2,a3,by rw [am (Ne.symm ndp)]; exact e'⟩
   ·intro b' o n e'
    rw [am (aw e' hd)]
    exact x2 _ _ n (x1 _ _ n (xG _ _ n e'))
 ·rintro σ G ⟨y,kvs,rfl,hk,it,ln,bG,xG⟩
  rw [List.length_map] at ln
  exact ⟨_,rfl,q d kvs G hd hk it bG xG⟩
def jr (c:Ad):Sp:=fun vs H Q _=>∃ (l cn:Addr) (w:Int) (zs:List Str) (xs:List V) (ts:List (Tr 6)) (ck:List (Key × V)),vs = [.int w,.ref l,.ref cn]/\H l = some (.lst xs)/\L2A (StT c H 6) xs ts/\(∀ t ∈ ts,TOk w zs 6 t)/\(evL 6 ts).length<=10000/\4<=w/\w<=32/\H cn = some (.dK ck)/\CK ck (evL 6 ts)/\∀ H',Same H H'->Q (.bl true) H'
theorem IntD.ints {ck:List (Key × V)} (h:IntD ck):ck.map (·.2) = (ck.map fun kv=>vI kv.2).map V.int:=by
 rw [List.map_map]
 refine List.map_congr_left fun kv hk=>?_
 obtain ⟨i,e⟩:=h kv hk
 show kv.2 = V.int (vI kv.2)
 rw [e]
 rfl
theorem jg {f:Addr} {fd:FuncData} (F:Fun K "_law_counted" "_law_counted" dv f fd) (T:Txt K mg c) (H_check_steps:Has P w K mg base 14 "check_steps" ["width", "steps"] (kS c)) (H__law_whole:Has P w K mg base 1 "_law_whole" ["_law_found"] fZ):FnOk P w K mg base CX0 15 f fd ["_law_width", "_law_steps", "_law_counts"] (jr c):=by
 refine F.ok sc__law_counted (fun vs H Q E h=>?_) (fun cdv A outer s H vs Q E hr h=>?_)
 ·obtain ⟨l,cn,w',zs,xs,ts,ck,rfl,_⟩:=h
  rfl
 obtain ⟨l,cn,w',zs,xs,ts,ck,rfl,hl,la,tok,ln,w0,w1,hc,ct,q⟩:=h
 refine ⟨_,(ai (aH (i:=3) sc__law_counted.nd rfl (Or.inl rfl) (aC H_check_steps (hr.mono (by lia)) rfl (ae (pv 0) (ae (pv 1) ah))))
  (aj (ao (df (aC H__law_whole (hr.mono (by lia)) rfl (ae (pv 3) ah)) (dN (cy bc (pv 3) (aD (ia rfl) rfl T.n_sum boot_sum (ae (eF PySem.F.plainAttrs_dict PySem.F.slot_dict_values PySem.F.type_dict_values dM (pv 2)) ah)) (ay _))))))),?_⟩
 refine ⟨_,rfl,_,rfl,l,w',zs,xs,ts,rfl,hl,la,tok,ln,w0,w1,fun H1 s1=>?_⟩
 refine ⟨_,rfl,_,rfl,_,rfl,eG ?_⟩
 have hc1:=s1 _ _ hc
 refine ⟨_,rfl,_,rfl,.inr (.inr (.inl ⟨rfl,.inl ⟨_,hc1⟩⟩)),cn,_,rfl,rfl,hc1,fun rv hrv=>?_⟩
 have s2:=ap hrv (vwV rv cn)
 refine ⟨rv,cn,_,_,rfl,af,s2 _ _ hc1,ct.it.ints,rfl,?_⟩
 rw [ct.sm,decide_eq_true rfl]
 exact q _ (s1.trans s2)
theorem rT {cf:Nat->Int} {k:Nat} (hk:k < 16) (r:List (Key × V)):∀ (l:List Nat),(∀ i ∈ l,i < 16)->k ∈ l->cX ((l.map fun i=>((Sum.inr (wOf i),V.int (cf i)):Key × V)) ++ r) (.inr (wOf k)) = some (.int (cf k)):=fun l=>by
 induction l with
 | nil=>intro _ m; cases m
 | cons a t ih =>
  intro hl m
  by_cases c:a = k
  ·subst c
   exact bq rfl
  ·rw [List.map_cons,List.cons_append,bi (fun z=>c (rG (hl a (List.mem_cons_self ..)) hk (by injection z with z; rw [z])))]
   exact ih (fun i hi=>hl i (List.mem_cons_of_mem _ hi)) ((List.mem_cons.mp m).resolve_left (fun z=>c z.symm))
theorem val_none {cf:Nat->Int} {k:Nat} (hk:k < 16):∀ (l:List Nat),(∀ i ∈ l,i < 16)->k ∉ l->cX (l.map fun i=>((Sum.inr (wOf i),V.int (cf i)):Key × V)) (.inr (wOf k)) = none:=fun l=>by
 induction l with
 | nil=>intro _ _; rfl
 | cons a t ih =>
  intro hl m
  rw [List.mem_cons,not_or] at m
  rw [List.map_cons,bi (fun z=>m.1 (rG (hl a (List.mem_cons_self ..)) hk (by injection z with z; rw [z])).symm)]
  exact ih (fun i hi=>hl i (List.mem_cons_of_mem _ hi)) m.2
def bk (j:Nat):List Nat:=(List.range j).map fun i=>15 - i
def pk (pf:Nat->Int) (j:Nat):List (Key × V):=(bk j).map fun i=>(Sum.inr (wOf i),V.int (pf i))
theorem bk_succ (j:Nat):bk (j + 1) = bk j ++ [15 - j]:=by unfold bk; rw [List.range_succ,List.map_append]; rfl
theorem bk_lt (j:Nat):∀ i ∈ bk j,i < 16:=fun i hi=>by
 obtain ⟨a,_,rfl⟩:=List.mem_map.mp hi
 lia
theorem bk_not {j:Nat} (h:j < 16):15 - j ∉ bk j:=fun hi=>by
 obtain ⟨a,ha,e⟩:=List.mem_map.mp hi
 have:=List.mem_range.mp ha
 lia
theorem pk_put {pf:Nat->Int} {j:Nat} {v:Int} (h:j < 16):cp (pk pf j) (.inr (wOf (15 - j))) (.int v) = pk (fun i=>if i = 15 - j then v else pf i) (j + 1):=by
 unfold pk
 rw [fR _ (val_none (by lia) _ (bk_lt j) (bk_not h))]
 rw [bk_succ,List.map_append]
 congr 1
 ·refine List.map_congr_left fun i hi=>?_
  have n:¬ i = 15 - j:=fun z=>bk_not h (by rw [<- z]; exact hi)
  show _ = ((Sum.inr (wOf i):Key),V.int (if i = 15 - j then v else pf i))
  rw [if_neg n]
 ·show [((Sum.inr (wOf (15 - j)):Key),V.int v)] = [((Sum.inr (wOf (15 - j)):Key),V.int (if 15 - j = 15 - j then v else pf (15 - j)))]
  rw [if_pos rfl]
theorem mt {G:Hp} {as:List Addr} {kvs:List (Key × V)} (la:as.length = kvs.length) (hp:∀ (j:Nat) b kv,as[j]? = some b->kvs[j]? = some kv->G b = some (.tup [kV kv.1,kv.2])):PrsAt G (as.map V.ref) (kvs.map fun kv=>(kV kv.1,kv.2)):=by
 refine ⟨by rw [List.length_map,List.length_map,la],fun j x p e1 e2=>?_⟩
 rw [List.getElem?_map] at e1 e2
 cases ea:as[j]? with
 | none=>rw [ea] at e1; cases e1
 | some a =>
  cases ek:kvs[j]? with
  | none=>rw [ek] at e2; cases e2
  | some kv =>
   rw [ea] at e1
   rw [ek] at e2
   cases e1
   cases e2
   exact ⟨a,rfl,hp j a kv ea ek⟩
theorem kV_flat (k:Key):cq (kV k) = true:=by cases k <;> rfl
theorem sT (pf:Nat->Int) (j:Nat):(pk pf j).length = j:=by unfold pk bk; rw [List.length_map,List.length_map,List.length_range]
theorem rw_rev {j:Nat} {v:V} (h:((rw16.map V.str).reverse)[j]? = some v):v = .str (wOf (15 - j))/\j < 16:=by
 have hj:j < 16:=(List.getElem?_eq_some_iff.mp h).1
 have a:∀ i ∈ List.range 16,rw16.reverse[i]? = some (wOf (15 - i)):=by decide +kernel
 rw [<- List.map_reverse,List.getElem?_map,a j (List.mem_range.mpr hj)] at h
 cases h
 exact ⟨rfl,hj⟩
theorem end_none {pf:Nat->Int} (j:Nat):cX (pk pf j) (.inr "end") = none:=by
 unfold pk
 have a:∀ i ∈ List.range 16,¬ wOf i = "end":=by decide +kernel
 have e:∀ (l:List Nat),(∀ i ∈ l,i < 16)->cX (l.map fun i=>((Sum.inr (wOf i),V.int (pf i)):Key × V)) (.inr "end") = none:=fun l=>by
  induction l with
  | nil=>intro _; rfl
  | cons b t ih =>
   intro hl
   rw [List.map_cons,bi (fun z=>a b (List.mem_range.mpr (hl b (List.mem_cons_self ..))) (by injection z))]
   exact ih fun i hi=>hl i (List.mem_cons_of_mem _ hi)
 exact e _ (bk_lt j)
theorem eqPrs {K:Frag} {H:Hp} {d:Nat} {p q:Addr} {xs ys:List V} {ps:List (V × V)} {Q:V->Hp->Prop} (hp:H p = some (.lst xs)) (hq:H q = some (.lst ys)) (a:PrsAt H xs ps) (b:PrsAt H ys ps) (ff:∀ x ∈ ps,cq x.1 = true/\cq x.2 = true) (k:Q (.bl true) H):rEqLD K (d + 1) false (.ref p) (.ref q) H Q:=by
 refine ⟨p,q,xs,ys,fun _=>true,rfl,rfl,SqL.of hp,SqL.of hq,by rw [a.1,b.1],fun j hj=>?_,?_⟩
 ·have hr:j < ps.length:=by rw [<- a.1]; exact hj
  have hy:j < ys.length:=by rw [b.1]; exact hr
  obtain ⟨a1,e1,h1⟩:=a.2 j _ _ (List.getElem?_eq_getElem hj) (List.getElem?_eq_getElem hr)
  obtain ⟨a2,e2,h2⟩:=b.2 j _ _ (List.getElem?_eq_getElem hy) (List.getElem?_eq_getElem hr)
  rw [List.getD_eq_getElem?_getD,List.getD_eq_getElem?_getD,List.getElem?_eq_getElem hj,List.getElem?_eq_getElem hy,e1,e2]
  have f:=ff _ (List.getElem_mem hr)
  exact eqRow h1 h2 (rE ⟨.inl f.1,.inl f.2,trivial⟩)
 ·rw [aT]
  exact k
def pd (c:Ad):Sp:=fun vs H Q _=>∃ (l p cn:Addr) (w:Int) (zs:List Str) (xs:List V) (ts:List (Tr 6)) (ck:List (Key × V)),vs = [.int w,.ref l,.ref p,.ref cn]/\Box H p/\(∃ Hs,Same Hs H/\Hs p = none/\Hs l = some (.lst xs)/\L2A (StT c Hs 6) xs ts/\Hs cn = some (.dK ck))/\(∀ t ∈ ts,TOk w zs 6 t)/\(evL 6 ts).length<=10000/\4<=w/\w<=32/\CK ck (evL 6 ts)/\∀ H',Box H' p->SameX p H H'->Q (.bl true) H'
theorem lu {f:Addr} {fd:FuncData} (F:Fun K "_law_costs" "_law_costs" fG f fd) (T:Txt K mg c) (H_cost_of:HasY P w K mg base 14 "cost_of" ["width", "steps", "prices"] (qj c)) (H__law_words:Has P w K mg base 2 "_law_words" [] g9) (H__law_whole:Has P w K mg base 1 "_law_whole" ["_law_found"] fZ) (H__law_draw:Has P w K mg base 1 "_law_draw" ["_law_state", "_law_many"] cU):FnOk P w K mg base CX0 15 f fd ["_law_width", "_law_steps", "_law_state", "_law_counts"] (pd c):=by
 refine F.ok sc__law_costs (fun vs H Q E h=>?_) (fun cdv A outer s H vs Q E hr h=>?_)
 ·obtain ⟨l,p,cn,w',zs,xs,ts,ck,rfl,_⟩:=h
  rfl
 obtain ⟨l,p,cn,w',zs,xs,ts,ck,rfl,bp,⟨Hs,sH,np,hl,la,hc⟩,tok,ln,w0,w1,ct,q⟩:=h
 refine ⟨_,(ai (aH (i:=4) sc__law_costs.nd rfl (Or.inl rfl) fP)
  (ai (cI PassesOwn.never rfl (bn (pe_rev (iO H__law_words (hr.mono (by lia)) rfl))) (bF (i:=5) sc__law_costs.nd rfl (Or.inl rfl))
   (aj (be (aN hr) (pv 4) (pv 5) (av aK (bt (ae (aC H__law_draw (hr.mono (by lia)) rfl (ae (pv 2) (ae ag ah))) (ae (aC H__law_draw (hr.mono (by lia)) rfl (ae (pv 2) (ae ag ah))) (ae ag ah)))) (aC H__law_draw (hr.mono (by lia)) rfl (ae (pv 2) (ae ag ah))) (fun _ _=>rfl)) rfl)))
  (ai (be (aN hr) (pv 4) ar ar rfl)
  (ai (aH (i:=6) sc__law_costs.nd rfl (Or.inr rfl) (bh hI rfl T.n_dict boot_dict (ae (pv 4) ah)))
  (ai (aH (i:=7) sc__law_costs.nd rfl (Or.inl rfl) (pe_fnYN H_cost_of (hr.mono (by lia)) rfl (ae (pv 0) (ae (pv 1) (ae (pv 4) ah)))))
  (ai (aH (i:=8) sc__law_costs.nd rfl (Or.inl rfl) (aD (qt rfl) rfl T.n_sum boot_sum (ae (kY [6,3] ["_law_kept", "_law_counts"] rfl (by first | rfl | with_unfolding_all rfl) (by rfl) (by exact (List.forall_mem_cons.mpr ⟨rfl,(List.forall_mem_cons.mpr ⟨rfl,(fun _ h=>nomatch h)⟩)⟩)) (by decide +kernel) rfl (by decide +kernel) rfl (by decide +kernel) (by exact (List.forall_mem_cons.mpr ⟨⟨by first | exact Or.inl rfl | exact Or.inr rfl,rfl⟩,(List.forall_mem_cons.mpr ⟨⟨by first | exact Or.inl rfl | exact Or.inr rfl,rfl⟩,(fun _ h=>nomatch h)⟩)⟩)) rfl (by rfl) (bn (iO H__law_words (hr.mono (by lia)) rfl)) (fun C s2 H2 fp=>(aE cG (jT (aN hr) (pv 1) (pv 0) (fun _ _=>rfl)) (aO (aN hr) (pv 2) (pv 0) ag ⟨rfl,rfl,rfl,rfl⟩)))) ah)))
  (aj (ao (df (aC H__law_whole (hr.mono (by lia)) rfl (ae (pv 7) ah)) (df (cy bc (pv 7) (pv 8) (ay _)) (dN (cy (op_eqLD (d:=1) (hu2 hr)) (bh (iJ rfl) rfl T.n_list boot_list (ae (eF PySem.F.plainAttrs_dict PySem.F.slot_dict_items PySem.F.type_dict_items kR (pv 4)) ah)) (bh (iJ rfl) rfl T.n_list boot_list (ae (eF PySem.F.plainAttrs_dict PySem.F.slot_dict_items PySem.F.type_dict_items kR (pv 6)) ah)) (ay _))))))))))))),?_⟩
 have L1000:(1000:Nat)<=sizeLine:=by decide
 refine fun d hd=>?_
 obtain ⟨G0,e0,s0,f0⟩:=dL hd (.dK [])
 rw [e0]
 refine ⟨rfl,fun lw G1 hlw h1 s1=>?_⟩
 refine ⟨lw,_,rfl,SqL.of h1,fun lr hlr=>?_⟩
 obtain ⟨G2,e2,s2,f2⟩:=dL hlr (.lst (rw16.map V.str).reverse)
 rw [e2]
 have S2:=(s0.trans s1).trans s2
 have nlr:lr ≠ p:=(bp.same (s0.trans s1)).ne hlr
 have ndp:d ≠ p:=bp.ne hd
 have ndr:lr ≠ d:=fun z=>by rw [z,s1 _ _ f0] at hlr; cases hlr
 refine ⟨lr,rfl,⟨_,SqL.of f2⟩,bT (xs:=(rw16.map V.str).reverse) (fun j σ G=>∃ (y:Option V) (pf:Nat->Int),σ = [some (.int w'),some (.ref l),some (.ref p),some (.ref cn),some (.ref d),y,none,none,none]/\G d = some (.dK (pk pf j))/\(∀ i,0<=pf i/\pf i<=1000)/\G lr = some (.lst (rw16.map V.str).reverse)/\Box G p/\SameX p H G) ⟨_,fun _=>0,rfl,s2 _ _ (s1 _ _ f0),(fun _=>⟨Int.le_refl _,by show (0:Int)<=1000; decide⟩),f2,bp.same S2,SameX.of S2⟩ ?_ ?_ ?_⟩
 ·rintro j σ G hj ⟨y,pf,rfl,gd,gp,gr,bG,xG⟩
  exact SqL.of gr
 ·rintro j v σ G hv ⟨y,pf,rfl,gd,gp,gr,bG,xG⟩
  obtain ⟨rfl,j16⟩:=rw_rev hv
  refine ⟨_,rfl,p,_,rfl,bG,by decide,by decide,fun v1 G1 v10 v11 b1 x1=>?_⟩
  refine ⟨_,rfl,p,_,rfl,b1,by decide,by decide,fun v2 G2 v20 v21 b2 x2=>⟨(by show 3<=sizeLine; decide),fun lo hlo=>?_⟩⟩
  obtain ⟨G3,e3,s3,f3⟩:=dL hlo (.lst [.int v1,.int v2,.int 1000])
  rw [e3]
  refine ⟨_,rfl,p,_,rfl,b2.same s3,by decide,by decide,fun k G4 k0 k1 b4 x4=>?_⟩
  obtain ⟨v,⟨i,rfl,i0,i1⟩,ev⟩:=i3 (xs:=[.int v1,.int v2,.int 1000]) (Pr:=fun v=>∃ i:Int,v = .int i/\0<=i/\i<=1000) k0 k1 (rE ⟨⟨_,rfl,v10,by lia⟩,⟨_,rfl,v20,by lia⟩,⟨_,rfl,by decide,by decide⟩,trivial⟩)
  have X4:SameX p G G4:=(x1.trans x2).trans ((SameX.of s3).trans x4)
  refine ⟨lo,_,_,_,rfl,rfl,SqL.of (x4 _ _ (b2.ne hlo) f3),ev,_,rfl,_,rfl,d,_,rfl,DPut.k (k:=.inr (wOf (15 - j))) (X4 _ _ ndp gd) (by rw [sT]; lia),?_⟩
  rw [pk_put j16]
  refine ⟨_,fun i'=>if i' = 15 - j then i else pf i',rfl,af,fun i'=>?_,by rw [am ndr]; exact X4 _ _ nlr gr,?_,fun b o n e=>?_⟩
  ·show 0<=(if i' = 15 - j then i else pf i')/\(if i' = 15 - j then i else pf i')<=1000
   split
   ·exact ⟨i0,i1⟩
   ·exact gp i'
  ·obtain ⟨a1,a2,a3,e'⟩:=b4
   exact ⟨a1,a2,a3,by rw [am (Ne.symm ndp)]; exact e'⟩
  ·rw [am (aw e hd)]
   exact X4 _ _ n (xG _ _ n e)
 ·rintro σ G ⟨y,pf,rfl,gd,gp,gr,bG,xG⟩
  rw [show (rw16.map V.str).reverse.length = 16 from rfl] at gd
  refine ⟨_,rfl,d,_,rfl,DPut.k (k:=.inr "end") gd (by rw [sT]; decide),?_⟩
  rw [fR _ (end_none 16)]
  have KV:∃ kvs,pk pf 16 ++ [((Sum.inr "end":Key),V.str "x")] = kvs/\(∀ i,i < 16->cX kvs (.inr (wOf i)) = some (.int (pf i)))/\kvs.length = 17/\∀ kv ∈ kvs,cq kv.2 = true:=⟨_,rfl,fun i hi=>rT hi _ _ (bk_lt 16) (by
   have:∀ i ∈ List.range 16,i ∈ bk 16:=by decide +kernel
   exact this i (List.mem_range.mpr hi)),by rw [List.length_append,sT]; rfl,fun kv hk=>by
   rcases List.mem_append.mp hk with m | m
   ·obtain ⟨i,_,rfl⟩:=List.mem_map.mp m
    rfl
   ·rw [List.mem_singleton.mp m]; rfl⟩
  obtain ⟨kvs,ek,kval,klen,kfl⟩:=KV
  rw [ek]
  have xd:SameX p H (upd G d (.dK kvs)):=fun b o n e=>by rw [am (aw e hd)]; exact xG _ _ n e
  have bd:Box (upd G d (.dK kvs)) p:=by
   obtain ⟨a1,a2,a3,e'⟩:=bG
   exact ⟨a1,a2,a3,by rw [am (Ne.symm ndp)]; exact e'⟩
  have fd:upd G d (.dK kvs) d = some (.dK kvs):=af
  generalize upd G d (.dK kvs) = G1 at xd bd fd ⊢
  refine ⟨_,rfl,d,_,rfl,fd,fun dk hdk=>?_⟩
  obtain ⟨G2,e2,s2,f2⟩:=dL hdk (.dK kvs)
  rw [e2]
  have pv:∀ i,i < 16->prV kvs i = .int (pf i):=fun i hi=>by unfold prV; rw [kval i hi]; rfl
  have good:qd kvs:=fun i hi=>by
   rw [pv i hi]
   show (decide (0<=pf i) && decide (pf i<=1000)) = true
   rw [decide_eq_true (gp i).1,decide_eq_true (gp i).2]
   rfl
  have pI:∀ i,i < 16->prI kvs i = pf i:=fun i hi=>by unfold prI; rw [pv i hi]
  have S2:Same Hs G2:=fun b o e=>s2 _ _ (xd _ _ (fun z=>by rw [z,np] at e; cases e) (sH _ _ e))
  refine ⟨_,rfl,_,rfl,_,rfl,l,d,w',zs,xs,ts,kvs,rfl,S2 _ _ hl,la.mono (fun _ _ _ k=>k.same S2),tok,ln,w0,w1,s2 _ _ fd,(fun i hi=>by rw [pv i hi]; exact .int _),fun _ G3 s3=>?_,fun bad=>(qy bad good).elim⟩
  refine ⟨rfl,fun lw2 G4 hlw2 h4 s4=>⟨lw2,rfl,⟨_,SqL.of h4⟩,fun D hD=>?_⟩⟩
  have S4:Same Hs G4:=(S2.trans s3).trans s4
  have dk4:=s4 _ _ (s3 _ _ f2)
  refine bN (xs:=rw16.map V.str) (fun j HJ=>HJ D = some (.lst (((List.range j).map fun i=>pf i * (cC (evL 6 ts) i:Int)).map V.int))/\Same G4 HJ) ⟨af,ap hD _⟩ ?_ ?_ ?_
  ·rintro j HJ hj ⟨_,sJ⟩
   exact SqL.of (sJ _ _ h4)
  ·rintro j v HJ hv ⟨hz,sJ⟩
   obtain ⟨rfl,j16⟩:=sF hv
   have hcJ:=sJ _ _ (S4 _ _ hc)
   have pg:=gp j
   refine ⟨_,rfl,_,rfl,dk,_,rfl,.inl ⟨_,.inr (wOf j),.inl (sJ _ _ dk4),rfl,(kval j j16).symm⟩,_,rfl,cn,rfl,⟨_,hcJ⟩,_,rfl,ck,_,rfl,hcJ,ct.it,_,_,rfl,rfl,.inl ⟨by lia,by lia⟩,?_⟩
   rw [ct.ct j j16]
   refine ⟨_,hz,(by rw [List.length_map,List.length_map,List.length_range]; lia),_,(show (rw16.map V.str).length - (j + 1) < _ by show 16 - (j + 1) < 16 - j; lia),rfl,(by show j + 1<=16; lia),?_,Same.updL sJ hD⟩
   rw [af,List.range_succ,List.map_append,List.map_append]
   rfl
  rintro H5 ⟨hz,s5⟩
  refine ⟨D,_,rfl,SqL.of hz,?_⟩
  have ec:((List.range (rw16.map V.str).length).map fun i=>pf i * (cC (evL 6 ts) i:Int)).sum = nX (evL 6 ts) (prI kvs):=by
   unfold nX
   rw [show (rw16.map V.str).length = 16 from rfl]
   refine congrArg List.sum (List.map_congr_left fun i hi=>?_)
   rw [pI i (List.mem_range.mp hi),Int.mul_comm]
  rw [ec]
  refine ⟨_,rfl,_,rfl,_,rfl,eG ⟨_,rfl,_,rfl,rfl,_,rfl,bP rfl ?_⟩⟩
  have S5:SameX p H H5:=xd.trans (SameX.of (((s2.trans s3).trans s4).trans s5))
  have B5:Box H5 p:=(((bd.same s2).same s3).same s4).same s5
  have fd5:=s5 _ _ (s4 _ _ (s3 _ _ (s2 _ _ fd)))
  refine ⟨_,rfl,.inr (.inr (.inl ⟨rfl,.inl ⟨_,fd5⟩⟩)),d,_,rfl,rfl,fd5,fun rv hrv=>?_⟩
  obtain ⟨G6,e6,s6,f6⟩:=dL hrv (vwI rv d)
  rw [e6]
  refine ⟨rv,d,_,rfl,f6,s6 _ _ fd5,fun li as G7 hli h7 la7 hp7 s7=>?_⟩
  have dk7:G7 dk = some (.dK kvs):=s7 _ _ (s6 _ _ (s5 _ _ dk4))
  refine ⟨_,rfl,.inr (.inr (.inl ⟨rfl,.inl ⟨_,dk7⟩⟩)),dk,_,rfl,rfl,dk7,fun rv2 hrv2=>?_⟩
  obtain ⟨G8,e8,s8,f8⟩:=dL hrv2 (vwI rv2 dk)
  rw [e8]
  refine ⟨rv2,dk,_,rfl,f8,s8 _ _ dk7,fun li2 as2 G9 hli2 h9 la9 hp9 s9=>?_⟩
  have s79:Same G7 G9:=fun b o e=>s9 _ _ (s8 _ _ e)
  refine eqPrs (d:=0) (s79 _ _ h7) h9 ((mt la7 hp7).same fun b xs e=>s79 _ _ e) (mt la9 hp9) (fun x hx=>?_) (q G9 ((B5.same s6).same fun b o e=>s79 _ _ (s7 _ _ e)) (S5.trans (SameX.of fun b o e=>s79 _ _ (s7 _ _ (s6 _ _ e)))))
  obtain ⟨kv,hk,rfl⟩:=List.mem_map.mp hx
  exact ⟨kV_flat _,kfl kv hk⟩
def tR (c:Ad):Sp:=fun vs H Q _=>∃ (l p:Addr) (w:Int) (zs:List Str) (xs:List V) (ts:List (Tr 6)),vs = [.ref p,.int w,.ref l]/\Box H p/\(∃ Hs,Same Hs H/\Hs p = none/\Hs l = some (.lst xs)/\L2A (StT c Hs 6) xs ts)/\(∀ t ∈ ts,TOk w zs 6 t)/\(evL 6 ts).length<=10000/\4<=w/\w<=32/\∀ H',Box H' p->SameX p H H'->Q (.bl true) H'
theorem mR {f:Addr} {fd:FuncData} (F:Fun K "_law_dear" "_law_dear" fW f fd) (T:Txt K mg c) (H__law_words:Has P w K mg base 2 "_law_words" [] g9) (H__law_draw:Has P w K mg base 1 "_law_draw" ["_law_state", "_law_many"] cU) (H_cost_of:HasY P w K mg base 14 "cost_of" ["width", "steps", "prices"] (qj c)):FnOk P w K mg base CX0 15 f fd ["_law_state", "_law_width", "_law_steps"] (tR c):=by
 refine F.ok sc__law_dear (fun vs H Q E h=>?_) (fun cdv A outer s H vs Q E hr h=>?_)
 ·obtain ⟨l,p,w',zs,xs,ts,rfl,_⟩:=h
  rfl
 obtain ⟨l,p,w',zs,xs,ts,rfl,bp,⟨Hs,sH,np,hl,la⟩,tok,ln,w0,w1,q⟩:=h
 refine slE ⟨_,(aA (bR (aH (i:=3) sc__law_dear.nd rfl (Or.inl rfl) fP))
  (aA (pw PassesOwn.never rfl (bn (iO H__law_words (hr.mono (by lia)) rfl)) (bF (i:=4) sc__law_dear.nd rfl (Or.inl rfl))
   (ax (bR (be (aN hr) (pv 3) (pv 4) ag rfl))))
  (aA (kK (i:=5) sc__law_dear.nd rfl (Or.inl rfl) (pe_ixS aK (jN (aF (aE eY ag ag) (aF ag (aF hX (aF mV (aF ar (lN (jN (aF ag ee)) (aF (aE op_pow ag ag) ee)))))))) (aC H__law_draw (hr.mono (by lia)) rfl (ae (pv 0) (ae ag ah))) (fun _ _=>rfl)))
  (aA (bR (be (aN hr) (pv 3) (av aK (iO H__law_words (hr.mono (by lia)) rfl) (aC H__law_draw (hr.mono (by lia)) rfl (ae (pv 0) (ae ag ah))) (fun _ _=>rfl)) (pv 5) rfl))
  (aA (bR (ps_tryY (j:=6) (fun pins E=>(aj (aL (pe_fnYT H_cost_of (hr.mono (by lia)) rfl (ae (pv 1) (ae (pv 2) (ae (pv 3) ah))))))) sc__law_dear.nd rfl T.g_NoPrices rfl rfl (fun a oe=>(aj (ao (cy (rQ (by have z:=Nat.lt_of_succ_lt (aN hr); exact z)) (pe_xf (a:=a) (oe:=oe) (List.mem_cons_self ..) (pv 6) rfl) (pv 3) (ay _)))))))
  (ax (bR (ao hX)))))))),?_⟩
 have L1000:(1000:Nat)<=sizeLine:=by decide
 refine fun d hd=>?_
 obtain ⟨G0,e0,s0,f0⟩:=dL hd (.dK [])
 rw [e0]
 refine ⟨rfl,fun lw G1 hlw h1 s1=>?_⟩
 have ndp:d ≠ p:=bp.ne hd
 have nld:lw ≠ d:=fun z=>by rw [z,f0] at hlw; cases hlw
 refine ⟨lw,rfl,⟨_,SqL.of h1⟩,bT (xs:=rw16.map V.str) (fun j σ G=>∃ y:Option V,σ = [some (.ref p),some (.int w'),some (.ref l),some (.ref d),y,none,none]/\G d = some (.dK ((cr fun _=>1).take j))/\G lw = some (.lst (rw16.map V.str))/\Same H G) ⟨_,rfl,s1 _ _ f0,h1,s0.trans s1⟩ ?_ ?_ ?_⟩
 ·rintro j σ G hj ⟨y,rfl,gd,gw,sG⟩
  exact SqL.of gw
 ·rintro j v σ G hv ⟨y,rfl,gd,gw,sG⟩
  obtain ⟨rfl,j16⟩:=sF hv
  refine ⟨_,rfl,_,rfl,d,_,rfl,DPut.k (k:=.inr (wOf j)) gd (by rw [List.length_take,bZ]; lia),?_⟩
  rw [mH (f:=fun _=>1) j16]
  exact ⟨_,rfl,af,by rw [am nld]; exact gw,Same.updL sG hd⟩
 ·rintro σ G ⟨y,rfl,gd,gw,sG⟩
  rw [show (rw16.map V.str).length = 16 from rfl,List.take_of_length_le (by rw [bZ]; exact Nat.le_refl _)] at gd
  have bG:=bp.same sG
  refine ⟨_,_,rfl,rfl,(by show 1<=sizeLine; decide),fun lb hlb=>?_⟩
  obtain ⟨G2,e2,s2,f2⟩:=dL hlb (.lst [.int 3])
  rw [e2]
  refine ⟨_,_,rfl,rfl,⟨by decide,by decide,by decide⟩,(by show 7<=sizeLine; decide),fun lo hlo=>?_⟩
  obtain ⟨G3,e3,s3,f3⟩:=dL hlo (.lst [.int (0 - 1),.int 1001,.bl true,.non,.str "3",.ref lb,.int (10 ^ (39:Int).toNat)])
  rw [e3]
  have b3:=(bG.same s2).same s3
  refine ⟨_,rfl,p,_,rfl,b3,by decide,by decide,fun k G4 k0 k1 b4 x4=>?_⟩
  have nlb:lb ≠ p:=bG.ne hlb
  have e39:btw (.int (10 ^ (39:Int).toNat)) 0 1000 = false:=by decide +kernel
  have nlbd:lb ≠ d:=fun z=>by rw [z,gd] at hlb; cases hlb
  obtain ⟨v,⟨tv,nv,nvd,bv⟩,ev⟩:=i3 (xs:=[.int (0 - 1),.int 1001,.bl true,.non,.str "3",.ref lb,.int (10 ^ (39:Int).toNat)]) (Pr:=fun v=>Th G4 v/\v ≠ .ref p/\v ≠ .ref d/\btw v 0 1000 = false) k0 k1 (rE ⟨⟨.int _,(fun z=>nomatch z),(fun z=>nomatch z),by decide⟩,⟨.int _,(fun z=>nomatch z),(fun z=>nomatch z),by decide⟩,⟨.bl _,(fun z=>nomatch z),(fun z=>nomatch z),rfl⟩,⟨.non,(fun z=>nomatch z),(fun z=>nomatch z),rfl⟩,⟨.str _,(fun z=>nomatch z),(fun z=>nomatch z),rfl⟩,⟨.lst (x4 _ _ nlb (s3 _ _ f2)),(fun z=>by injection z with z; exact nlb z),(fun z=>by injection z with z; exact nlbd z),rfl⟩,⟨.int _,(fun z=>nomatch z),(fun z=>nomatch z),e39⟩,trivial⟩)
  refine ⟨lo,_,_,_,rfl,rfl,SqL.of (x4 _ _ ((bG.same s2).ne hlo) f3),ev,?_⟩
  have X4:SameX p G G4:=(SameX.of (s2.trans s3)).trans x4
  refine ⟨_,rfl,_,rfl,rfl,fun lw2 G5 hlw2 h5 s5=>?_⟩
  refine ⟨_,rfl,p,_,rfl,b4.same s5,by decide,by decide,fun m G6 m0 m1 b6 x6=>?_⟩
  obtain ⟨m',rfl⟩:=Int.eq_ofNat_of_zero_le m0
  have m16:m' < 16:=by lia
  have sa:atI (rw16.map V.str) ((m':Nat):Int) = some (.str (wOf m')):=by
   have a:∀ i ∈ List.range 16,rw16[i]? = some (wOf i):=by decide +kernel
   exact fF (by rw [List.getElem?_map,a m' (List.mem_range.mpr m16)]; rfl)
  have X6:SameX p G G6:=X4.trans ((SameX.of s5).trans x6)
  refine ⟨lw2,_,_,_,rfl,rfl,SqL.of (x6 _ _ (b4.ne hlw2) h5),sa,d,_,rfl,DPut.k (k:=.inr (wOf m')) (X6 _ _ ndp gd) (by rw [bZ]; decide),?_⟩
  have tv6:Th G6 v:=by
   have t5:=tv.same s5
   cases t5 with
   | int i=>exact .int i
   | bl i=>exact .bl i
   | str i=>exact .str i
   | non=>exact .non
   | lst h=>exact .lst (x6 _ _ (fun z=>nv (by rw [z])) h)
   | tup h=>exact .tup (x6 _ _ (fun z=>nv (by rw [z])) h)
   | dct h=>exact .dct (x6 _ _ (fun z=>nv (by rw [z])) h)
  have kv:∀ i,i < 16->prV (cp (cr fun _=>1) (.inr (wOf m')) v) i = if i = m' then v else .int 1:=fun i hi=>by
   unfold prV
   rw [qf]
   by_cases z:i = m'
   ·rw [z,if_pos rfl,if_pos rfl]; rfl
   ·rw [if_neg (fun e=>z (rG hi m16 (by injection e with e; rw [e]))),if_neg z,ik hi]; rfl
  have bad:BadPr (cp (cr fun _=>1) (.inr (wOf m')) v):=⟨m',m16,by rw [kv m' m16,if_pos rfl]; exact bv⟩
  have nd':∀ {b:Addr} {o:HO},H b = some o->b ≠ d:=fun e=>aw e hd
  have vd:∀ {u:V},Th G6 u->u ≠ .ref d->Th (upd G6 d (.dK (cp (cr fun _=>1) (.inr (wOf m')) v))) u:=fun {u} t n=>by
   cases t with
   | int i=>exact .int i
   | bl i=>exact .bl i
   | str i=>exact .str i
   | non=>exact .non
   | lst h=>exact .lst (by rw [am (fun z=>n (by rw [z]))]; exact h)
   | tup h=>exact .tup (by rw [am (fun z=>n (by rw [z]))]; exact h)
   | dct h=>exact .dct (by rw [am (fun z=>n (by rw [z]))]; exact h)
  generalize hkv:cp (cr fun _=>1) (.inr (wOf m')) v = kvs at *
  have S7:Same Hs (upd G6 d (.dK kvs)):=fun b o e=>by rw [am (nd' (sH _ _ e))]; exact X6 _ _ (fun z=>by rw [z,np] at e; cases e) (sG _ _ (sH _ _ e))
  have x7:SameX p H (upd G6 d (.dK kvs)):=fun b o n e=>by rw [am (nd' e)]; exact X6 _ _ n (sG _ _ e)
  have b7:Box (upd G6 d (.dK kvs)) p:=by
   obtain ⟨a1,a2,a3,e'⟩:=b6
   exact ⟨a1,a2,a3,by rw [am (Ne.symm ndp)]; exact e'⟩
  have exf:ExF K c.NoPrices:=⟨T.kf_ga,T.kf_gn,T.kf_gc,T.kf_mo,T.kf_mb⟩
  have ex1:exmOne K (.ref c.NoPrices) (.ref c.NoPrices) = some true:=exm_of T.kf_if_ T.kf_tf T.kf_mf T.kf_wb
  refine ⟨_,rfl,_,rfl,_,rfl,l,d,w',zs,xs,ts,kvs,rfl,S7 _ _ hl,la.mono (fun _ _ _ k=>k.same S7),tok,ln,w0,w1,af,(fun i hi=>?_),fun g=>(qy bad g).elim,fun _ ed H8 hed s8=>⟨ex1,fun ea oe hcl hdi hnc hea=>?_⟩⟩
  ·rw [kv i hi]
   split
   ·exact vd tv6 nvd
   ·exact .int 1
  ·exact ⟨_,rfl,c.NoPrices,ed,_,_,rfl,hcl,hdi,hnc,exf,T.kf_hd,T.kf_nf,hed,rfl,_,rfl,d,kvs,rfl,rfl,s8 _ _ af,q H8 (b7.same s8) (x7.trans (SameX.of s8))⟩
theorem hu20 {A:Around} {k:Nat} (hr:Room k A):A.units + 13 + 1 < cLine:=by have:=hr.un; lia
theorem L2A.noBox {α:Type} {f:Addr->α->Prop} {G:Hp} {p l:Addr} {xs:List V} {ts:List α} (b:Box G p) (hl:G l = some (.lst xs)) (la:L2A f xs ts):l ≠ p:=fun z=>by
 obtain ⟨r1,r2,r3,hb⟩:=b
 rw [z,hb] at hl
 cases hl
 obtain ⟨a,t,e,_⟩:=la.get (j:=0) rfl
 cases e
theorem TpT.hide {G:Hp} {p:Addr} (b:Box G p):∀ {d:Nat} {x:Addr} {t:Tr d},TpT G d x t->TpT (fz G p) d x t
 | 0,_,t,_=>Empty.elim t
 | d + 1,x,t,h=>by
  have nt:∀ {y:Addr} {ys:List V},G y = some (.tup ys)->y ≠ p:=fun e z=>by
   obtain ⟨r1,r2,r3,hb⟩:=b
   rw [z,hb] at e; cases e
  have h':TS.tp G (TpT G d) x t:=h
  show TS.tp (fz G p) (TpT (fz G p) d) x t
  revert h'
  cases (show TS (Tr d) from t) with
  | row r=>exact fun h=>by show fz G p x = _; rw [bx (nt h)]; exact h
  | turns n ts=>exact fun ⟨l,xs,e,f,g⟩=>⟨l,xs,by rw [bx (nt e)]; exact e,by rw [bx (g.noBox b f)]; exact f,g.mono fun _ _ _ k=>TpT.hide b k⟩
theorem StT.hide {c:Ad} {G:Hp} {p:Addr} (b:Box G p):∀ {d:Nat} {x:Addr} {t:Tr d},StT c G d x t->StT c (fz G p) d x t
 | 0,_,t,_=>Empty.elim t
 | d + 1,x,t,h=>by
  have nt:∀ {y C dx:Addr} {fs:List (Str × V)},G y = some (.ins C dx fs)->y ≠ p:=fun e z=>by
   obtain ⟨r1,r2,r3,hb⟩:=b
   rw [z,hb] at e; cases e
  have h':TS.st c G (StT c G d) x t:=h
  show TS.st c (fz G p) (StT c (fz G p) d) x t
  revert h'
  cases (show TS (Tr d) from t) with
  | row r=>exact fun ⟨dx,e,l⟩=>⟨dx,by rw [bx (nt e)]; exact e,l⟩
  | turns n ts=>exact fun ⟨xs,⟨dx,l,e,f⟩,g⟩=>⟨xs,⟨dx,l,by rw [bx (nt e)]; exact e,by rw [bx (g.noBox b f)]; exact f⟩,g.mono fun _ _ _ k=>StT.hide b k⟩
theorem Rw.flat (r:Rw):∀ x ∈ r.fs,cq x = true\/∃ a,x = .ref a:=by
 have o:∀ c:Option Str,cq (oV c) = true:=fun c=>by cases c <;> rfl
 cases r <;> simp only [Rw.fs,List.mem_cons,List.not_mem_nil,or_false] <;> intro x hx <;> left <;> (rcases hx with rfl | rfl | rfl | rfl <;> first | rfl | exact o _)
theorem eqTp {K:Frag} {H:Hp}:∀ {d:Nat} {x y:Addr} {t:Tr d},TpT H d x t->TpT H d y t->EqD K H (2 * d + 1) (.ref x) (.ref y) true
 | 0,_,_,t,_,_=>Empty.elim t
 | d + 1,x,y,t,h1,h2=>by
  have h1':TS.tp H (TpT H d) x t:=h1
  have h2':TS.tp H (TpT H d) y t:=h2
  revert h1' h2'
  cases (show TS (Tr d) from t) with
  | row r=>exact fun h1 h2=>eqRow (d:=2 * d + 2) h1 h2 (List.forall_mem_cons.mpr ⟨.inl rfl,r.flat⟩)
  | turns n ts =>
   rintro ⟨l,xs,e1,f1,g1⟩ ⟨l',xs',e2,f2,g2⟩
   by_cases c:x = y
   ·rw [c]; exact EqD.same
   have li:EqD K H (2 * d + 2) (.ref l) (.ref l') true:=by
    by_cases c':l = l'
    ·rw [c']; exact EqD.same
    have z:=EqD.lst (K:=K) (H:=H) (d:=2 * d + 1) (e:=fun _=>true) c' (SqL.of f1) (SqL.of f2) (by rw [g1.1,g2.1]) fun j hj=>by
     have hj2:j < xs'.length:=by rw [g2.1,<- g1.1]; exact hj
     have hx:xs[j]? = some (xs[j]'hj):=List.getElem?_eq_getElem _
     have hy:xs'[j]? = some (xs'[j]'hj2):=List.getElem?_eq_getElem _
     obtain ⟨a,t1,ea,et1,k1⟩:=g1.get hx
     obtain ⟨b,t2,eb,et2,k2⟩:=g2.get hy
     rw [et1] at et2
     cases et2
     rw [List.getD_eq_getElem?_getD,List.getD_eq_getElem?_getD,hx,hy,ea,eb]
     exact eqTp k1 k2
    have e3:(List.range xs.length).all (fun _=>true) = true:=by rw [List.all_eq_true]; exact fun _ _=>rfl
    rw [e3] at z
    exact z
   have z:=EqD.tup (K:=K) (H:=H) (d:=2 * d + 2) (e:=fun _=>true) c (SqT.of e1) (SqT.of e2) fun j h1 _=>by
    have h1:j < 3:=h1
    rcases (by lia:j = 0\/j = 1\/j = 2) with rfl | rfl | rfl
    ·exact EqD.flat (x:=V.str "turns") (y:=V.str "turns") rfl rfl
    ·have f:=EqD.flat (K:=K) (H:=H) (d:=2 * d + 2) (x:=V.int (n:Int)) (y:=V.int (n:Int)) rfl rfl
     rw [show eqV (V.int (n:Int)) (V.int (n:Int)) = true by simp [eqV]] at f
     exact f
    ·exact li
   exact z
def rF (r:Rw):Tr 6:=TS.row r
theorem evL_rows (rs:List Rw):evL 6 (rs.map rF) = rs.map some:=by
 induction rs with
 | nil=>rfl
 | cons r t ih =>
  show evs 6 (rF r) ++ evL 6 (t.map rF) = some r :: t.map some
  rw [ih]
  rfl
theorem rws_some (rs:List Rw):rws (rs.map some) = rs:=by
 unfold rws
 rw [List.filterMap_map]
 exact List.filterMap_some
theorem sameZ {Z G G':Hp} {p:Addr} (s:Same Z G) (zp:Z p = none) (x:SameX p G G'):Same Z G':=fun b o e=>x b o (aw e zp) (s _ _ e)
theorem ok_law {f:Addr} {fd:FuncData} (F:Fun K "law" "law" lh f fd) (T:Txt K mg c) (H__law_begun:Has P w K mg base 1 "_law_begun" ["_law_cell_here"] spBox) (H__law_names:Has P w K mg base 2 "_law_names" ["_law_state"] pC) (H__law_held:Has P w K mg base 3 "_law_held" ["_law_state", "_law_width", "_law_names_here"] sM) (H__law_tree:Has P w K mg base 4 "_law_tree" ["_law_script", "_law_width", "_law_names_here", "_law_most"] (t8 K)) (H__law_run:Has P w K mg base 14 "_law_run" ["_law_size", "_law_rows", "_law_held_here", "_law_marks", "_law_counts"] (jQ c 6)) (H__law_flat:Has P w K mg base 14 "_law_flat" ["_law_rows"] (jY c 6)) (H__law_same:Has P w K mg base 3 "_law_same" ["_law_found", "_law_held_here", "_law_marks", "_law_counts"] oX) (H__law_cell:Has P w K mg base 1 "_law_cell" ["_law_script", "_law_k"] (qA K)) (H__law_draw:Has P w K mg base 1 "_law_draw" ["_law_state", "_law_many"] cU) (H__law_made:Has P w K mg base 14 "_law_made" ["_law_row_here"] (jM c 6)) (H__law_dear:Has P w K mg base 15 "_law_dear" ["_law_state", "_law_width", "_law_steps"] (tR c)) (H_run_steps:Has P w K mg base 14 "run_steps" ["width", "steps", "registers"] (sZ c)) (H__law_costs:Has P w K mg base 15 "_law_costs" ["_law_width", "_law_steps", "_law_state", "_law_counts"] (pd c)) (H__law_counted:Has P w K mg base 15 "_law_counted" ["_law_width", "_law_steps", "_law_counts"] (jr c)) (MT:∀ k,k < 15->MHas P w K mg base 2 (fOf c k) "told" ["self"] (bo c [k])) (MU:MHas P w K mg base 8 c.Turns "told" ["self"] (spN (iF c) 5)):FnOk P w K mg base CX0 16 f fd ["_law_script"] (spLaw K):=by
 refine F.ok sc_law (fun vs H Q E h=>?_) (fun cdv A outer s H vs Q E hr h=>?_)
 ·obtain ⟨a,ns,rfl,_⟩:=h
  rfl
 obtain ⟨a,ns,rfl,hS,hlen,q⟩:=h
 refine ⟨_,(ai (aH (i:=1) sc_law.nd rfl (Or.inl rfl) (aC H__law_begun (hr.mono (by lia)) rfl (ae (aC H__law_cell (hr.mono (by lia)) rfl (ae (pv 0) (ae ag ah))) ah)))
  (ai (aH (i:=2) sc_law.nd rfl (Or.inl rfl) (aE bY ag (aC H__law_draw (hr.mono (by lia)) rfl (ae (pv 1) (ae ag ah)))))
  (ai (aH (i:=3) sc_law.nd rfl (Or.inl rfl) (aC H__law_names (hr.mono (by lia)) rfl (ae (pv 1) ah)))
  (ai (aH (i:=4) sc_law.nd rfl (Or.inl rfl) (aC H__law_held (hr.mono (by lia)) rfl (ae (pv 1) (ae (pv 2) (ae (pv 3) ah)))))
  (ai (aH (i:=5) sc_law.nd rfl (Or.inl rfl) (aC H__law_tree (hr.mono (by lia)) rfl (ae (pv 0) (ae (pv 2) (ae (pv 3) (ae ag ah))))))
  (ai (ps_comp0 (i:=6) sc_law.nd rfl (Or.inl rfl) rfl rfl (by first | rfl | with_unfolding_all rfl) (by decide +kernel) rfl (by decide +kernel) rfl (bn (pv 5)) (fun C s2 H2 fp=>(aC H__law_made (hr.mono (by lia)) rfl (ae (pv 0) ah))))
  (ai (aH (i:=7) sc_law.nd rfl (Or.inl rfl) (bh hI rfl T.n_dict boot_dict (ae (pv 4) ah)))
  (ai (aH (i:=8) sc_law.nd rfl (Or.inl rfl) (bt ah))
  (ai (aH (i:=9) sc_law.nd rfl (Or.inl rfl) fP)
  (ai (aL (aC H__law_run (hr.mono (by lia)) rfl (ae (aE fV ag (pv 2)) (ae (pv 5) (ae (pv 7) (ae (pv 8) (ae (pv 9) ah)))))))
  (lQ (aQ (PW.pt (p9 (au bc (aC H__law_draw (hr.mono (by lia)) rfl (ae (pv 1) (ae ag ah))) ag (ay _)) (pB (bJ (bC (aC H__law_costs (hr.mono (by lia)) rfl (ae (pv 2) (ae (pv 6) (ae (pv 1) (ae (pv 9) ah))))))))))
   (aj (ao hX))
   aG)
  (ai (aH (i:=10) sc_law.nd rfl (Or.inl rfl) (bh hI rfl T.n_dict boot_dict (ae (pv 4) ah)))
  (ai (aQ (PW.pt (eQ (bJ (bC (aC H__law_same (hr.mono (by lia)) rfl (ae (aC H_run_steps (hr.mono (by lia)) rfl (ae (pv 2) (ae (pv 6) (ae (pv 10) ah)))) (ae (pv 7) (ae (pv 8) (ae (pv 9) ah))))))) (fk (au (oO (Nat.lt_of_succ_lt (aN hr))) (pv 10) (pv 4) (ay _)))))
   (aj (ao hX))
   aG)
  (ai (aQ (PW.pt (eQ (bJ (bC (aC H__law_counted (hr.mono (by lia)) rfl (ae (pv 2) (ae (pv 6) (ae (pv 9) ah)))))) (fk (bJ (bC (aC H__law_costs (hr.mono (by lia)) rfl (ae (pv 2) (ae (pv 6) (ae (pv 1) (ae (pv 9) ah))))))))))
   (aj (ao hX))
   aG)
  (ai (aQ (bJ (bC (aC H__law_dear (hr.mono (by lia)) rfl (ae (pv 1) (ae (pv 2) (ae (pv 6) ah))))))
   (aj (ao hX))
   aG)
  (ai (aH (i:=11) sc_law.nd rfl (Or.inl rfl) (aC H__law_flat (hr.mono (by lia)) rfl (ae (pv 5) ah)))
  (lQ (aQ (au qS (aD aW rfl T.n_len boot_len (ae (pv 11) ah)) ag (ay _))
   (ai (aH (i:=12) sc_law.nd rfl (Or.inl rfl) (aC H_run_steps (hr.mono (by lia)) rfl (ae (pv 2) (ae (cY rfl (by first | rfl | with_unfolding_all rfl) (by decide +kernel) rfl (by decide +kernel) rfl (bn (pv 11)) (fun C s2 H2 fp=>(aC H__law_made (hr.mono (by lia)) rfl (ae (pv 0) ah)))) (ae (pv 10) ah)))))
   (aj (aQ (PW.pt (eQ (au (oO (Nat.lt_of_succ_lt (aN hr))) (av aq (pv 12) ag (fun _ _=>rfl)) (pv 7) (ay _)) (eQ (au (lJ (d:=1) (hu2 hr)) (av aq (pv 12) ag (fun _ _=>rfl)) (pv 8) (ay _)) (fk (au sL (aD (ia rfl) rfl T.n_sum boot_sum (ae (eF PySem.F.plainAttrs_dict PySem.F.slot_dict_values PySem.F.type_dict_values dM (av aq (pv 12) ag (fun _ _=>rfl))) ah)) (aD aW rfl T.n_len boot_len (ae (pv 11) ah)) (ay _))))))
    (aj (ao hX))
    aG)))
   aG)
  (ai (aQ (au (lJ (d:=13) (hu20 hr)) (cY rfl (by first | rfl | with_unfolding_all rfl) (by decide +kernel) rfl (by decide +kernel) rfl (bn (pv 6)) (fun C s2 H2 fp=>(nF (k:=8) (P:=P) (w:=w) (K:=K) (mg:=mg) (base:=base) rfl rfl rfl rfl rfl (pv 0) (hr.mono (by lia))))) (pv 5) (ay _))
   (aj (ao hX))
   aG)
  (aj (ao (aC H__law_same (hr.mono (by lia)) rfl (ae (aC H_run_steps (hr.mono (by lia)) rfl (ae (pv 2) (ae (pv 6) (ae (pv 4) ah)))) (ae (pv 7) (ae (pv 8) (ae (pv 9) ah))))))))))))))))))))))))),?_⟩
 have L1000:(20000:Nat)<=sizeLine:=by decide
 refine ⟨_,rfl,a,ns,_,rfl,hS,by decide,by decide,fun c0=>⟨c0,rfl,fun p H1 hp b1 s1=>?_⟩⟩
 refine ⟨_,rfl,p,_,rfl,b1,by decide,by decide,fun dw H2 dw0 dw1 b2 x2=>⟨_,_,rfl,rfl,?_⟩⟩
 have w0:4<=4 + dw:=by lia
 have w1:4 + dw<=32:=by lia
 refine ⟨_,rfl,p,rfl,b2,fun ln zs H3 hln nm b3 x3=>?_⟩
 have nlp:ln ≠ p:=b2.ne hln
 refine ⟨_,rfl,_,rfl,_,rfl,p,ln,4 + dw,zs,rfl,b3,w0,w1,nm,nlp,fun dh kvs H4 hdh h4 wz b4 x4=>?_⟩
 have S4:Same H H4:=fun b o e=>x4 _ _ (aw e hp) (x3 _ _ (aw e hp) (x2 _ _ (aw e hp) (s1 _ _ e)))
 have nm4:Nms H4 ln zs:=⟨x4 _ _ nlp nm.1,nm.2⟩
 have zo:ZOk zs:=⟨nm.2.2.1,nm.2.2.2⟩
 refine ⟨_,rfl,_,rfl,_,rfl,a,ln,ns,4 + dw,zs,rfl,S4.seq hS,w0,w1,nm4,fun lr xs ts H5 hlr h5 la tok l5 t100 s5=>?_⟩
 have xl:xs.length<=100:=by rw [la.1]; exact t100
 refine ⟨_,rfl,lr,rfl,⟨_,SqL.of h5⟩,fun ls hls=>?_⟩
 refine bN (xs:=xs) (fun j HJ=>∃ ys,HJ ls = some (.lst ys)/\L2A (StT c (fz HJ ls) 6) ys (ts.take j)/\Same H5 HJ) ⟨[],af,L2A.nil,ap hls _⟩ ?_ ?_ ?_
 ·rintro j HJ hj ⟨ys,hy,ta,sJ⟩
  exact SqL.of (sJ _ _ h5)
 ·rintro j v HJ hv ⟨ys,hy,ta,sJ⟩
  obtain ⟨x',t',rfl,et,st⟩:=la.get hv
  have jl:=(List.getElem?_eq_some_iff.mp hv).1
  have la1:=la.1
  have yl:ys.length = j:=by rw [ta.1,List.length_take]; lia
  refine ⟨_,rfl,x',4 + dw,zs,t',rfl,(st.same dg).same sJ,tok t' (List.mem_of_getElem? et),fun r G' hr' tp s1=>?_⟩
  refine ⟨ys,s1 _ _ hy,by lia,_,(show xs.length - (j + 1) < xs.length - j by lia),rfl,(by lia),ys ++ [.ref r],af,?_,Same.updL (sJ.trans s1) hls⟩
  rw [dJ et,lx]
  exact (ta.mono fun _ _ _ k=>k.same (eP s1)).app (L2A.one (tp.same fun b o e=>by
   obtain ⟨e1,e2⟩:=fg e
   rw [bx (fun z=>by rw [z,hy] at e1; cases e1)]; exact e2))
 rintro H6 ⟨ss,h6,st6,s6⟩
 rw [la.1,List.take_length] at st6
 have st6:L2A (StT c H6 6) ss ts:=st6.mono fun _ _ _ k=>k.same dg
 have la6:L2A (TpT H6 6) xs ts:=la.mono fun _ _ _ k=>(k.same dg).same s6
 have dh6:=s6 _ _ (s5 _ _ h4)
 have lr6:=s6 _ _ h5
 have b6:=(b4.same s5).same s6
 refine ⟨_,rfl,dh,_,rfl,dh6,fun db hdb=>?_⟩
 obtain ⟨G7,e7,s7,f7⟩:=dL hdb (.dK kvs)
 rw [e7]
 refine ⟨(by show 0<=sizeLine; decide),fun m hm=>?_⟩
 obtain ⟨G8,e8,s8,f8⟩:=dL hm (.lst [])
 rw [e8]
 refine fun cn hcn=>?_
 obtain ⟨G9,e9,s9,f9⟩:=dL hcn (.dK [])
 rw [e9]
 have ndc:db ≠ cn:=fun z=>by rw [<- z,s8 _ _ f7] at hcn; cases hcn
 refine ⟨_,rfl,_,_,rfl,rfl,jz (by lia) (by lia),_,rfl,_,rfl,_,rfl,_,rfl,H6,lr,db,m,cn,4 + dw,zs,xs,ts,kvs,[],rfl,rfl,lr6,la6,tok,hdb,Same.none s7 hm,Same.none (s7.trans s8) hcn,ndc,zo,w0,w1,wz,(fun r h=>nomatch h),(by show 0 + _<=_; lia),⟨s9 _ _ (s8 _ _ f7),⟨[],s9 _ _ f8,PrsAt.nil⟩,⟨[],f9,CK.nil⟩,(s7.trans s8).trans s9⟩,fun G rs=>?_⟩
 have nmp:m ≠ p:=(b6.same s7).ne hm
 clear e7 e8 e9 f7 f8 f9 s7 s8 s9 hm hcn hdb
 have bG:=b6.same rs.s
 obtain ⟨gdb,⟨ms,gm,pm⟩,⟨ck,gcn,ct⟩,sG⟩:=rs
 rw [List.nil_append] at gdb pm ct
 obtain ⟨Z,hZ⟩:∃ Z,fz G p = Z:=⟨_,rfl⟩
 have zp:Z p = none:=by rw [<- hZ]; unfold fz; rw [if_pos rfl]
 have ZG:Same Z G:=by rw [<- hZ]; exact dg
 have nb:∀ {y:Addr} {o:HO},G y = some o->(∀ us,o ≠ .lst us)->Z y = some o:=fun {y o} e n=>by
  rw [<- hZ,bx (fun z=>by
   obtain ⟨r1,r2,r3,hb⟩:=bG
   rw [z,hb] at e
   cases e
   exact n _ rfl)]
  exact e
 have zst:L2A (StT c Z 6) ss ts:=by rw [<- hZ]; exact st6.mono fun _ _ _ k=>(k.same sG).hide bG
 have zla:L2A (TpT Z 6) xs ts:=by rw [<- hZ]; exact la6.mono fun _ _ _ k=>(k.same sG).hide bG
 have zls:Z ls = some (.lst ss):=by
  have n:ls ≠ p:=(b4.same s5).ne hls
  rw [<- hZ,bx n]; exact sG _ _ h6
 have zlr:Z lr = some (.lst xs):=by
  have n:lr ≠ p:=b4.ne hlr
  rw [<- hZ,bx n]; exact sG _ _ lr6
 have zdh:Z dh = some (.dK kvs):=nb (sG _ _ dh6) (fun _ z=>nomatch z)
 have zdb:=nb gdb (fun _ z=>nomatch z)
 have zcn:=nb gcn (fun _ z=>nomatch z)
 have zm:Z m = some (.lst ms):=by rw [<- hZ,bx nmp]; exact gm
 have zpm:PrsAt Z ms (bE (4 + dw) kvs (rws (evL 6 ts))):=pm.1 |> fun _=>⟨pm.1,fun j x p' e1 e2=>let ⟨a',ea,h⟩:=pm.2 j x p' e1 e2; ⟨a',ea,nb h (fun _ z=>nomatch z)⟩⟩
 have kz:∀ rs':List Rw,(∀ r ∈ rs',r.ok (4 + dw)/\r.inZ zs)->IntD (bf (4 + dw) kvs rs')/\(bf (4 + dw) kvs rs').length<=100:=fun rs' h=>by
  have z:=(Wz.all zo h w0 w1 wz).wd zo
  exact ⟨z.ints,Nat.le_trans z.ln (by decide)⟩
 have rok:=jI tok
 have pl:(bE (4 + dw) kvs (rws (evL 6 ts))).length<=10000:=Nat.le_trans (dI _ _ _) (Nat.le_trans (dY _) l5)
 clear st6 la6 lr6 dh6 gdb gm pm gcn sG hZ nb h6 s6 h5 s5 la b6 b4
 refine ⟨fun σ G'=>σ = [some (.ref a),some (.ref p),some (.int (4 + dw)),some (.ref ln),some (.ref dh),some (.ref lr),some (.ref ls),some (.ref db),some (.ref m),some (.ref cn),none,none,none]/\Same Z G'/\Box G' p,?_,?_⟩
 ·refine ⟨_,rfl,p,_,rfl,bG,by decide,by decide,fun v Ga v0 v1 ba xa=>⟨rfl,_,rfl,?_⟩⟩
  have za:=sameZ ZG zp xa
  by_cases c1:V.int v = V.int 1
  ·exact bP c1 ⟨_,rfl,_,rfl,_,rfl,_,rfl,ls,p,cn,4 + dw,zs,ss,ts,ck,rfl,ba,⟨Z,za,zp,zls,zst,zcn⟩,tok,l5,w0,w1,ct,fun Gb bb xb=>⟨_,rfl,cE ⟨rfl,sameZ za zp xb,bb⟩⟩⟩
  ·exact aI c1 ⟨rfl,za,ba⟩
 clear bG ZG
 rintro _ G1 ⟨rfl,z1,b1⟩
 refine ⟨_,rfl,dh,_,rfl,z1 _ _ zdh,fun dd hdd=>?_⟩
 obtain ⟨G2,e2,s2,f2⟩:=dL hdd (.dK kvs)
 rw [e2]
 have z2:=z1.trans s2
 have b2:=b1.same s2
 refine ⟨_,rfl,_,rfl,_,rfl,ls,dd,4 + dw,zs,ss,ts,kvs,rfl,z2 _ _ zls,zst.mono (fun _ _ _ k=>k.same z2),tok,l5,zo,w0,w1,f2,wz,fun tt dw' mm' cn' ms' Gr h1 h2 h3 h4 h5 _ _ _ sr=>?_⟩
 have zr:=z2.trans sr
 refine ⟨_,rfl,_,rfl,_,rfl,tt,db,m,cn,dw',mm',cn',_,ck,ms',ms,_,_,rfl,h1,h2,zr _ _ zdb,(kz _ rok).1,(kz _ rok).2,h3,h4,zr _ _ zm,zpm.same (fun b ys e=>zr _ _ e),pl,gY _ _ _,h5,zr _ _ zcn,ct.it,(fun i hi=>(ct.ct i hi).trans (by show _ = (0:Int) + 1 * _; lia)),fun Gs ss'=>⟨_,rfl,cE ?_⟩⟩
 have dd3:=ss' _ _ (sr _ _ f2)
 have z3:=zr.trans ss'
 refine ⟨_,rfl,_,rfl,dd,dh,kvs,rfl,rfl,dd3,z3 _ _ zdh,(wz.wd zo).ints,_,rfl,cE ?_⟩
 have b3:=(b2.same sr).same ss'
 clear h1 h2 h3 h4 h5 sr ss' f2 zr
 refine ⟨_,rfl,_,rfl,_,rfl,ls,cn,4 + dw,zs,ss,ts,ck,rfl,z3 _ _ zls,zst.mono (fun _ _ _ k=>k.same z3),tok,l5,w0,w1,z3 _ _ zcn,ct,fun G4 s4=>⟨_,rfl,cE ?_⟩⟩
 have z4:=z3.trans s4
 refine ⟨_,rfl,_,rfl,_,rfl,_,rfl,ls,p,cn,4 + dw,zs,ss,ts,ck,rfl,b3.same s4,⟨Z,z4,zp,zls,zst,zcn⟩,tok,l5,w0,w1,ct,fun G5 b5 x5=>⟨_,rfl,cE ?_⟩⟩
 have z5:=sameZ z4 zp x5
 have ndp:dd ≠ p:=b1.ne hdd
 have dd5:=x5 _ _ ndp (s4 _ _ dd3)
 refine ⟨_,rfl,_,rfl,_,rfl,ls,p,4 + dw,zs,ss,ts,rfl,b5,⟨Z,z5,zp,zls,zst⟩,tok,l5,w0,w1,fun G6 b6 x6=>⟨_,rfl,cE ?_⟩⟩
 have z6:=sameZ z5 zp x6
 have dd6:=x6 _ _ ndp dd5
 refine ⟨_,rfl,Z,lr,4 + dw,zs,xs,ts,rfl,rfl,zlr,zla,z6,tok,l5,fun lf fs G7 hlf hf lf2 s7=>?_⟩
 have z7:=z6.trans s7
 have dd7:=s7 _ _ dd6
 have fl:fs.length<=10000:=by rw [lf2.1]; exact Nat.le_trans (dY _) l5
 refine ⟨fun σ G'=>∃ y12:Option V,σ = [some (.ref a),some (.ref p),some (.int (4 + dw)),some (.ref ln),some (.ref dh),some (.ref lr),some (.ref ls),some (.ref db),some (.ref m),some (.ref cn),some (.ref dd),some (.ref lf),y12]/\Same Z G',?_,?_⟩
 ·refine ⟨_,rfl,lf,_,rfl,.inl (SqL.of hf),_,_,rfl,rfl,_,rfl,?_⟩
  by_cases c3:((fs.length:Nat):Int)<=300
  ·refine bP c3 ?_
   refine ⟨_,rfl,_,rfl,lf,rfl,⟨_,SqL.of hf⟩,fun D hD=>?_⟩
   refine bN (xs:=fs) (fun j HJ=>∃ ys,HJ D = some (.lst ys)/\L2A (StT c (fz HJ D) 6) ys (((rws (evL 6 ts)).map rF).take j)/\Same G7 HJ) ⟨[],af,L2A.nil,ap hD _⟩ ?_ ?_ ?_
   ·rintro j HJ hj ⟨ys,hy,ta,sJ⟩
    exact SqL.of (sJ _ _ hf)
   ·rintro j v HJ hv ⟨ys,hy,ta,sJ⟩
    obtain ⟨x',r,rfl,et,st⟩:=lf2.get hv
    have jl:=(List.getElem?_eq_some_iff.mp hv).1
    have la1:=lf2.1
    have yl:ys.length = j:=by rw [ta.1,List.length_take,List.length_map]; lia
    have et':((rws (evL 6 ts)).map rF)[j]? = some (rF r):=by rw [List.getElem?_map,et]; rfl
    refine ⟨_,rfl,x',4 + dw,zs,rF r,rfl,sJ _ _ (z7 _ _ st),rok r (List.mem_of_getElem? et),fun r' G' hr' tp s1=>?_⟩
    refine ⟨ys,s1 _ _ hy,by lia,_,(show fs.length - (j + 1) < fs.length - j by lia),rfl,(by lia),ys ++ [.ref r'],af,?_,Same.updL (sJ.trans s1) hD⟩
    rw [dJ et',lx]
    exact (ta.mono fun _ _ _ k=>k.same (eP s1)).app (L2A.one (tp.same fun b o e=>by
     obtain ⟨e1,e2⟩:=fg e
     rw [bx (fun z=>by rw [z,hy] at e1; cases e1)]; exact e2))
   rintro H8 ⟨ys,h8,st8,s8⟩
   rw [show fs.length = ((rws (evL 6 ts)).map rF).length by rw [List.length_map]; exact lf2.1,List.take_length] at st8
   have eR:evL 6 ((rws (evL 6 ts)).map rF) = (rws (evL 6 ts)).map some:=evL_rows _
   have eR2:rws ((rws (evL 6 ts)).map some) = rws (evL 6 ts):=rws_some _
   have tok8:∀ t ∈ (rws (evL 6 ts)).map rF,TOk (4 + dw) zs 6 t:=fun t ht=>by
    obtain ⟨r,hr',rfl⟩:=List.mem_map.mp ht
    exact rok r hr'
   have l8:(evL 6 ((rws (evL 6 ts)).map rF)).length<=10000:=by rw [eR,List.length_map]; exact Nat.le_trans (dY _) l5
   refine ⟨_,rfl,D,dd,4 + dw,zs,ys,(rws (evL 6 ts)).map rF,kvs,rfl,h8,st8.mono (fun _ _ _ k=>k.same dg),tok8,l8,zo,w0,w1,s8 _ _ dd7,wz,fun tt dw' mm' cn' ms' Gr h1 h2 h3 h4 h5 _ _ _ sr=>?_⟩
   rw [eR,eR2] at h2 h4
   have zr:=(z7.trans s8).trans sr
   have hf8:=sr _ _ (s8 _ _ hf)
   refine ⟨_,rfl,tt,_,_,_,rfl,rfl,SqT.of h1,rfl,_,rfl,dw',db,_,rfl,rfl,h2,zr _ _ zdb,(kz _ rok).1,_,rfl,cE ?_⟩
   refine ⟨_,rfl,tt,_,_,_,rfl,rfl,SqT.of h1,rfl,_,rfl,?_⟩
   refine nePrs (d:=0) h3 (zr _ _ zm) h4 (zpm.same fun b ys e=>zr _ _ e) (fun x hx=>(gY _ _ _ x hx).2) ?_
   refine ⟨_,rfl,cE ?_⟩
   refine ⟨_,rfl,tt,_,_,_,rfl,rfl,SqT.of h1,rfl,.inr (.inr (.inl ⟨rfl,.inl ⟨_,h5⟩⟩)),cn',_,rfl,rfl,h5,fun rv hrv=>?_⟩
   have sv:=ap hrv (vwV rv cn')
   refine ⟨rv,cn',_,_,rfl,af,sv _ _ h5,jd _,?_⟩
   have sm:=tf ((rws (evL 6 ts)).map some) (fun e he=>by
    obtain ⟨r,hr',rfl⟩:=List.mem_map.mp he
    have:=Rw.k15 (rok r hr').1
    show r.k < 16
    lia) (fun _=>0) 1
   rw [eR,sm,tW]
   exact ⟨_,rfl,lf,_,rfl,.inl (SqL.of (sv _ _ hf8)),rfl,_,rfl,nZ (congrArg V.int (by rw [List.length_map,lf2.1]; lia)) ⟨_,rfl,zr.trans sv⟩⟩
  ·exact aI c3 ⟨_,rfl,z7⟩
 rintro _ G8 ⟨y12,rfl,z8⟩
 refine ⟨_,rfl,ls,rfl,⟨_,SqL.of (z8 _ _ zls)⟩,fun D hD=>?_⟩
 refine bN (xs:=ss) (fun j HJ=>∃ ys,HJ D = some (.lst ys)/\L2A (TpT (fz HJ D) 6) ys (ts.take j)/\Same G8 HJ) ⟨[],af,L2A.nil,ap hD _⟩ ?_ ?_ ?_
 ·rintro j HJ hj ⟨ys,hy,ta,sJ⟩
  exact SqL.of (sJ _ _ (z8 _ _ zls))
 ·rintro j v HJ hv ⟨ys,hy,ta,sJ⟩
  obtain ⟨x',t',rfl,et,st⟩:=zst.get hv
  have jl:=(List.getElem?_eq_some_iff.mp hv).1
  have la1:=zst.1
  have yl:ys.length = j:=by rw [ta.1,List.length_take]; lia
  have sl:ss.length<=100:=by rw [zst.1]; exact t100
  obtain ⟨a',C',dx',fs',qs',sp',e1,e2,e3,e4,e5⟩:=rK (E:=E0) (fun i hi=>(MT i hi).mono (show 2<=8 by decide)) MU (st.same (z8.trans sJ)) (tok t' (List.mem_of_getElem? et)) (Q:=fun y H2=>∃ zs',H2 D = some (.lst zs')/\zs'.length < sizeLine/\∃ m',m' < ss.length - j/\m' = ss.length - (j + 1)/\j + 1<=ss.length/\∃ ys_1,upd H2 D (.lst (zs' ++ [y])) D = some (.lst ys_1)/\L2A (TpT (fz (upd H2 D (.lst (zs' ++ [y]))) D) 6) ys_1 (ts.take (j + 1))/\Same G8 (upd H2 D (.lst (zs' ++ [y])))) (fun r G' hr' tp s1=>by
   refine ⟨ys,s1 _ _ hy,by lia,_,(show ss.length - (j + 1) < ss.length - j by lia),rfl,(by lia),ys ++ [.ref r],af,?_,Same.updL (sJ.trans s1) hD⟩
   rw [dJ et,lx]
   exact (ta.mono fun _ _ _ k=>k.same (eP s1)).app (L2A.one (tp.same fun b o e=>by
    obtain ⟨e1,e2⟩:=fg e
    rw [bx (fun z=>by rw [z,hy] at e1; cases e1)]; exact e2)))
  exact ⟨_,rfl,a',C',dx',fs',qs',sp',e1,e2,e3,e4,e5⟩
 rintro H9 ⟨ys,h9,tp9,s9⟩
 rw [zst.1,List.take_length] at tp9
 have z9:=z8.trans s9
 refine ⟨_,rfl,D,lr,ys,xs,fun _=>true,rfl,rfl,SqL.of h9,SqL.of (z9 _ _ zlr),by rw [tp9.1,zla.1],fun j hj=>?_,?_⟩
 ·have hy:ys[j]? = some (ys[j]'hj):=List.getElem?_eq_getElem _
  have hj2:j < xs.length:=by rw [zla.1,<- tp9.1]; exact hj
  have hx:xs[j]? = some (xs[j]'hj2):=List.getElem?_eq_getElem _
  obtain ⟨a1,t1,ea,et1,k1⟩:=tp9.get hy
  obtain ⟨a2,t2,eb,et2,k2⟩:=zla.get hx
  rw [et1] at et2
  cases et2
  rw [List.getD_eq_getElem?_getD,List.getD_eq_getElem?_getD,hy,hx,ea,eb]
  exact eqTp (k1.same dg) (k2.same z9)
 rw [aT]
 refine ⟨_,rfl,cE ?_⟩
 refine ⟨_,rfl,_,rfl,_,rfl,ls,dh,4 + dw,zs,ss,ts,kvs,rfl,z9 _ _ zls,zst.mono (fun _ _ _ k=>k.same z9),tok,l5,zo,w0,w1,(z9 _ _ zdh),wz,fun tt dw' mm' cn' ms' Gr h1 h2 h3 h4 h5 _ _ _ sr=>?_⟩
 have zr:=z9.trans sr
 exact ⟨_,rfl,_,rfl,_,rfl,tt,db,m,cn,dw',mm',cn',_,ck,ms',ms,_,_,rfl,h1,h2,zr _ _ zdb,(kz _ rok).1,(kz _ rok).2,h3,h4,zr _ _ zm,zpm.same (fun b ys e=>zr _ _ e),pl,gY _ _ _,h5,zr _ _ zcn,ct.it,(fun i hi=>(ct.ct i hi).trans (by show _ = (0:Int) + 1 * _; lia)),fun Gs ss'=>q Gs⟩
theorem jC {P:Program} {w:World} {K:Frag} {mg:Str->Option Value} {base:Heap} {j k:Nat} {x:Str} {ps:List Str} {sp:Sp} (h:Has P w K mg base j x ps sp) (i:j<=k):Has P w K mg base k x ps sp:=let ⟨f,fd,a,b,d,e⟩:=h.ex; ⟨f,fd,a.mono i,b,d,e⟩
end
theorem all_mk {l:PySem.W.OpenLaw} {w:World} {K:Frag} {h:Heap} {mg:Str->Option Value} {fa f1 f2 f3 f4 f5 f6 f7 f8 f9 f10 f11 f12 f13 f14 f15 f16 f17 f18 f19 f20 f21 f22 f23 f24 f25 f26 f27 f28 f29 f30 f31 f32 f33 f34 f35 f36 f37 f38 f39 f40 f41 f42 f43 f44 f45 f46 f47 f48 f49 f50 f51 f52 f53 f54 f55 f56 f57 f58 f59 f60 f61 f62 f63 f64 f65 f66 f67 f68 f69 f70 f71 f72 f73 f74 f75 f76 f77 f78 f79 f80 f81 f82 f83 f84 f85 f86 f87 f88 f89 f90 f91 f92 f93 f94 f95 f96 f97 f98 f99 f100 f101 f102 f103 f104 f105 f106 f107 f108 c_Set c_Copy c_Sum c_Gap c_Low c_High c_Left c_Right c_Slide c_And c_Or c_Unlike c_Under c_Pick c_Mark c_Turns c_Step c_NoPrices c_ROW_WORDS c_MARKS:Addr} (X:K.In h) (G:h.Ns mainGlobals mg) (hfa:mg "law" = some (.ref fa))
  {od108 an108:Option Addr} {sl108:Array (Option Value)} {oc108 kV108 dc108 pm108 cd108 ct108:Value}
  (a1:findIn K (.ref c_NoPrices) "__init__" = some (some (.ref f1))) (i1:isFn K (.ref f1) = true)
  (l1:FB K "__init__" "NoPrices.__init__" bQ f1)
  (a2:nsIn K mainGlobals "is_whole" = some (some (.ref f2)))
  (l2:FB K "is_whole" "is_whole" iK f2)
  (a3:nsIn K mainGlobals "is_between" = some (some (.ref f3)))
  (l3:FB K "is_between" "is_between" fo f3)
  (a4:nsIn K mainGlobals "need_width" = some (some (.ref f4)))
  (l4:FB K "need_width" "need_width" fu f4)
  (a5:nsIn K mainGlobals "is_word" = some (some (.ref f5)))
  (l5:FB K "is_word" "is_word" jh f5)
  (a6:nsIn K mainGlobals "sum_of" = some (some (.ref f6)))
  (l6:FB K "sum_of" "sum_of" ma f6)
  (a7:nsIn K mainGlobals "gap_of" = some (some (.ref f7)))
  (l7:FB K "gap_of" "gap_of" kO f7)
  (a8:nsIn K mainGlobals "low_product" = some (some (.ref f8)))
  (l8:FB K "low_product" "low_product" eA f8)
  (a9:nsIn K mainGlobals "high_product" = some (some (.ref f9)))
  (l9:FB K "high_product" "high_product" dj f9)
  (a10:nsIn K mainGlobals "left" = some (some (.ref f10)))
  (l10:FB K "left" "left" sh f10)
  (a11:nsIn K mainGlobals "right" = some (some (.ref f11)))
  (l11:FB K "right" "right" pM f11)
  (a12:nsIn K mainGlobals "slide" = some (some (.ref f12)))
  (l12:FB K "slide" "slide" oA f12)
  (a13:nsIn K mainGlobals "row_words" = some (some (.ref f13)))
  (l13:FB K "row_words" "row_words" gz f13)
  (a14:nsIn K mainGlobals "is_register" = some (some (.ref f14)))
  (l14:FB K "is_register" "is_register" dR f14)
  (a15:nsIn K mainGlobals "are_registers" = some (some (.ref f15)))
  (l15:FB K "are_registers" "are_registers" cP f15)
  (a16:findIn K (.ref c_Set) "word" = some (some (.ref f16))) (i16:isFn K (.ref f16) = true)
  (l16:FB K "word" "Set.word" iA f16)
  (a17:findIn K (.ref c_Copy) "word" = some (some (.ref f17))) (i17:isFn K (.ref f17) = true)
  (l17:FB K "word" "Copy.word" gJ f17)
  (a18:findIn K (.ref c_Sum) "word" = some (some (.ref f18))) (i18:isFn K (.ref f18) = true)
  (l18:FB K "word" "Sum.word" iE f18)
  (a19:findIn K (.ref c_Gap) "word" = some (some (.ref f19))) (i19:isFn K (.ref f19) = true)
  (l19:FB K "word" "Gap.word" iq f19)
  (a20:findIn K (.ref c_Low) "word" = some (some (.ref f20))) (i20:isFn K (.ref f20) = true)
  (l20:FB K "word" "Low.word" il f20)
  (a21:findIn K (.ref c_High) "word" = some (some (.ref f21))) (i21:isFn K (.ref f21) = true)
  (l21:FB K "word" "High.word" gO f21)
  (a22:findIn K (.ref c_Left) "word" = some (some (.ref f22))) (i22:isFn K (.ref f22) = true)
  (l22:FB K "word" "Left.word" fY f22)
  (a23:findIn K (.ref c_Right) "word" = some (some (.ref f23))) (i23:isFn K (.ref f23) = true)
  (l23:FB K "word" "Right.word" eJ f23)
  (a24:findIn K (.ref c_Slide) "word" = some (some (.ref f24))) (i24:isFn K (.ref f24) = true)
  (l24:FB K "word" "Slide.word" fj f24)
  (a25:findIn K (.ref c_And) "word" = some (some (.ref f25))) (i25:isFn K (.ref f25) = true)
  (l25:FB K "word" "And.word" iw f25)
  (a26:findIn K (.ref c_Or) "word" = some (some (.ref f26))) (i26:isFn K (.ref f26) = true)
  (l26:FB K "word" "Or.word" jK f26)
  (a27:findIn K (.ref c_Unlike) "word" = some (some (.ref f27))) (i27:isFn K (.ref f27) = true)
  (l27:FB K "word" "Unlike.word" d6 f27)
  (a28:findIn K (.ref c_Under) "word" = some (some (.ref f28))) (i28:isFn K (.ref f28) = true)
  (l28:FB K "word" "Under.word" fb f28)
  (a29:findIn K (.ref c_Pick) "word" = some (some (.ref f29))) (i29:isFn K (.ref f29) = true)
  (l29:FB K "word" "Pick.word" gj f29)
  (a30:findIn K (.ref c_Mark) "word" = some (some (.ref f30))) (i30:isFn K (.ref f30) = true)
  (l30:FB K "word" "Mark.word" gA f30)
  (a31:findIn K (.ref c_Set) "__init__" = some (some (.ref f31))) (i31:isFn K (.ref f31) = true)
  (l31:FB K "__init__" "Set.__init__" dz f31)
  (a32:findIn K (.ref c_Copy) "__init__" = some (some (.ref f32))) (i32:isFn K (.ref f32) = true)
  (l32:FB K "__init__" "Copy.__init__" cO f32)
  (a33:findIn K (.ref c_Sum) "__init__" = some (some (.ref f33))) (i33:isFn K (.ref f33) = true) (h_Gap___init__:findIn K (.ref c_Gap) "__init__" = some (some (.ref f33)))
  (l33:FB K "__init__" "Carrying.__init__" bO f33)
  (a34:findIn K (.ref c_Low) "__init__" = some (some (.ref f34))) (i34:isFn K (.ref f34) = true) (h_High___init__:findIn K (.ref c_High) "__init__" = some (some (.ref f34))) (h_And___init__:findIn K (.ref c_And) "__init__" = some (some (.ref f34))) (h_Or___init__:findIn K (.ref c_Or) "__init__" = some (some (.ref f34))) (h_Unlike___init__:findIn K (.ref c_Unlike) "__init__" = some (some (.ref f34))) (h_Under___init__:findIn K (.ref c_Under) "__init__" = some (some (.ref f34)))
  (l34:FB K "__init__" "Joining.__init__" bX f34)
  (a35:findIn K (.ref c_Left) "__init__" = some (some (.ref f35))) (i35:isFn K (.ref f35) = true) (h_Right___init__:findIn K (.ref c_Right) "__init__" = some (some (.ref f35))) (h_Slide___init__:findIn K (.ref c_Slide) "__init__" = some (some (.ref f35)))
  (l35:FB K "__init__" "Moving.__init__" ce f35)
  (a36:findIn K (.ref c_Pick) "__init__" = some (some (.ref f36))) (i36:isFn K (.ref f36) = true)
  (l36:FB K "__init__" "Pick.__init__" cW f36)
  (a37:findIn K (.ref c_Mark) "__init__" = some (some (.ref f37))) (i37:isFn K (.ref f37) = true)
  (l37:FB K "__init__" "Mark.__init__" cS f37)
  (a38:findIn K (.ref c_Set) "told" = some (some (.ref f38))) (i38:isFn K (.ref f38) = true)
  (l38:FB K "told" "Set.told" im f38)
  (a39:findIn K (.ref c_Copy) "told" = some (some (.ref f39))) (i39:isFn K (.ref f39) = true)
  (l39:FB K "told" "Copy.told" gx f39)
  (a40:findIn K (.ref c_Sum) "told" = some (some (.ref f40))) (i40:isFn K (.ref f40) = true) (h_Gap_told:findIn K (.ref c_Gap) "told" = some (some (.ref f40)))
  (l40:FB K "told" "Carrying.told" cR f40)
  (a41:findIn K (.ref c_Low) "told" = some (some (.ref f41))) (i41:isFn K (.ref f41) = true) (h_High_told:findIn K (.ref c_High) "told" = some (some (.ref f41))) (h_And_told:findIn K (.ref c_And) "told" = some (some (.ref f41))) (h_Or_told:findIn K (.ref c_Or) "told" = some (some (.ref f41))) (h_Unlike_told:findIn K (.ref c_Unlike) "told" = some (some (.ref f41))) (h_Under_told:findIn K (.ref c_Under) "told" = some (some (.ref f41)))
  (l41:FB K "told" "Joining.told" dG f41)
  (a42:findIn K (.ref c_Left) "told" = some (some (.ref f42))) (i42:isFn K (.ref f42) = true) (h_Right_told:findIn K (.ref c_Right) "told" = some (some (.ref f42))) (h_Slide_told:findIn K (.ref c_Slide) "told" = some (some (.ref f42)))
  (l42:FB K "told" "Moving.told" d9 f42)
  (a43:findIn K (.ref c_Pick) "told" = some (some (.ref f43))) (i43:isFn K (.ref f43) = true)
  (l43:FB K "told" "Pick.told" gE f43)
  (a44:findIn K (.ref c_Mark) "told" = some (some (.ref f44))) (i44:isFn K (.ref f44) = true)
  (l44:FB K "told" "Mark.told" gB f44)
  (a45:findIn K (.ref c_Sum) "reckoned" = some (some (.ref f45))) (i45:isFn K (.ref f45) = true)
  (l45:FB K "reckoned" "Sum.reckoned" du f45)
  (a46:findIn K (.ref c_Gap) "reckoned" = some (some (.ref f46))) (i46:isFn K (.ref f46) = true)
  (l46:FB K "reckoned" "Gap.reckoned" di f46)
  (a47:findIn K (.ref c_Low) "reckoned" = some (some (.ref f47))) (i47:isFn K (.ref f47) = true)
  (l47:FB K "reckoned" "Low.reckoned" dE f47)
  (a48:findIn K (.ref c_High) "reckoned" = some (some (.ref f48))) (i48:isFn K (.ref f48) = true)
  (l48:FB K "reckoned" "High.reckoned" cQ f48)
  (a49:findIn K (.ref c_And) "reckoned" = some (some (.ref f49))) (i49:isFn K (.ref f49) = true)
  (l49:FB K "reckoned" "And.reckoned" dF f49)
  (a50:findIn K (.ref c_Or) "reckoned" = some (some (.ref f50))) (i50:isFn K (.ref f50) = true)
  (l50:FB K "reckoned" "Or.reckoned" dW f50)
  (a51:findIn K (.ref c_Unlike) "reckoned" = some (some (.ref f51))) (i51:isFn K (.ref f51) = true)
  (l51:FB K "reckoned" "Unlike.reckoned" ci f51)
  (a52:findIn K (.ref c_Under) "reckoned" = some (some (.ref f52))) (i52:isFn K (.ref f52) = true)
  (l52:FB K "reckoned" "Under.reckoned" cB f52)
  (a53:findIn K (.ref c_Left) "moved" = some (some (.ref f53))) (i53:isFn K (.ref f53) = true)
  (l53:FB K "moved" "Left.moved" eU f53)
  (a54:findIn K (.ref c_Right) "moved" = some (some (.ref f54))) (i54:isFn K (.ref f54) = true)
  (l54:FB K "moved" "Right.moved" dQ f54)
  (a55:findIn K (.ref c_Slide) "moved" = some (some (.ref f55))) (i55:isFn K (.ref f55) = true)
  (l55:FB K "moved" "Slide.moved" d8 f55)
  (a56:findIn K (.ref c_Set) "good_at" = some (some (.ref f56))) (i56:isFn K (.ref f56) = true)
  (l56:FB K "good_at" "Set.good_at" dU f56)
  (a57:findIn K (.ref c_Copy) "good_at" = some (some (.ref f57))) (i57:isFn K (.ref f57) = true)
  (l57:FB K "good_at" "Copy.good_at" dC f57)
  (a58:findIn K (.ref c_Sum) "good_at" = some (some (.ref f58))) (i58:isFn K (.ref f58) = true) (h_Gap_good_at:findIn K (.ref c_Gap) "good_at" = some (some (.ref f58)))
  (l58:FB K "good_at" "Carrying.good_at" bV f58)
  (a59:findIn K (.ref c_Low) "good_at" = some (some (.ref f59))) (i59:isFn K (.ref f59) = true) (h_High_good_at:findIn K (.ref c_High) "good_at" = some (some (.ref f59))) (h_And_good_at:findIn K (.ref c_And) "good_at" = some (some (.ref f59))) (h_Or_good_at:findIn K (.ref c_Or) "good_at" = some (some (.ref f59))) (h_Unlike_good_at:findIn K (.ref c_Unlike) "good_at" = some (some (.ref f59))) (h_Under_good_at:findIn K (.ref c_Under) "good_at" = some (some (.ref f59)))
  (l59:FB K "good_at" "Joining.good_at" cm f59)
  (a60:findIn K (.ref c_Left) "good_at" = some (some (.ref f60))) (i60:isFn K (.ref f60) = true) (h_Right_good_at:findIn K (.ref c_Right) "good_at" = some (some (.ref f60))) (h_Slide_good_at:findIn K (.ref c_Slide) "good_at" = some (some (.ref f60)))
  (l60:FB K "good_at" "Moving.good_at" cw f60)
  (a61:findIn K (.ref c_Pick) "good_at" = some (some (.ref f61))) (i61:isFn K (.ref f61) = true)
  (l61:FB K "good_at" "Pick.good_at" dA f61)
  (a62:findIn K (.ref c_Mark) "good_at" = some (some (.ref f62))) (i62:isFn K (.ref f62) = true)
  (l62:FB K "good_at" "Mark.good_at" dB f62)
  (a63:findIn K (.ref c_Set) "act" = some (some (.ref f63))) (i63:isFn K (.ref f63) = true)
  (l63:FB K "act" "Set.act" jy f63)
  (a64:findIn K (.ref c_Copy) "act" = some (some (.ref f64))) (i64:isFn K (.ref f64) = true)
  (l64:FB K "act" "Copy.act" ij f64)
  (a65:findIn K (.ref c_Sum) "act" = some (some (.ref f65))) (i65:isFn K (.ref f65) = true) (h_Gap_act:findIn K (.ref c_Gap) "act" = some (some (.ref f65)))
  (l65:FB K "act" "Carrying.act" dy f65)
  (a66:findIn K (.ref c_Low) "act" = some (some (.ref f66))) (i66:isFn K (.ref f66) = true) (h_High_act:findIn K (.ref c_High) "act" = some (some (.ref f66))) (h_And_act:findIn K (.ref c_And) "act" = some (some (.ref f66))) (h_Or_act:findIn K (.ref c_Or) "act" = some (some (.ref f66))) (h_Unlike_act:findIn K (.ref c_Unlike) "act" = some (some (.ref f66))) (h_Under_act:findIn K (.ref c_Under) "act" = some (some (.ref f66)))
  (l66:FB K "act" "Joining.act" eu f66)
  (a67:findIn K (.ref c_Left) "act" = some (some (.ref f67))) (i67:isFn K (.ref f67) = true) (h_Right_act:findIn K (.ref c_Right) "act" = some (some (.ref f67))) (h_Slide_act:findIn K (.ref c_Slide) "act" = some (some (.ref f67)))
  (l67:FB K "act" "Moving.act" fA f67)
  (a68:findIn K (.ref c_Pick) "act" = some (some (.ref f68))) (i68:isFn K (.ref f68) = true)
  (l68:FB K "act" "Pick.act" ii f68)
  (a69:findIn K (.ref c_Mark) "act" = some (some (.ref f69))) (i69:isFn K (.ref f69) = true)
  (l69:FB K "act" "Mark.act" ip f69)
  (a70:findIn K (.ref c_Turns) "word" = some (some (.ref f70))) (i70:isFn K (.ref f70) = true)
  (l70:FB K "word" "Turns.word" fq f70)
  (a71:findIn K (.ref c_Turns) "__init__" = some (some (.ref f71))) (i71:isFn K (.ref f71) = true)
  (l71:FB K "__init__" "Turns.__init__" cz f71)
  (a72:findIn K (.ref c_Turns) "told" = some (some (.ref f72))) (i72:isFn K (.ref f72) = true)
  (l72:FB K "told" "Turns.told" fh f72)
  (a73:findIn K (.ref c_Turns) "good_at" = some (some (.ref f73))) (i73:isFn K (.ref f73) = true)
  (l73:FB K "good_at" "Turns.good_at" cT f73)
  (a74:findIn K (.ref c_Turns) "act" = some (some (.ref f74))) (i74:isFn K (.ref f74) = true)
  (l74:FB K "act" "Turns.act" gg f74)
  (a75:nsIn K mainGlobals "is_good" = some (some (.ref f75)))
  (l75:FB K "is_good" "is_good" j2 f75)
  (a76:nsIn K mainGlobals "place_behind" = some (some (.ref f76)))
  (l76:FB K "place_behind" "place_behind" dm f76)
  (a77:nsIn K mainGlobals "count_words" = some (some (.ref f77)))
  (l77:FB K "count_words" "count_words" dP f77)
  (a78:nsIn K mainGlobals "need_steps" = some (some (.ref f78)))
  (l78:FB K "need_steps" "need_steps" eS f78)
  (a79:nsIn K mainGlobals "check_steps" = some (some (.ref f79)))
  (l79:FB K "check_steps" "check_steps" dZ f79)
  (a80:nsIn K mainGlobals "need_registers" = some (some (.ref f80)))
  (l80:FB K "need_registers" "need_registers" cF f80)
  (a81:nsIn K mainGlobals "run_steps" = some (some (.ref f81)))
  (l81:FB K "run_steps" "run_steps" gS f81)
  (a82:nsIn K mainGlobals "need_prices" = some (some (.ref f82)))
  (l82:FB K "need_prices" "need_prices" eg f82)
  (a83:nsIn K mainGlobals "cost_of" = some (some (.ref f83)))
  (l83:FB K "cost_of" "cost_of" hU f83)
  (a84:nsIn K mainGlobals "_law_cell" = some (some (.ref f84)))
  (l84:FB K "_law_cell" "_law_cell" gG f84)
  (a85:nsIn K mainGlobals "_law_begun" = some (some (.ref f85)))
  (l85:FB K "_law_begun" "_law_begun" eX f85)
  (a86:nsIn K mainGlobals "_law_draw" = some (some (.ref f86)))
  (l86:FB K "_law_draw" "_law_draw" gL f86)
  (a87:nsIn K mainGlobals "_law_whole" = some (some (.ref f87)))
  (l87:FB K "_law_whole" "_law_whole" fB f87)
  (a88:nsIn K mainGlobals "_law_word" = some (some (.ref f88)))
  (l88:FB K "_law_word" "_law_word" gq f88)
  (a89:nsIn K mainGlobals "_law_names" = some (some (.ref f89)))
  (l89:FB K "_law_names" "_law_names" fD f89)
  (a90:nsIn K mainGlobals "_law_name" = some (some (.ref f90)))
  (l90:FB K "_law_name" "_law_name" gU f90)
  (a91:nsIn K mainGlobals "_law_sorts" = some (some (.ref f91)))
  (l91:FB K "_law_sorts" "_law_sorts" fc f91)
  (a92:nsIn K mainGlobals "_law_row" = some (some (.ref f92)))
  (l92:FB K "_law_row" "_law_row" iC f92)
  (a93:nsIn K mainGlobals "_law_shut" = some (some (.ref f93)))
  (l93:FB K "_law_shut" "_law_shut" gK f93)
  (a94:nsIn K mainGlobals "_law_tree" = some (some (.ref f94)))
  (l94:FB K "_law_tree" "_law_tree" gs f94)
  (a95:nsIn K mainGlobals "_law_made_pair" = some (some (.ref f95)))
  (l95:FB K "_law_made_pair" "_law_made_pair" cA f95)
  (a96:nsIn K mainGlobals "_law_made" = some (some (.ref f96)))
  (l96:FB K "_law_made" "_law_made" gH f96)
  (a97:nsIn K mainGlobals "_law_pair_word" = some (some (.ref f97)))
  (l97:FB K "_law_pair_word" "_law_pair_word" cx f97)
  (a98:nsIn K mainGlobals "_law_moved" = some (some (.ref f98)))
  (l98:FB K "_law_moved" "_law_moved" eO f98)
  (a99:nsIn K mainGlobals "_law_done" = some (some (.ref f99)))
  (l99:FB K "_law_done" "_law_done" gR f99)
  (a100:nsIn K mainGlobals "_law_words" = some (some (.ref f100)))
  (l100:FB K "_law_words" "_law_words" eV f100)
  (a101:nsIn K mainGlobals "_law_same" = some (some (.ref f101)))
  (l101:FB K "_law_same" "_law_same" gF f101)
  (a102:nsIn K mainGlobals "_law_run" = some (some (.ref f102)))
  (l102:FB K "_law_run" "_law_run" ir f102)
  (a103:nsIn K mainGlobals "_law_flat" = some (some (.ref f103)))
  (l103:FB K "_law_flat" "_law_flat" gk f103)
  (a104:nsIn K mainGlobals "_law_costs" = some (some (.ref f104)))
  (l104:FB K "_law_costs" "_law_costs" fG f104)
  (a105:nsIn K mainGlobals "_law_dear" = some (some (.ref f105)))
  (l105:FB K "_law_dear" "_law_dear" fW f105)
  (a106:nsIn K mainGlobals "_law_counted" = some (some (.ref f106)))
  (l106:FB K "_law_counted" "_law_counted" dv f106)
  (a107:nsIn K mainGlobals "_law_held" = some (some (.ref f107)))
  (l107:FB K "_law_held" "_law_held" gQ f107)
  (a108:nsIn K mainGlobals "law" = some (some (.ref f108)))
  (l108:K.lookup f108 = some ⟨oc108,od108,.func (fnOf "law" "law" (fe lh) (dH lh) (ak lh) .none kV108 dc108 pm108 an108 cd108 ct108),sl108⟩) (c108:codeIn K cd108 "law" = true) (k108:keepIn K (.ref f108) = true)
  (aC_Set:nsIn K mainGlobals "Set" = some (some (.ref c_Set))) (pg_Set:plainGet K c_Set Str.empty = true) (hd_Set:hasDictIn K c_Set = true) (po_Set:plainOver K c_Set = true) (sa_Set:findIn K (.ref c_Set) "__setattr__" = some (some (.builtin "object.__setattr__")))
  (mk_Set:makesIn K c_Set = true) (kc_Set:keepIn K (.ref c_Set) = true)
  (na_Set_goal:findIn K (.ref c_Set) "goal" = some none)
  (na_Set_bits:findIn K (.ref c_Set) "bits" = some none)
  (aC_Copy:nsIn K mainGlobals "Copy" = some (some (.ref c_Copy))) (pg_Copy:plainGet K c_Copy Str.empty = true) (hd_Copy:hasDictIn K c_Copy = true) (po_Copy:plainOver K c_Copy = true) (sa_Copy:findIn K (.ref c_Copy) "__setattr__" = some (some (.builtin "object.__setattr__")))
  (mk_Copy:makesIn K c_Copy = true) (kc_Copy:keepIn K (.ref c_Copy) = true)
  (na_Copy_goal:findIn K (.ref c_Copy) "goal" = some none)
  (na_Copy_one:findIn K (.ref c_Copy) "one" = some none)
  (aC_Sum:nsIn K mainGlobals "Sum" = some (some (.ref c_Sum))) (pg_Sum:plainGet K c_Sum Str.empty = true) (hd_Sum:hasDictIn K c_Sum = true) (po_Sum:plainOver K c_Sum = true) (sa_Sum:findIn K (.ref c_Sum) "__setattr__" = some (some (.builtin "object.__setattr__")))
  (mk_Sum:makesIn K c_Sum = true) (kc_Sum:keepIn K (.ref c_Sum) = true)
  (na_Sum_goal:findIn K (.ref c_Sum) "goal" = some none)
  (na_Sum_carry:findIn K (.ref c_Sum) "carry" = some none)
  (na_Sum_one:findIn K (.ref c_Sum) "one" = some none)
  (na_Sum_other:findIn K (.ref c_Sum) "other" = some none)
  (aC_Gap:nsIn K mainGlobals "Gap" = some (some (.ref c_Gap))) (pg_Gap:plainGet K c_Gap Str.empty = true) (hd_Gap:hasDictIn K c_Gap = true) (po_Gap:plainOver K c_Gap = true) (sa_Gap:findIn K (.ref c_Gap) "__setattr__" = some (some (.builtin "object.__setattr__")))
  (mk_Gap:makesIn K c_Gap = true) (kc_Gap:keepIn K (.ref c_Gap) = true)
  (na_Gap_goal:findIn K (.ref c_Gap) "goal" = some none)
  (na_Gap_carry:findIn K (.ref c_Gap) "carry" = some none)
  (na_Gap_one:findIn K (.ref c_Gap) "one" = some none)
  (na_Gap_other:findIn K (.ref c_Gap) "other" = some none)
  (aC_Low:nsIn K mainGlobals "Low" = some (some (.ref c_Low))) (pg_Low:plainGet K c_Low Str.empty = true) (hd_Low:hasDictIn K c_Low = true) (po_Low:plainOver K c_Low = true) (sa_Low:findIn K (.ref c_Low) "__setattr__" = some (some (.builtin "object.__setattr__")))
  (mk_Low:makesIn K c_Low = true) (kc_Low:keepIn K (.ref c_Low) = true)
  (na_Low_goal:findIn K (.ref c_Low) "goal" = some none)
  (na_Low_one:findIn K (.ref c_Low) "one" = some none)
  (na_Low_other:findIn K (.ref c_Low) "other" = some none)
  (aC_High:nsIn K mainGlobals "High" = some (some (.ref c_High))) (pg_High:plainGet K c_High Str.empty = true) (hd_High:hasDictIn K c_High = true) (po_High:plainOver K c_High = true) (sa_High:findIn K (.ref c_High) "__setattr__" = some (some (.builtin "object.__setattr__")))
  (mk_High:makesIn K c_High = true) (kc_High:keepIn K (.ref c_High) = true)
  (na_High_goal:findIn K (.ref c_High) "goal" = some none)
  (na_High_one:findIn K (.ref c_High) "one" = some none)
  (na_High_other:findIn K (.ref c_High) "other" = some none)
  (aC_Left:nsIn K mainGlobals "Left" = some (some (.ref c_Left))) (pg_Left:plainGet K c_Left Str.empty = true) (hd_Left:hasDictIn K c_Left = true) (po_Left:plainOver K c_Left = true) (sa_Left:findIn K (.ref c_Left) "__setattr__" = some (some (.builtin "object.__setattr__")))
  (mk_Left:makesIn K c_Left = true) (kc_Left:keepIn K (.ref c_Left) = true)
  (na_Left_goal:findIn K (.ref c_Left) "goal" = some none)
  (na_Left_one:findIn K (.ref c_Left) "one" = some none)
  (na_Left_k:findIn K (.ref c_Left) "k" = some none)
  (aC_Right:nsIn K mainGlobals "Right" = some (some (.ref c_Right))) (pg_Right:plainGet K c_Right Str.empty = true) (hd_Right:hasDictIn K c_Right = true) (po_Right:plainOver K c_Right = true) (sa_Right:findIn K (.ref c_Right) "__setattr__" = some (some (.builtin "object.__setattr__")))
  (mk_Right:makesIn K c_Right = true) (kc_Right:keepIn K (.ref c_Right) = true)
  (na_Right_goal:findIn K (.ref c_Right) "goal" = some none)
  (na_Right_one:findIn K (.ref c_Right) "one" = some none)
  (na_Right_k:findIn K (.ref c_Right) "k" = some none)
  (aC_Slide:nsIn K mainGlobals "Slide" = some (some (.ref c_Slide))) (pg_Slide:plainGet K c_Slide Str.empty = true) (hd_Slide:hasDictIn K c_Slide = true) (po_Slide:plainOver K c_Slide = true) (sa_Slide:findIn K (.ref c_Slide) "__setattr__" = some (some (.builtin "object.__setattr__")))
  (mk_Slide:makesIn K c_Slide = true) (kc_Slide:keepIn K (.ref c_Slide) = true)
  (na_Slide_goal:findIn K (.ref c_Slide) "goal" = some none)
  (na_Slide_one:findIn K (.ref c_Slide) "one" = some none)
  (na_Slide_k:findIn K (.ref c_Slide) "k" = some none)
  (aC_And:nsIn K mainGlobals "And" = some (some (.ref c_And))) (pg_And:plainGet K c_And Str.empty = true) (hd_And:hasDictIn K c_And = true) (po_And:plainOver K c_And = true) (sa_And:findIn K (.ref c_And) "__setattr__" = some (some (.builtin "object.__setattr__")))
  (mk_And:makesIn K c_And = true) (kc_And:keepIn K (.ref c_And) = true)
  (na_And_goal:findIn K (.ref c_And) "goal" = some none)
  (na_And_one:findIn K (.ref c_And) "one" = some none)
  (na_And_other:findIn K (.ref c_And) "other" = some none)
  (aC_Or:nsIn K mainGlobals "Or" = some (some (.ref c_Or))) (pg_Or:plainGet K c_Or Str.empty = true) (hd_Or:hasDictIn K c_Or = true) (po_Or:plainOver K c_Or = true) (sa_Or:findIn K (.ref c_Or) "__setattr__" = some (some (.builtin "object.__setattr__")))
  (mk_Or:makesIn K c_Or = true) (kc_Or:keepIn K (.ref c_Or) = true)
  (na_Or_goal:findIn K (.ref c_Or) "goal" = some none)
  (na_Or_one:findIn K (.ref c_Or) "one" = some none)
  (na_Or_other:findIn K (.ref c_Or) "other" = some none)
  (aC_Unlike:nsIn K mainGlobals "Unlike" = some (some (.ref c_Unlike))) (pg_Unlike:plainGet K c_Unlike Str.empty = true) (hd_Unlike:hasDictIn K c_Unlike = true) (po_Unlike:plainOver K c_Unlike = true) (sa_Unlike:findIn K (.ref c_Unlike) "__setattr__" = some (some (.builtin "object.__setattr__")))
  (mk_Unlike:makesIn K c_Unlike = true) (kc_Unlike:keepIn K (.ref c_Unlike) = true)
  (na_Unlike_goal:findIn K (.ref c_Unlike) "goal" = some none)
  (na_Unlike_one:findIn K (.ref c_Unlike) "one" = some none)
  (na_Unlike_other:findIn K (.ref c_Unlike) "other" = some none)
  (aC_Under:nsIn K mainGlobals "Under" = some (some (.ref c_Under))) (pg_Under:plainGet K c_Under Str.empty = true) (hd_Under:hasDictIn K c_Under = true) (po_Under:plainOver K c_Under = true) (sa_Under:findIn K (.ref c_Under) "__setattr__" = some (some (.builtin "object.__setattr__")))
  (mk_Under:makesIn K c_Under = true) (kc_Under:keepIn K (.ref c_Under) = true)
  (na_Under_goal:findIn K (.ref c_Under) "goal" = some none)
  (na_Under_one:findIn K (.ref c_Under) "one" = some none)
  (na_Under_other:findIn K (.ref c_Under) "other" = some none)
  (aC_Pick:nsIn K mainGlobals "Pick" = some (some (.ref c_Pick))) (pg_Pick:plainGet K c_Pick Str.empty = true) (hd_Pick:hasDictIn K c_Pick = true) (po_Pick:plainOver K c_Pick = true) (sa_Pick:findIn K (.ref c_Pick) "__setattr__" = some (some (.builtin "object.__setattr__")))
  (mk_Pick:makesIn K c_Pick = true) (kc_Pick:keepIn K (.ref c_Pick) = true)
  (na_Pick_goal:findIn K (.ref c_Pick) "goal" = some none)
  (na_Pick_by:findIn K (.ref c_Pick) "by" = some none)
  (na_Pick_one:findIn K (.ref c_Pick) "one" = some none)
  (na_Pick_other:findIn K (.ref c_Pick) "other" = some none)
  (aC_Mark:nsIn K mainGlobals "Mark" = some (some (.ref c_Mark))) (pg_Mark:plainGet K c_Mark Str.empty = true) (hd_Mark:hasDictIn K c_Mark = true) (po_Mark:plainOver K c_Mark = true) (sa_Mark:findIn K (.ref c_Mark) "__setattr__" = some (some (.builtin "object.__setattr__")))
  (mk_Mark:makesIn K c_Mark = true) (kc_Mark:keepIn K (.ref c_Mark) = true)
  (na_Mark_line:findIn K (.ref c_Mark) "line" = some none)
  (na_Mark_mark:findIn K (.ref c_Mark) "mark" = some none)
  (na_Mark_by:findIn K (.ref c_Mark) "by" = some none)
  (aC_Turns:nsIn K mainGlobals "Turns" = some (some (.ref c_Turns))) (pg_Turns:plainGet K c_Turns Str.empty = true) (hd_Turns:hasDictIn K c_Turns = true) (po_Turns:plainOver K c_Turns = true) (sa_Turns:findIn K (.ref c_Turns) "__setattr__" = some (some (.builtin "object.__setattr__")))
  (mk_Turns:makesIn K c_Turns = true) (kc_Turns:keepIn K (.ref c_Turns) = true)
  (na_Turns_times:findIn K (.ref c_Turns) "times" = some none)
  (na_Turns_steps:findIn K (.ref c_Turns) "steps" = some none)
  (aC_Step:nsIn K mainGlobals "Step" = some (some (.ref c_Step))) (pg_Step:plainGet K c_Step Str.empty = true) (hd_Step:hasDictIn K c_Step = true) (po_Step:plainOver K c_Step = true) (sa_Step:findIn K (.ref c_Step) "__setattr__" = some (some (.builtin "object.__setattr__")))
  (aC_NoPrices:nsIn K mainGlobals "NoPrices" = some (some (.ref c_NoPrices)))
  (xe_NoPrices:excFn K c_NoPrices f1 = true) (xs_NoPrices:findIn K (.ref c_NoPrices) "__setattr__" = some (some (.builtin "object.__setattr__"))) (xm_NoPrices:mroIn K c_NoPrices (.type "object") = some true) (xn_NoPrices:findIn K (.ref c_NoPrices) "found" = some none) (xf_NoPrices:typeIn K (.ref f1) = some (.type "function")) (xk_NoPrices:keepIn K (.ref c_NoPrices) = true)
  {dW_ROW_WORDS:Option Addr} {nW_ROW_WORDS:Nat} {sW_ROW_WORDS:Array (Option Value)} {u0_ROW_WORDS u1_ROW_WORDS u2_ROW_WORDS u3_ROW_WORDS u4_ROW_WORDS u5_ROW_WORDS u6_ROW_WORDS u7_ROW_WORDS u8_ROW_WORDS u9_ROW_WORDS u10_ROW_WORDS u11_ROW_WORDS u12_ROW_WORDS u13_ROW_WORDS u14_ROW_WORDS u15_ROW_WORDS:Tok} (aW_ROW_WORDS:nsIn K mainGlobals "ROW_WORDS" = some (some (.ref c_ROW_WORDS))) (lW_ROW_WORDS:K.lookup c_ROW_WORDS = some ⟨.type "tuple",dW_ROW_WORDS,.seq #[.str "set" u0_ROW_WORDS,.str "copy" u1_ROW_WORDS,.str "sum" u2_ROW_WORDS,.str "gap" u3_ROW_WORDS,.str "low" u4_ROW_WORDS,.str "high" u5_ROW_WORDS,.str "left" u6_ROW_WORDS,.str "right" u7_ROW_WORDS,.str "slide" u8_ROW_WORDS,.str "and" u9_ROW_WORDS,.str "or" u10_ROW_WORDS,.str "unlike" u11_ROW_WORDS,.str "under" u12_ROW_WORDS,.str "pick" u13_ROW_WORDS,.str "mark" u14_ROW_WORDS,.str "turns" u15_ROW_WORDS] nW_ROW_WORDS,sW_ROW_WORDS⟩)
  {dW_MARKS:Option Addr} {nW_MARKS:Nat} {sW_MARKS:Array (Option Value)} {u0_MARKS u1_MARKS u2_MARKS:Tok} (aW_MARKS:nsIn K mainGlobals "MARKS" = some (some (.ref c_MARKS))) (lW_MARKS:K.lookup c_MARKS = some ⟨.type "tuple",dW_MARKS,.seq #[.str "round" u0_MARKS,.str "stop" u1_MARKS,.str "nothing" u2_MARKS] nW_MARKS,sW_MARKS⟩)
  {tS_LETTERS:Tok} (aS_LETTERS:nsIn K mainGlobals "LETTERS" = some (some (.str "abcdefghijklmnopqrstuvwxyz" tS_LETTERS)))
  {tS_LETTERS_AND_FIGURES:Tok} (aS_LETTERS_AND_FIGURES:nsIn K mainGlobals "LETTERS_AND_FIGURES" = some (some (.str "abcdefghijklmnopqrstuvwxyz0123456789" tS_LETTERS_AND_FIGURES)))
  {tN_MOST_DONE:Tok} (aN_MOST_DONE:nsIn K mainGlobals "MOST_DONE" = some (some (.int 1000000 tN_MOST_DONE)))
  {tN_MOST_TURNS:Tok} (aN_MOST_TURNS:nsIn K mainGlobals "MOST_TURNS" = some (some (.int 5 tN_MOST_TURNS)))
  (kf_og:PySem.W.specialIn K (.builtin "object.__class__") "__get__" = some (some (.builtin "getset_descriptor.__get__")))
  (kf_ot:PySem.W.takesIn K (.builtin "object.__class__") = some true)
  (kf_kr_kinds:fM K [c_Set,c_Copy,c_Sum,c_Gap,c_Low,c_High,c_Left,c_Right,c_Slide,c_And,c_Or,c_Unlike,c_Under,c_Pick,c_Mark,c_Turns] c_Step = true)
  (kf_if_:isClsIn K c_NoPrices = true)
  (kf_tf:typeIn K (.ref c_NoPrices) = some (.type "type"))
  (kf_mf:mroIn K c_NoPrices (.ref c_NoPrices) = some true)
  (kf_wb:mroIn K c_NoPrices (.type "BaseException") = some true)
  (kf_ga:findIn K (.ref c_NoPrices) "__getattribute__" = some (some (.builtin "BaseException.__getattribute__")))
  (kf_gn:findIn K (.ref c_NoPrices) "__getattr__" = some none)
  (kf_gc:findIn K (.ref c_NoPrices) "__class__" = some (some (.builtin "object.__class__")))
  (kf_mo:mroIn K c_NoPrices (.type "object") = some true)
  (kf_mb:mroIn K c_NoPrices (.type "BaseException") = some true)
  (kf_hd:hasDictIn K c_NoPrices = true)
  (kf_nf:findIn K (.ref c_NoPrices) "found" = some none)
  (z_isinstance:nsIn K mainGlobals "isinstance" = some none) (z_int:nsIn K mainGlobals "int" = some none) (z_bool:nsIn K mainGlobals "bool" = some none) (z_str:nsIn K mainGlobals "str" = some none) (z_list:nsIn K mainGlobals "list" = some none) (z_tuple:nsIn K mainGlobals "tuple" = some none) (z_dict:nsIn K mainGlobals "dict" = some none) (z_len:nsIn K mainGlobals "len" = some none) (z_max:nsIn K mainGlobals "max" = some none) (z_min:nsIn K mainGlobals "min" = some none) (z_range:nsIn K mainGlobals "range" = some none) (z_all:nsIn K mainGlobals "all" = some none) (z_sum:nsIn K mainGlobals "sum" = some none) (z_sorted:nsIn K mainGlobals "sorted" = some none) :
  ∃ fd:FuncData,(∀ (s:Shared) (v:Value),BindsTo s fd ⟨[v],[]⟩ [("_law_script",v)])/\∀ base:Heap,K.In base->base.Ns mainGlobals mg->FnOk l.prog w K mg base CX0 16 fa fd ["_law_script"] ((spLaw K)):=by
 have e:=hfa.symm.trans (mg_of X G a108)
 cases e
 let cc:Ad:=⟨c_Set,c_Copy,c_Sum,c_Gap,c_Low,c_High,c_Left,c_Right,c_Slide,c_And,c_Or,c_Unlike,c_Under,c_Pick,c_Mark,c_Turns,c_Step,c_NoPrices,c_ROW_WORDS,c_MARKS⟩
 have T:Txt K mg cc:=⟨mg_none_of X G z_isinstance,mg_none_of X G z_int,mg_none_of X G z_bool,mg_none_of X G z_str,mg_none_of X G z_list,mg_none_of X G z_tuple,mg_none_of X G z_dict,mg_none_of X G z_len,mg_none_of X G z_max,mg_none_of X G z_min,mg_none_of X G z_range,mg_none_of X G z_all,mg_none_of X G z_sum,mg_none_of X G z_sorted,mg_of X G aC_Set,⟨pg_Set,hd_Set,po_Set,sa_Set⟩,na_Set_goal,na_Set_bits,mg_of X G aC_Copy,⟨pg_Copy,hd_Copy,po_Copy,sa_Copy⟩,na_Copy_goal,na_Copy_one,mg_of X G aC_Sum,⟨pg_Sum,hd_Sum,po_Sum,sa_Sum⟩,na_Sum_goal,na_Sum_carry,na_Sum_one,na_Sum_other,mg_of X G aC_Gap,⟨pg_Gap,hd_Gap,po_Gap,sa_Gap⟩,na_Gap_goal,na_Gap_carry,na_Gap_one,na_Gap_other,mg_of X G aC_Low,⟨pg_Low,hd_Low,po_Low,sa_Low⟩,na_Low_goal,na_Low_one,na_Low_other,mg_of X G aC_High,⟨pg_High,hd_High,po_High,sa_High⟩,na_High_goal,na_High_one,na_High_other,mg_of X G aC_Left,⟨pg_Left,hd_Left,po_Left,sa_Left⟩,na_Left_goal,na_Left_one,na_Left_k,mg_of X G aC_Right,⟨pg_Right,hd_Right,po_Right,sa_Right⟩,na_Right_goal,na_Right_one,na_Right_k,mg_of X G aC_Slide,⟨pg_Slide,hd_Slide,po_Slide,sa_Slide⟩,na_Slide_goal,na_Slide_one,na_Slide_k,mg_of X G aC_And,⟨pg_And,hd_And,po_And,sa_And⟩,na_And_goal,na_And_one,na_And_other,mg_of X G aC_Or,⟨pg_Or,hd_Or,po_Or,sa_Or⟩,na_Or_goal,na_Or_one,na_Or_other,mg_of X G aC_Unlike,⟨pg_Unlike,hd_Unlike,po_Unlike,sa_Unlike⟩,na_Unlike_goal,na_Unlike_one,na_Unlike_other,mg_of X G aC_Under,⟨pg_Under,hd_Under,po_Under,sa_Under⟩,na_Under_goal,na_Under_one,na_Under_other,mg_of X G aC_Pick,⟨pg_Pick,hd_Pick,po_Pick,sa_Pick⟩,na_Pick_goal,na_Pick_by,na_Pick_one,na_Pick_other,mg_of X G aC_Mark,⟨pg_Mark,hd_Mark,po_Mark,sa_Mark⟩,na_Mark_line,na_Mark_mark,na_Mark_by,mg_of X G aC_Turns,⟨pg_Turns,hd_Turns,po_Turns,sa_Turns⟩,na_Turns_times,na_Turns_steps,mg_of X G aC_Step,⟨pg_Step,hd_Step,po_Step,sa_Step⟩,mg_of X G aC_NoPrices,mg_of X G aW_ROW_WORDS,fun H=>.inr ⟨_,_,_,lW_ROW_WORDS,rfl,rfl,(by show 16<=sizeLine; decide),.cons ⟨_,rfl⟩ (.cons ⟨_,rfl⟩ (.cons ⟨_,rfl⟩ (.cons ⟨_,rfl⟩ (.cons ⟨_,rfl⟩ (.cons ⟨_,rfl⟩ (.cons ⟨_,rfl⟩ (.cons ⟨_,rfl⟩ (.cons ⟨_,rfl⟩ (.cons ⟨_,rfl⟩ (.cons ⟨_,rfl⟩ (.cons ⟨_,rfl⟩ (.cons ⟨_,rfl⟩ (.cons ⟨_,rfl⟩ (.cons ⟨_,rfl⟩ (.cons ⟨_,rfl⟩ (.nil))))))))))))))))⟩,mg_of X G aW_MARKS,fun H=>.inr ⟨_,_,_,lW_MARKS,rfl,rfl,(by show 3<=sizeLine; decide),.cons ⟨_,rfl⟩ (.cons ⟨_,rfl⟩ (.cons ⟨_,rfl⟩ (.nil)))⟩,⟨_,mg_of X G aS_LETTERS⟩,⟨_,mg_of X G aS_LETTERS_AND_FIGURES⟩,⟨_,mg_of X G aN_MOST_DONE⟩,⟨_,mg_of X G aN_MOST_TURNS⟩,kf_og,kf_ot,kf_kr_kinds,kf_if_,kf_tf,kf_mf,kf_wb,kf_ga,kf_gn,kf_gc,kf_mo,kf_mb,kf_hd,kf_nf⟩
 obtain ⟨_,F1,k1⟩:=l1.fn
 have b1:=F1.binds (ps:=["self", "found"]) fun _ _ _ _ _ _ us hl=>match us,hl with | [_,_],_=>rfl
 obtain ⟨_,F2,k2⟩:=l2.fn
 have b2:=F2.binds (ps:=["thing"]) fun _ _ _ _ _ _ us hl=>match us,hl with | [_],_=>rfl
 obtain ⟨_,F3,k3⟩:=l3.fn
 have b3:=F3.binds (ps:=["thing", "low", "high"]) fun _ _ _ _ _ _ us hl=>match us,hl with | [_,_,_],_=>rfl
 obtain ⟨_,F4,k4⟩:=l4.fn
 have b4:=F4.binds (ps:=["width"]) fun _ _ _ _ _ _ us hl=>match us,hl with | [_],_=>rfl
 obtain ⟨_,F5,k5⟩:=l5.fn
 have b5:=F5.binds (ps:=["width", "thing"]) fun _ _ _ _ _ _ us hl=>match us,hl with | [_,_],_=>rfl
 obtain ⟨_,F6,k6⟩:=l6.fn
 have b6:=F6.binds (ps:=["width", "a", "b"]) fun _ _ _ _ _ _ us hl=>match us,hl with | [_,_,_],_=>rfl
 obtain ⟨_,F7,k7⟩:=l7.fn
 have b7:=F7.binds (ps:=["width", "a", "b"]) fun _ _ _ _ _ _ us hl=>match us,hl with | [_,_,_],_=>rfl
 obtain ⟨_,F8,k8⟩:=l8.fn
 have b8:=F8.binds (ps:=["width", "a", "b"]) fun _ _ _ _ _ _ us hl=>match us,hl with | [_,_,_],_=>rfl
 obtain ⟨_,F9,k9⟩:=l9.fn
 have b9:=F9.binds (ps:=["width", "a", "b"]) fun _ _ _ _ _ _ us hl=>match us,hl with | [_,_,_],_=>rfl
 obtain ⟨_,F10,k10⟩:=l10.fn
 have b10:=F10.binds (ps:=["width", "a", "k"]) fun _ _ _ _ _ _ us hl=>match us,hl with | [_,_,_],_=>rfl
 obtain ⟨_,F11,k11⟩:=l11.fn
 have b11:=F11.binds (ps:=["width", "a", "k"]) fun _ _ _ _ _ _ us hl=>match us,hl with | [_,_,_],_=>rfl
 obtain ⟨_,F12,k12⟩:=l12.fn
 have b12:=F12.binds (ps:=["width", "a", "k"]) fun _ _ _ _ _ _ us hl=>match us,hl with | [_,_,_],_=>rfl
 obtain ⟨_,F13,k13⟩:=l13.fn
 have b13:=F13.binds (ps:=[]) fun _ _ _ _ _ _ us hl=>match us,hl with | [],_=>rfl
 obtain ⟨_,F14,k14⟩:=l14.fn
 have b14:=F14.binds (ps:=["thing"]) fun _ _ _ _ _ _ us hl=>match us,hl with | [_],_=>rfl
 obtain ⟨_,F15,k15⟩:=l15.fn
 have b15:=F15.binds (ps:=["things"]) fun _ _ _ _ _ _ us hl=>match us,hl with | [_],_=>rfl
 obtain ⟨_,F16,k16⟩:=l16.fn
 have b16:=F16.binds (ps:=["self"]) fun _ _ _ _ _ _ us hl=>match us,hl with | [_],_=>rfl
 obtain ⟨_,F17,k17⟩:=l17.fn
 have b17:=F17.binds (ps:=["self"]) fun _ _ _ _ _ _ us hl=>match us,hl with | [_],_=>rfl
 obtain ⟨_,F18,k18⟩:=l18.fn
 have b18:=F18.binds (ps:=["self"]) fun _ _ _ _ _ _ us hl=>match us,hl with | [_],_=>rfl
 obtain ⟨_,F19,k19⟩:=l19.fn
 have b19:=F19.binds (ps:=["self"]) fun _ _ _ _ _ _ us hl=>match us,hl with | [_],_=>rfl
 obtain ⟨_,F20,k20⟩:=l20.fn
 have b20:=F20.binds (ps:=["self"]) fun _ _ _ _ _ _ us hl=>match us,hl with | [_],_=>rfl
 obtain ⟨_,F21,k21⟩:=l21.fn
 have b21:=F21.binds (ps:=["self"]) fun _ _ _ _ _ _ us hl=>match us,hl with | [_],_=>rfl
 obtain ⟨_,F22,k22⟩:=l22.fn
 have b22:=F22.binds (ps:=["self"]) fun _ _ _ _ _ _ us hl=>match us,hl with | [_],_=>rfl
 obtain ⟨_,F23,k23⟩:=l23.fn
 have b23:=F23.binds (ps:=["self"]) fun _ _ _ _ _ _ us hl=>match us,hl with | [_],_=>rfl
 obtain ⟨_,F24,k24⟩:=l24.fn
 have b24:=F24.binds (ps:=["self"]) fun _ _ _ _ _ _ us hl=>match us,hl with | [_],_=>rfl
 obtain ⟨_,F25,k25⟩:=l25.fn
 have b25:=F25.binds (ps:=["self"]) fun _ _ _ _ _ _ us hl=>match us,hl with | [_],_=>rfl
 obtain ⟨_,F26,k26⟩:=l26.fn
 have b26:=F26.binds (ps:=["self"]) fun _ _ _ _ _ _ us hl=>match us,hl with | [_],_=>rfl
 obtain ⟨_,F27,k27⟩:=l27.fn
 have b27:=F27.binds (ps:=["self"]) fun _ _ _ _ _ _ us hl=>match us,hl with | [_],_=>rfl
 obtain ⟨_,F28,k28⟩:=l28.fn
 have b28:=F28.binds (ps:=["self"]) fun _ _ _ _ _ _ us hl=>match us,hl with | [_],_=>rfl
 obtain ⟨_,F29,k29⟩:=l29.fn
 have b29:=F29.binds (ps:=["self"]) fun _ _ _ _ _ _ us hl=>match us,hl with | [_],_=>rfl
 obtain ⟨_,F30,k30⟩:=l30.fn
 have b30:=F30.binds (ps:=["self"]) fun _ _ _ _ _ _ us hl=>match us,hl with | [_],_=>rfl
 obtain ⟨_,F31,k31⟩:=l31.fn
 have b31:=F31.binds (ps:=["self", "goal", "bits"]) fun _ _ _ _ _ _ us hl=>match us,hl with | [_,_,_],_=>rfl
 obtain ⟨_,F32,k32⟩:=l32.fn
 have b32:=F32.binds (ps:=["self", "goal", "one"]) fun _ _ _ _ _ _ us hl=>match us,hl with | [_,_,_],_=>rfl
 obtain ⟨_,F33,k33⟩:=l33.fn
 have b33:=F33.binds (ps:=["self", "goal", "carry", "one", "other"]) fun _ _ _ _ _ _ us hl=>match us,hl with | [_,_,_,_,_],_=>rfl
 obtain ⟨_,F34,k34⟩:=l34.fn
 have b34:=F34.binds (ps:=["self", "goal", "one", "other"]) fun _ _ _ _ _ _ us hl=>match us,hl with | [_,_,_,_],_=>rfl
 obtain ⟨_,F35,k35⟩:=l35.fn
 have b35:=F35.binds (ps:=["self", "goal", "one", "k"]) fun _ _ _ _ _ _ us hl=>match us,hl with | [_,_,_,_],_=>rfl
 obtain ⟨_,F36,k36⟩:=l36.fn
 have b36:=F36.binds (ps:=["self", "goal", "by", "one", "other"]) fun _ _ _ _ _ _ us hl=>match us,hl with | [_,_,_,_,_],_=>rfl
 obtain ⟨_,F37,k37⟩:=l37.fn
 have b37:=F37.binds (ps:=["self", "line", "mark", "by"]) fun _ _ _ _ _ _ us hl=>match us,hl with | [_,_,_,_],_=>rfl
 obtain ⟨_,F38,k38⟩:=l38.fn
 have b38:=F38.binds (ps:=["self"]) fun _ _ _ _ _ _ us hl=>match us,hl with | [_],_=>rfl
 obtain ⟨_,F39,k39⟩:=l39.fn
 have b39:=F39.binds (ps:=["self"]) fun _ _ _ _ _ _ us hl=>match us,hl with | [_],_=>rfl
 obtain ⟨_,F40,k40⟩:=l40.fn
 have b40:=F40.binds (ps:=["self"]) fun _ _ _ _ _ _ us hl=>match us,hl with | [_],_=>rfl
 obtain ⟨_,F41,k41⟩:=l41.fn
 have b41:=F41.binds (ps:=["self"]) fun _ _ _ _ _ _ us hl=>match us,hl with | [_],_=>rfl
 obtain ⟨_,F42,k42⟩:=l42.fn
 have b42:=F42.binds (ps:=["self"]) fun _ _ _ _ _ _ us hl=>match us,hl with | [_],_=>rfl
 obtain ⟨_,F43,k43⟩:=l43.fn
 have b43:=F43.binds (ps:=["self"]) fun _ _ _ _ _ _ us hl=>match us,hl with | [_],_=>rfl
 obtain ⟨_,F44,k44⟩:=l44.fn
 have b44:=F44.binds (ps:=["self"]) fun _ _ _ _ _ _ us hl=>match us,hl with | [_],_=>rfl
 obtain ⟨_,F45,k45⟩:=l45.fn
 have b45:=F45.binds (ps:=["self", "width", "a", "b"]) fun _ _ _ _ _ _ us hl=>match us,hl with | [_,_,_,_],_=>rfl
 obtain ⟨_,F46,k46⟩:=l46.fn
 have b46:=F46.binds (ps:=["self", "width", "a", "b"]) fun _ _ _ _ _ _ us hl=>match us,hl with | [_,_,_,_],_=>rfl
 obtain ⟨_,F47,k47⟩:=l47.fn
 have b47:=F47.binds (ps:=["self", "width", "a", "b"]) fun _ _ _ _ _ _ us hl=>match us,hl with | [_,_,_,_],_=>rfl
 obtain ⟨_,F48,k48⟩:=l48.fn
 have b48:=F48.binds (ps:=["self", "width", "a", "b"]) fun _ _ _ _ _ _ us hl=>match us,hl with | [_,_,_,_],_=>rfl
 obtain ⟨_,F49,k49⟩:=l49.fn
 have b49:=F49.binds (ps:=["self", "width", "a", "b"]) fun _ _ _ _ _ _ us hl=>match us,hl with | [_,_,_,_],_=>rfl
 obtain ⟨_,F50,k50⟩:=l50.fn
 have b50:=F50.binds (ps:=["self", "width", "a", "b"]) fun _ _ _ _ _ _ us hl=>match us,hl with | [_,_,_,_],_=>rfl
 obtain ⟨_,F51,k51⟩:=l51.fn
 have b51:=F51.binds (ps:=["self", "width", "a", "b"]) fun _ _ _ _ _ _ us hl=>match us,hl with | [_,_,_,_],_=>rfl
 obtain ⟨_,F52,k52⟩:=l52.fn
 have b52:=F52.binds (ps:=["self", "width", "a", "b"]) fun _ _ _ _ _ _ us hl=>match us,hl with | [_,_,_,_],_=>rfl
 obtain ⟨_,F53,k53⟩:=l53.fn
 have b53:=F53.binds (ps:=["self", "width", "a"]) fun _ _ _ _ _ _ us hl=>match us,hl with | [_,_,_],_=>rfl
 obtain ⟨_,F54,k54⟩:=l54.fn
 have b54:=F54.binds (ps:=["self", "width", "a"]) fun _ _ _ _ _ _ us hl=>match us,hl with | [_,_,_],_=>rfl
 obtain ⟨_,F55,k55⟩:=l55.fn
 have b55:=F55.binds (ps:=["self", "width", "a"]) fun _ _ _ _ _ _ us hl=>match us,hl with | [_,_,_],_=>rfl
 obtain ⟨_,F56,k56⟩:=l56.fn
 have b56:=F56.binds (ps:=["self", "width"]) fun _ _ _ _ _ _ us hl=>match us,hl with | [_,_],_=>rfl
 obtain ⟨_,F57,k57⟩:=l57.fn
 have b57:=F57.binds (ps:=["self", "width"]) fun _ _ _ _ _ _ us hl=>match us,hl with | [_,_],_=>rfl
 obtain ⟨_,F58,k58⟩:=l58.fn
 have b58:=F58.binds (ps:=["self", "width"]) fun _ _ _ _ _ _ us hl=>match us,hl with | [_,_],_=>rfl
 obtain ⟨_,F59,k59⟩:=l59.fn
 have b59:=F59.binds (ps:=["self", "width"]) fun _ _ _ _ _ _ us hl=>match us,hl with | [_,_],_=>rfl
 obtain ⟨_,F60,k60⟩:=l60.fn
 have b60:=F60.binds (ps:=["self", "width"]) fun _ _ _ _ _ _ us hl=>match us,hl with | [_,_],_=>rfl
 obtain ⟨_,F61,k61⟩:=l61.fn
 have b61:=F61.binds (ps:=["self", "width"]) fun _ _ _ _ _ _ us hl=>match us,hl with | [_,_],_=>rfl
 obtain ⟨_,F62,k62⟩:=l62.fn
 have b62:=F62.binds (ps:=["self", "width"]) fun _ _ _ _ _ _ us hl=>match us,hl with | [_,_],_=>rfl
 obtain ⟨_,F63,k63⟩:=l63.fn
 have b63:=F63.binds (ps:=["self", "width", "words", "marks"]) fun _ _ _ _ _ _ us hl=>match us,hl with | [_,_,_,_],_=>rfl
 obtain ⟨_,F64,k64⟩:=l64.fn
 have b64:=F64.binds (ps:=["self", "width", "words", "marks"]) fun _ _ _ _ _ _ us hl=>match us,hl with | [_,_,_,_],_=>rfl
 obtain ⟨_,F65,k65⟩:=l65.fn
 have b65:=F65.binds (ps:=["self", "width", "words", "marks"]) fun _ _ _ _ _ _ us hl=>match us,hl with | [_,_,_,_],_=>rfl
 obtain ⟨_,F66,k66⟩:=l66.fn
 have b66:=F66.binds (ps:=["self", "width", "words", "marks"]) fun _ _ _ _ _ _ us hl=>match us,hl with | [_,_,_,_],_=>rfl
 obtain ⟨_,F67,k67⟩:=l67.fn
 have b67:=F67.binds (ps:=["self", "width", "words", "marks"]) fun _ _ _ _ _ _ us hl=>match us,hl with | [_,_,_,_],_=>rfl
 obtain ⟨_,F68,k68⟩:=l68.fn
 have b68:=F68.binds (ps:=["self", "width", "words", "marks"]) fun _ _ _ _ _ _ us hl=>match us,hl with | [_,_,_,_],_=>rfl
 obtain ⟨_,F69,k69⟩:=l69.fn
 have b69:=F69.binds (ps:=["self", "width", "words", "marks"]) fun _ _ _ _ _ _ us hl=>match us,hl with | [_,_,_,_],_=>rfl
 obtain ⟨_,F70,k70⟩:=l70.fn
 have b70:=F70.binds (ps:=["self"]) fun _ _ _ _ _ _ us hl=>match us,hl with | [_],_=>rfl
 obtain ⟨_,F71,k71⟩:=l71.fn
 have b71:=F71.binds (ps:=["self", "times", "steps"]) fun _ _ _ _ _ _ us hl=>match us,hl with | [_,_,_],_=>rfl
 obtain ⟨_,F72,k72⟩:=l72.fn
 have b72:=F72.binds (ps:=["self"]) fun _ _ _ _ _ _ us hl=>match us,hl with | [_],_=>rfl
 obtain ⟨_,F73,k73⟩:=l73.fn
 have b73:=F73.binds (ps:=["self", "width"]) fun _ _ _ _ _ _ us hl=>match us,hl with | [_,_],_=>rfl
 obtain ⟨_,F74,k74⟩:=l74.fn
 have b74:=F74.binds (ps:=["self", "width", "words", "marks"]) fun _ _ _ _ _ _ us hl=>match us,hl with | [_,_,_,_],_=>rfl
 obtain ⟨_,F75,k75⟩:=l75.fn
 have b75:=F75.binds (ps:=["width", "thing", "about"]) fun _ _ _ _ _ _ us hl=>match us,hl with | [_,_,_],_=>rfl
 obtain ⟨_,F76,k76⟩:=l76.fn
 have b76:=F76.binds (ps:=["width", "steps", "place", "about"]) fun _ _ _ _ _ _ us hl=>match us,hl with | [_,_,_,_],_=>rfl
 obtain ⟨_,F77,k77⟩:=l77.fn
 have b77:=F77.binds (ps:=["steps", "times", "counts"]) fun _ _ _ _ _ _ us hl=>match us,hl with | [_,_,_],_=>rfl
 obtain ⟨_,F78,k78⟩:=l78.fn
 have b78:=F78.binds (ps:=["width", "steps"]) fun _ _ _ _ _ _ us hl=>match us,hl with | [_,_],_=>rfl
 obtain ⟨_,F79,k79⟩:=l79.fn
 have b79:=F79.binds (ps:=["width", "steps"]) fun _ _ _ _ _ _ us hl=>match us,hl with | [_,_],_=>rfl
 obtain ⟨_,F80,k80⟩:=l80.fn
 have b80:=F80.binds (ps:=["width", "registers"]) fun _ _ _ _ _ _ us hl=>match us,hl with | [_,_],_=>rfl
 obtain ⟨_,F81,k81⟩:=l81.fn
 have b81:=F81.binds (ps:=["width", "steps", "registers"]) fun _ _ _ _ _ _ us hl=>match us,hl with | [_,_,_],_=>rfl
 obtain ⟨_,F82,k82⟩:=l82.fn
 have b82:=F82.binds (ps:=["prices"]) fun _ _ _ _ _ _ us hl=>match us,hl with | [_],_=>rfl
 obtain ⟨_,F83,k83⟩:=l83.fn
 have b83:=F83.binds (ps:=["width", "steps", "prices"]) fun _ _ _ _ _ _ us hl=>match us,hl with | [_,_,_],_=>rfl
 obtain ⟨_,F84,k84⟩:=l84.fn
 have b84:=F84.binds (ps:=["_law_script", "_law_k"]) fun _ _ _ _ _ _ us hl=>match us,hl with | [_,_],_=>rfl
 obtain ⟨_,F85,k85⟩:=l85.fn
 have b85:=F85.binds (ps:=["_law_cell_here"]) fun _ _ _ _ _ _ us hl=>match us,hl with | [_],_=>rfl
 obtain ⟨_,F86,k86⟩:=l86.fn
 have b86:=F86.binds (ps:=["_law_state", "_law_many"]) fun _ _ _ _ _ _ us hl=>match us,hl with | [_,_],_=>rfl
 obtain ⟨_,F87,k87⟩:=l87.fn
 have b87:=F87.binds (ps:=["_law_found"]) fun _ _ _ _ _ _ us hl=>match us,hl with | [_],_=>rfl
 obtain ⟨_,F88,k88⟩:=l88.fn
 have b88:=F88.binds (ps:=["_law_state", "_law_width"]) fun _ _ _ _ _ _ us hl=>match us,hl with | [_,_],_=>rfl
 obtain ⟨_,F89,k89⟩:=l89.fn
 have b89:=F89.binds (ps:=["_law_state"]) fun _ _ _ _ _ _ us hl=>match us,hl with | [_],_=>rfl
 obtain ⟨_,F90,k90⟩:=l90.fn
 have b90:=F90.binds (ps:=["_law_state", "_law_names_here"]) fun _ _ _ _ _ _ us hl=>match us,hl with | [_,_],_=>rfl
 obtain ⟨_,F91,k91⟩:=l91.fn
 have b91:=F91.binds (ps:=[]) fun _ _ _ _ _ _ us hl=>match us,hl with | [],_=>rfl
 obtain ⟨_,F92,k92⟩:=l92.fn
 have b92:=F92.binds (ps:=["_law_state", "_law_width", "_law_names_here"]) fun _ _ _ _ _ _ us hl=>match us,hl with | [_,_,_],_=>rfl
 obtain ⟨_,F93,k93⟩:=l93.fn
 have b93:=F93.binds (ps:=["_law_heads", "_law_rounds", "_law_room"]) fun _ _ _ _ _ _ us hl=>match us,hl with | [_,_,_],_=>rfl
 obtain ⟨_,F94,k94⟩:=l94.fn
 have b94:=F94.binds (ps:=["_law_script", "_law_width", "_law_names_here", "_law_most"]) fun _ _ _ _ _ _ us hl=>match us,hl with | [_,_,_,_],_=>rfl
 obtain ⟨_,F95,k95⟩:=l95.fn
 have b95:=F95.binds (ps:=["_law_row_here"]) fun _ _ _ _ _ _ us hl=>match us,hl with | [_],_=>rfl
 obtain ⟨_,F96,k96⟩:=l96.fn
 have b96:=F96.binds (ps:=["_law_row_here"]) fun _ _ _ _ _ _ us hl=>match us,hl with | [_],_=>rfl
 obtain ⟨_,F97,k97⟩:=l97.fn
 have b97:=F97.binds (ps:=["_law_word_here", "_law_a", "_law_b", "_law_size"]) fun _ _ _ _ _ _ us hl=>match us,hl with | [_,_,_,_],_=>rfl
 obtain ⟨_,F98,k98⟩:=l98.fn
 have b98:=F98.binds (ps:=["_law_word_here", "_law_a", "_law_k", "_law_size"]) fun _ _ _ _ _ _ us hl=>match us,hl with | [_,_,_,_],_=>rfl
 obtain ⟨_,F99,k99⟩:=l99.fn
 have b99:=F99.binds (ps:=["_law_size", "_law_row_here", "_law_held_here", "_law_marks"]) fun _ _ _ _ _ _ us hl=>match us,hl with | [_,_,_,_],_=>rfl
 obtain ⟨_,F100,k100⟩:=l100.fn
 have b100:=F100.binds (ps:=[]) fun _ _ _ _ _ _ us hl=>match us,hl with | [],_=>rfl
 obtain ⟨_,F101,k101⟩:=l101.fn
 have b101:=F101.binds (ps:=["_law_found", "_law_held_here", "_law_marks", "_law_counts"]) fun _ _ _ _ _ _ us hl=>match us,hl with | [_,_,_,_],_=>rfl
 obtain ⟨_,F102,k102⟩:=l102.fn
 have b102:=F102.binds (ps:=["_law_size", "_law_rows", "_law_held_here", "_law_marks", "_law_counts"]) fun _ _ _ _ _ _ us hl=>match us,hl with | [_,_,_,_,_],_=>rfl
 obtain ⟨_,F103,k103⟩:=l103.fn
 have b103:=F103.binds (ps:=["_law_rows"]) fun _ _ _ _ _ _ us hl=>match us,hl with | [_],_=>rfl
 obtain ⟨_,F104,k104⟩:=l104.fn
 have b104:=F104.binds (ps:=["_law_width", "_law_steps", "_law_state", "_law_counts"]) fun _ _ _ _ _ _ us hl=>match us,hl with | [_,_,_,_],_=>rfl
 obtain ⟨_,F105,k105⟩:=l105.fn
 have b105:=F105.binds (ps:=["_law_state", "_law_width", "_law_steps"]) fun _ _ _ _ _ _ us hl=>match us,hl with | [_,_,_],_=>rfl
 obtain ⟨_,F106,k106⟩:=l106.fn
 have b106:=F106.binds (ps:=["_law_width", "_law_steps", "_law_counts"]) fun _ _ _ _ _ _ us hl=>match us,hl with | [_,_,_],_=>rfl
 obtain ⟨_,F107,k107⟩:=l107.fn
 have b107:=F107.binds (ps:=["_law_state", "_law_width", "_law_names_here"]) fun _ _ _ _ _ _ us hl=>match us,hl with | [_,_,_],_=>rfl
 have F108:=fun_mk (st:=lh) l108 c108 k108
 refine ⟨fnOf "law" "law" (fe lh) (dH lh) (ak lh) .none kV108 dc108 pm108 an108 cd108 ct108,fun s v=>.of_eq rfl,fun base _ _=>?_⟩
 have Q_NoPrices:XCls K c_NoPrices f1 "found":=⟨xe_NoPrices,xs_NoPrices,xm_NoPrices,xn_NoPrices,xf_NoPrices,xk_NoPrices⟩
 have X_NoPrices:XHas l.prog w K mg base 1 "NoPrices" c_NoPrices "found":=⟨_,_,_,_,fU F1 T Q_NoPrices,b1,Q_NoPrices,mg_of X G aC_NoPrices⟩
 have M_Set_word:MHas l.prog w K mg base 1 c_Set "word" ["self"] (eE "set"):=⟨T.cl_Set,_,_,⟨a16,i16,k16⟩,o4 F16 T ,b16⟩
 have M_Copy_word:MHas l.prog w K mg base 1 c_Copy "word" ["self"] (eE "copy"):=⟨T.cl_Copy,_,_,⟨a17,i17,k17⟩,nS F17 T ,b17⟩
 have M_Sum_word:MHas l.prog w K mg base 1 c_Sum "word" ["self"] (eE "sum"):=⟨T.cl_Sum,_,_,⟨a18,i18,k18⟩,pQ F18 T ,b18⟩
 have M_Gap_word:MHas l.prog w K mg base 1 c_Gap "word" ["self"] (eE "gap"):=⟨T.cl_Gap,_,_,⟨a19,i19,k19⟩,pR F19 T ,b19⟩
 have M_Low_word:MHas l.prog w K mg base 1 c_Low "word" ["self"] (eE "low"):=⟨T.cl_Low,_,_,⟨a20,i20,k20⟩,pL F20 T ,b20⟩
 have M_High_word:MHas l.prog w K mg base 1 c_High "word" ["self"] (eE "high"):=⟨T.cl_High,_,_,⟨a21,i21,k21⟩,nE F21 T ,b21⟩
 have M_Left_word:MHas l.prog w K mg base 1 c_Left "word" ["self"] (eE "left"):=⟨T.cl_Left,_,_,⟨a22,i22,k22⟩,nR F22 T ,b22⟩
 have M_Right_word:MHas l.prog w K mg base 1 c_Right "word" ["self"] (eE "right"):=⟨T.cl_Right,_,_,⟨a23,i23,k23⟩,lG F23 T ,b23⟩
 have M_Slide_word:MHas l.prog w K mg base 1 c_Slide "word" ["self"] (eE "slide"):=⟨T.cl_Slide,_,_,⟨a24,i24,k24⟩,kJ F24 T ,b24⟩
 have M_And_word:MHas l.prog w K mg base 1 c_And "word" ["self"] (eE "and"):=⟨T.cl_And,_,_,⟨a25,i25,k25⟩,pU F25 T ,b25⟩
 have M_Or_word:MHas l.prog w K mg base 1 c_Or "word" ["self"] (eE "or"):=⟨T.cl_Or,_,_,⟨a26,i26,k26⟩,rn F26 T ,b26⟩
 have M_Unlike_word:MHas l.prog w K mg base 1 c_Unlike "word" ["self"] (eE "unlike"):=⟨T.cl_Unlike,_,_,⟨a27,i27,k27⟩,j7 F27 T ,b27⟩
 have M_Under_word:MHas l.prog w K mg base 1 c_Under "word" ["self"] (eE "under"):=⟨T.cl_Under,_,_,⟨a28,i28,k28⟩,lH F28 T ,b28⟩
 have M_Pick_word:MHas l.prog w K mg base 1 c_Pick "word" ["self"] (eE "pick"):=⟨T.cl_Pick,_,_,⟨a29,i29,k29⟩,nP F29 T ,b29⟩
 have M_Mark_word:MHas l.prog w K mg base 1 c_Mark "word" ["self"] (eE "mark"):=⟨T.cl_Mark,_,_,⟨a30,i30,k30⟩,nG F30 T ,b30⟩
 have C_Set:CHas l.prog w K mg base 1 c_Set "Set" ["self", "goal", "bits"] (aP K ["goal", "bits"]):=⟨_,_,⟨mk_Set,a31,i31,kc_Set⟩,jZ F31 T ,b31,mg_of X G aC_Set⟩
 have C_Copy:CHas l.prog w K mg base 1 c_Copy "Copy" ["self", "goal", "one"] (aP K ["goal", "one"]):=⟨_,_,⟨mk_Copy,a32,i32,kc_Copy⟩,iU F32 T ,b32,mg_of X G aC_Copy⟩
 have C_Sum:CHas l.prog w K mg base 1 c_Sum "Sum" ["self", "goal", "carry", "one", "other"] (aP K ["goal", "carry", "one", "other"]):=⟨_,_,⟨mk_Sum,a33,i33,kc_Sum⟩,cJ F33 T ,b33,mg_of X G aC_Sum⟩
 have C_Gap:CHas l.prog w K mg base 1 c_Gap "Gap" ["self", "goal", "carry", "one", "other"] (aP K ["goal", "carry", "one", "other"]):=⟨_,_,⟨mk_Gap,h_Gap___init__,i33,kc_Gap⟩,cJ F33 T ,b33,mg_of X G aC_Gap⟩
 have C_Low:CHas l.prog w K mg base 1 c_Low "Low" ["self", "goal", "one", "other"] (aP K ["goal", "one", "other"]):=⟨_,_,⟨mk_Low,a34,i34,kc_Low⟩,aR F34 T ,b34,mg_of X G aC_Low⟩
 have C_High:CHas l.prog w K mg base 1 c_High "High" ["self", "goal", "one", "other"] (aP K ["goal", "one", "other"]):=⟨_,_,⟨mk_High,h_High___init__,i34,kc_High⟩,aR F34 T ,b34,mg_of X G aC_High⟩
 have C_And:CHas l.prog w K mg base 1 c_And "And" ["self", "goal", "one", "other"] (aP K ["goal", "one", "other"]):=⟨_,_,⟨mk_And,h_And___init__,i34,kc_And⟩,aR F34 T ,b34,mg_of X G aC_And⟩
 have C_Or:CHas l.prog w K mg base 1 c_Or "Or" ["self", "goal", "one", "other"] (aP K ["goal", "one", "other"]):=⟨_,_,⟨mk_Or,h_Or___init__,i34,kc_Or⟩,aR F34 T ,b34,mg_of X G aC_Or⟩
 have C_Unlike:CHas l.prog w K mg base 1 c_Unlike "Unlike" ["self", "goal", "one", "other"] (aP K ["goal", "one", "other"]):=⟨_,_,⟨mk_Unlike,h_Unlike___init__,i34,kc_Unlike⟩,aR F34 T ,b34,mg_of X G aC_Unlike⟩
 have C_Under:CHas l.prog w K mg base 1 c_Under "Under" ["self", "goal", "one", "other"] (aP K ["goal", "one", "other"]):=⟨_,_,⟨mk_Under,h_Under___init__,i34,kc_Under⟩,aR F34 T ,b34,mg_of X G aC_Under⟩
 have C_Left:CHas l.prog w K mg base 1 c_Left "Left" ["self", "goal", "one", "k"] (aP K ["goal", "one", "k"]):=⟨_,_,⟨mk_Left,a35,i35,kc_Left⟩,bW F35 T ,b35,mg_of X G aC_Left⟩
 have C_Right:CHas l.prog w K mg base 1 c_Right "Right" ["self", "goal", "one", "k"] (aP K ["goal", "one", "k"]):=⟨_,_,⟨mk_Right,h_Right___init__,i35,kc_Right⟩,bW F35 T ,b35,mg_of X G aC_Right⟩
 have C_Slide:CHas l.prog w K mg base 1 c_Slide "Slide" ["self", "goal", "one", "k"] (aP K ["goal", "one", "k"]):=⟨_,_,⟨mk_Slide,h_Slide___init__,i35,kc_Slide⟩,bW F35 T ,b35,mg_of X G aC_Slide⟩
 have C_Pick:CHas l.prog w K mg base 1 c_Pick "Pick" ["self", "goal", "by", "one", "other"] (aP K ["goal", "by", "one", "other"]):=⟨_,_,⟨mk_Pick,a36,i36,kc_Pick⟩,i6 F36 T ,b36,mg_of X G aC_Pick⟩
 have C_Mark:CHas l.prog w K mg base 1 c_Mark "Mark" ["self", "line", "mark", "by"] (aP K ["line", "mark", "by"]):=⟨_,_,⟨mk_Mark,a37,i37,kc_Mark⟩,iT F37 T ,b37,mg_of X G aC_Mark⟩
 have M_Set_told:MHas l.prog w K mg base 1 c_Set "told" ["self"] (bo cc [0]):=⟨T.cl_Set,_,_,⟨a38,i38,k38⟩,pK F38 T ,b38⟩
 have M_Copy_told:MHas l.prog w K mg base 1 c_Copy "told" ["self"] (bo cc [1]):=⟨T.cl_Copy,_,_,⟨a39,i39,k39⟩,mP F39 T ,b39⟩
 have M_Gap_told:MHas l.prog w K mg base 2 c_Gap "told" ["self"] (bo cc [2,3]):=⟨T.cl_Gap,_,_,⟨h_Gap_told,i40,k40⟩,eB F40 T  (fun i hi=>by simp only [List.mem_cons,List.not_mem_nil,or_false] at hi; rcases hi with rfl | rfl <;> first | exact M_Sum_word | exact M_Gap_word),b40⟩
 have M_Carrying_told:MHas l.prog w K mg base 2 c_Sum "told" ["self"] (bo cc [2,3]):=⟨T.cl_Sum,_,_,⟨a40,i40,k40⟩,eB F40 T  (fun i hi=>by simp only [List.mem_cons,List.not_mem_nil,or_false] at hi; rcases hi with rfl | rfl <;> first | exact M_Sum_word | exact M_Gap_word),b40⟩
 have M_High_told:MHas l.prog w K mg base 2 c_High "told" ["self"] (bo cc [4,5,9,10,11,12]):=⟨T.cl_High,_,_,⟨h_High_told,i41,k41⟩,bu F41 T  (fun i hi=>by simp only [List.mem_cons,List.not_mem_nil,or_false] at hi; rcases hi with rfl | rfl | rfl | rfl | rfl | rfl <;> first | exact M_Low_word | exact M_High_word | exact M_And_word | exact M_Or_word | exact M_Unlike_word | exact M_Under_word),b41⟩
 have M_And_told:MHas l.prog w K mg base 2 c_And "told" ["self"] (bo cc [4,5,9,10,11,12]):=⟨T.cl_And,_,_,⟨h_And_told,i41,k41⟩,bu F41 T  (fun i hi=>by simp only [List.mem_cons,List.not_mem_nil,or_false] at hi; rcases hi with rfl | rfl | rfl | rfl | rfl | rfl <;> first | exact M_Low_word | exact M_High_word | exact M_And_word | exact M_Or_word | exact M_Unlike_word | exact M_Under_word),b41⟩
 have M_Or_told:MHas l.prog w K mg base 2 c_Or "told" ["self"] (bo cc [4,5,9,10,11,12]):=⟨T.cl_Or,_,_,⟨h_Or_told,i41,k41⟩,bu F41 T  (fun i hi=>by simp only [List.mem_cons,List.not_mem_nil,or_false] at hi; rcases hi with rfl | rfl | rfl | rfl | rfl | rfl <;> first | exact M_Low_word | exact M_High_word | exact M_And_word | exact M_Or_word | exact M_Unlike_word | exact M_Under_word),b41⟩
 have M_Unlike_told:MHas l.prog w K mg base 2 c_Unlike "told" ["self"] (bo cc [4,5,9,10,11,12]):=⟨T.cl_Unlike,_,_,⟨h_Unlike_told,i41,k41⟩,bu F41 T  (fun i hi=>by simp only [List.mem_cons,List.not_mem_nil,or_false] at hi; rcases hi with rfl | rfl | rfl | rfl | rfl | rfl <;> first | exact M_Low_word | exact M_High_word | exact M_And_word | exact M_Or_word | exact M_Unlike_word | exact M_Under_word),b41⟩
 have M_Under_told:MHas l.prog w K mg base 2 c_Under "told" ["self"] (bo cc [4,5,9,10,11,12]):=⟨T.cl_Under,_,_,⟨h_Under_told,i41,k41⟩,bu F41 T  (fun i hi=>by simp only [List.mem_cons,List.not_mem_nil,or_false] at hi; rcases hi with rfl | rfl | rfl | rfl | rfl | rfl <;> first | exact M_Low_word | exact M_High_word | exact M_And_word | exact M_Or_word | exact M_Unlike_word | exact M_Under_word),b41⟩
 have M_Joining_told:MHas l.prog w K mg base 2 c_Low "told" ["self"] (bo cc [4,5,9,10,11,12]):=⟨T.cl_Low,_,_,⟨a41,i41,k41⟩,bu F41 T  (fun i hi=>by simp only [List.mem_cons,List.not_mem_nil,or_false] at hi; rcases hi with rfl | rfl | rfl | rfl | rfl | rfl <;> first | exact M_Low_word | exact M_High_word | exact M_And_word | exact M_Or_word | exact M_Unlike_word | exact M_Under_word),b41⟩
 have M_Right_told:MHas l.prog w K mg base 2 c_Right "told" ["self"] (bo cc [6,7,8]):=⟨T.cl_Right,_,_,⟨h_Right_told,i42,k42⟩,dq F42 T  (fun i hi=>by simp only [List.mem_cons,List.not_mem_nil,or_false] at hi; rcases hi with rfl | rfl | rfl <;> first | exact M_Left_word | exact M_Right_word | exact M_Slide_word),b42⟩
 have M_Slide_told:MHas l.prog w K mg base 2 c_Slide "told" ["self"] (bo cc [6,7,8]):=⟨T.cl_Slide,_,_,⟨h_Slide_told,i42,k42⟩,dq F42 T  (fun i hi=>by simp only [List.mem_cons,List.not_mem_nil,or_false] at hi; rcases hi with rfl | rfl | rfl <;> first | exact M_Left_word | exact M_Right_word | exact M_Slide_word),b42⟩
 have M_Moving_told:MHas l.prog w K mg base 2 c_Left "told" ["self"] (bo cc [6,7,8]):=⟨T.cl_Left,_,_,⟨a42,i42,k42⟩,dq F42 T  (fun i hi=>by simp only [List.mem_cons,List.not_mem_nil,or_false] at hi; rcases hi with rfl | rfl | rfl <;> first | exact M_Left_word | exact M_Right_word | exact M_Slide_word),b42⟩
 have M_Pick_told:MHas l.prog w K mg base 1 c_Pick "told" ["self"] (bo cc [13]):=⟨T.cl_Pick,_,_,⟨a43,i43,k43⟩,nB F43 T ,b43⟩
 have M_Mark_told:MHas l.prog w K mg base 1 c_Mark "told" ["self"] (bo cc [14]):=⟨T.cl_Mark,_,_,⟨a44,i44,k44⟩,mM F44 T ,b44⟩
 have H_is_whole:Has l.prog w K mg base 1 "is_whole" ["thing"] jf:=⟨_,_,oM F2 T ,b2,k2,mg_of X G a2⟩
 have W_is_whole:Has l.prog w K mg base 1 "is_whole" ["thing"] fZ:=H_is_whole.imp rH
 have H_is_between:Has l.prog w K mg base 2 "is_between" ["thing", "low", "high"] qh:=⟨_,_,lP F3 T H_is_whole,b3,k3,mg_of X G a3⟩
 have W_is_between:Has l.prog w K mg base 2 "is_between" ["thing", "low", "high"] cV:=H_is_between.imp ph
 have H_need_width:Has l.prog w K mg base 3 "need_width" ["width"] dn:=⟨_,_,kP F4 T W_is_between,b4,k4,mg_of X G a4⟩
 have H_sum_of:Has l.prog w K mg base 4 "sum_of" ["width", "a", "b"] spSum:=⟨_,_,rP F6 T H_need_width,b6,k6,mg_of X G a6⟩
 have M_Sum_reckoned:MHas l.prog w K mg base 5 c_Sum "reckoned" ["self", "width", "a", "b"] (rR 2):=⟨T.cl_Sum,_,_,⟨a45,i45,k45⟩,jv F45 T H_sum_of,b45⟩
 have H_gap_of:Has l.prog w K mg base 4 "gap_of" ["width", "a", "b"] spGap:=⟨_,_,tL F7 T H_need_width,b7,k7,mg_of X G a7⟩
 have M_Gap_reckoned:MHas l.prog w K mg base 5 c_Gap "reckoned" ["self", "width", "a", "b"] (rR 3):=⟨T.cl_Gap,_,_,⟨a46,i46,k46⟩,ji F46 T H_gap_of,b46⟩
 have H_low_product:Has l.prog w K mg base 4 "low_product" ["width", "a", "b"] spLow:=⟨_,_,kc F8 T H_need_width,b8,k8,mg_of X G a8⟩
 have M_Low_reckoned:MHas l.prog w K mg base 5 c_Low "reckoned" ["self", "width", "a", "b"] (rh 4):=⟨T.cl_Low,_,_,⟨a47,i47,k47⟩,jO F47 T H_low_product,b47⟩
 have H_high_product:Has l.prog w K mg base 4 "high_product" ["width", "a", "b"] tM:=⟨_,_,jP F9 T H_need_width,b9,k9,mg_of X G a9⟩
 have M_High_reckoned:MHas l.prog w K mg base 5 c_High "reckoned" ["self", "width", "a", "b"] (rh 5):=⟨T.cl_High,_,_,⟨a48,i48,k48⟩,iV F48 T H_high_product,b48⟩
 have M_And_reckoned:MHas l.prog w K mg base 1 c_And "reckoned" ["self", "width", "a", "b"] (rh 9):=⟨T.cl_And,_,_,⟨a49,i49,k49⟩,jw F49 T ,b49⟩
 have M_Or_reckoned:MHas l.prog w K mg base 1 c_Or "reckoned" ["self", "width", "a", "b"] (rh 10):=⟨T.cl_Or,_,_,⟨a50,i50,k50⟩,kj F50 T ,b50⟩
 have M_Unlike_reckoned:MHas l.prog w K mg base 1 c_Unlike "reckoned" ["self", "width", "a", "b"] (rh 11):=⟨T.cl_Unlike,_,_,⟨a51,i51,k51⟩,ib F51 T ,b51⟩
 have M_Under_reckoned:MHas l.prog w K mg base 1 c_Under "reckoned" ["self", "width", "a", "b"] (rh 12):=⟨T.cl_Under,_,_,⟨a52,i52,k52⟩,iN F52 T ,b52⟩
 have H_left:Has l.prog w K mg base 4 "left" ["width", "a", "k"] sf:=⟨_,_,ok_left F10 T H_need_width,b10,k10,mg_of X G a10⟩
 have M_Left_moved:MHas l.prog w K mg base 5 c_Left "moved" ["self", "width", "a"] (spMv cc 6):=⟨T.cl_Left,_,_,⟨a53,i53,k53⟩,kZ F53 T H_left,b53⟩
 have H_right:Has l.prog w K mg base 4 "right" ["width", "a", "k"] pb:=⟨_,_,ok_right F11 T H_need_width,b11,k11,mg_of X G a11⟩
 have M_Right_moved:MHas l.prog w K mg base 5 c_Right "moved" ["self", "width", "a"] (spMv cc 7):=⟨T.cl_Right,_,_,⟨a54,i54,k54⟩,kC F54 T H_right,b54⟩
 have H_slide:Has l.prog w K mg base 4 "slide" ["width", "a", "k"] oU:=⟨_,_,ok_slide F12 T H_need_width,b12,k12,mg_of X G a12⟩
 have M_Slide_moved:MHas l.prog w K mg base 5 c_Slide "moved" ["self", "width", "a"] (spMv cc 8):=⟨T.cl_Slide,_,_,⟨a55,i55,k55⟩,kq F55 T H_slide,b55⟩
 have H_is_register:Has l.prog w K mg base 1 "is_register" ["thing"] mB:=⟨_,_,j4 F14 T ,b14,k14,mg_of X G a14⟩
 have H_is_word:Has l.prog w K mg base 3 "is_word" ["width", "thing"] je:=⟨_,_,qQ F5 T W_is_between,b5,k5,mg_of X G a5⟩
 have M_Set_good_at:MHas l.prog w K mg base 4 c_Set "good_at" ["self", "width"] (bw cc [0]):=⟨T.cl_Set,_,_,⟨a56,i56,k56⟩,kf F56 T H_is_register H_is_word,b56⟩
 have H_are_registers:Has l.prog w K mg base 2 "are_registers" ["things"] jG:=⟨_,_,i8 F15 T H_is_register,b15,k15,mg_of X G a15⟩
 have M_Copy_good_at:MHas l.prog w K mg base 3 c_Copy "good_at" ["self", "width"] (bw cc [1]):=⟨T.cl_Copy,_,_,⟨a57,i57,k57⟩,jU F57 T H_are_registers,b57⟩
 have M_Gap_good_at:MHas l.prog w K mg base 3 c_Gap "good_at" ["self", "width"] (bw cc [2,3]):=⟨T.cl_Gap,_,_,⟨h_Gap_good_at,i58,k58⟩,cN F58 T H_are_registers H_is_register,b58⟩
 have M_Carrying_good_at:MHas l.prog w K mg base 3 c_Sum "good_at" ["self", "width"] (bw cc [2,3]):=⟨T.cl_Sum,_,_,⟨a58,i58,k58⟩,cN F58 T H_are_registers H_is_register,b58⟩
 have M_High_good_at:MHas l.prog w K mg base 3 c_High "good_at" ["self", "width"] (bw cc [4,5,9,10,11,12]):=⟨T.cl_High,_,_,⟨h_High_good_at,i59,k59⟩,aX F59 T H_are_registers,b59⟩
 have M_And_good_at:MHas l.prog w K mg base 3 c_And "good_at" ["self", "width"] (bw cc [4,5,9,10,11,12]):=⟨T.cl_And,_,_,⟨h_And_good_at,i59,k59⟩,aX F59 T H_are_registers,b59⟩
 have M_Or_good_at:MHas l.prog w K mg base 3 c_Or "good_at" ["self", "width"] (bw cc [4,5,9,10,11,12]):=⟨T.cl_Or,_,_,⟨h_Or_good_at,i59,k59⟩,aX F59 T H_are_registers,b59⟩
 have M_Unlike_good_at:MHas l.prog w K mg base 3 c_Unlike "good_at" ["self", "width"] (bw cc [4,5,9,10,11,12]):=⟨T.cl_Unlike,_,_,⟨h_Unlike_good_at,i59,k59⟩,aX F59 T H_are_registers,b59⟩
 have M_Under_good_at:MHas l.prog w K mg base 3 c_Under "good_at" ["self", "width"] (bw cc [4,5,9,10,11,12]):=⟨T.cl_Under,_,_,⟨h_Under_good_at,i59,k59⟩,aX F59 T H_are_registers,b59⟩
 have M_Joining_good_at:MHas l.prog w K mg base 3 c_Low "good_at" ["self", "width"] (bw cc [4,5,9,10,11,12]):=⟨T.cl_Low,_,_,⟨a59,i59,k59⟩,aX F59 T H_are_registers,b59⟩
 have M_Right_good_at:MHas l.prog w K mg base 3 c_Right "good_at" ["self", "width"] (bw cc [6,7,8]):=⟨T.cl_Right,_,_,⟨h_Right_good_at,i60,k60⟩,cj F60 T H_are_registers W_is_between,b60⟩
 have M_Slide_good_at:MHas l.prog w K mg base 3 c_Slide "good_at" ["self", "width"] (bw cc [6,7,8]):=⟨T.cl_Slide,_,_,⟨h_Slide_good_at,i60,k60⟩,cj F60 T H_are_registers W_is_between,b60⟩
 have M_Moving_good_at:MHas l.prog w K mg base 3 c_Left "good_at" ["self", "width"] (bw cc [6,7,8]):=⟨T.cl_Left,_,_,⟨a60,i60,k60⟩,cj F60 T H_are_registers W_is_between,b60⟩
 have M_Pick_good_at:MHas l.prog w K mg base 3 c_Pick "good_at" ["self", "width"] (bw cc [13]):=⟨T.cl_Pick,_,_,⟨a61,i61,k61⟩,ju F61 T H_are_registers,b61⟩
 have M_Mark_good_at:MHas l.prog w K mg base 3 c_Mark "good_at" ["self", "width"] (bw cc [14]):=⟨T.cl_Mark,_,_,⟨a62,i62,k62⟩,jB F62 T W_is_between H_is_register,b62⟩
 have M_Set_act:MHas l.prog w K mg base 1 c_Set "act" ["self", "width", "words", "marks"] (ca cc [0]):=⟨T.cl_Set,_,_,⟨a63,i63,k63⟩,qJ F63 T ,b63⟩
 have M_Copy_act:MHas l.prog w K mg base 1 c_Copy "act" ["self", "width", "words", "marks"] (ca cc [1]):=⟨T.cl_Copy,_,_,⟨a64,i64,k64⟩,pH F64 T ,b64⟩
 have M_Gap_act:MHas l.prog w K mg base 6 c_Gap "act" ["self", "width", "words", "marks"] (ca cc [2,3]):=⟨T.cl_Gap,_,_,⟨h_Gap_act,i65,k65⟩,ft F65 T  (fun i hi=>by simp only [List.mem_cons,List.not_mem_nil,or_false] at hi; rcases hi with rfl | rfl <;> first | exact M_Sum_reckoned.mono (by decide) | exact M_Gap_reckoned.mono (by decide)),b65⟩
 have M_Carrying_act:MHas l.prog w K mg base 6 c_Sum "act" ["self", "width", "words", "marks"] (ca cc [2,3]):=⟨T.cl_Sum,_,_,⟨a65,i65,k65⟩,ft F65 T  (fun i hi=>by simp only [List.mem_cons,List.not_mem_nil,or_false] at hi; rcases hi with rfl | rfl <;> first | exact M_Sum_reckoned.mono (by decide) | exact M_Gap_reckoned.mono (by decide)),b65⟩
 have M_High_act:MHas l.prog w K mg base 6 c_High "act" ["self", "width", "words", "marks"] (ca cc [4,5,9,10,11,12]):=⟨T.cl_High,_,_,⟨h_High_act,i66,k66⟩,bD F66 T  (fun i hi=>by simp only [List.mem_cons,List.not_mem_nil,or_false] at hi; rcases hi with rfl | rfl | rfl | rfl | rfl | rfl <;> first | exact M_Low_reckoned.mono (by decide) | exact M_High_reckoned.mono (by decide) | exact M_And_reckoned.mono (by decide) | exact M_Or_reckoned.mono (by decide) | exact M_Unlike_reckoned.mono (by decide) | exact M_Under_reckoned.mono (by decide)),b66⟩
 have M_And_act:MHas l.prog w K mg base 6 c_And "act" ["self", "width", "words", "marks"] (ca cc [4,5,9,10,11,12]):=⟨T.cl_And,_,_,⟨h_And_act,i66,k66⟩,bD F66 T  (fun i hi=>by simp only [List.mem_cons,List.not_mem_nil,or_false] at hi; rcases hi with rfl | rfl | rfl | rfl | rfl | rfl <;> first | exact M_Low_reckoned.mono (by decide) | exact M_High_reckoned.mono (by decide) | exact M_And_reckoned.mono (by decide) | exact M_Or_reckoned.mono (by decide) | exact M_Unlike_reckoned.mono (by decide) | exact M_Under_reckoned.mono (by decide)),b66⟩
 have M_Or_act:MHas l.prog w K mg base 6 c_Or "act" ["self", "width", "words", "marks"] (ca cc [4,5,9,10,11,12]):=⟨T.cl_Or,_,_,⟨h_Or_act,i66,k66⟩,bD F66 T  (fun i hi=>by simp only [List.mem_cons,List.not_mem_nil,or_false] at hi; rcases hi with rfl | rfl | rfl | rfl | rfl | rfl <;> first | exact M_Low_reckoned.mono (by decide) | exact M_High_reckoned.mono (by decide) | exact M_And_reckoned.mono (by decide) | exact M_Or_reckoned.mono (by decide) | exact M_Unlike_reckoned.mono (by decide) | exact M_Under_reckoned.mono (by decide)),b66⟩
 have M_Unlike_act:MHas l.prog w K mg base 6 c_Unlike "act" ["self", "width", "words", "marks"] (ca cc [4,5,9,10,11,12]):=⟨T.cl_Unlike,_,_,⟨h_Unlike_act,i66,k66⟩,bD F66 T  (fun i hi=>by simp only [List.mem_cons,List.not_mem_nil,or_false] at hi; rcases hi with rfl | rfl | rfl | rfl | rfl | rfl <;> first | exact M_Low_reckoned.mono (by decide) | exact M_High_reckoned.mono (by decide) | exact M_And_reckoned.mono (by decide) | exact M_Or_reckoned.mono (by decide) | exact M_Unlike_reckoned.mono (by decide) | exact M_Under_reckoned.mono (by decide)),b66⟩
 have M_Under_act:MHas l.prog w K mg base 6 c_Under "act" ["self", "width", "words", "marks"] (ca cc [4,5,9,10,11,12]):=⟨T.cl_Under,_,_,⟨h_Under_act,i66,k66⟩,bD F66 T  (fun i hi=>by simp only [List.mem_cons,List.not_mem_nil,or_false] at hi; rcases hi with rfl | rfl | rfl | rfl | rfl | rfl <;> first | exact M_Low_reckoned.mono (by decide) | exact M_High_reckoned.mono (by decide) | exact M_And_reckoned.mono (by decide) | exact M_Or_reckoned.mono (by decide) | exact M_Unlike_reckoned.mono (by decide) | exact M_Under_reckoned.mono (by decide)),b66⟩
 have M_Joining_act:MHas l.prog w K mg base 6 c_Low "act" ["self", "width", "words", "marks"] (ca cc [4,5,9,10,11,12]):=⟨T.cl_Low,_,_,⟨a66,i66,k66⟩,bD F66 T  (fun i hi=>by simp only [List.mem_cons,List.not_mem_nil,or_false] at hi; rcases hi with rfl | rfl | rfl | rfl | rfl | rfl <;> first | exact M_Low_reckoned.mono (by decide) | exact M_High_reckoned.mono (by decide) | exact M_And_reckoned.mono (by decide) | exact M_Or_reckoned.mono (by decide) | exact M_Unlike_reckoned.mono (by decide) | exact M_Under_reckoned.mono (by decide)),b66⟩
 have M_Right_act:MHas l.prog w K mg base 6 c_Right "act" ["self", "width", "words", "marks"] (ca cc [6,7,8]):=⟨T.cl_Right,_,_,⟨h_Right_act,i67,k67⟩,dX F67 T  (fun i hi=>by simp only [List.mem_cons,List.not_mem_nil,or_false] at hi; rcases hi with rfl | rfl | rfl <;> first | exact M_Left_moved.mono (by decide) | exact M_Right_moved.mono (by decide) | exact M_Slide_moved.mono (by decide)),b67⟩
 have M_Slide_act:MHas l.prog w K mg base 6 c_Slide "act" ["self", "width", "words", "marks"] (ca cc [6,7,8]):=⟨T.cl_Slide,_,_,⟨h_Slide_act,i67,k67⟩,dX F67 T  (fun i hi=>by simp only [List.mem_cons,List.not_mem_nil,or_false] at hi; rcases hi with rfl | rfl | rfl <;> first | exact M_Left_moved.mono (by decide) | exact M_Right_moved.mono (by decide) | exact M_Slide_moved.mono (by decide)),b67⟩
 have M_Moving_act:MHas l.prog w K mg base 6 c_Left "act" ["self", "width", "words", "marks"] (ca cc [6,7,8]):=⟨T.cl_Left,_,_,⟨a67,i67,k67⟩,dX F67 T  (fun i hi=>by simp only [List.mem_cons,List.not_mem_nil,or_false] at hi; rcases hi with rfl | rfl | rfl <;> first | exact M_Left_moved.mono (by decide) | exact M_Right_moved.mono (by decide) | exact M_Slide_moved.mono (by decide)),b67⟩
 have M_Pick_act:MHas l.prog w K mg base 1 c_Pick "act" ["self", "width", "words", "marks"] (ca cc [13]):=⟨T.cl_Pick,_,_,⟨a68,i68,k68⟩,oN F68 T ,b68⟩
 have M_Mark_act:MHas l.prog w K mg base 1 c_Mark "act" ["self", "width", "words", "marks"] (ca cc [14]):=⟨T.cl_Mark,_,_,⟨a69,i69,k69⟩,oG F69 T ,b69⟩
 have M_Turns_word:MHas l.prog w K mg base 1 c_Turns "word" ["self"] (eE "turns"):=⟨T.cl_Turns,_,_,⟨a70,i70,k70⟩,lO F70 T ,b70⟩
 have C_Turns:CHas l.prog w K mg base 1 c_Turns "Turns" ["self", "times", "steps"] (oh K):=⟨_,_,⟨mk_Turns,a71,i71,kc_Turns⟩,iz F71 T ,b71,mg_of X G aC_Turns⟩
 have M_Turns_good_at:MHas l.prog w K mg base 3 c_Turns "good_at" ["self", "width"] (kQ cc):=⟨T.cl_Turns,_,_,⟨a73,i73,k73⟩,iZ F73 T W_is_between,b73⟩
 have MW:∀ k,k < 15->MHas l.prog w K mg base 1 (fOf cc k) "word" ["self"] (eE (wOf k)):=fun k hk=>by
  rcases (by omega:k = 0\/k = 1\/k = 2\/k = 3\/k = 4\/k = 5\/k = 6\/k = 7\/k = 8\/k = 9\/k = 10\/k = 11\/k = 12\/k = 13\/k = 14) with rfl | rfl | rfl | rfl | rfl | rfl | rfl | rfl | rfl | rfl | rfl | rfl | rfl | rfl | rfl
  ·exact M_Set_word
  ·exact M_Copy_word
  ·exact M_Sum_word
  ·exact M_Gap_word
  ·exact M_Low_word
  ·exact M_High_word
  ·exact M_Left_word
  ·exact M_Right_word
  ·exact M_Slide_word
  ·exact M_And_word
  ·exact M_Or_word
  ·exact M_Unlike_word
  ·exact M_Under_word
  ·exact M_Pick_word
  ·exact M_Mark_word
 have MG:∀ k,k < 15->MHas l.prog w K mg base 4 (fOf cc k) "good_at" ["self", "width"] (bw cc [k]):=fun k hk=>by
  rcases (by omega:k = 0\/k = 1\/k = 2\/k = 3\/k = 4\/k = 5\/k = 6\/k = 7\/k = 8\/k = 9\/k = 10\/k = 11\/k = 12\/k = 13\/k = 14) with rfl | rfl | rfl | rfl | rfl | rfl | rfl | rfl | rfl | rfl | rfl | rfl | rfl | rfl | rfl
  ·exact (M_Set_good_at.mono (by decide)).imp fun vs H Q E h=>aU (by decide) h
  ·exact (M_Copy_good_at.mono (by decide)).imp fun vs H Q E h=>aU (by decide) h
  ·exact (M_Carrying_good_at.mono (by decide)).imp fun vs H Q E h=>aU (by decide) h
  ·exact (M_Gap_good_at.mono (by decide)).imp fun vs H Q E h=>aU (by decide) h
  ·exact (M_Joining_good_at.mono (by decide)).imp fun vs H Q E h=>aU (by decide) h
  ·exact (M_High_good_at.mono (by decide)).imp fun vs H Q E h=>aU (by decide) h
  ·exact (M_Moving_good_at.mono (by decide)).imp fun vs H Q E h=>aU (by decide) h
  ·exact (M_Right_good_at.mono (by decide)).imp fun vs H Q E h=>aU (by decide) h
  ·exact (M_Slide_good_at.mono (by decide)).imp fun vs H Q E h=>aU (by decide) h
  ·exact (M_And_good_at.mono (by decide)).imp fun vs H Q E h=>aU (by decide) h
  ·exact (M_Or_good_at.mono (by decide)).imp fun vs H Q E h=>aU (by decide) h
  ·exact (M_Unlike_good_at.mono (by decide)).imp fun vs H Q E h=>aU (by decide) h
  ·exact (M_Under_good_at.mono (by decide)).imp fun vs H Q E h=>aU (by decide) h
  ·exact (M_Pick_good_at.mono (by decide)).imp fun vs H Q E h=>aU (by decide) h
  ·exact (M_Mark_good_at.mono (by decide)).imp fun vs H Q E h=>aU (by decide) h
 have MA:∀ k,k < 15->MHas l.prog w K mg base 6 (fOf cc k) "act" ["self", "width", "words", "marks"] (ca cc [k]):=fun k hk=>by
  rcases (by omega:k = 0\/k = 1\/k = 2\/k = 3\/k = 4\/k = 5\/k = 6\/k = 7\/k = 8\/k = 9\/k = 10\/k = 11\/k = 12\/k = 13\/k = 14) with rfl | rfl | rfl | rfl | rfl | rfl | rfl | rfl | rfl | rfl | rfl | rfl | rfl | rfl | rfl
  ·exact (M_Set_act.mono (by decide)).imp fun vs H Q E h=>bg (by decide) h
  ·exact (M_Copy_act.mono (by decide)).imp fun vs H Q E h=>bg (by decide) h
  ·exact (M_Carrying_act.mono (by decide)).imp fun vs H Q E h=>bg (by decide) h
  ·exact (M_Gap_act.mono (by decide)).imp fun vs H Q E h=>bg (by decide) h
  ·exact (M_Joining_act.mono (by decide)).imp fun vs H Q E h=>bg (by decide) h
  ·exact (M_High_act.mono (by decide)).imp fun vs H Q E h=>bg (by decide) h
  ·exact (M_Moving_act.mono (by decide)).imp fun vs H Q E h=>bg (by decide) h
  ·exact (M_Right_act.mono (by decide)).imp fun vs H Q E h=>bg (by decide) h
  ·exact (M_Slide_act.mono (by decide)).imp fun vs H Q E h=>bg (by decide) h
  ·exact (M_And_act.mono (by decide)).imp fun vs H Q E h=>bg (by decide) h
  ·exact (M_Or_act.mono (by decide)).imp fun vs H Q E h=>bg (by decide) h
  ·exact (M_Unlike_act.mono (by decide)).imp fun vs H Q E h=>bg (by decide) h
  ·exact (M_Under_act.mono (by decide)).imp fun vs H Q E h=>bg (by decide) h
  ·exact (M_Pick_act.mono (by decide)).imp fun vs H Q E h=>bg (by decide) h
  ·exact (M_Mark_act.mono (by decide)).imp fun vs H Q E h=>bg (by decide) h
 have MT:∀ k,k < 15->MHas l.prog w K mg base 2 (fOf cc k) "told" ["self"] (bo cc [k]):=fun k hk=>by
  rcases (by omega:k = 0\/k = 1\/k = 2\/k = 3\/k = 4\/k = 5\/k = 6\/k = 7\/k = 8\/k = 9\/k = 10\/k = 11\/k = 12\/k = 13\/k = 14) with rfl | rfl | rfl | rfl | rfl | rfl | rfl | rfl | rfl | rfl | rfl | rfl | rfl | rfl | rfl
  ·exact (M_Set_told.mono (by decide)).imp fun vs H Q E h=>aS (by decide) h
  ·exact (M_Copy_told.mono (by decide)).imp fun vs H Q E h=>aS (by decide) h
  ·exact (M_Carrying_told.mono (by decide)).imp fun vs H Q E h=>aS (by decide) h
  ·exact (M_Gap_told.mono (by decide)).imp fun vs H Q E h=>aS (by decide) h
  ·exact (M_Joining_told.mono (by decide)).imp fun vs H Q E h=>aS (by decide) h
  ·exact (M_High_told.mono (by decide)).imp fun vs H Q E h=>aS (by decide) h
  ·exact (M_Moving_told.mono (by decide)).imp fun vs H Q E h=>aS (by decide) h
  ·exact (M_Right_told.mono (by decide)).imp fun vs H Q E h=>aS (by decide) h
  ·exact (M_Slide_told.mono (by decide)).imp fun vs H Q E h=>aS (by decide) h
  ·exact (M_And_told.mono (by decide)).imp fun vs H Q E h=>aS (by decide) h
  ·exact (M_Or_told.mono (by decide)).imp fun vs H Q E h=>aS (by decide) h
  ·exact (M_Unlike_told.mono (by decide)).imp fun vs H Q E h=>aS (by decide) h
  ·exact (M_Under_told.mono (by decide)).imp fun vs H Q E h=>aS (by decide) h
  ·exact (M_Pick_told.mono (by decide)).imp fun vs H Q E h=>aS (by decide) h
  ·exact (M_Mark_told.mono (by decide)).imp fun vs H Q E h=>aS (by decide) h
 have MGU:MHas l.prog w K mg base 4 c_Turns "good_at" ["self", "width"] (kQ cc):=M_Turns_good_at.mono (by decide)
 have AT:∀ d,MHas l.prog w K mg base (d + 6) c_Turns "act" ["self", "width", "words", "marks"] (spN (kF cc) d):=fun d=>by
  induction d with
  | zero=>exact ⟨T.cl_Turns,_,_,⟨a74,i74,k74⟩,FnOk.void,b74⟩
  | succ d ih=>exact ⟨T.cl_Turns,_,_,⟨a74,i74,k74⟩,m6 F74 T MA ih,b74⟩
 have MTA:MHas l.prog w K mg base 12 c_Turns "act" ["self", "width", "words", "marks"] (spN (kF cc) 5):=(AT 5).mono (by decide)
 have TU:∀ d,MHas l.prog w K mg base (d + 2) c_Turns "told" ["self"] (spN (iF cc) d):=fun d=>by
  induction d with
  | zero=>exact ⟨T.cl_Turns,_,_,⟨a72,i72,k72⟩,FnOk.void,b72⟩
  | succ d ih=>exact ⟨T.cl_Turns,_,_,⟨a72,i72,k72⟩,lL F72 T MT ih,b72⟩
 have MU:MHas l.prog w K mg base 8 c_Turns "told" ["self"] (spN (iF cc) 5):=(TU 5).mono (by decide)
 have H_is_good:Has l.prog w K mg base 5 "is_good" ["width", "thing", "about"] (kL cc):=⟨_,_,qY F75 T  MG MGU,b75,k75,mg_of X G a75⟩
 have RP:∀ d,Has l.prog w K mg base (d + 5) "place_behind" ["width", "steps", "place", "about"] (spN (g8 cc) d):=fun d=>by
  induction d with
  | zero=>exact ⟨_,_,FnOk.void,b76,k76,mg_of X G a76⟩
  | succ d ih=>exact ⟨_,_,jE F76 T H_is_good ih,b76,k76,mg_of X G a76⟩
 have H_place_behind:Has l.prog w K mg base 12 "place_behind" ["width", "steps", "place", "about"] (g8 cc 6):=jC (RP 6) (by decide)
 have RC:∀ d,Has l.prog w K mg base (d + 5) "count_words" ["steps", "times", "counts"] (spN (gZ cc) d):=fun d=>by
  induction d with
  | zero=>exact ⟨_,_,FnOk.void,b77,k77,mg_of X G a77⟩
  | succ d ih=>exact ⟨_,_,j5 F77 T  MW M_Turns_word ih,b77,k77,mg_of X G a77⟩
 have H_count_words:Has l.prog w K mg base 12 "count_words" ["steps", "times", "counts"] (gZ cc 6):=jC (RC 6) (by decide)
 have H__law_made_pair:Has l.prog w K mg base 3 "_law_made_pair" ["_law_row_here"] (sX cc [4,5,9,10,11,12,6,7,8,14]):=⟨_,_,iH F95 T C_Mark C_Low C_High C_And C_Or C_Unlike C_Under C_Left C_Right C_Slide,b95,k95,mg_of X G a95⟩
 have RM:∀ d,Has l.prog w K mg base (d + 8) "_law_made" ["_law_row_here"] (spN (jM cc) d):=fun d=>by
  induction d with
  | zero=>exact ⟨_,_,FnOk.void,b96,k96,mg_of X G a96⟩
  | succ d ih=>exact ⟨_,_,ni F96 T H__law_made_pair C_Turns C_Set C_Copy C_Sum C_Gap C_Pick ih,b96,k96,mg_of X G a96⟩
 have H__law_made:Has l.prog w K mg base 14 "_law_made" ["_law_row_here"] (jM cc 6):=jC (RM 6) (by decide)
 have H__law_moved:Has l.prog w K mg base 1 "_law_moved" ["_law_word_here", "_law_a", "_law_k", "_law_size"] rY:=⟨_,_,lW F98 T ,b98,k98,mg_of X G a98⟩
 have H__law_pair_word:Has l.prog w K mg base 1 "_law_pair_word" ["_law_word_here", "_law_a", "_law_b", "_law_size"] oB:=⟨_,_,iD F97 T ,b97,k97,mg_of X G a97⟩
 have H__law_done:Has l.prog w K mg base 2 "_law_done" ["_law_size", "_law_row_here", "_law_held_here", "_law_marks"] rX:=⟨_,_,mY F99 T H__law_moved H__law_pair_word,b99,k99,mg_of X G a99⟩
 have RR:∀ d,Has l.prog w K mg base (d + 8) "_law_run" ["_law_size", "_law_rows", "_law_held_here", "_law_marks", "_law_counts"] (spN (jQ cc) d):=fun d=>by
  induction d with
  | zero=>exact ⟨_,_,FnOk.void,b102,k102,mg_of X G a102⟩
  | succ d ih=>exact ⟨_,_,oj F102 T H__law_done ih,b102,k102,mg_of X G a102⟩
 have H__law_run:Has l.prog w K mg base 14 "_law_run" ["_law_size", "_law_rows", "_law_held_here", "_law_marks", "_law_counts"] (jQ cc 6):=jC (RR 6) (by decide)
 have RF:∀ d,Has l.prog w K mg base (d + 8) "_law_flat" ["_law_rows"] (spN (jY cc) d):=fun d=>by
  induction d with
  | zero=>exact ⟨_,_,FnOk.void,b103,k103,mg_of X G a103⟩
  | succ d ih=>exact ⟨_,_,mq F103 T  ih,b103,k103,mg_of X G a103⟩
 have H__law_flat:Has l.prog w K mg base 14 "_law_flat" ["_law_rows"] (jY cc 6):=jC (RF 6) (by decide)
 have H__law_begun:Has l.prog w K mg base 1 "_law_begun" ["_law_cell_here"] spBox:=⟨_,_,lX F85 T ,b85,k85,mg_of X G a85⟩
 have H__law_draw:Has l.prog w K mg base 1 "_law_draw" ["_law_state", "_law_many"] cU:=⟨_,_,nW F86 T ,b86,k86,mg_of X G a86⟩
 have H__law_names:Has l.prog w K mg base 2 "_law_names" ["_law_state"] pC:=⟨_,_,lD F89 T H__law_draw,b89,k89,mg_of X G a89⟩
 have H__law_word:Has l.prog w K mg base 2 "_law_word" ["_law_state", "_law_width"] spWrd:=⟨_,_,nM F88 T H__law_draw,b88,k88,mg_of X G a88⟩
 have H__law_held:Has l.prog w K mg base 3 "_law_held" ["_law_state", "_law_width", "_law_names_here"] sM:=⟨_,_,mO F107 T H__law_draw H__law_word,b107,k107,mg_of X G a107⟩
 have H__law_shut:Has l.prog w K mg base 1 "_law_shut" ["_law_heads", "_law_rounds", "_law_room"] nN:=⟨_,_,mG F93 T ,b93,k93,mg_of X G a93⟩
 have H__law_cell:Has l.prog w K mg base 1 "_law_cell" ["_law_script", "_law_k"] (qA K):=⟨_,_,nh F84 T ,b84,k84,mg_of X G a84⟩
 have H__law_name:Has l.prog w K mg base 2 "_law_name" ["_law_state", "_law_names_here"] tG:=⟨_,_,mS F90 T H__law_draw,b90,k90,mg_of X G a90⟩
 have H__law_sorts:Has l.prog w K mg base 1 "_law_sorts" [] lj:=⟨_,_,lg F91 T ,b91,k91,mg_of X G a91⟩
 have H__law_row:Has l.prog w K mg base 3 "_law_row" ["_law_state", "_law_width", "_law_names_here"] tV:=⟨_,_,oW F92 T H__law_name H__law_sorts H__law_draw H__law_word,b92,k92,mg_of X G a92⟩
 have H__law_tree:Has l.prog w K mg base 4 "_law_tree" ["_law_script", "_law_width", "_law_names_here", "_law_most"] (t8 K):=⟨_,_,mU F94 T H__law_begun H__law_draw H__law_shut H__law_cell H__law_row,b94,k94,mg_of X G a94⟩
 have H__law_whole:Has l.prog w K mg base 1 "_law_whole" ["_law_found"] fZ:=⟨_,_,kM F87 T ,b87,k87,mg_of X G a87⟩
 have H__law_words:Has l.prog w K mg base 2 "_law_words" [] g9:=⟨_,_,lT F100 T H__law_sorts,b100,k100,mg_of X G a100⟩
 have H__law_same:Has l.prog w K mg base 3 "_law_same" ["_law_found", "_law_held_here", "_law_marks", "_law_counts"] oX:=⟨_,_,m5 F101 T H__law_whole H__law_words,b101,k101,mg_of X G a101⟩
 have H_row_words:Has l.prog w K mg base 1 "row_words" [] spRW:=⟨_,_,mF F13 T ,b13,k13,mg_of X G a13⟩
 have H_need_steps:Has l.prog w K mg base 13 "need_steps" ["width", "steps"] (jF cc):=⟨_,_,me F78 T H_need_width H_place_behind H_row_words H_count_words,b78,k78,mg_of X G a78⟩
 have H_need_prices:HasY l.prog w K mg base 3 "need_prices" ["prices"] (spNPT cc):=⟨_,_,kA F82 T H_is_between X_NoPrices,b82,k82,mg_of X G a82⟩
 have H_cost_of:HasY l.prog w K mg base 14 "cost_of" ["width", "steps", "prices"] (qj cc):=⟨_,_,rj F83 T H_need_steps H_need_prices,b83,k83,mg_of X G a83⟩
 have H__law_dear:Has l.prog w K mg base 15 "_law_dear" ["_law_state", "_law_width", "_law_steps"] (tR cc):=⟨_,_,mR F105 T H__law_words H__law_draw H_cost_of,b105,k105,mg_of X G a105⟩
 have H_need_registers:Has l.prog w K mg base 4 "need_registers" ["width", "registers"] ou:=⟨_,_,iu F80 T H_is_register H_is_word,b80,k80,mg_of X G a80⟩
 have H_run_steps:Has l.prog w K mg base 14 "run_steps" ["width", "steps", "registers"] (sZ cc):=⟨_,_,mz F81 T H_need_steps H_need_registers MA MTA,b81,k81,mg_of X G a81⟩
 have H__law_costs:Has l.prog w K mg base 15 "_law_costs" ["_law_width", "_law_steps", "_law_state", "_law_counts"] (pd cc):=⟨_,_,lu F104 T H_cost_of H__law_words H__law_whole H__law_draw,b104,k104,mg_of X G a104⟩
 have H_check_steps:Has l.prog w K mg base 14 "check_steps" ["width", "steps"] (kS cc):=⟨_,_,j9 F79 T H_need_steps,b79,k79,mg_of X G a79⟩
 have H__law_counted:Has l.prog w K mg base 15 "_law_counted" ["_law_width", "_law_steps", "_law_counts"] (jr cc):=⟨_,_,jg F106 T H_check_steps H__law_whole,b106,k106,mg_of X G a106⟩
 exact ok_law F108 T H__law_begun H__law_names H__law_held H__law_tree H__law_run H__law_flat H__law_same H__law_cell H__law_draw H__law_made H__law_dear H_run_steps H__law_costs H__law_counted MT MU
theorem walk {l:PySem.W.OpenLaw} {q:Program} {loose:List Str} {XP:(Str->Option Value)->Heap->Prop} {YP:World->Heap->Prop} {d:DefRec} {K:Params->Frag} (hn:l.most = some 63) (hdf:d.params.defaults = [])
  (hY:∀ (w:World) (h:Heap),YP w h->(K w.params).In h)
  (F:∀ (w:World) (mg:Str->Option Value) (fa:Addr) (h:Heap),(K w.params).In h->h.Ns mainGlobals mg->mg d.name = some (.ref fa) ->
   ∃ fd:FuncData,(∀ (s:Shared) (u:Value),BindsTo s fd ⟨[u],[]⟩ [("_law_script",u)])/\∀ base:Heap,(K w.params).In base->base.Ns mainGlobals mg->FnOk l.prog w (K w.params) mg base CX0 16 fa fd ["_law_script"] (spLaw (K w.params))) :
  PySem.W.WalkO q loose XP YP l.row.toRowW d [] (fun f vs=>PySem.call f vs) :=
 L2.walk_of (n:=63) (k:=16) (x:="_law_script") (CX:=fun _=>CX0) (sp:=fun w=>spLaw (K w.params)) hn (by decide) hdf ⟨rfl,by decide,by decide,rfl⟩ hY F (fun _ _ a ns hl _ hS=>⟨a,ns,rfl,hS,hl,fun _=>rfl⟩) fun _ _ _ _ _ z=>z
end Ow
open PySem PySem.W PyProof.Rows
def PySem.W.Fast.tw1401805299030934056:Nat:=0
def PySem.W.Fast.tw10535040699643232262:Nat:=0
def PySem.W.Fast.tw11634466156252355323:Nat:=0
def PySem.W.Fast.tw16583378985181768445:Nat:=0
def PySem.W.Fast.tw12142257590795936771:Nat:=0
def PySem.W.Fast.tw4041243539677007559:Nat:=0
def PySem.W.Fast.tw7994681806455683:Nat:=0
def PySem.W.Fast.tw1316059772713991678:Nat:=0
def PySem.W.Fast.tw16180814180376208404:Nat:=0
def PySem.W.Fast.tw9606273909764070009:Nat:=0
def PySem.W.Fast.tw4524642328211793161:Nat:=0
def PySem.W.Fast.tw12644150459449258200:Nat:=0
def PySem.W.Fast.tw2439750450254579223:Nat:=0
def PySem.W.Fast.tw8246170230853738897:Nat:=0
def PySem.W.Fast.tw1301199254976899270:Nat:=0
def PySem.W.Fast.tw4386276852028475120:Nat:=0
def PySem.W.Fast.tw419876646570738538:Nat:=0
def PySem.W.Fast.tw17385913994986718663:Nat:=0
def PySem.W.Fast.tw7428498947837048166:Nat:=0
def PySem.W.Fast.tw10409985180756727531:Nat:=0
def PySem.W.Fast.tw16352647255824403732:Nat:=0
def PySem.W.Fast.tw12761481479202807289:Nat:=0
def PySem.W.Fast.tw2657794190059680015:Nat:=0
def PySem.W.Fast.tw6060074140332730905:Nat:=0
def PySem.W.Fast.tw16372883940938004633:Nat:=0
def PySem.W.Fast.tw1402112229987121661:Nat:=0
def PySem.W.Fast.tw11793999897977088230:Nat:=0
def PySem.W.Fast.tw8666574132668000913:Nat:=0
def PySem.W.Fast.tw11883895035735816735:Nat:=0
def PySem.W.Fast.tw5828312681225998577:Nat:=0
def PySem.W.Fast.tw4981433374660889299:Nat:=0
def PySem.W.Fast.tw17329397086191768614:Nat:=0
def PySem.W.Fast.tw15613792815460696956:Nat:=0
def PySem.W.Fast.tw955423880463519588:Nat:=0
def PySem.W.Fast.tw6863730960389990790:Nat:=0
def PySem.W.Fast.tw2602491851786448897:Nat:=0
def PySem.W.Fast.tw16996838279031971773:Nat:=0
def PySem.W.Fast.tw3491618766842176300:Nat:=0
def PySem.W.Fast.tw4599525558191837400:Nat:=0
def PySem.W.Fast.tw10091070684855227881:Nat:=0
def PySem.W.Fast.tw17998619625671662524:Nat:=0
def PySem.W.Fast.tw15213170070388105844:Nat:=0
def PySem.W.Fast.tw16660636007392780616:Nat:=0
def PySem.W.Fast.tw10108477079487399985:Nat:=0
def PySem.W.Fast.tw6012872907673552364:Nat:=0
def PySem.W.Fast.tw7397202684388616582:Nat:=0
def PySem.W.Fast.tw2548720234349778242:Nat:=0
def PySem.W.Fast.tw7749350890231967530:Nat:=0
def PySem.W.Fast.tw17347224982334606914:Nat:=0
def PySem.W.Fast.tw9383499338886379771:Nat:=0
def PySem.W.Fast.tw9054511759381860688:Nat:=0
def PySem.W.Fast.tw11092399913165996449:Nat:=0
def PySem.W.Fast.tw4786114041708074408:Nat:=0
def PySem.W.Fast.tw13870708190560542982:Nat:=0
def PySem.W.Fast.tw7671206040901349451:Nat:=0
def PySem.W.Fast.tw9243343139266406537:Nat:=0
def PySem.W.Fast.tw10572028342463454698:Nat:=0
def PySem.W.Fast.tw14719486349811294920:Nat:=0
def PySem.W.Fast.tw2634413013578618774:Nat:=0
def PySem.W.Fast.tw16595749464037586232:Nat:=0
def PySem.W.Fast.tw14923370961143536538:Nat:=0
def PySem.W.Fast.tw157397574473029334:Nat:=0
def PySem.W.Fast.tw2800031541971865908:Nat:=0
def PySem.W.Fast.tw7826631071148893424:Nat:=0
def PySem.W.Fast.tw6328658350250441241:Nat:=0
def PySem.W.Fast.tw3201821081048666365:Nat:=0
def PySem.W.Fast.tw10868081591829362465:Nat:=0
def PySem.W.Fast.tw1199305947847226489:Nat:=0
def PySem.W.Fast.tw4389643780020674309:Nat:=0
def PySem.W.Fast.tw10757403084255858256:Nat:=0
def PySem.W.Fast.tw5263094478240544799:Nat:=0
def PySem.W.Fast.tw14226349236919744706:Nat:=0
def PySem.W.Fast.tw7243677321502942399:Nat:=0
def PySem.W.Fast.tw5576884062283833756:Nat:=0
def PySem.W.Fast.tw6553133155613341063:Nat:=0
def PySem.W.Fast.tw6568367312920383740:Nat:=0
def PySem.W.Fast.tw1993289936085766999:Nat:=0
def PySem.W.Fast.tw218062296763536285:Nat:=0
def PySem.W.Fast.tw13770451847575611016:Nat:=0
def PySem.W.Fast.tw13676381518024308048:Nat:=0
def PySem.W.Fast.tw18286410068272706117:Nat:=0
def PySem.W.Fast.tw12843520154687036169:Nat:=0
def PySem.W.Fast.tw18310386055272997535:Nat:=0
def PySem.W.Fast.tw7001724999946243:Nat:=0
def PySem.W.Fast.tw17431911721314171402:Nat:=0
def PySem.W.Fast.tw5731420754441518187:Nat:=0
def PySem.W.Fast.tw13215813722964068379:Nat:=0
def PySem.W.Fast.tw9924047794796679937:Nat:=0
def PySem.W.Fast.tw17759409276947825821:Nat:=0
def PySem.W.Fast.tw3513076190680593666:Nat:=0
def PySem.W.Fast.tw10070939362275687822:Nat:=0
def PySem.W.Fast.tw12927084948107603846:Nat:=0
def PySem.W.Fast.tw3970197051368137758:Nat:=0
def PySem.W.Fast.tw15734557242082614218:Nat:=0
def PySem.W.Fast.tw17282281800238143904:Nat:=0
def PySem.W.Fast.tw7663042526499142444:Nat:=0
def PySem.W.Fast.tw1140750147106850467:Nat:=0
def PySem.W.Fast.tw13113254789716591692:Nat:=0
def PySem.W.Fast.tw857146730701687805:Nat:=0
def PySem.W.Fast.tw18352394794167502365:Nat:=0
def PySem.W.Fast.tw11685378756756686129:Nat:=0
def PySem.W.Fast.tw1234206152771472813:Nat:=0
def PySem.W.Fast.tw15590320276663328937:Nat:=0
def PySem.W.Fast.tw9402696377442056202:Nat:=0
def PySem.W.Fast.tw17411114191895877316:Nat:=0
def PySem.W.Fast.tw18097347057298618362:Nat:=0
def PySem.W.Fast.tw18430898739644803624:Nat:=0
def PySem.W.Fast.tw2880794327209546175:Nat:=0
def PySem.W.Fast.tw2676472732651292540:Nat:=0
def PySem.W.Fast.tw12484995647321000314:Nat:=0
def PySem.W.Fast.tw5660125420475664000:Nat:=0
def PySem.W.Fast.tw8475465569755782719:Nat:=0
def PySem.W.Fast.tw2290456391873587184:Nat:=0
def PySem.W.Fast.tw9342552746315817244:Nat:=0
def PySem.W.Fast.tw7698788131820346774:Nat:=0
def PySem.W.Fast.tw2826821009591304520:Nat:=0
def PySem.W.Fast.tw2065052875413946852:Nat:=0
def PySem.W.Fast.tw15842976904070279241:Nat:=0
def PySem.W.Fast.tw1842236169578162833:Nat:=0
def PySem.W.Fast.tw14010206173253466546:Nat:=0
def PySem.W.Fast.tw5349204054802993413:Nat:=0
def PySem.W.Fast.tw10471411815033554512:Nat:=0
def PySem.W.Fast.tw8667290412605751898:Nat:=0
def PySem.W.Fast.tw14700762301357851843:Nat:=0
def PySem.W.Fast.tw9991347201492665537:Nat:=0
def PySem.W.Fast.tw9473610695137059431:Nat:=0
def PySem.W.Fast.tw3136094099308902870:Nat:=0
def PySem.W.Fast.tw5971314501877039294:Nat:=0
def PySem.W.Fast.tw3719239467068157965:Nat:=0
def PySem.W.Fast.tw5437295578185842144:Nat:=0
def PySem.W.Fast.tw13390741468780973473:Nat:=0
def PySem.W.Fast.tw6104260889916923628:Nat:=0
def PySem.W.Fast.tw15522527414663136415:Nat:=0
def PySem.W.Fast.tw5392422620269357713:Nat:=0
def PySem.W.Fast.tw4884578917240533568:Nat:=0
def PySem.W.Fast.tw5112751486753301404:Nat:=0
def PySem.W.Fast.tw8378072326737046648:Nat:=0
def PySem.W.Fast.tw6152609970018092035:Nat:=0
def PySem.W.Fast.tw12377897435449603941:Nat:=0
def PySem.W.Fast.tw16758718443944643505:Nat:=0
def PySem.W.Fast.tw17024553469579425917:Nat:=0
def PySem.W.Fast.tw7305520677328091038:Nat:=0
def PySem.W.Fast.tw11857745586584283078:Nat:=0
def PySem.W.Fast.tw3361288162115844969:Nat:=0
def PySem.W.Fast.tw6998230129637043429:Nat:=0
def PySem.W.Fast.tw13820942096581271153:Nat:=0
def PySem.W.Fast.tw14348228627670068533:Nat:=0
def PySem.W.Fast.tw16805997119788548744:Nat:=0
def PySem.W.Fast.tw2519455852981566558:Nat:=0
def PySem.W.Fast.tw12756357147398689772:Nat:=0
def PySem.W.Fast.tw7431793470207221242:Nat:=0
def PySem.W.Fast.tw13700657248966889426:Nat:=0
def PySem.W.Fast.tw16258038463396219697:Nat:=0
def PySem.W.Fast.tw3538030919422915411:Nat:=0
def PySem.W.Fast.tw4911332804542469032:Nat:=0
def PySem.W.Fast.tw12621103961787026766:Nat:=0
def PySem.W.Fast.tw17707582990465834109:Nat:=0
def PySem.W.Fast.tw8616199934118841332:Nat:=0
def PySem.W.Fast.tw8590148748497219842:Nat:=0
def PySem.W.Fast.tw13103075051645234919:Nat:=0
def PySem.W.Fast.tw7510183807539016286:Nat:=0
def PySem.W.Fast.tw11409975404887111079:Nat:=0
def PySem.W.Fast.tw16993721284533595061:Nat:=0
def PySem.W.Fast.tw10596675332744477494:Nat:=0
def PySem.W.Fast.tw10165206886706172392:Nat:=0
def PySem.W.Fast.tw5461931631623246844:Nat:=0
def PySem.W.Fast.tw18145156936661397617:Nat:=0
def PySem.W.Fast.tw14841617947508840937:Nat:=0
def PySem.W.Fast.tw2219051498211027633:Nat:=0
def PySem.W.Fast.tw3016668255336317372:Nat:=0
def PySem.W.Fast.tw13087950471227319618:Nat:=0
def PySem.W.Fast.tw9996409777229568674:Nat:=0
def PySem.W.Fast.tw17422048801867827959:Nat:=0
def PySem.W.Fast.tw11323014949940434965:Nat:=0
def PySem.W.Fast.tw2339752858981964352:Nat:=0
def PySem.W.Fast.tw4284085715555155218:Nat:=0
def PySem.W.Fast.tw953535498928427103:Nat:=0
def PySem.W.Fast.tw11305504747235652444:Nat:=0
def PySem.W.Fast.tw17350862802312648616:Nat:=0
def PySem.W.Fast.tw8638026119451622941:Nat:=0
def PySem.W.Fast.tw7231917659374601466:Nat:=0
def PySem.W.Fast.tw16028701660314063139:Nat:=0
def PySem.W.Fast.tw11031343197967869180:Nat:=0
def PySem.W.Fast.tw4721085195835067369:Nat:=0
def PySem.W.Fast.tw12960839558378655634:Nat:=0
def PySem.W.Fast.tw14284903784380022008:Nat:=0
def PySem.W.Fast.tw8923248656799153481:Nat:=0
def PySem.W.Fast.tw4645127976840272969:Nat:=0
def PySem.W.Fast.tw11121915626749797486:Nat:=0
def PySem.W.Fast.tw14072681924103806208:Nat:=0
def PySem.W.Fast.tw9274598267035864281:Nat:=0
def PySem.W.Fast.tw8618436745960139400:Nat:=0
def PySem.W.Fast.tw3892098656652246968:Nat:=0
def PySem.W.Fast.tw13356116168737486910:Nat:=0
def PySem.W.Fast.tw8222129474304006822:Nat:=0
def PySem.W.Fast.tw10584858555791786661:Nat:=0
def PySem.W.Fast.tw4639645426866187071:Nat:=0
def PySem.W.Fast.tw8037472511501547771:Nat:=0
def PySem.W.Fast.tw2798846553956318656:Nat:=0
def PySem.W.Fast.tw77080791401129332:Nat:=0
def PySem.W.Fast.tw1657795396829364476:Nat:=0
def PySem.W.Fast.tw11462048772988114601:Nat:=0
def PySem.W.Fast.tw6850252374575525073:Nat:=0
def PySem.W.Fast.tw5162947862590500475:Nat:=0
def PySem.W.Fast.tw11807047097719412629:Nat:=0
def PySem.W.Fast.tw18195199238345292667:Nat:=0
def PySem.W.Fast.tw8095201201577323269:Nat:=0
def PySem.W.Fast.tw3708025518962818202:Nat:=0
def PySem.W.Fast.tw14197585681190914667:Nat:=0
def PySem.W.Fast.tw15052835536733872742:Nat:=0
def PySem.W.Fast.tw10988411158820937426:Nat:=0
def PySem.W.Fast.tw17787874053999477303:Nat:=0
def PySem.W.Fast.tw13877513671571478151:Nat:=0
def PySem.W.Fast.tw10896321903075065536:Nat:=0
def PySem.W.Fast.tw6542901826980914383:Nat:=0
def PySem.W.Fast.tw14145620763630385734:Nat:=0
def PySem.W.Fast.tw2633389047718308728:Nat:=0
def PySem.W.Fast.tw15768870731958431728:Nat:=0
def PySem.W.Fast.tw16572863222839911222:Nat:=0
def PySem.W.Fast.tw13776066339800666483:Nat:=0
def PySem.W.Fast.tw16569827120837690268:Nat:=0
def PySem.W.Fast.tw6596253379394852885:Nat:=0
def PySem.W.Fast.tw16461826002564877595:Nat:=0
def PySem.W.Fast.tw6496101778770297115:Nat:=0
def PySem.W.Fast.tw2910791820887254793:Nat:=0
def PySem.W.Fast.tw11447605189727199287:Nat:=0
def PySem.W.Fast.tw2319359159979550856:Nat:=0
def PySem.W.Fast.tw5608426870978342653:Nat:=0
def PySem.W.Fast.tw13772845771631598254:Nat:=0
def PySem.W.Fast.tw10956700813483415185:Nat:=0
def PySem.W.Fast.tw15963659982482802079:Nat:=0
def PySem.W.Fast.tw13886836241754461412:Nat:=0
def PySem.W.Fast.tw6425309935196930083:Nat:=0
def PySem.W.Fast.tw9563438330351705062:Nat:=0
def PySem.W.Fast.tw16343351835597854868:Nat:=0
def PySem.W.Fast.tw10723478526110144348:Nat:=0
def PySem.W.Fast.tw17646918507769408789:Nat:=0
def PySem.W.Fast.tw14176112266100205276:Nat:=0
def PySem.W.Fast.tw16504825229935007320:Nat:=0
def PySem.W.Fast.tw2404540613375751167:Nat:=0
def PySem.W.Fast.tw4868308040384887571:Nat:=0
def PySem.W.Fast.tw11546662122436989403:Nat:=0
def PySem.W.Fast.tw6170979537339252018:Nat:=0
def PySem.W.Fast.tw15661959523010571036:Nat:=0
def PySem.W.Fast.tw796745319100683832:Nat:=0
def PySem.W.Fast.tw4508940052882551467:Nat:=0
def PySem.W.Fast.tw8460839967145008078:Nat:=0
def PySem.W.Fast.tw2507249591621907753:Nat:=0
def PySem.W.Fast.tw16682929873730666200:Nat:=0
def PySem.W.Fast.tw12175786707401788270:Nat:=0
def PySem.W.Fast.tw8768624318980937034:Nat:=0
def PySem.W.Fast.tw13098979399411470321:Nat:=0
def PySem.W.Fast.tw7568389958832137114:Nat:=0
def PySem.W.Fast.tw5129725568770557238:Nat:=0
def PySem.W.Fast.tw9503551709973852838:Nat:=0
def PySem.W.Fast.tw8777681905666486448:Nat:=0
def PySem.W.Fast.tw90806681497392773:Nat:=0
def PySem.W.Fast.tw5814432903499352754:Nat:=0
def PySem.W.Fast.tw16687399816066474512:Nat:=0
def PySem.W.Fast.tw13494354272045727901:Nat:=0
def PySem.W.Fast.tw1934668581811861455:Nat:=0
def PySem.W.Fast.tw12115599500690243058:Nat:=0
def PySem.W.Fast.tw5879050461749437534:Nat:=0
def PySem.W.Fast.tw6246227045070368347:Nat:=0
def PySem.W.Fast.tw11041365242681239799:Nat:=0
def PySem.W.Fast.tw7584161746269058691:Nat:=0
set_option maxRecDepth 100000 in
set_option maxHeartbeats 0 in
theorem PySem.Challenge.cw_overwise_k73_whole_turns_marks_and_cost_holds : PySem.Challenge.rw_overwise_k73_whole_turns_marks_and_cost.Holds := by
 w_on; o_law; k_head; (case hw=>w_witness2)
 k_fill
 refine Ow.walk (l:=PySem.Challenge.rw_overwise_k73_whole_turns_marks_and_cost) rfl rfl (fun w h Y=>PySem.W.kIn_of Y) ?F
 case F =>
  intro w mg fa h KX G hmg
  refine' Ow.all_mk KX G hmg ?a1 ?i1 ?l1 ?a2 ?l2 ?a3 ?l3 ?a4 ?l4 ?a5 ?l5 ?a6 ?l6 ?a7 ?l7 ?a8 ?l8 ?a9 ?l9 ?a10 ?l10 ?a11 ?l11 ?a12 ?l12 ?a13 ?l13 ?a14 ?l14 ?a15 ?l15 ?a16 ?i16 ?l16 ?a17 ?i17 ?l17 ?a18 ?i18 ?l18 ?a19 ?i19 ?l19 ?a20 ?i20 ?l20 ?a21 ?i21 ?l21 ?a22 ?i22 ?l22 ?a23 ?i23 ?l23 ?a24 ?i24 ?l24 ?a25 ?i25 ?l25 ?a26 ?i26 ?l26 ?a27 ?i27 ?l27 ?a28 ?i28 ?l28 ?a29 ?i29 ?l29 ?a30 ?i30 ?l30 ?a31 ?i31 ?l31 ?a32 ?i32 ?l32 ?a33 ?i33 ?h_Gap___init__ ?l33 ?a34 ?i34 ?h_High___init__ ?h_And___init__ ?h_Or___init__ ?h_Unlike___init__ ?h_Under___init__ ?l34 ?a35 ?i35 ?h_Right___init__ ?h_Slide___init__ ?l35 ?a36 ?i36 ?l36 ?a37 ?i37 ?l37 ?a38 ?i38 ?l38 ?a39 ?i39 ?l39 ?a40 ?i40 ?h_Gap_told ?l40 ?a41 ?i41 ?h_High_told ?h_And_told ?h_Or_told ?h_Unlike_told ?h_Under_told ?l41 ?a42 ?i42 ?h_Right_told ?h_Slide_told ?l42 ?a43 ?i43 ?l43 ?a44 ?i44 ?l44 ?a45 ?i45 ?l45 ?a46 ?i46 ?l46 ?a47 ?i47 ?l47 ?a48 ?i48 ?l48 ?a49 ?i49 ?l49 ?a50 ?i50 ?l50 ?a51 ?i51 ?l51 ?a52 ?i52 ?l52 ?a53 ?i53 ?l53 ?a54 ?i54 ?l54 ?a55 ?i55 ?l55 ?a56 ?i56 ?l56 ?a57 ?i57 ?l57 ?a58 ?i58 ?h_Gap_good_at ?l58 ?a59 ?i59 ?h_High_good_at ?h_And_good_at ?h_Or_good_at ?h_Unlike_good_at ?h_Under_good_at ?l59 ?a60 ?i60 ?h_Right_good_at ?h_Slide_good_at ?l60 ?a61 ?i61 ?l61 ?a62 ?i62 ?l62 ?a63 ?i63 ?l63 ?a64 ?i64 ?l64 ?a65 ?i65 ?h_Gap_act ?l65 ?a66 ?i66 ?h_High_act ?h_And_act ?h_Or_act ?h_Unlike_act ?h_Under_act ?l66 ?a67 ?i67 ?h_Right_act ?h_Slide_act ?l67 ?a68 ?i68 ?l68 ?a69 ?i69 ?l69 ?a70 ?i70 ?l70 ?a71 ?i71 ?l71 ?a72 ?i72 ?l72 ?a73 ?i73 ?l73 ?a74 ?i74 ?l74 ?a75 ?l75 ?a76 ?l76 ?a77 ?l77 ?a78 ?l78 ?a79 ?l79 ?a80 ?l80 ?a81 ?l81 ?a82 ?l82 ?a83 ?l83 ?a84 ?l84 ?a85 ?l85 ?a86 ?l86 ?a87 ?l87 ?a88 ?l88 ?a89 ?l89 ?a90 ?l90 ?a91 ?l91 ?a92 ?l92 ?a93 ?l93 ?a94 ?l94 ?a95 ?l95 ?a96 ?l96 ?a97 ?l97 ?a98 ?l98 ?a99 ?l99 ?a100 ?l100 ?a101 ?l101 ?a102 ?l102 ?a103 ?l103 ?a104 ?l104 ?a105 ?l105 ?a106 ?l106 ?a107 ?l107 ?a108 ?l108 ?c108 ?k108 ?aC_Set ?pg_Set ?hd_Set ?po_Set ?sa_Set ?mk_Set ?kc_Set ?na_Set_goal ?na_Set_bits ?aC_Copy ?pg_Copy ?hd_Copy ?po_Copy ?sa_Copy ?mk_Copy ?kc_Copy ?na_Copy_goal ?na_Copy_one ?aC_Sum ?pg_Sum ?hd_Sum ?po_Sum ?sa_Sum ?mk_Sum ?kc_Sum ?na_Sum_goal ?na_Sum_carry ?na_Sum_one ?na_Sum_other ?aC_Gap ?pg_Gap ?hd_Gap ?po_Gap ?sa_Gap ?mk_Gap ?kc_Gap ?na_Gap_goal ?na_Gap_carry ?na_Gap_one ?na_Gap_other ?aC_Low ?pg_Low ?hd_Low ?po_Low ?sa_Low ?mk_Low ?kc_Low ?na_Low_goal ?na_Low_one ?na_Low_other ?aC_High ?pg_High ?hd_High ?po_High ?sa_High ?mk_High ?kc_High ?na_High_goal ?na_High_one ?na_High_other ?aC_Left ?pg_Left ?hd_Left ?po_Left ?sa_Left ?mk_Left ?kc_Left ?na_Left_goal ?na_Left_one ?na_Left_k ?aC_Right ?pg_Right ?hd_Right ?po_Right ?sa_Right ?mk_Right ?kc_Right ?na_Right_goal ?na_Right_one ?na_Right_k ?aC_Slide ?pg_Slide ?hd_Slide ?po_Slide ?sa_Slide ?mk_Slide ?kc_Slide ?na_Slide_goal ?na_Slide_one ?na_Slide_k ?aC_And ?pg_And ?hd_And ?po_And ?sa_And ?mk_And ?kc_And ?na_And_goal ?na_And_one ?na_And_other ?aC_Or ?pg_Or ?hd_Or ?po_Or ?sa_Or ?mk_Or ?kc_Or ?na_Or_goal ?na_Or_one ?na_Or_other ?aC_Unlike ?pg_Unlike ?hd_Unlike ?po_Unlike ?sa_Unlike ?mk_Unlike ?kc_Unlike ?na_Unlike_goal ?na_Unlike_one ?na_Unlike_other ?aC_Under ?pg_Under ?hd_Under ?po_Under ?sa_Under ?mk_Under ?kc_Under ?na_Under_goal ?na_Under_one ?na_Under_other ?aC_Pick ?pg_Pick ?hd_Pick ?po_Pick ?sa_Pick ?mk_Pick ?kc_Pick ?na_Pick_goal ?na_Pick_by ?na_Pick_one ?na_Pick_other ?aC_Mark ?pg_Mark ?hd_Mark ?po_Mark ?sa_Mark ?mk_Mark ?kc_Mark ?na_Mark_line ?na_Mark_mark ?na_Mark_by ?aC_Turns ?pg_Turns ?hd_Turns ?po_Turns ?sa_Turns ?mk_Turns ?kc_Turns ?na_Turns_times ?na_Turns_steps ?aC_Step ?pg_Step ?hd_Step ?po_Step ?sa_Step ?aC_NoPrices ?xe_NoPrices ?xs_NoPrices ?xm_NoPrices ?xn_NoPrices ?xf_NoPrices ?xk_NoPrices  ?aW_ROW_WORDS ?lW_ROW_WORDS ?aW_MARKS ?lW_MARKS  ?aS_LETTERS ?aS_LETTERS_AND_FIGURES ?aN_MOST_DONE ?aN_MOST_TURNS ?kf_og ?kf_ot ?kf_kr_kinds ?kf_if_ ?kf_tf ?kf_mf ?kf_wb ?kf_ga ?kf_gn ?kf_gc ?kf_mo ?kf_mb ?kf_hd ?kf_nf ?z_isinstance ?z_int ?z_bool ?z_str ?z_list ?z_tuple ?z_dict ?z_len ?z_max ?z_min ?z_range ?z_all ?z_sum ?z_sorted
  (case aC_NoPrices=>k_is)
  (case aW_ROW_WORDS=>k_is); (case lW_ROW_WORDS=>k_is)
  (case aW_MARKS=>k_is); (case lW_MARKS=>k_is)
  (case aC_Set=>k_is); (case pg_Set=>k_is); (case hd_Set=>k_is); (case po_Set=>k_is); (case sa_Set=>k_is)
  (case mk_Set=>k_is); (case kc_Set=>k_is)
  (case na_Set_goal=>k_is)
  (case na_Set_bits=>k_is)
  (case aC_Copy=>k_is); (case pg_Copy=>k_is); (case hd_Copy=>k_is); (case po_Copy=>k_is); (case sa_Copy=>k_is)
  (case mk_Copy=>k_is); (case kc_Copy=>k_is)
  (case na_Copy_goal=>k_is)
  (case na_Copy_one=>k_is)
  (case aC_Sum=>k_is); (case pg_Sum=>k_is); (case hd_Sum=>k_is); (case po_Sum=>k_is); (case sa_Sum=>k_is)
  (case mk_Sum=>k_is); (case kc_Sum=>k_is)
  (case na_Sum_goal=>k_is)
  (case na_Sum_carry=>k_is)
  (case na_Sum_one=>k_is)
  (case na_Sum_other=>k_is)
  (case aC_Gap=>k_is); (case pg_Gap=>k_is); (case hd_Gap=>k_is); (case po_Gap=>k_is); (case sa_Gap=>k_is)
  (case mk_Gap=>k_is); (case kc_Gap=>k_is)
  (case na_Gap_goal=>k_is)
  (case na_Gap_carry=>k_is)
  (case na_Gap_one=>k_is)
  (case na_Gap_other=>k_is)
  (case aC_Low=>k_is); (case pg_Low=>k_is); (case hd_Low=>k_is); (case po_Low=>k_is); (case sa_Low=>k_is)
  (case mk_Low=>k_is); (case kc_Low=>k_is)
  (case na_Low_goal=>k_is)
  (case na_Low_one=>k_is)
  (case na_Low_other=>k_is)
  (case aC_High=>k_is); (case pg_High=>k_is); (case hd_High=>k_is); (case po_High=>k_is); (case sa_High=>k_is)
  (case mk_High=>k_is); (case kc_High=>k_is)
  (case na_High_goal=>k_is)
  (case na_High_one=>k_is)
  (case na_High_other=>k_is)
  (case aC_Left=>k_is); (case pg_Left=>k_is); (case hd_Left=>k_is); (case po_Left=>k_is); (case sa_Left=>k_is)
  (case mk_Left=>k_is); (case kc_Left=>k_is)
  (case na_Left_goal=>k_is)
  (case na_Left_one=>k_is)
  (case na_Left_k=>k_is)
  (case aC_Right=>k_is); (case pg_Right=>k_is); (case hd_Right=>k_is); (case po_Right=>k_is); (case sa_Right=>k_is)
  (case mk_Right=>k_is); (case kc_Right=>k_is)
  (case na_Right_goal=>k_is)
  (case na_Right_one=>k_is)
  (case na_Right_k=>k_is)
  (case aC_Slide=>k_is); (case pg_Slide=>k_is); (case hd_Slide=>k_is); (case po_Slide=>k_is); (case sa_Slide=>k_is)
  (case mk_Slide=>k_is); (case kc_Slide=>k_is)
  (case na_Slide_goal=>k_is)
  (case na_Slide_one=>k_is)
  (case na_Slide_k=>k_is)
  (case aC_And=>k_is); (case pg_And=>k_is); (case hd_And=>k_is); (case po_And=>k_is); (case sa_And=>k_is)
  (case mk_And=>k_is); (case kc_And=>k_is)
  (case na_And_goal=>k_is)
  (case na_And_one=>k_is)
  (case na_And_other=>k_is)
  (case aC_Or=>k_is); (case pg_Or=>k_is); (case hd_Or=>k_is); (case po_Or=>k_is); (case sa_Or=>k_is)
  (case mk_Or=>k_is); (case kc_Or=>k_is)
  (case na_Or_goal=>k_is)
  (case na_Or_one=>k_is)
  (case na_Or_other=>k_is)
  (case aC_Unlike=>k_is); (case pg_Unlike=>k_is); (case hd_Unlike=>k_is); (case po_Unlike=>k_is); (case sa_Unlike=>k_is)
  (case mk_Unlike=>k_is); (case kc_Unlike=>k_is)
  (case na_Unlike_goal=>k_is)
  (case na_Unlike_one=>k_is)
  (case na_Unlike_other=>k_is)
  (case aC_Under=>k_is); (case pg_Under=>k_is); (case hd_Under=>k_is); (case po_Under=>k_is); (case sa_Under=>k_is)
  (case mk_Under=>k_is); (case kc_Under=>k_is)
  (case na_Under_goal=>k_is)
  (case na_Under_one=>k_is)
  (case na_Under_other=>k_is)
  (case aC_Pick=>k_is); (case pg_Pick=>k_is); (case hd_Pick=>k_is); (case po_Pick=>k_is); (case sa_Pick=>k_is)
  (case mk_Pick=>k_is); (case kc_Pick=>k_is)
  (case na_Pick_goal=>k_is)
  (case na_Pick_by=>k_is)
  (case na_Pick_one=>k_is)
  (case na_Pick_other=>k_is)
  (case aC_Mark=>k_is); (case pg_Mark=>k_is); (case hd_Mark=>k_is); (case po_Mark=>k_is); (case sa_Mark=>k_is)
  (case mk_Mark=>k_is); (case kc_Mark=>k_is)
  (case na_Mark_line=>k_is)
  (case na_Mark_mark=>k_is)
  (case na_Mark_by=>k_is)
  (case aC_Turns=>k_is); (case pg_Turns=>k_is); (case hd_Turns=>k_is); (case po_Turns=>k_is); (case sa_Turns=>k_is)
  (case mk_Turns=>k_is); (case kc_Turns=>k_is)
  (case na_Turns_times=>k_is)
  (case na_Turns_steps=>k_is)
  (case aC_Step=>k_is); (case pg_Step=>k_is); (case hd_Step=>k_is); (case po_Step=>k_is); (case sa_Step=>k_is)
  (case a1=>k_is); (case i1=>k_is); (case l1=>apply Ow.FB.of <;> k_is)
  (case a2=>k_is); (case l2=>apply Ow.FB.of <;> k_is)
  (case a3=>k_is); (case l3=>apply Ow.FB.of <;> k_is)
  (case a4=>k_is); (case l4=>apply Ow.FB.of <;> k_is)
  (case a5=>k_is); (case l5=>apply Ow.FB.of <;> k_is)
  (case a6=>k_is); (case l6=>apply Ow.FB.of <;> k_is)
  (case a7=>k_is); (case l7=>apply Ow.FB.of <;> k_is)
  (case a8=>k_is); (case l8=>apply Ow.FB.of <;> k_is)
  (case a9=>k_is); (case l9=>apply Ow.FB.of <;> k_is)
  (case a10=>k_is); (case l10=>apply Ow.FB.of <;> k_is)
  (case a11=>k_is); (case l11=>apply Ow.FB.of <;> k_is)
  (case a12=>k_is); (case l12=>apply Ow.FB.of <;> k_is)
  (case a13=>k_is); (case l13=>apply Ow.FB.of <;> k_is)
  (case a14=>k_is); (case l14=>apply Ow.FB.of <;> k_is)
  (case a15=>k_is); (case l15=>apply Ow.FB.of <;> k_is)
  (case a16=>k_is); (case i16=>k_is); (case l16=>apply Ow.FB.of <;> k_is)
  (case a17=>k_is); (case i17=>k_is); (case l17=>apply Ow.FB.of <;> k_is)
  (case a18=>k_is); (case i18=>k_is); (case l18=>apply Ow.FB.of <;> k_is)
  (case a19=>k_is); (case i19=>k_is); (case l19=>apply Ow.FB.of <;> k_is)
  (case a20=>k_is); (case i20=>k_is); (case l20=>apply Ow.FB.of <;> k_is)
  (case a21=>k_is); (case i21=>k_is); (case l21=>apply Ow.FB.of <;> k_is)
  (case a22=>k_is); (case i22=>k_is); (case l22=>apply Ow.FB.of <;> k_is)
  (case a23=>k_is); (case i23=>k_is); (case l23=>apply Ow.FB.of <;> k_is)
  (case a24=>k_is); (case i24=>k_is); (case l24=>apply Ow.FB.of <;> k_is)
  (case a25=>k_is); (case i25=>k_is); (case l25=>apply Ow.FB.of <;> k_is)
  (case a26=>k_is); (case i26=>k_is); (case l26=>apply Ow.FB.of <;> k_is)
  (case a27=>k_is); (case i27=>k_is); (case l27=>apply Ow.FB.of <;> k_is)
  (case a28=>k_is); (case i28=>k_is); (case l28=>apply Ow.FB.of <;> k_is)
  (case a29=>k_is); (case i29=>k_is); (case l29=>apply Ow.FB.of <;> k_is)
  (case a30=>k_is); (case i30=>k_is); (case l30=>apply Ow.FB.of <;> k_is)
  (case a31=>k_is); (case i31=>k_is); (case l31=>apply Ow.FB.of <;> k_is)
  (case a32=>k_is); (case i32=>k_is); (case l32=>apply Ow.FB.of <;> k_is)
  (case a33=>k_is); (case i33=>k_is); (case h_Gap___init__=>k_is); (case l33=>apply Ow.FB.of <;> k_is)
  (case a34=>k_is); (case i34=>k_is); (case h_High___init__=>k_is); (case h_And___init__=>k_is); (case h_Or___init__=>k_is); (case h_Unlike___init__=>k_is); (case h_Under___init__=>k_is); (case l34=>apply Ow.FB.of <;> k_is)
  (case a35=>k_is); (case i35=>k_is); (case h_Right___init__=>k_is); (case h_Slide___init__=>k_is); (case l35=>apply Ow.FB.of <;> k_is)
  (case a36=>k_is); (case i36=>k_is); (case l36=>apply Ow.FB.of <;> k_is)
  (case a37=>k_is); (case i37=>k_is); (case l37=>apply Ow.FB.of <;> k_is)
  (case a38=>k_is); (case i38=>k_is); (case l38=>apply Ow.FB.of <;> k_is)
  (case a39=>k_is); (case i39=>k_is); (case l39=>apply Ow.FB.of <;> k_is)
  (case a40=>k_is); (case i40=>k_is); (case h_Gap_told=>k_is); (case l40=>apply Ow.FB.of <;> k_is)
  (case a41=>k_is); (case i41=>k_is); (case h_High_told=>k_is); (case h_And_told=>k_is); (case h_Or_told=>k_is); (case h_Unlike_told=>k_is); (case h_Under_told=>k_is); (case l41=>apply Ow.FB.of <;> k_is)
  (case a42=>k_is); (case i42=>k_is); (case h_Right_told=>k_is); (case h_Slide_told=>k_is); (case l42=>apply Ow.FB.of <;> k_is)
  (case a43=>k_is); (case i43=>k_is); (case l43=>apply Ow.FB.of <;> k_is)
  (case a44=>k_is); (case i44=>k_is); (case l44=>apply Ow.FB.of <;> k_is)
  (case a45=>k_is); (case i45=>k_is); (case l45=>apply Ow.FB.of <;> k_is)
  (case a46=>k_is); (case i46=>k_is); (case l46=>apply Ow.FB.of <;> k_is)
  (case a47=>k_is); (case i47=>k_is); (case l47=>apply Ow.FB.of <;> k_is)
  (case a48=>k_is); (case i48=>k_is); (case l48=>apply Ow.FB.of <;> k_is)
  (case a49=>k_is); (case i49=>k_is); (case l49=>apply Ow.FB.of <;> k_is)
  (case a50=>k_is); (case i50=>k_is); (case l50=>apply Ow.FB.of <;> k_is)
  (case a51=>k_is); (case i51=>k_is); (case l51=>apply Ow.FB.of <;> k_is)
  (case a52=>k_is); (case i52=>k_is); (case l52=>apply Ow.FB.of <;> k_is)
  (case a53=>k_is); (case i53=>k_is); (case l53=>apply Ow.FB.of <;> k_is)
  (case a54=>k_is); (case i54=>k_is); (case l54=>apply Ow.FB.of <;> k_is)
  (case a55=>k_is); (case i55=>k_is); (case l55=>apply Ow.FB.of <;> k_is)
  (case a56=>k_is); (case i56=>k_is); (case l56=>apply Ow.FB.of <;> k_is)
  (case a57=>k_is); (case i57=>k_is); (case l57=>apply Ow.FB.of <;> k_is)
  (case a58=>k_is); (case i58=>k_is); (case h_Gap_good_at=>k_is); (case l58=>apply Ow.FB.of <;> k_is)
  (case a59=>k_is); (case i59=>k_is); (case h_High_good_at=>k_is); (case h_And_good_at=>k_is); (case h_Or_good_at=>k_is); (case h_Unlike_good_at=>k_is); (case h_Under_good_at=>k_is); (case l59=>apply Ow.FB.of <;> k_is)
  (case a60=>k_is); (case i60=>k_is); (case h_Right_good_at=>k_is); (case h_Slide_good_at=>k_is); (case l60=>apply Ow.FB.of <;> k_is)
  (case a61=>k_is); (case i61=>k_is); (case l61=>apply Ow.FB.of <;> k_is)
  (case a62=>k_is); (case i62=>k_is); (case l62=>apply Ow.FB.of <;> k_is)
  (case a63=>k_is); (case i63=>k_is); (case l63=>apply Ow.FB.of <;> k_is)
  (case a64=>k_is); (case i64=>k_is); (case l64=>apply Ow.FB.of <;> k_is)
  (case a65=>k_is); (case i65=>k_is); (case h_Gap_act=>k_is); (case l65=>apply Ow.FB.of <;> k_is)
  (case a66=>k_is); (case i66=>k_is); (case h_High_act=>k_is); (case h_And_act=>k_is); (case h_Or_act=>k_is); (case h_Unlike_act=>k_is); (case h_Under_act=>k_is); (case l66=>apply Ow.FB.of <;> k_is)
  (case a67=>k_is); (case i67=>k_is); (case h_Right_act=>k_is); (case h_Slide_act=>k_is); (case l67=>apply Ow.FB.of <;> k_is)
  (case a68=>k_is); (case i68=>k_is); (case l68=>apply Ow.FB.of <;> k_is)
  (case a69=>k_is); (case i69=>k_is); (case l69=>apply Ow.FB.of <;> k_is)
  (case a70=>k_is); (case i70=>k_is); (case l70=>apply Ow.FB.of <;> k_is)
  (case a71=>k_is); (case i71=>k_is); (case l71=>apply Ow.FB.of <;> k_is)
  (case a72=>k_is); (case i72=>k_is); (case l72=>apply Ow.FB.of <;> k_is)
  (case a73=>k_is); (case i73=>k_is); (case l73=>apply Ow.FB.of <;> k_is)
  (case a74=>k_is); (case i74=>k_is); (case l74=>apply Ow.FB.of <;> k_is)
  (case a75=>k_is); (case l75=>apply Ow.FB.of <;> k_is)
  (case a76=>k_is); (case l76=>apply Ow.FB.of <;> k_is)
  (case a77=>k_is); (case l77=>apply Ow.FB.of <;> k_is)
  (case a78=>k_is); (case l78=>apply Ow.FB.of <;> k_is)
  (case a79=>k_is); (case l79=>apply Ow.FB.of <;> k_is)
  (case a80=>k_is); (case l80=>apply Ow.FB.of <;> k_is)
  (case a81=>k_is); (case l81=>apply Ow.FB.of <;> k_is)
  (case a82=>k_is); (case l82=>apply Ow.FB.of <;> k_is)
  (case a83=>k_is); (case l83=>apply Ow.FB.of <;> k_is)
  (case a84=>k_is); (case l84=>apply Ow.FB.of <;> k_is)
  (case a85=>k_is); (case l85=>apply Ow.FB.of <;> k_is)
  (case a86=>k_is); (case l86=>apply Ow.FB.of <;> k_is)
  (case a87=>k_is); (case l87=>apply Ow.FB.of <;> k_is)
  (case a88=>k_is); (case l88=>apply Ow.FB.of <;> k_is)
  (case a89=>k_is); (case l89=>apply Ow.FB.of <;> k_is)
  (case a90=>k_is); (case l90=>apply Ow.FB.of <;> k_is)
  (case a91=>k_is); (case l91=>apply Ow.FB.of <;> k_is)
  (case a92=>k_is); (case l92=>apply Ow.FB.of <;> k_is)
  (case a93=>k_is); (case l93=>apply Ow.FB.of <;> k_is)
  (case a94=>k_is); (case l94=>apply Ow.FB.of <;> k_is)
  (case a95=>k_is); (case l95=>apply Ow.FB.of <;> k_is)
  (case a96=>k_is); (case l96=>apply Ow.FB.of <;> k_is)
  (case a97=>k_is); (case l97=>apply Ow.FB.of <;> k_is)
  (case a98=>k_is); (case l98=>apply Ow.FB.of <;> k_is)
  (case a99=>k_is); (case l99=>apply Ow.FB.of <;> k_is)
  (case a100=>k_is); (case l100=>apply Ow.FB.of <;> k_is)
  (case a101=>k_is); (case l101=>apply Ow.FB.of <;> k_is)
  (case a102=>k_is); (case l102=>apply Ow.FB.of <;> k_is)
  (case a103=>k_is); (case l103=>apply Ow.FB.of <;> k_is)
  (case a104=>k_is); (case l104=>apply Ow.FB.of <;> k_is)
  (case a105=>k_is); (case l105=>apply Ow.FB.of <;> k_is)
  (case a106=>k_is); (case l106=>apply Ow.FB.of <;> k_is)
  (case a107=>k_is); (case l107=>apply Ow.FB.of <;> k_is)
  (case a108=>k_is); (case l108=>k_is); (case c108=>k_is); (case k108=>k_is)
  (case xe_NoPrices=>kernel_rfl); (case xs_NoPrices=>k_is); (case xm_NoPrices=>k_is); (case xn_NoPrices=>k_is); (case xf_NoPrices=>k_is); (case xk_NoPrices=>k_is)
  (case aS_LETTERS=>k_is)
  (case aS_LETTERS_AND_FIGURES=>k_is)
  (case aN_MOST_DONE=>k_is)
  (case aN_MOST_TURNS=>k_is)
  (case kf_og=>k_is)
  (case kf_ot=>k_is)
  (case kf_kr_kinds=>kernel_rfl)
  (case kf_if_=>k_is)
  (case kf_tf=>k_is)
  (case kf_mf=>k_is)
  (case kf_wb=>k_is)
  (case kf_ga=>k_is)
  (case kf_gn=>k_is)
  (case kf_gc=>k_is)
  (case kf_mo=>k_is)
  (case kf_mb=>k_is)
  (case kf_hd=>k_is)
  (case kf_nf=>k_is)
  (case z_isinstance=>k_is)
  (case z_int=>k_is)
  (case z_bool=>k_is)
  (case z_str=>k_is)
  (case z_list=>k_is)
  (case z_tuple=>k_is)
  (case z_dict=>k_is)
  (case z_len=>k_is)
  (case z_max=>k_is)
  (case z_min=>k_is)
  (case z_range=>k_is)
  (case z_all=>k_is)
  (case z_sum=>k_is)
  (case z_sorted=>k_is)
