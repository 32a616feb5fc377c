import PyProof.Rows.All
import OpenK.KLaw
import OpenK.KWalk
import KE.KSearch
import KE.KFinFacts
import KE.RegKTryOn
import KE.KUnpack
import KE.KRevSl
import KE.KDictOf
import KE.KDictList
import KE.KDictSum
import Wide.FinOn
import PyProof.EqAt
import PyProof.EqKinds
import PyProof.TupleCall
import KE.BitLaws
import KE.IntBitsLaws
import KE.KLam
import KE.KIntText
import PySem.Challenge.RW_overwise_k63_names_and_kinds_refused
set_option Elab.async false
set_option linter.all false
set_option maxRecDepth 100000
open Nat (le_add_right le_refl lt_irrefl lt_of_le_of_lt lt_of_lt_of_le lt_of_succ_lt lt_succ_self lt_trans ne_of_gt ne_of_lt succ_le_succ zero_le)
open List (any_cons append_assoc append_nil drop_eq_getElem_cons drop_eq_nil_of_le drop_zero eq_nil_of_length_eq_zero getD_eq_getElem?_getD isEmpty_iff length_append length_cons length_drop length_map length_nil length_replicate length_take lookup_cons map_append map_cons map_eq_nil_iff map_map mem_append_left mem_append_right mem_cons mem_cons_of_mem mem_cons_self mem_of_getElem? nil_append not_mem_nil replicate_succ size_toArray take_add_one take_length)
open PySem.W (findIn keepIn Frag fnOf codeIn mg_of nsIn isFn kitOne mroIn hasDictIn plainGet plainOver makesIn typeIn mg_none_of isClsIn instObj exmOne)
namespace L2
open PySem PySem.Spec PyProof.Rows
abbrev Key:=Sum Int Str
def pq:Key->Value->Bool
 | .inl k,v=>Value.isInt k v
 | .inr x,v=>Value.isStrOf x v
def keyH (w:World):Key->Int
 | .inl k=>hashInt k
 | .inr x=>hashStr w x
theorem bv:∀ {k:Key}{v:Value},pq k v=true->(∃ i t,k=Sum.inl i/\v=Value.int i t)\/(∃ x t,k=Sum.inr x/\v=Value.str x t)
 | .inl i,v,h=>by
  obtain⟨t,e⟩:=Value.isInt_shape (k:=i) (v:=v) h
  exact .inl ⟨i,t,rfl,e⟩
 | .inr x,v,h=>by
  obtain⟨t,e⟩:=Value.isStrOf_shape (x:=x) (v:=v) h
  exact .inr ⟨x,t,rfl,e⟩
theorem rO (i:Int) (t:Tok):pq (.inl i) (.int i t)=true:=by simp[pq,Value.isInt]
theorem qC (x:Str) (t:Tok):pq (.inr x) (.str x t)=true:=by simp[pq,Value.isStrOf]
theorem key_ll (a b:Int):decide ((Sum.inl a:Key)=Sum.inl b)=(a == b):=by
 by_cases e:a=b
 ·subst e; simp
 ·have h:¬ (Sum.inl a:Key)=Sum.inl b:=fun q=>e (Sum.inl.inj q)
  rw[decide_eq_false h]
  exact(beq_eq_false_iff_ne.mpr e).symm
theorem key_rr (a b:Str):decide ((Sum.inr a:Key)=Sum.inr b)=decide (a=b):=by
 by_cases e:a=b
 ·subst e; simp
 ·have h:¬ (Sum.inr a:Key)=Sum.inr b:=fun q=>e (Sum.inr.inj q)
  rw[decide_eq_false h,decide_eq_false e]
theorem key_lr (a:Int) (b:Str):decide ((Sum.inl a:Key)=Sum.inr b)=false:=decide_eq_false (fun q=>nomatch q)
theorem key_rl (a:Str) (b:Int):decide ((Sum.inr a:Key)=Sum.inl b)=false:=decide_eq_false (fun q=>nomatch q)
def bb (prog:Program) (w:World):PySem.KeyKind prog w Key where
 is:=pq
 hash:=keyH w
 inj:=fun v a b ha hb=>by
  rcases bv ha with ⟨i,t,rfl,rfl⟩ | ⟨x,t,rfl,rfl⟩
  ·rcases bv hb with ⟨j,u,rfl,e⟩ | ⟨y,u,rfl,e⟩
   ·injection e with e1 _; rw[e1]
   ·exact nomatch e
  ·rcases bv hb with ⟨j,u,rfl,e⟩ | ⟨y,u,rfl,e⟩
   ·exact nomatch e
   ·injection e with e1 _; rw[e1]
 byValue:=fun k v h=>by
  rcases bv h with ⟨i,t,rfl,rfl⟩ | ⟨x,t,rfl,rfl⟩ <;> rfl
 pyHash:=fun hv h=>by
  rcases bv hv with ⟨i,t,rfl,rfl⟩ | ⟨x,t,rfl,rfl⟩
  ·exact wpAny_pyHash_int h
  ·exact wpAny_pyHash_str h
 eqBool:=fun hu hv h=>by
  rcases bv hu with ⟨i,t,rfl,rfl⟩ | ⟨x,t,rfl,rfl⟩
  ·rcases bv hv with ⟨j,u,rfl,rfl⟩ | ⟨y,u,rfl,rfl⟩
   ·rw[key_ll] at h; exact wpAny_eqBool_int h
   ·rw[key_lr] at h; exact SeqAt.EqAt.int_str i t y u _ _ _ _ h
  ·rcases bv hv with ⟨j,u,rfl,rfl⟩ | ⟨y,u,rfl,rfl⟩
   ·rw[key_rl] at h; exact SeqAt.EqAt.str_int x t j u _ _ _ _ h
   ·rw[key_rr] at h; exact wpAny_eqBool_str h
 «strs»:=fun k x t v h=>by
  rcases bv h with ⟨i,u,rfl,e⟩ | ⟨y,u,rfl,e⟩
  ·exact nomatch e
  ·injection e with e1 _
   subst e1
   cases v <;> rfl
theorem nP (prog:Program) (w:World) (i:Int) (t:Tok):(bb prog w).is (.inl i) (.int i t)=true:=rO i t
theorem nX (prog:Program) (w:World) (x:Str) (t:Tok):(bb prog w).is (.inr x) (.str x t)=true:=qC x t
end L2
namespace L2
open PySem PySem.Spec PyProof.Rows
inductive V where
 | non | bl (b:Bool) | int (i:Int) | str (x:Str) | byt (b:Array UInt8) | flt (b:UInt64) | ref (a:Addr) | ty (n:String)
 deriving DecidableEq
def RelV:V->Value->Prop
 | .non,u=>u=Value.none
 | .bl b,u=>u=Value.bool b
 | .int i,u=>∃ t,u=Value.int i t
 | .str x,u=>∃ t,u=Value.str x t
 | .byt b,u=>∃ t,u=Value.bytes b t
 | .flt b,u=>∃ t,u=Value.float b t
 | .ref a,u=>u=Value.ref a
 | .ty n,u=>u=Value.type n
abbrev Vals:List V->List Value->Prop:=Paired RelV
theorem Vals.length {xs:List V}{us:List Value}(r:Vals xs us):xs.length=us.length:=Paired.length r
theorem Vals.get:∀ {xs:List V}{us:List Value}{i:Nat}{x:V},Vals xs us->xs[i]?=some x->∃ u,us[i]?=some u/\RelV x u
 | _,_,_,_,.nil,e=>by simp at e
 | _,_,0,_,.cons r _,e=>by simp at e; subst e; exact⟨_,rfl,r⟩
 | _,_,i+1,x,.cons _ t,e=>by
  obtain⟨u,h1,h2⟩:=Vals.get (i:=i) (x:=x) t (by simpa using e)
  exact⟨u,by simpa using h1,h2⟩
theorem Vals.set {x:V}{u:Value}(r:RelV x u):∀ {xs:List V}{us:List Value}(i:Nat),Vals xs us->Vals (xs.set i x) (us.set i u)
 | _,_,_,.nil=>.nil
 | _,_,0,.cons _ t=>.cons r t
 | _,_,i+1,.cons q t=>.cons q (Vals.set r i t)
theorem Vals.append:∀ {xs ys:List V}{us ws:List Value},Vals xs us->Vals ys ws->Vals (xs++ys) (us++ws)
 | _,_,_,_,.nil,s=>s
 | _,_,_,_,.cons r t,s=>.cons r (Vals.append t s)
theorem Vals.take:∀ {xs:List V}{us:List Value}(n:Nat),Vals xs us->Vals (xs.take n) (us.take n)
 | _,_,0,_=>.nil
 | _,_,_+1,.nil=>.nil
 | _,_,n+1,.cons r t=>.cons r (Vals.take n t)
theorem Vals.drop:∀ {xs:List V}{us:List Value}(n:Nat),Vals xs us->Vals (xs.drop n) (us.drop n)
 | _,_,0,r=>r
 | _,_,_+1,.nil=>.nil
 | _,_,n+1,.cons _ t=>Vals.drop n t
def RelO:Option V->Option Value->Prop
 | some v,some u=>RelV v u
 | none,none=>True
 | _,_=>False
def KV {κ:Type}:List (κ×V)->List (κ×Value)->Prop:=Paired fun (p:κ×V) (q:κ×Value)=>p.1=q.1/\RelV p.2 q.2
def kV:Key->V
 | .inl i=>.int i
 | .inr x=>.str x
inductive HO where
 /-- a list -/
 | lst (xs:List V)
 /-- a tuple (never changes) -/
 | tup (xs:List V)
 /-- a dict whose keys are ints and texts; one whose keys are tuples of ints and texts (the empty one is both) -/
 | dK (kvs:List (Key×V)) | dT (kvs:List (List Key×V))
 /-- a set of ints: its members,its size -/
 | set (S:Int->Bool) (n:Nat)
 /-- an instance of the class at C,its dict at dx,its attributes -/
 | ins (C dx:Addr) (fs:List (Str×V))
 /-- the dict of the instance at x -/
 | own (x:Addr)
 /-- the dict of an exception -/
 | xd (fs:List (Str×V))
 /-- a bound method,f of x -/
 | met (f x:Addr)
 /-- a range object lo,lo+1,.. below hi -/
 | rng (lo hi:Int)
 /-- a thing that is known to the object (the script; a dict while a loop walks it): read,never written while it is so -/
 | frz (o:Obj) (u:HO)
 /-- a code object's table -/
 | tbl (ps:Array Value)
 /-- any other thing,by what is true of its one object (a def of one's own: SetO a S n:=HO.ext fun h=>..) -/
 | ext (φ:Heap->Prop)
abbrev Hp:=Addr->Option HO
def upd (H:Hp) (a:Addr) (o:HO):Hp:=fun b=>if b=a then some o else H b
theorem ac {H:Hp}{a:Addr}{o:HO}:upd H a o a=some o:=by unfold upd; rw[if_pos rfl]
theorem af {H:Hp}{a b:Addr}{o:HO}(h:b≠a):upd H a o b=H b:=by unfold upd; rw[if_neg h]
theorem ne_of {H:Hp}{a b:Addr}{o u:HO}(h:H a=some o) (h':H b=some u) (d:o≠u):a≠b:=by
 intro e; subst e; rw[h] at h'; exact d (Option.some.inj h')
theorem az {H:Hp}{a b:Addr}{o:HO}(h:H a=some o) (h':H b=none):a≠b:=by
 intro e; subst e; rw[h] at h'; cases h'
section
variable (P:Program) (w:World)
def ObjOk (H:Hp) (h:Heap) (a:Addr):HO->Prop
 | .lst xs=>xs.length<=sizeLine/\∃ (its:List Value) (n:Nat),Vals xs its/\h.get? a=some { cls:=.type "list",data:=.seq its.toArray n }
 | .tup xs=>xs.length<=sizeLine/\∃ its:List Value,Vals xs its/\IsTup h a its.toArray
 | .dK kvs=>kvs.length<=sizeLine/\(a == sysModules)=false/\∃ vs,KV kvs vs/\h.DictOf (bb P w) a vs
 | .dT kvs=>kvs.length<=sizeLine/\(a == sysModules)=false/\∃ xs:List (List Key×Addr×Value),
   Paired (fun (p:List Key×V) (q:List Key×Addr×Value)=>p.1=q.1/\H q.2.1=some (.tup (p.1.map kV))/\RelV p.2 q.2.2) kvs xs /\
   ∃ o es ep,h.get? a=some o/\o.ExactDict/\o.data=.dict es ep/\es.toList=xs.map (entryOfKey (tupleKind (bb P w)))/\(xs.map (·.1)).Nodup
 | .set S n=>h.SetOf (intKind P w) a S n
 | .ins C dx fs=>H dx=some (.own a)/\fs.length<=1000/\dx≠a/\h.get? a=some (instObj C dx) /\
   ∃ mA,h.Ns1 dx mA/\(∀ f,RelO (fs.lookup f) (mA f))/\PySem.Within mA (fs.map (·.1))
 | .own _=>∃ o,h.get? a=some o
 | .xd fs=>∃ mA,h.Ns1 a mA/\∀ f,RelO (fs.lookup f) (mA f)
 | .rng lo hi=>∃ t u v,h.get? a=some { cls:=.type "range",data:=.fields #[.int lo t,.int hi u,.int 1 v] }
 | .frz o u=>h.get? a=some o/\ObjOk H h a u
 | .tbl ps=>h.get? a=some { cls:=.none,data:=.fields ps }
 | .met f x=>h.get? a=some (PySem.W.methodObj (.ref f) (.ref x))
 | .ext φ=>φ h/\(∃ o,h.get? a=some o)/\∀ h1 h2:Heap,φ h1->(∀ o,h1.get? a=some o->h2.get? a=some o)->φ h2
def HOk (H:Hp) (h:Heap):Prop:=∀ a o,H a=some o->ObjOk P w H h a o
end
section
variable {P:Program}{w:World}{H H':Hp}{h h':Heap}{a:Addr}{o:HO}
theorem ObjOk.lt (x:ObjOk P w H h a o):a<h.objs.size:=by
 cases o with
 | lst xs=>obtain⟨_,_,_,_,e⟩:=x; exact Heap.lt_size e
 | tup xs=>obtain⟨_,_,_,p⟩:=x; exact p.lt
 | dK kvs=>obtain⟨_,_,_,_,o,_,_,e,_⟩:=x; exact Heap.lt_size e
 | dT kvs=>obtain⟨_,_,_,_,o,_,_,e,_⟩:=x; exact Heap.lt_size e
 | set S n=>obtain⟨o,_,_,_,e,_⟩:=x; exact Heap.lt_size e
 | ins C dx fs=>obtain⟨_,_,_,e,_⟩:=x; exact Heap.lt_size e
 | own y=>obtain⟨_,e⟩:=x; exact Heap.lt_size e
 | xd fs=>obtain⟨_,⟨_,_,_,e,_⟩,_⟩:=x; exact Heap.lt_size e
 | rng lo hi=>obtain⟨_,_,_,e⟩:=x; exact Heap.lt_size e
 | frz ob u=>obtain⟨e,_⟩:=x; exact Heap.lt_size e
 | tbl ps=>exact Heap.lt_size (show h.get? a=some _ from x)
 | met f y=>exact Heap.lt_size (show h.get? a=some _ from x)
 | ext φ=>obtain⟨_,⟨_,e⟩,_⟩:=x; exact Heap.lt_size e
theorem Paired.mapP {α β:Type}{F G:α->β->Prop}:∀ {l₁:List α}{l₂:List β},Paired F l₁ l₂->(∀ a b,F a b->G a b)->Paired G l₁ l₂
 | _,_,.nil,_=>.nil
 | _,_,.cons r t,f=>.cons (f _ _ r) (Paired.mapP t f)
theorem ObjOk.stay (x:ObjOk P w H h a o) (k:∀ b u,(b=a\/H b=some (.own a))->h.get? b=some u->h'.get? b=some u)
  (ho:∀ b,H b=some (.own a)->H' b=some (.own a)) (ht:∀ b xs,H b=some (.tup xs)->H' b=some (.tup xs)):ObjOk P w H' h' a o:=by
 induction o with
 | lst xs=>obtain⟨z,its,n,r,e⟩:=x; exact⟨z,its,n,r,k _ _ (.inl rfl) e⟩
 | tup xs=>obtain⟨z,its,r,ob,e,c⟩:=x; exact⟨z,its,r,ob,k _ _ (.inl rfl) e,c⟩
 | dK kvs=>obtain⟨z,y,vs,r,ob,es,ep,e,c⟩:=x; exact⟨z,y,vs,r,ob,es,ep,k _ _ (.inl rfl) e,c⟩
 | dT kvs =>
  obtain⟨z,y,xs,r,ob,es,ep,e,c⟩:=x
  exact⟨z,y,xs,Paired.mapP r fun p q z=>⟨z.1,ht _ _ z.2.1,z.2.2⟩,ob,es,ep,k _ _ (.inl rfl) e,c⟩
 | set S n=>obtain⟨ob,es,ep,t,e,c⟩:=x; exact⟨ob,es,ep,t,k _ _ (.inl rfl) e,c⟩
 | ins C dx fs =>
  obtain⟨d,z,ne,e,mA,⟨od,es,ep,e2,c⟩,r⟩:=x
  exact⟨ho _ d,z,ne,k _ _ (.inl rfl) e,mA,⟨od,es,ep,k _ _ (.inr d) e2,c⟩,r⟩
 | own y=>obtain⟨ob,e⟩:=x; exact⟨ob,k _ _ (.inl rfl) e⟩
 | xd fs=>obtain⟨mA,⟨od,es,ep,e,c⟩,r⟩:=x; exact⟨mA,⟨od,es,ep,k _ _ (.inl rfl) e,c⟩,r⟩
 | rng lo hi=>obtain⟨t,u,v,e⟩:=x; exact⟨t,u,v,k _ _ (.inl rfl) e⟩
 | frz ob u ih=>obtain⟨e,q⟩:=x; exact⟨k _ _ (.inl rfl) e,ih q⟩
 | tbl ps =>
  have e:h.get? a=some { cls:=.none,data:=.fields ps }:=x
  show h'.get? a=some { cls:=.none,data:=.fields ps }
  exact k a _ (.inl rfl) e
 | met f y =>
  have e:h.get? a=some (PySem.W.methodObj (.ref f) (.ref y)):=x
  show h'.get? a=some (PySem.W.methodObj (.ref f) (.ref y))
  exact k a _ (.inl rfl) e
 | ext φ=>obtain⟨p,⟨o,e⟩,st⟩:=x; exact⟨st _ _ p fun o q=>k _ _ (.inl rfl) q,⟨o,k _ _ (.inl rfl) e⟩,st⟩
theorem HOk.lt (x:HOk P w H h) (e:H a=some o):a<h.objs.size:=(x a o e).lt
theorem HOk.fresh (x:HOk P w H h) (e:h.objs.size<=a):H a=none:=by
 cases q:H a with
 | none=>rfl
 | some u=>exact absurd (lt_of_lt_of_le (x.lt q) e) (lt_irrefl _)
theorem HOk.kept (x:HOk P w H h) (k:∀ b u,h.get? b=some u->h'.get? b=some u):HOk P w H h':=fun a o e =>
 (x a o e).stay (fun b u _ q=>k b u q) (fun _ q=>q) fun _ _ q=>q
theorem HOk.laid (x:HOk P w H h) (k:∀ b u,h.get? b=some u->h'.get? b=some u) (hp:h.objs.size<=a) (new:ObjOk P w (upd H a o) h' a o):HOk P w (upd H a o) h':=fun b u e=>by
 have hn:=x.fresh hp
 by_cases hb:b=a
 ·subst hb; rw[ac] at e; cases e; exact new
 ·rw[af hb] at e
  exact(x b u e).stay (fun c v _ q=>k c v q) (fun c q=>by rw[af (az q hn)]; exact q) fun c xs q=>by rw[af (az q hn)]; exact q
end
def Rd (H:Hp) (a:Addr) (u:HO):Prop:=H a=some u\/∃ o,H a=some (.frz o u)
theorem Rd.ok {P:Program}{w:World}{H:Hp}{h:Heap}{a:Addr}{u:HO}(r:Rd H a u) (x:HOk P w H h):ObjOk P w H h a u:=by
 rcases r with r | ⟨o,r⟩
 ·exact x a u r
 ·obtain⟨_,q⟩:=x a _ r
  exact q
def Mut:Option HO->Prop
 | some (.lst _)=>True
 | some (.dK _)=>True
 | some (.dT _)=>True
 | some (.set _ _)=>True
 | some (.ins _ _ _)=>True
 | some (.ext _)=>True
 | _=>False
section
variable {P:Program}{w:World}{H:Hp}{h h':Heap}{x e:Addr}{o':HO}
theorem HOk.write (ok:HOk P w H h) (mu:Mut (H x)) (he:e=x\/H e=some (.own x)) (k:∀ b u,b≠e->h.get? b=some u->h'.get? b=some u) (heo:∃ u,h'.get? e=some u)
  (new:ObjOk P w (upd H x o') h' x o'):HOk P w (upd H x o') h':=fun b u q=>by
 have nown:∀ c y,H c=some (.own y)->c≠x:=fun c y r z=>by subst z; rw[r] at mu; exact mu
 have ntup:∀ c xs,H c=some (.tup xs)->c≠x:=fun c xs r z=>by subst z; rw[r] at mu; exact mu
 by_cases hb:b=x
 ·subst hb; rw[ac] at q; cases q; exact new
 ·rw[af hb] at q
  by_cases hbe:b=e
  ·have q':H b=some (.own x):=by
    rcases he with z | z
    ·exact absurd (hbe.trans z) hb
    ·rw[hbe]; exact z
   rw[q] at q'; cases q'
   obtain⟨v,hv⟩:=heo
   exact⟨v,by rw[hbe]; exact hv⟩
  ·refine(ok b u q).stay (fun c v hc r=>k c v ?_ r) (fun c r=>by rw[af (nown c b r)]; exact r) fun c xs r=>by rw[af (ntup c xs r)]; exact r
   rcases hc with rfl | hc
   ·exact hbe
   ·rintro rfl
    rcases he with z | z
    ·exact nown c b hc z
    ·rw[hc] at z; cases z; exact hb rfl
end
structure Un (fs ex:List Addr) (H H':Hp) (h h':Heap):Prop where
 keep:∀ b o,h.get? b=some o->H b=none->b∉fs->b∉ex->h'.get? b=some o
 slot:∀ b o,h.get? b=some o->H b=none->b∈fs->b∉ex->∃ sl,h'.get? b=some { o with slots:=sl }
 free:∀ b o,h.get? b=some o->H b=none->b∉ex->H' b=none
 there:∀ b o,h.get? b=some o->b∉ex->∃ o',h'.get? b=some o'
 tups:∀ b xs,H b=some (.tup xs)->H' b=some (.tup xs)
 frzs:∀ b o u,H b=some (.frz o u)->H' b=some (.frz o u)
 tbls:∀ b ps,H b=some (.tbl ps)->∃ more,H' b=some (.tbl (ps++more))
section
variable {fs fs' ex ex':List Addr}{H H1 H2:Hp}{h h1 h2 h':Heap}{a x e:Addr}{o:HO}
theorem Un.any (u:Un fs ex H H1 h h1) {b:Addr}{ob:Obj}(q:h.get? b=some ob) (n:H b=none) (hx:b∉ex):∃ sl,h1.get? b=some { ob with slots:=sl }:=by
 by_cases hb:b∈fs
 ·exact u.slot b ob q n hb hx
 ·exact⟨ob.slots,u.keep b ob q n hb hx⟩
theorem Un.kept (k:∀ b u,h.get? b=some u->h'.get? b=some u):Un fs ex H H h h' :=
 ⟨fun b ob q _ _ _=>k b ob q,fun b ob q _ _ _=>⟨ob.slots,k b ob q⟩,fun _ _ _ n _=>n,fun b ob q _=>⟨ob,k b ob q⟩,fun _ _ q=>q,fun _ _ _ q=>q,fun _ ps q=>⟨#[],by rw[q]; simp⟩⟩
theorem Un.refl:Un fs ex H H h h:=Un.kept fun _ _ q=>q
theorem Un.laid (k:∀ b u,h.get? b=some u->h'.get? b=some u) (hp:h.objs.size<=a) (hn:H a=none):Un fs ex H (upd H a o) h h' where
 keep:=fun b u q _ _ _=>k b u q
 slot:=fun b u q _ _ _=>⟨u.slots,k b u q⟩
 free:=fun b u q n _=>by rw[af (ne_of_lt (lt_of_lt_of_le (Heap.lt_size q) hp))]; exact n
 there:=fun b u q _=>⟨u,k b u q⟩
 tups:=fun b xs q=>by rw[af (az q hn)]; exact q
 frzs:=fun b u xs q=>by rw[af (az q hn)]; exact q
 tbls:=fun b ps q=>⟨#[],by rw[af (az q hn),q]; simp⟩
theorem Un.write (mu:Mut (H x)) (he:e=x\/H e=some (.own x)) (k:∀ b u,b≠e->h.get? b=some u->h'.get? b=some u) (heo:∃ u,h'.get? e=some u):Un fs ex H (upd H x o) h h':=by
 have hx:∀ b,H b=none->b≠x:=fun b n z=>by subst z; rw[n] at mu; exact mu
 have hb:∀ b,H b=none->b≠e:=fun b n z=>by
  subst z
  rcases he with r | r
  ·exact hx b n r
  ·rw[n] at r; cases r
 have hm:∀ b u,H b=some u->¬ Mut (some u)->b≠x:=fun b u q nm z=>by subst z; rw[q] at mu; exact nm mu
 refine⟨fun b u q n _ _=>k b u (hb b n) q,fun b u q n _ _=>⟨u.slots,k b u (hb b n) q⟩,fun b u q n _=>by rw[af (hx b n)]; exact n,fun b u q _=>?_,
  fun b xs q=>by rw[af (hm b _ q fun z=>z)]; exact q,fun b u xs q=>by rw[af (hm b _ q fun z=>z)]; exact q,fun b ps q=>⟨#[],by rw[af (hm b _ q fun z=>z),q]; simp⟩⟩
 by_cases hbe:b=e
 ·subst hbe; exact heo
 ·exact⟨u,k b u hbe q⟩
end
def trk (h:Heap) (H:Hp):List Addr:=(List.range h.objs.size).filter fun a=>(H a).isSome
def nF (h:Heap) (H:Hp):Heap:=PySem.W.hideAll h (trk h H)
theorem lN (h:Heap) (H:Hp):(nF h H).objs.size=h.objs.size:=PySem.W.hideAll_size _ _
theorem oB {h:Heap}{H:Hp}{b:Addr}{o:Obj}(e:h.get? b=some o) (n:H b=none):(nF h H).get? b=some o :=
 PySem.W.hideAll_get _ e fun hm=>by
  have q:(H b).isSome=true:=(List.mem_filter.mp hm).2
  rw[n] at q; simp at q
theorem rD {h:Heap}{H:Hp}{b:Addr}{o:Obj}(e:(nF h H).get? b=some o):h.get? b=some o/\H b=none:=by
 have e':h.get? b=some o:=PySem.W.of_hideAll (trk h H) e
 refine⟨e',?_⟩
 cases q:H b with
 | none=>rfl
 | some x =>
  have hm:b∈trk h H:=List.mem_filter.mpr ⟨List.mem_range.mpr (Heap.lt_size e'),by simp[q]⟩
  have z:(nF h H).get? b=none:=PySem.W.hideAll_none (trk h H) hm
  rw[z] at e; cases e
end L2
namespace L2
open PySem PySem.Spec PyProof.Rows
structure Mod (K:Frag) (mg:Str->Option Value) (base:Heap):Prop where
 kin:K.In base
 glob:base.Ns mainGlobals mg
 blt:∃ mb,base.Ns builtinsNs mb/\∀ x:Str,x≠"__name__"->mb x=bootBuiltins x
 nolimit:base.NoLimit
structure Cx where
 prog:Program
 w:World
 K:Frag
 mg:Str->Option Value
 base:Heap
 A:Around
 N:List Str
 s₀:Shared
 H₀:Hp
 env:Env
 outer:List Env
 stack:List Env
 ex:List Addr
 fn:Str->Bool
 calm:Bool
 pn:List (Addr×Obj)
 xe:Value->Shared->Prop
def frs (l:List Env):List Addr:=l.filterMap (·.frame)
abbrev Cx.fs (X:Cx):List Addr:=frs X.outer
def Vis (sc:Scope) (x:Str):Prop:=sc.names.lookup x=some .local\/sc.names.lookup x=some .cell\/sc.names.lookup x=some .free
def Loc (sc:Scope) (x:Str):Prop:=sc.names.lookup x=some .local\/sc.names.lookup x=some .cell
def Look (env:Env) (h:Heap) (m:Str->Option Value) (x:Str) (u:Value):Prop :=
 (env.kindOf x=some .local/\m x=some u)\/((env.kindOf x=some .cell\/env.kindOf x=some .free)/\∃ c,env.cells.lookup x=some c/\h.IsCell c (some u))
structure Cx.Ok (X:Cx):Prop where
 mod:Mod X.K X.mg X.base
 kind:X.env.scope.kind=.function
 glob:X.env.globals=mainGlobals
 blt:X.env.builtins=builtinsNs
 above:X.s₀.heap.objs.size<=X.env.locals
 inj:∀ x y c,X.env.cells.lookup x=some c->X.env.cells.lookup y=some c->x=y
 has:∀ x,(X.env.kindOf x=some .cell\/X.env.kindOf x=some .free)->∃ c,X.env.cells.lookup x=some c
 cab:∀ x c,X.fn x=true->X.env.cells.lookup x=some c->X.s₀.heap.objs.size<=c
 hd:X.calm=true->X.A.handled=none
 frames:X.A.frames=some X.stack
 stk:X.stack=X.outer\/(X.stack=X.env::X.outer/\X.env.frame=some X.env.locals)
 exf:∀ b∈X.ex,b≠X.env.locals/\∀ x c,X.env.cells.lookup x=some c->c≠b
 bs:∀ b o,X.base.get? b=some o->X.s₀.heap.get? b=some o/\X.H₀ b=none
 bsz:X.base.objs.size<=X.s₀.heap.objs.size
 noex:∀ b o,X.base.get? b=some o->b∉X.ex
 exfs:∀ b∈X.ex,b∉X.fs
 funs:X.s₀.heap.FunFrames X.base X.outer
 frf:∀ b∈X.fs,X.H₀ b=none
structure Inv (X:Cx) (pins:List (Addr×Obj)) (σ:List (Option V)) (H:Hp) (s:Shared):Prop where
 ok:X.Ok
 os:s.os=X.s₀.os
 bare:AllBare s.gens
 base:Un X.fs X.ex X.H₀ H X.s₀.heap s.heap
 loc:∃ m,s.heap.Ns X.env.locals m/\∀ (i:Nat) (x:Str) (v:V),X.N[i]?=some x->σ[i]?=some (some v)->Vis X.env.scope x->∃ u,RelV v u/\Look X.env s.heap m x u
 cell:∀ x c,X.env.cells.lookup x=some c->∃ v,s.heap.IsCell c v
 free:H X.env.locals=none
 freeC:∀ x c,X.env.cells.lookup x=some c->H c=none
 pin:∀ p∈X.pn++pins,s.heap.get? p.1=some p.2/\H p.1=none/\p.1≠X.env.locals/\p.1∉X.fs/\∀ v,p.2.data≠.cell v
 hok:HOk X.prog X.w H s.heap
 len:σ.length=X.N.length
section
variable {X:Cx}{pins:List (Addr×Obj)}{σ:List (Option V)}{H H':Hp}{s:Shared}{h':Heap}
theorem Cx.Ok.nofr (ok:X.Ok) {b:Addr}{o:Obj}(e:X.base.get? b=some o):b∉X.fs:=fun hb=>by
 have:=(ok.funs.mem hb).1
 rw[e] at this; cases this
theorem Inv.bs (I:Inv X pins σ H s):∀ b o,X.base.get? b=some o->s.heap.get? b=some o/\H b=none:=fun b o e =>
 ⟨I.base.keep b o (I.ok.bs b o e).1 (I.ok.bs b o e).2 (I.ok.nofr e) (I.ok.noex b o e),I.base.free b o (I.ok.bs b o e).1 (I.ok.bs b o e).2 (I.ok.noex b o e)⟩
theorem Inv.bk (I:Inv X pins σ H s):∀ b o,X.base.get? b=some o->s.heap.get? b=some o:=fun b o e=>(I.bs b o e).1
theorem Inv.mod (I:Inv X pins σ H s):Mod X.K X.mg X.base:=I.ok.mod
theorem Inv.kIn (I:Inv X pins σ H s):X.K.In s.heap:=I.ok.mod.kin.keeps I.bk
theorem Inv.lt (I:Inv X pins σ H s):X.env.locals<s.heap.objs.size:=let ⟨_,hn,_⟩:=I.loc; hn.lt
theorem Inv.sz (I:Inv X pins σ H s):X.s₀.heap.objs.size<=s.heap.objs.size:=Nat.le_trans I.ok.above (Nat.le_of_lt I.lt)
theorem Inv.nofs (I:Inv X pins σ H s) {a:Addr}(h:s.heap.objs.size<=a):a∉X.fs:=fun hb=>by
 obtain⟨_,o,ho,_⟩:=I.ok.funs.mem hb
 exact absurd (lt_of_lt_of_le (Heap.lt_size ho) (Nat.le_trans I.sz h)) (lt_irrefl _)
theorem Inv.cne (I:Inv X pins σ H s):∀ x c,X.env.cells.lookup x=some c->c≠X.env.locals:=fun x c e z=>by
 obtain⟨v,o,ho,hd⟩:=I.cell x c e
 obtain⟨m,⟨o',es,ep,ho',hd',_⟩,_⟩:=I.loc
 rw[z,ho'] at ho; cases ho; rw[hd'] at hd; cases hd
theorem Inv.funs (I:Inv X pins σ H s):s.heap.FunFrames X.base X.outer:=by
 have all:∀ (l:List Env),(∀ b∈frs l,b∈X.fs)->X.s₀.heap.FunFrames X.base l->s.heap.FunFrames X.base l:=by
  intro l
  induction l with
  | nil=>intro _ _; trivial
  | cons env r ih =>
   intro hs hl
   obtain⟨hk,⟨L,o,hf,hn,ho,hd⟩,hr⟩:=hl
   have hL:L∈X.fs:=hs L (by unfold frs; rw[List.filterMap_cons,hf]; exact mem_cons_self)
   obtain⟨sl,e⟩:=I.base.slot L o ho (I.ok.frf L hL) hL fun z=>I.ok.exfs L z hL
   exact⟨hk,⟨L,_,hf,hn,e,hd⟩,ih (fun b hb=>hs b (by unfold frs; rw[List.filterMap_cons,hf]; exact mem_cons_of_mem _ hb)) hr⟩
 exact all X.outer (fun _ hb=>hb) I.ok.funs
theorem Inv.stack (I:Inv X pins σ H s):s.heap.FunFrames X.base X.stack:=by
 rcases I.ok.stk with e | ⟨e,hf⟩
 ·rw[e]; exact I.funs
 ·rw[e]
  obtain⟨m,hn,_⟩:=I.loc
  refine .cons (by rw[I.ok.kind]; decide) hf hn ?_ I.funs
  exact Heap.get?_none_of_le (Nat.le_trans I.ok.bsz I.ok.above)
theorem Inv.stkSub (I:Inv X pins σ H s):∀ b∈frs X.stack,b∈X.env.locals::X.fs:=fun b hb=>by
 rcases I.ok.stk with e | ⟨e,hf⟩
 ·rw[e] at hb; exact mem_cons_of_mem _ hb
 ·rw[e] at hb
  unfold frs at hb
  rw[List.filterMap_cons,hf] at hb
  exact hb
theorem Inv.stkFree (I:Inv X pins σ H s):∀ b∈frs X.stack,H b=none:=fun b hb=>by
 rcases List.mem_cons.mp (I.stkSub b hb) with e | hb
 ·rw[e]; exact I.free
 ·obtain⟨_,o,ho,_⟩:=I.ok.funs.mem hb
  exact I.base.free b o ho (I.ok.frf b hb) fun z=>I.ok.exfs b z hb
theorem Inv.step {g':Array GenState}{t':Nat}{d':Drawn}{ch:List Addr}(I:Inv X pins σ H s)
  (hch:∀ b∈ch,(b∈X.ex\/X.s₀.heap.objs.size<=b)/\b≠X.env.locals/\(∀ x c,X.env.cells.lookup x=some c->c≠b)/\∀ p∈X.pn++pins,p.1≠b)
  (keep:∀ b o,b≠X.env.locals->b∉X.fs->b∉ch->s.heap.get? b=some o->H b=none->h'.get? b=some o)
  (slot:∀ b o,b≠X.env.locals->b∈X.fs->b∉ch->s.heap.get? b=some o->H b=none->∃ sl,h'.get? b=some { o with slots:=sl }) (free:∀ b o,b∉ch->s.heap.get? b=some o->H b=none->H' b=none)
  (there:∀ b o,b∉ch->s.heap.get? b=some o->∃ o',h'.get? b=some o')
  (tups:∀ b xs,H b=some (.tup xs)->H' b=some (.tup xs)) (frzs:∀ b o u,H b=some (.frz o u)->H' b=some (.frz o u)) (tbls:∀ b ps,H b=some (.tbl ps)->∃ more,H' b=some (.tbl (ps++more)))
  (ns:∀ m,s.heap.Ns X.env.locals m->h'.Ns X.env.locals m) (hok:HOk X.prog X.w H' h') (hg:AllBare g') :
  Inv X pins σ H' { s with heap:=h',gens:=g',drawn:=d',toks:=t' }:=by
 have neL:∀ b o,X.s₀.heap.get? b=some o->b≠X.env.locals:=fun b o e=>ne_of_lt (lt_of_lt_of_le (Heap.lt_size e) I.ok.above)
 have neC:∀ b o,X.s₀.heap.get? b=some o->b∉X.ex->b∉ch:=fun b o e hx hb=>by
  rcases(hch b hb).1 with z | z
  ·exact hx z
  ·exact absurd (lt_of_lt_of_le (Heap.lt_size e) z) (lt_irrefl _)
 have cellK:∀ x c,X.env.cells.lookup x=some c->∀ v,s.heap.IsCell c v->h'.IsCell c v:=fun x c e v ⟨o,ho,hd⟩=>by
  have nch:c∉ch:=fun z=>(hch c z).2.2.1 x c e rfl
  by_cases hc:c∈X.fs
  ·obtain⟨sl,q⟩:=slot c o (I.cne x c e) hc nch ho (I.freeC x c e)
   exact⟨_,q,hd⟩
  ·exact⟨o,keep c o (I.cne x c e) hc nch ho (I.freeC x c e),hd⟩
 refine⟨I.ok,I.os,hg,⟨fun b o e n hb hx=>?_,fun b o e n hb hx=>?_,fun b o e n hx=>?_,fun b o e hx=>?_,fun b xs e=>tups b xs (I.base.tups b xs e),fun b o xs e=>frzs b o xs (I.base.frzs b o xs e),fun b ps e=>?_⟩,?_,fun x c e=>?_,?_,fun x c e=>?_,fun p hp=>?_,hok,I.len⟩
 ·exact keep b o (neL b o e) hb (neC b o e hx) (I.base.keep b o e n hb hx) (I.base.free b o e n hx)
 ·obtain⟨sl,e1⟩:=I.base.slot b o e n hb hx
  obtain⟨sl',e2⟩:=slot b _ (neL b o e) hb (neC b o e hx) e1 (I.base.free b o e n hx)
  exact⟨sl',e2⟩
 ·obtain⟨o',e1⟩:=I.base.there b o e hx
  exact free b o' (neC b o e hx) e1 (I.base.free b o e n hx)
 ·obtain⟨o',e1⟩:=I.base.there b o e hx
  exact there b o' (neC b o e hx) e1
 ·obtain⟨m1,e1⟩:=I.base.tbls b ps e
  obtain⟨m2,e2⟩:=tbls b _ e1
  exact⟨m1++m2,by rw[e2,Array.append_assoc]⟩
 ·obtain⟨m,hn,hl⟩:=I.loc
  refine⟨m,ns m hn,fun i x v e1 e2 e3=>?_⟩
  obtain⟨u,r,l⟩:=hl i x v e1 e2 e3
  refine⟨u,r,?_⟩
  rcases l with l | ⟨k,c,e,z⟩
  ·exact .inl l
  ·exact .inr ⟨k,c,e,cellK x c e _ z⟩
 ·obtain⟨v,z⟩:=I.cell x c e
  exact⟨v,cellK x c e v z⟩
 ·obtain⟨m,⟨o,_,_,ho,_⟩,_⟩:=I.loc
  exact free _ o (fun z=>(hch _ z).2.1 rfl) ho I.free
 ·obtain⟨v,o,ho,hd⟩:=I.cell x c e
  exact free c o (fun z=>(hch c z).2.2.1 x c e rfl) ho (I.freeC x c e)
 ·obtain⟨e,n,ne,nf,d⟩:=I.pin p hp
  have nch:p.1∉ch:=fun z=>(hch p.1 z).2.2.2 p hp rfl
  exact⟨keep p.1 p.2 ne nf nch e n,free p.1 p.2 nch e n,ne,nf,d⟩
theorem Inv.un {t':Nat}(I:Inv X pins σ H s) (u:Un X.fs [] H H' s.heap h') (hok:HOk X.prog X.w H' h'):Inv X pins σ H' { s with heap:=h',toks:=t' }:=by
 obtain⟨m,⟨o,es,ep,ho,r⟩,_⟩:=id I.loc
 obtain⟨sl,hL⟩:=u.any ho I.free (by simp)
 exact I.step (g':=s.gens) (d':=s.drawn) (ch:=[]) (fun _ z=>nomatch z) (fun b o _ hb _ e n=>u.keep b o e n hb (by simp)) (fun b o _ hb _ e n=>u.slot b o e n hb (by simp)) (fun b o _ e n=>u.free b o e n (by simp)) (fun b o _ e=>u.there b o e (by simp)) u.tups u.frzs u.tbls (fun m' hm=>by
  obtain⟨o',es',ep',ho',r'⟩:=hm
  rw[ho] at ho'; cases ho'
  exact⟨_,es',ep',hL,r'⟩) hok I.bare
theorem Inv.call {g':Array GenState}{t':Nat}{d':Drawn}{ch:List Addr}(I:Inv X pins σ H s) (u:Un (frs X.stack) ch H H' s.heap h') (hok:HOk X.prog X.w H' h') (hg:AllBare g')
  (hch:∀ b∈ch,(b∈X.ex\/X.s₀.heap.objs.size<=b)/\b≠X.env.locals/\(∀ x c,X.env.cells.lookup x=some c->c≠b)/\∀ p∈X.pn++pins,p.1≠b) :
  Inv X pins σ H' { s with heap:=h',gens:=g',drawn:=d',toks:=t' }:=by
 obtain⟨m,⟨o,es,ep,ho,r⟩,_⟩:=id I.loc
 obtain⟨sl,hL⟩:=u.any ho I.free fun z=>(hch _ z).2.1 rfl
 exact I.step (ch:=ch) hch (fun b o hL hb hc e n=>u.keep b o e n (fun z=>(List.mem_cons.mp (I.stkSub b z)).elim hL hb) hc) (fun b o _ _ hc e n=>u.any e n hc) (fun b o hc e n=>u.free b o e n hc) (fun b o hc e=>u.there b o e hc) u.tups u.frzs u.tbls (fun m' hm=>by
  obtain⟨o',es',ep',ho',r'⟩:=hm
  rw[ho] at ho'; cases ho'
  exact⟨_,es',ep',hL,r'⟩) hok hg
theorem Inv.turned {t':Nat}{it:Addr}(I:Inv X pins σ H s) (k:∀ b o,b≠it->s.heap.get? b=some o->h'.get? b=some o) (hn:H it=none) (hL:it≠X.env.locals)
  (h1:it∈X.ex\/X.s₀.heap.objs.size<=it) (h2:∀ x c,X.env.cells.lookup x=some c->c≠it) (h3:∀ p∈X.pn++pins,p.1≠it):Inv X pins σ H { s with heap:=h',toks:=t' }:=by
 have nit:∀ b u,H b=some u->b≠it:=fun b u e z=>by rw[z,hn] at e; cases e
 refine I.step (g':=s.gens) (d':=s.drawn) (ch:=[it]) (fun b hb=>?_) (fun b o _ _ hc e _=>k b o (fun z=>hc (by simp[z])) e) (fun b o _ _ hc e _=>⟨o.slots,k b o (fun z=>hc (by simp[z])) e⟩) (fun _ _ _ _ n=>n)
  (fun b o hc e=>⟨o,k b o (fun z=>hc (by simp[z])) e⟩) (fun _ _ e=>e) (fun _ _ _ e=>e) (fun b ps e=>⟨#[],by rw[e]; simp⟩) (fun m hm=>?_) (fun b u e=>?_) I.bare
 ·have e:b=it:=by simpa using hb
  subst e
  exact⟨h1,hL,h2,h3⟩
 ·obtain⟨o,es,ep,ho,r⟩:=hm
  exact⟨o,es,ep,k _ o (Ne.symm hL) ho,r⟩
 ·refine(I.hok b u e).stay (fun c v hc q=>k c v ?_ q) (fun _ q=>q) fun _ _ q=>q
  rcases hc with z | z
  ·rw[z]; exact nit b u e
  ·exact nit c _ z
theorem Inv.tok (I:Inv X pins σ H s) (t:Nat):Inv X pins σ H { s with toks:=t }:=I.un (h':=s.heap) (t':=t) Un.refl I.hok
theorem Inv.kept {t':Nat}(I:Inv X pins σ H s) (k:∀ b u,s.heap.get? b=some u->h'.get? b=some u):Inv X pins σ H { s with heap:=h',toks:=t' }:=I.un (Un.kept k) (I.hok.kept k)
theorem Inv.laid {a:Addr}{o:HO}{t':Nat}(I:Inv X pins σ H s) (k:∀ b u,s.heap.get? b=some u->h'.get? b=some u) (hp:s.heap.objs.size<=a) (new:ObjOk X.prog X.w (upd H a o) h' a o) :
  Inv X pins σ (upd H a o) { s with heap:=h',toks:=t' }:=I.un (Un.laid k hp (I.hok.fresh hp)) (I.hok.laid k hp new)
theorem Inv.write {x e:Addr}{o:HO}{t':Nat}(I:Inv X pins σ H s) (mu:Mut (H x)) (he:e=x\/H e=some (.own x)) (k:∀ b u,b≠e->s.heap.get? b=some u->h'.get? b=some u) (heo:∃ u,h'.get? e=some u)
  (new:ObjOk X.prog X.w (upd H x o) h' x o):Inv X pins σ (upd H x o) { s with heap:=h',toks:=t' }:=I.un (Un.write mu he k heo) (I.hok.write mu he k heo new)
theorem Inv.pins_of {pins':List (Addr×Obj)}(I:Inv X pins σ H s) (h:∀ p∈pins',s.heap.get? p.1=some p.2/\H p.1=none/\p.1≠X.env.locals/\p.1∉X.fs/\∀ v,p.2.data≠.cell v):Inv X pins' σ H s :=
 ⟨I.ok,I.os,I.bare,I.base,I.loc,I.cell,I.free,I.freeC,fun p hp=>(List.mem_append.mp hp).elim (fun z=>I.pin p (mem_append_left _ z)) (h p),I.hok,I.len⟩
theorem kF {N:List Str}(hN:N.Nodup) {i j:Nat}{x:Str}(a:N[i]?=some x) (b:N[j]?=some x):i=j:=by
 obtain⟨h1,e1⟩:=List.getElem?_eq_some_iff.mp a
 obtain⟨h2,e2⟩:=List.getElem?_eq_some_iff.mp b
 exact(List.getElem_inj hN).mp (e1.trans e2.symm)
theorem md {M:Model}{A:Around}{E:Value->Shared->Prop}{i:Nat}{x:Str}{v:V}{u:Value}{Q:Unit->Shared->Prop}(I:Inv X pins σ H s) (hN:X.N.Nodup) (hi:X.N[i]?=some x) (hx:Loc X.env.scope x) (r:RelV v u)
  (h:∀ s',Inv X pins (σ.set i (some v)) H s'->(∃ a,Heap.SameBut a s.heap s'.heap/\(a=X.env.locals\/X.env.cells.lookup x=some a))->Q () s') (hf:X.fn x=true\/X.env.scope.names.lookup x=some .local:=by first | exact .inl rfl | exact .inr rfl | assumption):wpAny M A (storeName X.env x u) Q E s:=by
 obtain⟨m,hn,hl⟩:=id I.loc
 have hcls:(X.env.scope.kind == .class || (X.env.scope.kind == .module&&X.env.locals != X.env.globals))=false:=by rw[I.ok.kind]; rfl
 have hiσ:i<σ.length:=by rw[I.len]; exact(List.getElem?_eq_some_iff.mp hi).1
 have cne:=I.cne
 have tracked:∀ {a:Addr} {h':Heap},(∃ o,s.heap.get? a=some o/\H a=none)->Heap.SameBut a s.heap h'->HOk X.prog X.w H h':=fun {a h'} ha hs b ob e=>by
  obtain⟨_,_,hfree⟩:=ha
  refine(I.hok b ob e).stay (fun c w' hc q=>(hs.2 c ?_).trans q) (fun _ q=>q) fun _ _ q=>q
  rintro rfl
  rcases hc with rfl | hc
  ·rw[hfree] at e; cases e
  ·rw[hfree] at hc; cases hc
 rcases hx with hk | hk
 ·refine wpAny_storeName_local hk hn (fun h' hn' hs=>?_) hcls
  obtain⟨oL,_,_,hoL,_⟩:=id hn
  refine h _ ⟨I.ok,I.os,I.bare,⟨fun b o e n hb hx=>?_,fun b o e n hb hx=>?_,I.base.free,fun b o e hx=>?_,I.base.tups,I.base.frzs,I.base.tbls⟩,⟨_,hn',fun j y v' e1 e2 e3=>?_⟩,fun y c e=>?_,I.free,I.freeC,fun p hp=>?_,tracked ⟨oL,hoL,I.free⟩ hs,by simpa using I.len⟩ ⟨_,hs,.inl rfl⟩
  ·exact(hs.2 b (ne_of_lt (lt_of_lt_of_le (Heap.lt_size e) I.ok.above))).trans (I.base.keep b o e n hb hx)
  ·obtain⟨sl,e1⟩:=I.base.slot b o e n hb hx
   exact⟨sl,(hs.2 b (ne_of_lt (lt_of_lt_of_le (Heap.lt_size e) I.ok.above))).trans e1⟩
  ·obtain⟨o',e1⟩:=I.base.there b o e hx
   exact⟨o',(hs.2 b (ne_of_lt (lt_of_lt_of_le (Heap.lt_size e) I.ok.above))).trans e1⟩
  ·by_cases hj:j=i
   ·subst hj
    rw[hi] at e1; cases e1
    rw[List.getElem?_set_self hiσ] at e2
    cases e2
    exact⟨u,r,.inl ⟨hk,by simp⟩⟩
   ·rw[List.getElem?_set_ne (Ne.symm hj)] at e2
    obtain⟨u',r',q⟩:=hl j y v' e1 e2 e3
    refine⟨u',r',?_⟩
    rcases q with ⟨k,e⟩ | ⟨k,c,e,z⟩
    ·refine .inl ⟨k,?_⟩
     have:y≠x:=fun e=>hj (kF hN e1 (e ▸ hi))
     simp[this,e]
    ·exact .inr ⟨k,c,e,z.sameBut hs (cne y c e)⟩
  ·obtain⟨w',z⟩:=I.cell y c e
   exact⟨w',z.sameBut hs (cne y c e)⟩
  ·obtain⟨e,n,ne,nf,d⟩:=I.pin p hp
   exact⟨(hs.2 p.1 ne).trans e,n,ne,nf,d⟩
 ·have hfn:X.fn x=true:=by
   rcases hf with z | z
   ·exact z
   ·rw[z] at hk; cases hk
  obtain⟨c,hc⟩:=I.ok.has x (.inl hk)
  obtain⟨w',z⟩:=I.cell x c hc
  refine wpAny_storeName_cell I.ok.kind hk hc z (fun h' hc' hs=>?_)
  obtain⟨oc,hoc,hocd⟩:=id z
  refine h { s with heap:=h' } ⟨I.ok,I.os,I.bare,⟨fun b o e n hb hx=>?_,fun b o e n hb hx=>?_,I.base.free,fun b o e hx=>?_,I.base.tups,I.base.frzs,I.base.tbls⟩,⟨m,hn.sameBut hs (Ne.symm (cne x c hc)),fun j y v' e1 e2 e3=>?_⟩,fun y c' e=>?_,I.free,I.freeC,fun p hp=>?_,tracked ⟨oc,hoc,I.freeC x c hc⟩ hs,by simpa using I.len⟩ ⟨c,hs,.inr hc⟩
  ·exact(hs.2 b (ne_of_lt (lt_of_lt_of_le (Heap.lt_size e) (I.ok.cab x c hfn hc)))).trans (I.base.keep b o e n hb hx)
  ·obtain⟨sl,e1⟩:=I.base.slot b o e n hb hx
   exact⟨sl,(hs.2 b (ne_of_lt (lt_of_lt_of_le (Heap.lt_size e) (I.ok.cab x c hfn hc)))).trans e1⟩
  ·obtain⟨o',e1⟩:=I.base.there b o e hx
   exact⟨o',(hs.2 b (ne_of_lt (lt_of_lt_of_le (Heap.lt_size e) (I.ok.cab x c hfn hc)))).trans e1⟩
  ·by_cases hj:j=i
   ·subst hj
    rw[hi] at e1; cases e1
    rw[List.getElem?_set_self hiσ] at e2
    cases e2
    exact⟨u,r,.inr ⟨.inl hk,c,hc,hc'⟩⟩
   ·rw[List.getElem?_set_ne (Ne.symm hj)] at e2
    obtain⟨u',r',q⟩:=hl j y v' e1 e2 e3
    refine⟨u',r',?_⟩
    rcases q with q | ⟨k,c',e,z'⟩
    ·exact .inl q
    ·refine .inr ⟨k,c',e,z'.sameBut hs ?_⟩
     rintro rfl
     exact hj (kF hN e1 (I.ok.inj _ _ _ e hc ▸ hi))
  ·by_cases hcc:c'=c
   ·subst hcc; exact⟨_,hc'⟩
   ·obtain⟨w2,z2⟩:=I.cell y c' e
    exact⟨w2,z2.sameBut hs hcc⟩
  ·obtain⟨e,n,ne,nf,d⟩:=I.pin p hp
   refine⟨(hs.2 p.1 ?_).trans e,n,ne,nf,d⟩
   intro q
   rw[q,hoc] at e
   have q':oc=p.2:=Option.some.inj e
   exact d w' (by rw[<- q']; exact hocd)
theorem eM {M:Model}{A:Around}{E:Value->Shared->Prop}{i:Nat}{x:Str}{v:V}{u:Value}{Q:Unit->Shared->Prop}(I:Inv X pins σ H s) (hN:X.N.Nodup) (hi:X.N[i]?=some x) (hx:Loc X.env.scope x) (r:RelV v u)
  (h:∀ s',Inv X pins (σ.set i (some v)) H s'->Q () s') (hf:X.fn x=true\/X.env.scope.names.lookup x=some .local:=by first | exact .inl rfl | exact .inr rfl | assumption):wpAny M A (storeName X.env x u) Q E s :=
 md I hN hi hx r (fun s' I' _=>h s' I') hf
theorem Inv.call' {s':Shared}{ch:List Addr}(I:Inv X pins σ H s) (ho:s'.os=s.os) (u:Un (frs X.stack) ch H H' s.heap s'.heap) (hok:HOk X.prog X.w H' s'.heap) (hg:AllBare s'.gens)
  (hch:∀ b∈ch,(b∈X.ex\/X.s₀.heap.objs.size<=b)/\b≠X.env.locals/\(∀ x c,X.env.cells.lookup x=some c->c≠b)/\∀ p∈X.pn++pins,p.1≠b):Inv X pins σ H' s':=by
 obtain⟨h',g',d',t',o'⟩:=s'
 have e:o'=s.os:=ho
 subst e
 exact I.call (g':=g') (t':=t') (d':=d') u hok hg hch
end
abbrev XK:=Value->Option Addr->Hp->Prop
abbrev St:=List (Option V)
abbrev VK:=V->Hp->Prop
abbrev TE:=St->Hp->VK->Prop
abbrev TT:=St->Hp->(Bool->Hp->Prop)->Prop
abbrev TA:=St->Hp->(List V->Hp->Prop)->Prop
structure Ends where
 nx:St->Hp->Prop
 rt:VK
 bk:St->Hp->Prop:=fun _ _=>False
 ct:St->Hp->Prop:=fun _ _=>False
abbrev TS:=Ends->St->Hp->Prop
def EP (X:Cx) (pins:List (Addr×Obj)) (σ:St) (Q:VK) (u:Value) (s':Shared):Prop:=∃ v H',Inv X pins σ H' s'/\RelV v u/\Q v H'
def TP (X:Cx) (pins:List (Addr×Obj)) (σ:St) (Q:Bool->Hp->Prop) (b:Bool) (s':Shared):Prop:=∃ H',Inv X pins σ H' s'/\Q b H'
def AP (X:Cx) (pins:List (Addr×Obj)) (σ:St) (Q:List V->Hp->Prop) (us:List Value) (s':Shared):Prop:=∃ vs H',Inv X pins σ H' s'/\Vals vs us/\Q vs H'
def SP (X:Cx) (pins:List (Addr×Obj)) (D:Ends) (f:Flow) (s':Shared):Prop :=
 match f with
 | .next=>∃ σ' H',Inv X pins σ' H' s'/\D.nx σ' H'
 | .brk=>∃ σ' H',Inv X pins σ' H' s'/\D.bk σ' H'
 | .cont=>∃ σ' H',Inv X pins σ' H' s'/\D.ct σ' H'
 | .ret u=>∃ v σ' H',Inv X pins σ' H' s'/\RelV v u/\D.rt v H'
def PE (X:Cx) (e:Expr) (t:TE):Prop :=
 ∀ (pins:List (Addr×Obj)) (s:Shared) (σ:St) (H:Hp) (Q:VK),Inv X pins σ H s->t σ H Q->wpAny (model X.prog X.w) X.A (eval e X.env) (EP X pins σ Q) X.xe s
def PT (X:Cx) (e:Expr) (t:TT):Prop :=
 ∀ (pins:List (Addr×Obj)) (s:Shared) (σ:St) (H:Hp) (Q:Bool->Hp->Prop),Inv X pins σ H s->t σ H Q->wpAny (model X.prog X.w) X.A (isTrue e X.env (eval e X.env)) (TP X pins σ Q) X.xe s
def PW (X:Cx) (e:Expr) (t:TT):Prop :=
 ∀ (whole:Sem Value) (pins:List (Addr×Obj)) (s:Shared) (σ:St) (H:Hp) (Q:Bool->Hp->Prop),Inv X pins σ H s->t σ H Q->wpAny (model X.prog X.w) X.A (isTrue e X.env whole) (TP X pins σ Q) X.xe s
theorem PW.pt {X:Cx}{e:Expr}{t:TT}(h:PW X e t):PT X e t:=h _
def PA (X:Cx) (es:List Expr) (t:TA):Prop :=
 ∀ (pos:Pos) (pins:List (Addr×Obj)) (s:Shared) (σ:St) (H:Hp) (Q:List V->Hp->Prop),Inv X pins σ H s->t σ H Q->wpAny (model X.prog X.w) X.A (spliced (backTo pos (starEach es X.env))) (AP X pins σ Q) X.xe s
def PS (X:Cx) (st:Stmt) (t:TS):Prop :=
 ∀ (pins:List (Addr×Obj)) (s:Shared) (σ:St) (H:Hp) (D:Ends),Inv X pins σ H s->t D σ H->wpAny (model X.prog X.w) X.A (exec st X.env) (SP X pins D) X.xe s
def PSs (X:Cx) (st:List Stmt) (t:TS):Prop :=
 ∀ (pins:List (Addr×Obj)) (s:Shared) (σ:St) (H:Hp) (D:Ends),Inv X pins σ H s->t D σ H->wpAny (model X.prog X.w) X.A (execs st X.env) (SP X pins D) X.xe s
theorem thn {α:Type}{t:Sem α}{Q Q':α->Shared->Prop}{M:Model}{A:Around}{E:Value->Shared->Prop}{s:Shared}(h:wpAny M A t Q E s) (hQ:∀ a s,Q a s->Q' a s):wpAny M A t Q' E s:=wpAny_mono h hQ fun _ _ x=>x
end L2
namespace L2
open PySem PySem.Spec PyProof.Rows
section
variable {X:Cx}
def tVar (i:Nat):TE:=fun σ H Q=>∃ v,σ[i]?=some (some v)/\Q v H
def tC (v:V):TE:=fun _ H Q=>Q v H
theorem pe_var {i:Nat}{x:Str}{pos:Pos}(hN:X.N[i]?=some x) (hv:Vis X.env.scope x) (hd:(x == ("__debug__":Str))=false:=by decide) (hcd:(x == ("__classdict__":Str))=false:=by decide):PE X (.Name x pos) (tVar i):=by
 intro pins s σ H Q I h
 obtain⟨v,e,h⟩:=h
 obtain⟨m,hn,hl⟩:=I.loc
 obtain⟨u,r,l⟩:=hl i x v hN e hv
 have fin:EP X pins σ Q u s:=⟨v,H,I,r,h⟩
 rcases l with ⟨hk,hm⟩ | ⟨hk,c,hc,hcell⟩
 ·exact wpAny_Name (wpAny_loadName_local I.ok.kind hk hn hm fin) hd
 ·rcases hk with hk | hk
  ·exact wpAny_Name (wpAny_loadName_cell I.ok.kind hk hc hcell fin) hd
  ·exact wpAny_Name (wpAny_loadName_free I.ok.kind hk hc hcell fin hcd) hd
theorem ai {i j pos}:PE X (.Constant (.int i) j pos) (tC (.int i)):=fun _ _ _ H _ I h=>wpAny_Constant_int ⟨.int i,H,I.tok _,⟨_,rfl⟩,h⟩
theorem fO {b j pos}:PE X (.Constant (.bool b) j pos) (tC (.bl b)):=fun _ _ _ H _ I h=>Constant_bool ⟨.bl b,H,I,rfl,h⟩
theorem aZ {j pos}:PE X (.Constant .none j pos) (tC .non):=fun _ _ _ H _ I h=>Constant_none ⟨.non,H,I,rfl,h⟩
theorem ak {x j pos}:PE X (.Constant (.str x) j pos) (tC (.str x)):=fun _ _ _ H _ I h=>Calls.Constant_str ⟨.str x,H,I.tok _,⟨_,rfl⟩,h⟩
def Gl (X:Cx) (x:Str):Prop:=X.env.kindOf x=some .globalImplicit
theorem dU {E:Value->Shared->Prop}{pins:List (Addr×Obj)}{s:Shared}{σ:St}{H:Hp}{x:Str}{u:Value}{pos:Pos}{Q:Value->Shared->Prop}(I:Inv X pins σ H s) (hg:Gl X x) (hm:X.mg x=some u) (h:Q u s)
  (hd:(x == ("__debug__":Str))=false:=by decide):wpAny (model X.prog X.w) X.A (eval (.Name x pos) X.env) Q E s :=
 Calls.Name_function_global I.ok.kind hg (Calls.loadGlobal_global (by rw[I.ok.glob]; exact I.mod.glob.keeps I.bk) hm h) hd
theorem gQ {E:Value->Shared->Prop}{pins:List (Addr×Obj)}{s:Shared}{σ:St}{H:Hp}{x:Str}{u:Value}{pos:Pos}{Q:Value->Shared->Prop}(I:Inv X pins σ H s) (hg:Gl X x) (hm:X.mg x=none) (hv:bootBuiltins x=some u) (h:Q u s)
  (hn:x≠"__name__":=by decide) (hd:(x == ("__debug__":Str))=false:=by decide):wpAny (model X.prog X.w) X.A (eval (.Name x pos) X.env) Q E s:=by
 obtain⟨mb,h1,h2⟩:=I.mod.blt
 exact Calls.Name_function_global I.ok.kind hg (Calls.loadGlobal_builtin (by rw[I.ok.glob]; exact I.mod.glob.keeps I.bk) hm (by rw[I.ok.blt]; exact h1.keeps I.bk) ((h2 x hn).trans hv) h) hd
theorem nK {x:Str}{v:V}{u:Value}{pos:Pos}(hg:Gl X x) (hm:X.mg x=some u) (r:RelV v u) (hd:(x == ("__debug__":Str))=false:=by decide):PE X (.Name x pos) (tC v) :=
 fun _ _ _ H _ I h=>dU I hg hm ⟨v,H,I,r,h⟩ hd
theorem pe_bltn {x:Str}{v:V}{u:Value}{pos:Pos}(hg:Gl X x) (hm:X.mg x=none) (hv:bootBuiltins x=some u) (r:RelV v u) (hn:x≠"__name__":=by decide) (hd:(x == ("__debug__":Str))=false:=by decide):PE X (.Name x pos) (tC v) :=
 fun _ _ _ H _ I h=>gQ I hg hm hv ⟨v,H,I,r,h⟩ hn hd
variable {a b:Expr}{ta tb:TE}{pos:Pos}
def tB (t:TE):TT:=fun σ H Q=>t σ H fun x H1=>∃ c,x=.bl c/\Q c H1
theorem dL {e:Expr}{t:TE}(h:PE X e t) (he:∀ whole,isTrue e X.env whole=(do let v <- whole; standAt e.pos; holding [v] (truthy v)):=by intro _; rfl):PT X e (tB t):=by
 intro pins s σ H Q I hw
 refine isTrue_plain (thn (h pins s σ H _ I hw) fun v s1 ⟨x,H1,I1,r1,q1⟩=>?_) (he _)
 obtain⟨d,rfl,q⟩:=q1
 cases r1
 exact wpAny_truthy_bool ⟨H1,I1,q⟩
variable {tA tB':TT}{rest:List Expr}
def tAnd (t u:TT):TT:=fun σ H Q=>t σ H fun c H1=>if c=true then u σ H1 Q else Q false H1
def tOr (t u:TT):TT:=fun σ H Q=>t σ H fun c H1=>if c=true then Q true H1 else u σ H1 Q
def tNot (t:TT):TT:=fun σ H Q=>t σ H fun c H1=>Q (!c) H1
theorem cx (ha:PT X a tA):PW X (.BoolOp .And [a] pos) tA:=by
 intro wh pins s σ H Q I h
 refine isTrue_and (thn (ha pins s σ H Q I h) fun c s1 e=>?_)
 cases c with
 | true=>exact isTrue_and_nil e
 | false=>exact e
theorem dM (ha:PT X a tA):PW X (.BoolOp .Or [a] pos) tA:=by
 intro wh pins s σ H Q I h
 refine isTrue_or (thn (ha pins s σ H Q I h) fun c s1 e=>?_)
 cases c with
 | false=>exact isTrue_or_nil e
 | true=>exact e
theorem cW (ha:PT X a tA) (hb:PW X (.BoolOp .And (b::rest) pos) tB'):PW X (.BoolOp .And (a::b::rest) pos) (tAnd tA tB'):=by
 intro wh pins s σ H Q I h
 refine isTrue_and (thn (ha pins s σ H _ I h) fun c s1 ⟨H1,I1,q1⟩=>?_)
 cases c with
 | true=>exact hb wh pins s1 σ H1 Q I1 q1
 | false=>exact⟨H1,I1,q1⟩
theorem eO (ha:PT X a tA) (hb:PW X (.BoolOp .Or (b::rest) pos) tB'):PW X (.BoolOp .Or (a::b::rest) pos) (tOr tA tB'):=by
 intro wh pins s σ H Q I h
 refine isTrue_or (thn (ha pins s σ H _ I h) fun c s1 ⟨H1,I1,q1⟩=>?_)
 cases c with
 | true=>exact⟨H1,I1,q1⟩
 | false=>exact hb wh pins s1 σ H1 Q I1 q1
theorem dY (ha:PT X a tA):PT X (.UnaryOp .Not a pos) (tNot tA):=by
 intro pins s σ H Q I h
 exact isTrue_not (ha pins s σ H (fun c H1=>Q (!c) H1) I h)
def tAndV (ta tb:TE):TE:=fun σ H Q=>ta σ H fun x H1=>∃ c,x=.bl c/\if c=true then tb σ H1 Q else Q (.bl false) H1
def tOrV (ta tb:TE):TE:=fun σ H Q=>ta σ H fun x H1=>∃ c,x=.bl c/\if c=true then Q (.bl true) H1 else tb σ H1 Q
def tNotV (ta:TE):TE:=fun σ H Q=>ta σ H fun x H1=>∃ c,x=.bl c/\Q (.bl (!c)) H1
theorem lC {op}{t:TE}(h:PE X a t):PE X (.BoolOp op [a] pos) t:=fun pins s σ H Q I hw=>BoolOp_one (h pins s σ H Q I hw)
theorem jK (ha:PE X a ta) (hb:PE X (.BoolOp .And (b::rest) pos) tb):PE X (.BoolOp .And (a::b::rest) pos) (tAndV ta tb):=by
 intro pins s σ H Q I h
 refine BoolOp_and (thn (ha pins s σ H _ I h) fun v s1 ⟨x,H1,I1,r1,q1⟩=>?_)
 obtain⟨c,rfl,q1⟩:=q1
 cases r1
 refine wpAny_truthy_bool ?_
 cases c with
 | true=>exact hb pins s1 σ H1 Q I1 q1
 | false=>exact⟨.bl false,H1,I1,rfl,q1⟩
theorem pe_or (ha:PE X a ta) (hb:PE X (.BoolOp .Or (b::rest) pos) tb):PE X (.BoolOp .Or (a::b::rest) pos) (tOrV ta tb):=by
 intro pins s σ H Q I h
 refine BoolOp_or (thn (ha pins s σ H _ I h) fun v s1 ⟨x,H1,I1,r1,q1⟩=>?_)
 obtain⟨c,rfl,q1⟩:=q1
 cases r1
 refine wpAny_truthy_bool ?_
 cases c with
 | false=>exact hb pins s1 σ H1 Q I1 q1
 | true=>exact⟨.bl true,H1,I1,rfl,q1⟩
theorem pe_not (ha:PE X a ta):PE X (.UnaryOp .Not a pos) (tNotV ta):=by
 intro pins s σ H Q I h
 refine UnaryOp_ (thn (ha pins s σ H _ I h) fun v s1 ⟨x,H1,I1,r1,q1⟩=>?_)
 obtain⟨c,rfl,q1⟩:=q1
 cases r1
 exact not_of (wpAny_truthy_bool ⟨.bl (!c),H1,I1,rfl,q1⟩)
def tIf (t:TT) (ta tb:TE):TE:=fun σ H Q=>t σ H fun c H1=>if c=true then ta σ H1 Q else tb σ H1 Q
theorem cB {c:Expr}(hc:PT X c tA) (ha:PE X a ta) (hb:PE X b tb):PE X (.IfExp c a b pos) (tIf tA ta tb):=by
 intro pins s σ H Q I h
 refine wpAny_IfExp (thn (hc pins s σ H _ I h) fun d s1 ⟨H1,I1,q1⟩=>?_)
 cases d with
 | true=>exact ha pins s1 σ H1 Q I1 q1
 | false=>exact hb pins s1 σ H1 Q I1 q1
end
end L2
namespace L2
open PySem PySem.Spec PyProof.Rows
def SqL (K:Frag) (H:Hp) (a:Addr) (xs:List V):Prop :=
 Rd H a (.lst xs) \/
  ∃ (o:Obj) (its:Array Value) (n:Nat),K.lookup a=some o/\o.cls=.type "list"/\o.dict=none/\o.data=.seq its n/\its.size<=sizeLine/\Vals xs its.toList
def SqT (K:Frag) (H:Hp) (a:Addr) (xs:List V):Prop :=
 Rd H a (.tup xs) \/
  ∃ (o:Obj) (its:Array Value) (n:Nat),K.lookup a=some o/\o.cls=.type "tuple"/\o.data=.seq its n/\its.size<=sizeLine/\Vals xs its.toList
def absV:Value->Option V
 | .none=>some .non
 | .bool b=>some (.bl b)
 | .int i _=>some (.int i)
 | .str x _=>some (.str x)
 | .bytes b _=>some (.byt b)
 | .float b _=>some (.flt b)
 | .ref a=>some (.ref a)
 | .type n=>some (.ty n)
 | _=>none
theorem RelV.abs {x:V}{u:Value}(r:RelV x u):absV u=some x:=by
 cases x with
 | non=>cases r; rfl
 | bl _=>cases r; rfl
 | int _=>obtain⟨t,rfl⟩:=r; rfl
 | str _=>obtain⟨t,rfl⟩:=r; rfl
 | byt _=>obtain⟨t,rfl⟩:=r; rfl
 | flt _=>obtain⟨t,rfl⟩:=r; rfl
 | ref _=>cases r; rfl
 | ty _=>cases r; rfl
theorem RelV.inj {x y:V}{u:Value}(r:RelV x u) (q:RelV y u):x=y:=Option.some.inj (r.abs.symm.trans q.abs)
theorem Vals.inj:∀ {xs ys:List V}{us:List Value},Vals xs us->Vals ys us->xs=ys
 | _,_,_,.nil,.nil=>rfl
 | _,_,_,.cons r t,.cons r' t'=>by rw[r.inj r',Vals.inj t t']
section
variable {X:Cx}{pins:List (Addr×Obj)}{σ:St}{H:Hp}{s:Shared}{a:Addr}{xs ys:List V}
theorem SqL.of {K:Frag}(h:H a=some (.lst xs)):SqL K H a xs:=.inl (.inl h)
theorem SqT.of {K:Frag}(h:H a=some (.tup xs)):SqT K H a xs:=.inl (.inl h)
theorem Inv.list (I:Inv X pins σ H s) (h:SqL X.K H a xs):∃ its:List Value,Vals xs its/\PlainL s.heap a its.toArray/\xs.length<=sizeLine:=by
 rcases h with h | ⟨o,its,n,hk,hc,hd,hs,hz,r⟩
 ·obtain⟨z,its,n,r,e⟩:=h.ok I.hok
  exact⟨its,r,⟨_,n,e,rfl,rfl,rfl⟩,z⟩
 ·refine⟨its.toList,r,⟨o,n,I.kIn a o hk,hc,hd,by simpa using hs⟩,?_⟩
  have e:=r.length
  simp only[Array.length_toList] at e
  omega
theorem Inv.tuple (I:Inv X pins σ H s) (h:SqT X.K H a xs):∃ its:List Value,Vals xs its/\IsTup s.heap a its.toArray/\xs.length<=sizeLine:=by
 rcases h with h | ⟨o,its,n,hk,hc,hs,hz,r⟩
 ·obtain⟨z,its,r,p⟩:=h.ok I.hok
  exact⟨its,r,p,z⟩
 ·refine⟨its.toList,r,⟨o,I.kIn a o hk,hc,n,by simpa using hs⟩,?_⟩
  have e:=r.length
  simp only[Array.length_toList] at e
  omega
theorem Inv.list_inj (I:Inv X pins σ H s) (h:SqL X.K H a xs) (h':SqL X.K H a ys):xs=ys:=by
 obtain⟨its,r,⟨o,n,e,_,_,d⟩,_⟩:=I.list h
 obtain⟨its',r',⟨o',n',e',_,_,d'⟩,_⟩:=I.list h'
 rw[e] at e'; cases e'
 rw[d] at d'
 injection d' with d1 _
 have:its=its':=by simpa using congrArg Array.toList d1
 subst this
 exact r.inj r'
theorem Inv.tuple_inj (I:Inv X pins σ H s) (h:SqT X.K H a xs) (h':SqT X.K H a ys):xs=ys:=by
 obtain⟨its,r,⟨o,e,_,n,d⟩,_⟩:=I.tuple h
 obtain⟨its',r',⟨o',e',_,n',d'⟩,_⟩:=I.tuple h'
 rw[e] at e'; cases e'
 rw[d] at d'
 injection d' with d1 _
 have:its=its':=by simpa using congrArg Array.toList d1
 subst this
 exact r.inj r'
end
abbrev Cx.wish (X:Cx) (E:Value->Shared->Prop):Cx:={ X with xe:=E }
abbrev Cx.nox (X:Cx):Cx:=X.wish fun _ _=>False
theorem Cx.Ok.wish {X:Cx}(ok:X.Ok) (E:Value->Shared->Prop):(X.wish E).Ok :=
 ⟨ok.mod,ok.kind,ok.glob,ok.blt,ok.above,ok.inj,ok.has,ok.cab,ok.hd,ok.frames,ok.stk,ok.exf,ok.bs,ok.bsz,ok.noex,ok.exfs,ok.funs,ok.frf⟩
theorem Cx.Ok.unwish {X:Cx}{E:Value->Shared->Prop}(ok:(X.wish E).Ok):X.Ok :=
 ⟨ok.mod,ok.kind,ok.glob,ok.blt,ok.above,ok.inj,ok.has,ok.cab,ok.hd,ok.frames,ok.stk,ok.exf,ok.bs,ok.bsz,ok.noex,ok.exfs,ok.funs,ok.frf⟩
section
variable {X:Cx}{pins:List (Addr×Obj)}{σ:St}{H:Hp}{s:Shared}{E:Value->Shared->Prop}
theorem Inv.wish (I:Inv X pins σ H s) (E:Value->Shared->Prop):Inv (X.wish E) pins σ H s:=⟨I.ok.wish E,I.os,I.bare,I.base,I.loc,I.cell,I.free,I.freeC,I.pin,I.hok,I.len⟩
theorem Inv.unwish (I:Inv (X.wish E) pins σ H s):Inv X pins σ H s:=⟨I.ok.unwish,I.os,I.bare,I.base,I.loc,I.cell,I.free,I.freeC,I.pin,I.hok,I.len⟩
theorem SP.unwish {D:Ends}{f:Flow}{s':Shared}(h:SP (X.wish E) pins D f s'):SP X pins D f s':=by
 cases f with
 | next=>obtain⟨σ',H',I,q⟩:=h; exact⟨σ',H',I.unwish,q⟩
 | brk=>obtain⟨σ',H',I,q⟩:=h; exact⟨σ',H',I.unwish,q⟩
 | cont=>obtain⟨σ',H',I,q⟩:=h; exact⟨σ',H',I.unwish,q⟩
 | ret u=>obtain⟨v,σ',H',I,r,q⟩:=h; exact⟨v,σ',H',I.unwish,r,q⟩
theorem PSs.nox {st:List Stmt}{t:TS}(h:PSs X.nox st t):PSs X st t:=fun pins s σ H D I hw =>
 wpAny_mono (h pins s σ H D (I.wish _) hw) (fun _ _ q=>q.unwish) fun _ _ z=>False.elim z
end
section
variable {X:Cx}{st:Stmt}{rest:List Stmt}{t u:TS}{e:Expr}{te:TE}{pos:Pos}
def tNext:TS:=fun D σ H=>D.nx σ H
def tSeq (t u:TS):TS:=fun D σ H=>t { D with nx:=u D } σ H
theorem aB:PSs X [] tNext:=fun _ _ σ H _ I h=>wpAny_execs_nil ⟨σ,H,I,h⟩
theorem ah (h1:PS X st t) (h2:PSs X rest u):PSs X (st::rest) (tSeq t u):=by
 intro pins s σ H D I h
 refine wpAny_execs_cons (thn (h1 pins s σ H { D with nx:=u D } I h) fun f s1 q=>?_)
 cases f with
 | next =>
  obtain⟨σ',H',I',q⟩:=q
  exact h2 pins s1 σ' H' D I' q
 | ret v=>exact q
 | brk=>exact q
 | cont=>exact q
theorem aq (h1:PS X st t):PSs X [st] t:=by
 intro pins s σ H D I h
 refine wpAny_execs_cons (thn (h1 pins s σ H D I h) fun f s1 q=>?_)
 cases f with
 | next=>exact wpAny_execs_nil q
 | ret v=>exact q
 | brk=>exact q
 | cont=>exact q
theorem Inv.quiet {pins:List (Addr×Obj)}{σ:St}{H:Hp}{s:Shared}(I:Inv X pins σ H s):interactive X.env=false:=by simp[interactive,I.ok.kind]
def tDrop (te:TE):TS:=fun D σ H=>te σ H fun _ H1=>D.nx σ H1
theorem bf (he:PE X e te) (hs:swapsWith e none pos.line X.env=pure false:=by rfl):PS X (.Expr e pos) (tDrop te):=by
 intro pins s σ H D I h
 exact wpAny_Expr_any (thn (he pins s σ H _ I h) fun v s1 ⟨x,H1,I1,r1,q1⟩=>⟨σ,H1,I1,q1⟩) I.quiet hs
def tRet (te:TE):TS:=fun D σ H=>te σ H D.rt
theorem aA (he:PE X e te):PS X (.Return (some e) pos) (tRet te):=by
 intro pins s σ H D I h
 exact wpAny_Return_some (thn (he pins s σ H _ I h) fun v s1 ⟨x,H1,I1,r1,q1⟩=>⟨x,σ,H1,I1,r1,q1⟩)
def tIfS (c:TT) (t u:TS):TS:=fun D σ H=>c σ H fun b H1=>if b=true then t D σ H1 else u D σ H1
theorem aV {c:Expr}{a b:List Stmt}{tc:TT}(hc:PT X c tc) (ha:PSs X a t) (hb:PSs X b u):PS X (.If c a b pos) (tIfS tc t u):=by
 intro pins s σ H D I h
 refine wpAny_If (thn (hc pins s σ H _ I h) fun d s1 ⟨H1,I1,q1⟩=>?_)
 cases d with
 | true=>exact ha pins s1 σ H1 D I1 q1
 | false=>exact hb pins s1 σ H1 D I1 q1
def tNever:TS:=fun _ _ _=>False
theorem bQ {sts:List Stmt}:PSs X sts tNever:=fun _ _ _ _ _ _ h=>h.elim
end
abbrev TG:=V->St->Hp->(St->Hp->Prop)->Prop
abbrev TGs:=List V->St->Hp->(St->Hp->Prop)->Prop
def PG (X:Cx) (target:Expr) (t:TG):Prop :=
 ∀ (pins:List (Addr×Obj)) (s:Shared) (σ:St) (H:Hp) (v:V) (u:Value) (Q:St->Hp->Prop),Inv X pins σ H s->RelV v u->t v σ H Q ->
  wpAny (model X.prog X.w) X.A (assign target X.env u) (fun _ s'=>∃ σ' H',Inv X pins σ' H' s'/\Q σ' H') X.xe s
def PGs (X:Cx) (ts:List Expr) (t:TGs):Prop :=
 ∀ (pins:List (Addr×Obj)) (s:Shared) (σ:St) (H:Hp) (vs:List V) (us:List Value) (Q:St->Hp->Prop),Inv X pins σ H s->Vals vs us->t vs σ H Q ->
  wpAny (model X.prog X.w) X.A (assignInOrder ((assignEach ts X.env).map (·.2)) us) (fun _ s'=>∃ σ' H',Inv X pins σ' H' s'/\Q σ' H') X.xe s
abbrev TSet:=V->V->V->Hp->(Hp->Prop)->Prop
def PSet (X:Cx) (t:TSet):Prop :=
 ∀ (pins:List (Addr×Obj)) (s:Shared) (σ:St) (H:Hp) (o i v:V) (ov iv u:Value) (Q:Hp->Prop),Inv X pins σ H s->RelV o ov->RelV i iv->RelV v u->t o i v H Q ->
  wpAny (model X.prog X.w) X.A (setItem ov iv u) (fun _ s'=>∃ H',Inv X pins σ H' s'/\Q H') X.xe s
section
variable {X:Cx}{pos:Pos}
def kS (i:Nat):TG:=fun v σ H Q=>Q (σ.set i (some v)) H
theorem aK {i:Nat}{x:Str}(hN:X.N.Nodup) (hi:X.N[i]?=some x) (hx:Loc X.env.scope x) (hf:X.fn x=true\/X.env.scope.names.lookup x=some .local:=by first | exact .inl rfl | exact .inr rfl | assumption):PG X (.Name x pos) (kS i):=by
 intro pins s σ H v u Q I r h
 exact wpAny_assign_Name (eM I hN hi hx r (fun s' I'=>⟨_,H,I',h⟩) hf)
def gNil:TGs:=fun vs σ H Q=>vs=[]/\Q σ H
def gCons (t:TG) (u:TGs):TGs:=fun vs σ H Q=>∃ v r,vs=v::r/\t v σ H fun σ' H'=>u r σ' H' Q
theorem dW:PGs X [] gNil:=by
 intro pins s σ H vs us Q I r h
 obtain⟨e,h⟩:=h
 subst e
 cases r
 exact assignInOrder_nil ⟨σ,H,I,h⟩
theorem aW {e:Expr}{es:List Expr}{t:TG}{u:TGs}(h1:PG X e t) (h2:PGs X es u)
  (hs:(assignEach (e::es) X.env).map (·.2)=assign e X.env::(assignEach es X.env).map (·.2):=by rfl):PGs X (e::es) (gCons t u):=by
 intro pins s σ H vs us Q I r h
 obtain⟨v,vr,e1,h⟩:=h
 subst e1
 cases r with
 | cons r rr =>
  rw[hs]
  refine assignInOrder_cons (thn (h1 pins s σ H _ _ _ I r h) fun _ s1 ⟨σ1,H1,I1,q1⟩=>?_)
  exact h2 pins s1 σ1 H1 _ _ Q I1 rr q1
def gTup (K:Frag) (n:Nat) (t:TGs):TG:=fun v σ H Q=>∃ a xs,v=.ref a/\SqT K H a xs/\xs.length=n/\t xs σ H Q
theorem ix {es:List Expr}{k:Nat}{t:TGs}{n:Nat}(hc:X.calm=true) (h:PGs X es t)
  (hn:(assignEach es X.env).length=n:=by rfl) (hst:(assignEach es X.env).findIdx? (·.1)=none:=by rfl):PG X (.Tuple es k pos) (gTup X.K n t):=by
 intro pins s σ H v u Q I r hw
 obtain⟨a,xs,e1,hq,hl,hw⟩:=hw
 subst e1
 cases r
 obtain⟨its,rv,ht,hz⟩:=I.tuple hq
 refine assign_Tuple_tuple (I.ok.hd hc) ht (by simp[hn,<- hl,rv.length]) hst fun h' hx=>?_
 have I1:Inv X pins σ H { s with heap:=h' }:=I.kept (t':=s.toks) fun b o e=>hx b o (ne_of_lt (Heap.lt_size e)) e
 exact h pins _ σ H xs _ Q I1 (by simpa using rv) hw
def gSub (to ti:TE) (t:TSet):TG:=fun v σ H Q=>to σ H fun o H1=>ti σ H1 fun i H2=>t o i v H2 fun H3=>Q σ H3
theorem pg_sub {o i:Expr}{to ti:TE}{t:TSet}(ho:PE X o to) (hi:PE X i ti) (hs:PSet X t)
  (ha:∀ v,assign (.Subscript o i pos) X.env v=(do
   let ov <- holding [v] (eval o X.env)
   let iv <- holding [v,ov] (eval i X.env)
   standAt pos
   holding [v,ov,iv] (setItem ov iv v)
   release [v,ov,iv] []):=by intro _; rfl):PG X (.Subscript o i pos) (gSub to ti t):=by
 intro pins s σ H v u Q I r h
 rw[ha]
 refine wpAny_bind (wpAny_holding (thn (ho pins s σ H _ I h) fun ov s1 ⟨x,H1,I1,r1,q1⟩=>?_))
 refine wpAny_bind (wpAny_holding (thn (hi pins s1 σ H1 _ I1 q1) fun iv s2 ⟨y,H2,I2,r2,q2⟩=>?_))
 refine wpAny_bind (wpAny_standAt (wpAny_bind (wpAny_holding (thn (hs pins s2 σ H2 x y v ov iv u _ I2 r1 r2 r q2) fun _ s3 ⟨H3,I3,q3⟩=>?_))))
 exact wpAny_release ⟨σ,H3,I3,q3⟩
def tAsg (te:TE) (g:TG):TS:=fun D σ H=>te σ H fun x H1=>g x σ H1 D.nx
theorem oP {tg e:Expr}{te:TE}{g:TG}(he:PE X e te) (hg:PG X tg g) (hs:swapsWithSole [tg] e pos.line X.env=pure false:=by rfl) (hw:swappedStores [tg] e X.env=pure none:=by rfl)
  (h1:(assignEach [tg] X.env).map (·.2)=[assign tg X.env]:=by rfl):PS X (.Assign [tg] e pos) (tAsg te g):=by
 intro pins s σ H D I h
 refine wpAny_Assign_stores (thn (he pins s σ H _ I h) fun v s1 ⟨x,H1,I1,r1,q1⟩=>?_) hs hw
 rw[h1]
 exact thn (hg pins s1 σ H1 x v _ I1 r1 q1) fun _ s2 q=>q
theorem aF {i:Nat}{x:Str}{e:Expr}{te:TE}{pos':Pos}(hN:X.N.Nodup) (hi:X.N[i]?=some x) (hx:Loc X.env.scope x) (he:PE X e te) (hs:swapsWith e (some (.Name x pos')) pos.line X.env=pure false:=by rfl) (hf:X.fn x=true\/X.env.scope.names.lookup x=some .local:=by first | exact .inl rfl | exact .inr rfl | assumption) :
  PS X (.Assign [.Name x pos'] e pos) (tAsg te (kS i)):=by
 intro pins s σ H D I h
 refine wpAny_Assign_Name (thn (he pins s σ H _ I h) fun v s1 ⟨y,H1,I1,r1,q1⟩=>?_) hs
 exact eM I1 hN hi hx r1 (fun s2 I2=>⟨_,H1,I2,q1⟩) hf
end
section
variable {X:Cx}{pos:Pos}
end
structure It where
 go:Nat->Hp->Prop
 yld:Nat->Hp->V->Hp->Prop
 stop:Nat->Hp->Prop
def FpOk (X:Cx) (pins:List (Addr×Obj)) (H:Hp) (b:Addr):Prop :=
 H b=none/\b≠X.env.locals/\b∉X.fs/\(b∈X.ex\/X.s₀.heap.objs.size<=b)/\(∀ x c,X.env.cells.lookup x=some c->c≠b)/\∀ p∈X.pn++pins,p.1≠b
theorem Inv.fpOk {X:Cx}{pins:List (Addr×Obj)}{σ:St}{H H':Hp}{s:Shared}{b:Addr}(I:Inv X pins σ H s) (hb:s.heap.objs.size<=b) (hn:H' b=none):FpOk X pins H' b:=by
 refine⟨hn,ne_of_gt (lt_of_lt_of_le I.lt hb),I.nofs hb,.inr (Nat.le_trans I.sz hb),fun x c e z=>?_,fun p hp z=>?_⟩
 ·obtain⟨v,q⟩:=I.cell x c e
  exact absurd (lt_of_lt_of_le q.lt (by rw[z]; exact hb)) (lt_irrefl _)
 ·exact absurd (lt_of_lt_of_le (Heap.lt_size (I.pin p hp).1) (by rw[z]; exact hb)) (lt_irrefl _)
structure Turn (P:Program) (w:World) (K:Frag) (tg:Expr) (J:It) (fp:List Addr) (it:Addr) (tn:Nat->Heap->Prop):Prop where
 mem:it∈fp
 obj:∀ i h,tn i h->∀ b∈fp,∃ o,h.get? b=some o/\∀ v,o.data≠.cell v
 keep:∀ i h h',tn i h->(∀ b∈fp,∀ o,h.get? b=some o->h'.get? b=some o)->tn i h'
 item:∀ (X:Cx),X.prog=P->X.w=w->X.K=K->X.calm=true->∀ (i:Nat) (pins:List (Addr×Obj)) (s:Shared) (σ:St) (H:Hp) (E:Value->Shared->Prop),Inv X pins σ H s->(∀ b∈fp,FpOk X pins H b)->tn i s.heap->J.go i H ->
  wpAny (model P w) X.A (pyNext (.ref it)) (fun r s1=>∃ u,r=some u /\
   wpAny (model P w) X.A (letOwnedTupleGo tg (.ref it) u) (fun _ s2=>∃ x H',Inv X pins σ H' s2/\RelV x u/\J.yld i H x H'/\tn (i+1) s2.heap/\∀ b∈fp,H' b=none) E s1) E s
 done:∀ (X:Cx),X.prog=P->X.w=w->X.K=K->X.calm=true->∀ (i:Nat) (pins:List (Addr×Obj)) (s:Shared) (σ:St) (H:Hp) (E:Value->Shared->Prop),Inv X pins σ H s->(∀ b∈fp,FpOk X pins H b)->tn i s.heap->J.stop i H ->
  wpAny (model P w) X.A (pyNext (.ref it)) (fun r s1=>r=none/\Inv X pins σ H s1) E s
 self:∀ (A:Around) (i:Nat) (s:Shared) (Q:Value->Shared->Prop) (E:Value->Shared->Prop),tn i s.heap->Q (.ref it) s->wpAny (model P w) A (pyIter (.ref it)) Q E s
abbrev TI:=St->Hp->(It->Hp->Prop)->Prop
def PIE (X:Cx) (pins:List (Addr×Obj)) (σ:St) (tg:Expr) (R:It->Hp->Prop) (itv:Value) (s2:Shared):Prop :=
 ∃ (it:Addr) (fp:List Addr) (tn:Nat->Heap->Prop) (J:It) (H':Hp),itv=.ref it/\Inv X pins σ H' s2/\Turn X.prog X.w X.K tg J fp it tn/\tn 0 s2.heap/\(∀ b∈fp,FpOk X pins H' b)/\R J H'
def PI (X:Cx) (tg iter:Expr) (wi:TI):Prop :=
 ∀ (pins:List (Addr×Obj)) (s:Shared) (σ:St) (H:Hp) (R:It->Hp->Prop),Inv X pins σ H s->wi σ H R ->
  wpAny (model X.prog X.w) X.A (eval iter X.env) (fun v s1=>wpAny (model X.prog X.w) X.A (pyIter v) (PIE X pins σ tg R) X.xe s1) X.xe s
theorem go_of {M:Model}{A:Around}{E:Value->Shared->Prop}{s:Shared}{tg:Expr}{it:Addr}{u:Value}{o:Obj}{n:String}{vs:Array Value}{Q:Unit->Shared->Prop}(ho:s.heap.get? it=some o) (hc:o.cls=.type n) (hd:o.data=.fields vs)
  (hn:["enumerate","zip","dict_itemiterator","dict_reverseitemiterator","odict_iterator","itertools.zip_longest","itertools.pairwise"].contains n=false) (hQ:Q () s):wpAny M A (letOwnedTupleGo tg (.ref it) u) Q E s:=by
 unfold letOwnedTupleGo
 cases tg <;> first
  | exact wpAny_pure hQ
  | (cases u <;> first
    | exact wpAny_pure hQ
    | (refine wpAny_bind (wpAny_load ho ?_)
       rw[hc,hd]
       show wpAny M A (if (["enumerate","zip","dict_itemiterator","dict_reverseitemiterator","odict_iterator","itertools.zip_longest","itertools.pairwise"].contains n&&vs[0]? == some (rawInt _))=true then _ else _) Q E s
       rw[if_neg (by intro h; rw[hn,Bool.false_and] at h; cases h)]
       exact wpAny_pure hQ))
def Itl (K:Frag) (a:Addr):It :=
 ⟨fun i H=>∃ xs x,SqL K H a xs/\xs[i]?=some x,fun i H x H'=>H'=H/\∀ xs,SqL K H a xs->xs[i]?=some x,fun i H=>∃ xs,SqL K H a xs/\xs.length<=i⟩
def Itr (lo:Int) (n:Nat):It:=⟨fun i _=>i<n,fun i H x H'=>H'=H/\x=.int (lo+i),fun i _=>n<=i⟩
theorem qZ {P:Program}{w:World}{K:Frag}{tg:Expr}(a it:Addr):Turn P w K tg (Itl K a) [it] it (fun i h=>h.IsListIter it a i) where
 mem:=by simp
 obj:=fun i h st b hb=>by
  have e:b=it:=by simpa using hb
  subst e
  obtain⟨o,e,c,d⟩:=st
  exact⟨o,e,fun v z=>by rw[d] at z; cases z⟩
 keep:=fun i h h' st k=>st.at fun o e=>k it (by simp) o e
 item:=by
  intro X hP hw hK hc i pins s σ H E I hf st hg
  subst hP hw hK
  obtain⟨xs,x,hq,hx⟩:=hg
  obtain⟨its,rv,p,hz⟩:=I.list hq
  obtain⟨u,hu,ru⟩:=rv.get hx
  obtain⟨f0,f1,f2,f3,f4,f5⟩:=hf it (by simp)
  refine wpAny_pyNext_list_item st p.isList (x:=u) (by simpa using hu) fun h' st' sb=>?_
  have I1:Inv X pins σ H { s with heap:=h' }:=I.turned (t':=s.toks) (fun b o hb e=>(sb.2 b hb).trans e) f0 f1 f3 f4 f5
  obtain⟨o,e,c,d⟩:=id st'
  exact⟨u,rfl,go_of (s:={ s with heap:=h' }) e c d (by decide) ⟨x,H,I1,ru,⟨rfl,fun ys hy=>by rw[I.list_inj hy hq]; exact hx⟩,st',fun b hb=>(hf b hb).1⟩⟩
 done:=by
  intro X hP hw hK hc i pins s σ H E I hf st hg
  subst hP hw hK
  obtain⟨xs,hq,hx⟩:=hg
  obtain⟨its,rv,p,hz⟩:=I.list hq
  obtain⟨f0,f1,f2,f3,f4,f5⟩:=hf it (by simp)
  have hl:=rv.length
  exact wpAny_pyNext_list_end (I.ok.hd hc) st p.isList (by simp; omega) fun h' eb=>⟨rfl,I.turned (t':=s.toks) (fun b o hb e=>eb b o hb e) f0 f1 f3 f4 f5⟩
 self:=fun _ _ _ _ _ st h=>wpAny_pyIter_listiter st h
theorem pS {P:Program}{w:World}{K:Frag}{tg:Expr}(it:Addr) (lo:Int) (n:Nat):Turn P w K tg (Itr lo n) [it] it (fun i h=>IsRangeIter h it (lo+(i:Nat)*1) ((n:Int)-(i:Nat)) 1) where
 mem:=by simp
 obj:=fun i h st b hb=>by
  have e:b=it:=by simpa using hb
  subst e
  exact⟨_,st,fun v z=>by
   have z':Data.fields _=Data.cell v:=z
   cases z'⟩
 keep:=fun i h h' st k=>k it (by simp) _ st
 item:=by
  intro X hP hw hK hc i pins s σ H E I hf st hg
  subst hP hw hK
  obtain⟨f0,f1,f2,f3,f4,f5⟩:=hf it (by simp)
  have W:=Walks.range (prog:=X.prog) (w:=X.w) (I.ok.hd hc) it lo 1 n
  refine W.item i s _ _ hg st fun v h' tk hv st' kk=>?_
  obtain⟨t,rfl⟩:=hv
  have I1:Inv X pins σ H { s with heap:=h',toks:=tk }:=I.turned (fun b o hb e=>kk b o (by simpa using hb) e) f0 f1 f3 f4 f5
  refine⟨_,rfl,go_of (s:={ s with heap:=h',toks:=tk }) (n:="range_iterator") st' rfl rfl (by decide) ⟨.int (lo+i),H,I1,⟨t,?_⟩,⟨rfl,rfl⟩,st',fun b hb=>(hf b hb).1⟩⟩
  rw[Int.mul_one]
 done:=by
  intro X hP hw hK hc i pins s σ H E I hf st hg
  subst hP hw hK
  obtain⟨f0,f1,f2,f3,f4,f5⟩:=hf it (by simp)
  exact wpAny_pyNext_range_end (I.ok.hd hc) st (by have:n<=i:=hg; omega) fun h' eb=>⟨rfl,I.turned (t':=s.toks) (fun b o hb e=>eb b o hb e) f0 f1 f3 f4 f5⟩
 self:=fun _ _ _ _ _ st h=>wpAny_pyIter_rangeiter st h
end L2
namespace L2
open PySem PySem.Spec PyProof.Rows
section
variable {X:Cx}{tg:Expr}
def iList (K:Frag) (tl:TE):TI:=fun σ H R=>tl σ H fun x H1=>∃ a,x=.ref a/\(∃ xs,SqL K H1 a xs)/\R (Itl K a) H1
theorem bi {l:Expr}{tl:TE}(hl:PE X l tl):PI X tg l (iList X.K tl):=by
 intro pins s σ H R I h
 refine thn (hl pins s σ H _ I h) fun v s1 ⟨x,H1,I1,r1,q1⟩=>?_
 obtain⟨a,e,⟨xs,hq⟩,q⟩:=q1
 subst e
 cases r1
 obtain⟨its,rv,p,hz⟩:=I1.list hq
 refine wpAny_pyIter_list p.isList ?_
 refine⟨s1.heap.objs.size,[s1.heap.objs.size],_,_,H1,rfl,I1.kept (t':=s1.toks) fun b o e=>Heap.get?_push_of_some _ e,qZ a _,⟨_,Heap.get?_push_size _ rfl,rfl,rfl⟩,fun b hb=>?_,q⟩
 have e:b=s1.heap.objs.size:=by simpa using hb
 subst e
 exact I1.fpOk (le_refl _) (I1.hok.fresh (le_refl _))
theorem oM {pins:List (Addr×Obj)}{σ:St}{H:Hp}{s:Shared}{R:It->Hp->Prop}{E:Value->Shared->Prop}{lo hi:Int}{t u v:Tok}{tk:Nat}(I:Inv X pins σ H s) (h1:-(2^62)<=lo) (h2:lo<2^62) (h3:-(2^62)<=hi) (h4:hi<2^62)
  (q:R (Itr lo (hi-lo).toNat) H):wpAny (model X.prog X.w) X.A (pyIter (.ref s.heap.objs.size)) (PIE X pins σ tg R) E { s with heap:=s.heap.push { cls:=.type "range",data:=.fields #[.int lo t,.int hi u,.int 1 v] },toks:=tk }:=by
 refine wpAny_pyIter_range (IsRange.new ..) (small_one h1 h2 h3 h4) ?_
 have I1:Inv X pins σ H { s with heap:=s.heap.push { cls:=.type "range",data:=.fields #[.int lo t,.int hi u,.int 1 v] },toks:=tk }:=I.kept fun b o e=>Heap.get?_push_of_some _ e
 refine⟨(s.heap.push { cls:=.type "range",data:=.fields #[.int lo t,.int hi u,.int 1 v] }).objs.size,[(s.heap.push { cls:=.type "range",data:=.fields #[.int lo t,.int hi u,.int 1 v] }).objs.size],_,_,H,rfl,
  I1.kept (t':=tk) fun b o e=>Heap.get?_push_of_some _ e,pS _ lo (hi-lo).toNat,?_,fun b hb=>?_,q⟩
 ·have e1:lo+((0:Nat):Int)*1=lo:=by simp
  have e2:(((hi-lo).toNat:Nat):Int)-((0:Nat):Int)=Builtin.Range.rangeSize lo hi 1:=by rw[rangeSize_one]; split <;> omega
  show IsRangeIter _ _ (lo+((0:Nat):Int)*1) ((((hi-lo).toNat:Nat):Int)-((0:Nat):Int)) 1
  rw[e1,e2]
  exact Heap.get?_push_size _ rfl
 ·have e:b=(s.heap.push { cls:=.type "range",data:=.fields #[.int lo t,.int hi u,.int 1 v] }).objs.size:=by simpa using hb
  subst e
  exact I1.fpOk (le_refl _) (I1.hok.fresh (le_refl _))
def iRng1 (ta:TA):TI:=fun σ H R=>ta σ H fun vs H1=>∃ j:Int,vs=[.int j]/\-(2^62)<=j/\j<2^62/\R (Itr 0 j.toNat) H1
def iRng2 (ta:TA):TI:=fun σ H R=>ta σ H fun vs H1=>∃ i j:Int,vs=[.int i,.int j]/\(-(2^62)<=i/\i<2^62/\-(2^62)<=j/\j<2^62)/\R (Itr i (j-i).toNat) H1
theorem eF {a:Expr}{ta:TA}{p pos:Pos}(hg:Gl X "range") (hm:X.mg "range"=none) (ha:PA X [a] ta) (hs:starEach [a] X.env=[(false,eval a X.env)]:=by rfl):PI X tg (.Call (.Name "range" p) [a] [] pos) (iRng1 ta):=by
 intro pins s σ H R I h
 refine Call_ (gQ I hg hm boot_range (PyProof.Rows.callWith_type1 (thn (ha pos pins s σ H _ I h) fun us s1 ⟨vs,H1,I1,r1,q1⟩=>?_) hs rfl))
 obtain⟨j,e,q1,q2,q⟩:=q1
 subst e
 cases r1 with
 | cons r rr =>
  cases rr
  obtain⟨t,rfl⟩:=r
  exact call_range_1 (oM I1 (by omega) (by omega) q1 q2 (by simpa using q))
theorem sd {a b:Expr}{ta:TA}{p pos:Pos}(hg:Gl X "range") (hm:X.mg "range"=none) (ha:PA X [a,b] ta) (hs:starEach [a,b] X.env=[(false,eval a X.env),(false,eval b X.env)]:=by rfl) (hs2:starEach [b] X.env=[(false,eval b X.env)]:=by rfl) :
  PI X tg (.Call (.Name "range" p) [a,b] [] pos) (iRng2 ta):=by
 intro pins s σ H R I h
 refine Call_ (gQ I hg hm boot_range (PyProof.Rows.callWith_type1 (thn (ha pos pins s σ H _ I h) fun us s1 ⟨vs,H1,I1,r1,q1⟩=>?_) (by rw[hs,hs2]) (by rw[hs2]; rfl)))
 obtain⟨i,j,e,⟨q1,q2,q3,q4⟩,q⟩:=q1
 subst e
 cases r1 with
 | cons r rr =>
  cases rr with
  | cons r' rr =>
   cases rr
   obtain⟨t,rfl⟩:=r
   obtain⟨t',rfl⟩:=r'
   exact call_range_2 (oM I1 q1 q2 q3 q4 q)
def tFor (wi:TI) (g:TG) (tb:TS):TS:=fun D σ H=>wi σ H fun J H1=>∃ W:Nat->Nat->St->Hp->Prop,(∃ m,W 0 m σ H1)/\∀ i m σ H,W i m σ H ->
 (J.stop i H/\D.nx σ H)\/(J.go i H/\∃ N:St->Hp->Prop,(∀ σ' H',N σ' H'->∃ m',m'<m/\W (i+1) m' σ' H')/\∀ x H',J.yld i H x H'->g x σ H' fun σ2 H2=>tb { D with nx:=N,ct:=N,bk:=D.nx } σ2 H2)
def mz (fp:List Addr) (h:Heap):List (Addr×Obj):=fp.filterMap fun b=>(h.get? b).map fun o=>(b,o)
theorem bO {fp:List Addr}{h:Heap}{b:Addr}{o:Obj}(hb:b∈fp) (e:h.get? b=some o):(b,o)∈mz fp h:=List.mem_filterMap.mpr ⟨b,hb,by rw[e]; rfl⟩
theorem qV {fp:List Addr}{h:Heap}{p:Addr×Obj}(hp:p∈mz fp h):p.1∈fp/\h.get? p.1=some p.2:=by
 obtain⟨b,hb,e⟩:=List.mem_filterMap.mp hp
 cases q:h.get? b with
 | none=>rw[q] at e; cases e
 | some o =>
  rw[q] at e
  have e':(b,o)=p:=Option.some.inj e
  subst e'
  exact⟨hb,q⟩
theorem Inv.pinned {pins:List (Addr×Obj)}{σ:St}{H:Hp}{s:Shared}{fp:List Addr}(I:Inv X pins σ H s) (hf:∀ b∈fp,FpOk X pins H b) (ho:∀ b∈fp,∃ o,s.heap.get? b=some o/\∀ v,o.data≠.cell v):Inv X (pins++mz fp s.heap) σ H s :=
 I.pins_of fun p hp=>(List.mem_append.mp hp).elim (fun z=>I.pin p (mem_append_right _ z)) fun z=>by
  obtain⟨hb,e⟩:=qV z
  obtain⟨f0,f1,f2,_⟩:=hf p.1 hb
  obtain⟨o,e',d⟩:=ho p.1 hb
  rw[e] at e'; cases e'
  exact⟨e,f0,f1,f2,d⟩
theorem Inv.unpinned {pins pl:List (Addr×Obj)}{σ:St}{H:Hp}{s:Shared}(I:Inv X (pins++pl) σ H s):Inv X pins σ H s:=I.pins_of fun p hp=>I.pin p (mem_append_right _ (mem_append_left _ hp))
theorem d6 {iter:Expr}{body:List Stmt}{wi:TI}{g:TG}{tb:TS}{pos:Pos}(hp:PassesOwn (model X.prog X.w) X.A X.env X.xe) (hc:X.calm=true) (hi:PI X tg iter wi) (hg:PG X tg g) (hb:PSs X body tb)
  (hs:∀ x,foldedSetIterable iter X.env x=pure x:=by intro _; rfl):PS X (.For tg iter body [] pos) (tFor wi g tb):=by
 intro pins s σ H D I h
 refine wpAny_For (thn (hi pins s σ H _ I h) fun v s1 h1=>thn h1 fun itv s2 h2=>?_) hs
 obtain⟨it,fp,tn,J,H2,e,I2,T,st2,f2,W,⟨m0,w0⟩,turn⟩:=h2
 subst e
 have stat:∀ {H':Hp},(∀ b∈fp,H' b=none)->∀ b∈fp,FpOk X pins H' b:=fun hn b hb=>⟨hn b hb,(f2 b hb).2⟩
 refine codeAny_forLoop_any (fun n s'=>∃ i σ' H',Inv X pins σ' H' s'/\tn i s'.heap/\(∀ b∈fp,H' b=none)/\W i n σ' H') ?_ m0 ⟨0,σ,H2,I2,st2,fun b hb=>(f2 b hb).1,w0⟩
 rintro n s3 ⟨i,σ3,H3,I3,st3,fr3,w3⟩
 rcases turn i n σ3 H3 w3 with ⟨stop,qn⟩ | ⟨go,N,hN,step⟩
 ·refine wpAny_passesOwn hp (thn (T.done X rfl rfl rfl hc i pins s3 σ3 H3 X.xe I3 (stat fr3) st3 stop) fun r s4 ⟨hr,I4⟩=>?_)
  subst hr
  exact wpAny_execs_nil ⟨σ3,H3,I4,qn⟩
 ·refine wpAny_passesOwn hp (thn (T.item X rfl rfl rfl hc i pins s3 σ3 H3 X.xe I3 (stat fr3) st3 go) fun r s4 ⟨u,hr,h4⟩=>?_)
  subst hr
  refine wpAny_passesOwn hp (thn h4 fun _ s5 ⟨x,H5,I5,r5,y5,st5,fr5⟩=>?_)
  have I5':=I5.pinned (stat fr5) (T.obj _ _ st5)
  refine wpAny_passesOwn hp (thn (hg _ s5 σ3 H5 x u _ I5' r5 (step x H5 y5)) fun _ s6 ⟨σ6,H6,I6,q6⟩=>?_)
  refine wpAny_passesOwn hp (thn (hb _ s6 σ6 H6 _ I6 q6) fun f s7 q7=>?_)
  have again:∀ {σ7:St} {H7:Hp},Inv X (pins++mz fp s5.heap) σ7 H7 s7->N σ7 H7->∃ m,m<n/\∃ i σ' H',Inv X pins σ' H' s7/\tn i s7.heap/\(∀ b∈fp,H' b=none)/\W i m σ' H':=fun {σ7 H7} I7 n7=>by
   obtain⟨m',hm,w7⟩:=hN σ7 H7 n7
   refine⟨m',hm,i+1,σ7,H7,I7.unpinned,T.keep _ _ _ st5 fun b hb o e=>(I7.pin (b,o) (mem_append_right _ (mem_append_right _ (bO hb e)))).1,fun b hb=>?_,w7⟩
   obtain⟨o,e,d⟩:=T.obj _ _ st5 b hb
   exact(I7.pin (b,o) (mem_append_right _ (mem_append_right _ (bO hb e)))).2.1
  cases f with
  | next=>obtain⟨σ7,H7,I7,n7⟩:=q7; exact again I7 n7
  | cont=>obtain⟨σ7,H7,I7,n7⟩:=q7; exact again I7 n7
  | brk=>obtain⟨σ7,H7,I7,q7⟩:=q7; exact⟨σ7,H7,I7.unpinned,q7⟩
  | ret v=>obtain⟨x7,σ7,H7,I7,r7,q7⟩:=q7; exact⟨x7,σ7,H7,I7.unpinned,r7,q7⟩
end
theorem bI {K:Frag}{a:Addr}{xs:List V}{g:TG}{tb:TS}{D:Ends}{σ:St}{H:Hp}(Pv:Nat->St->Hp->Prop) (h0:Pv 0 σ H) (hl:∀ i σ H,i<=xs.length->Pv i σ H->SqL K H a xs)
  (hs:∀ i x σ H,xs[i]?=some x->Pv i σ H->g x σ H fun σ2 H2=>tb { D with nx:=Pv (i+1),ct:=Pv (i+1),bk:=D.nx } σ2 H2) (hd:∀ σ H,Pv xs.length σ H->D.nx σ H) :
  ∃ W:Nat->Nat->St->Hp->Prop,(∃ m,W 0 m σ H)/\∀ i m σ H,W i m σ H ->
   ((Itl K a).stop i H/\D.nx σ H)\/((Itl K a).go i H/\∃ N:St->Hp->Prop,(∀ σ' H',N σ' H'->∃ m',m'<m/\W (i+1) m' σ' H')/\∀ x H',(Itl K a).yld i H x H'->g x σ H' fun σ2 H2=>tb { D with nx:=N,ct:=N,bk:=D.nx } σ2 H2):=by
 refine⟨fun i m σ H=>m=xs.length-i/\i<=xs.length/\Pv i σ H,⟨xs.length,by simp,zero_le _,h0⟩,?_⟩
 rintro i m σ H ⟨rfl,hi,p⟩
 have q:=hl i σ H hi p
 by_cases hlt:i<xs.length
 ·refine .inr ⟨⟨xs,xs[i],q,by simp[hlt]⟩,Pv (i+1),fun σ' H' p'=>⟨xs.length-(i+1),by omega,rfl,hlt,p'⟩,fun x H' y=>?_⟩
  obtain⟨e,y⟩:=y
  subst e
  exact hs i x σ _ (y xs q) p
 ·have e:i=xs.length:=by omega
  subst e
  exact .inl ⟨⟨xs,q,le_refl _⟩,hd σ H p⟩
theorem mD {lo:Int}{n:Nat}{g:TG}{tb:TS}{D:Ends}{σ:St}{H:Hp}(Pv:Nat->St->Hp->Prop) (h0:Pv 0 σ H)
  (hs:∀ i σ H,i<n->Pv i σ H->g (.int (lo+i)) σ H fun σ2 H2=>tb { D with nx:=Pv (i+1),ct:=Pv (i+1),bk:=D.nx } σ2 H2) (hd:∀ σ H,Pv n σ H->D.nx σ H) :
  ∃ W:Nat->Nat->St->Hp->Prop,(∃ m,W 0 m σ H)/\∀ i m σ H,W i m σ H ->
   ((Itr lo n).stop i H/\D.nx σ H)\/((Itr lo n).go i H/\∃ N:St->Hp->Prop,(∀ σ' H',N σ' H'->∃ m',m'<m/\W (i+1) m' σ' H')/\∀ x H',(Itr lo n).yld i H x H'->g x σ H' fun σ2 H2=>tb { D with nx:=N,ct:=N,bk:=D.nx } σ2 H2):=by
 refine⟨fun i m σ H=>m=n-i/\i<=n/\Pv i σ H,⟨n,by simp,zero_le _,h0⟩,?_⟩
 rintro i m σ H ⟨rfl,hi,p⟩
 by_cases hlt:i<n
 ·refine .inr ⟨hlt,Pv (i+1),fun σ' H' p'=>⟨n-(i+1),by omega,rfl,hlt,p'⟩,fun x H' y=>?_⟩
  obtain⟨e,y⟩:=y
  subst e y
  exact hs i σ _ hlt p
 ·have e:i=n:=by omega
  subst e
  exact .inl ⟨le_refl _,hd σ H p⟩
end L2
namespace L2
open PySem PySem.Spec PyProof.Rows
abbrev R2:=V->V->Hp->VK->Prop
def OpR (X:Cx) (f:Value->Value->Sem Value) (r:R2):Prop :=
 ∀ (pins:List (Addr×Obj)) (s:Shared) (σ:St) (H:Hp) (x y:V) (v u:Value) (Q:VK),Inv X pins σ H s->RelV x v->RelV y u->r x y H Q ->
  wpAny (model X.prog X.w) X.A (f v u) (EP X pins σ Q) X.xe s
def UnR (X:Cx) (f:Value->Sem Value) (r:V->Hp->VK->Prop):Prop :=
 ∀ (pins:List (Addr×Obj)) (s:Shared) (σ:St) (H:Hp) (x:V) (v:Value) (Q:VK),Inv X pins σ H s->RelV x v->r x H Q ->
  wpAny (model X.prog X.w) X.A (f v) (EP X pins σ Q) X.xe s
def fD (X:Cx) (f:Value) (r:List V->Hp->VK->Prop):Prop :=
 ∀ (pins:List (Addr×Obj)) (s:Shared) (σ:St) (H:Hp) (xs:List V) (us:List Value) (Q:VK),Inv X pins σ H s->Vals xs us->r xs H Q ->
  wpAny (model X.prog X.w) X.A (call f us) (EP X pins σ Q) X.xe s
def tOp (r:R2) (ta tb:TE):TE:=fun σ H Q=>ta σ H fun x H1=>tb σ H1 fun y H2=>r x y H2 Q
def tUn (r:V->Hp->VK->Prop) (ta:TE):TE:=fun σ H Q=>ta σ H fun x H1=>r x H1 Q
def rI (C:Int->Int->Prop) (g:Int->Int->V):R2:=fun x y H Q=>∃ i j,x=.int i/\y=.int j/\C i j/\Q (g i j) H
def rI0 (g:Int->Int->V):R2:=fun x y H Q=>∃ i j,x=.int i/\y=.int j/\Q (g i j) H
def rU (g:Int->V):V->Hp->VK->Prop:=fun x H Q=>∃ i,x=.int i/\Q (g i) H
section
variable {X:Cx}{a b c:Expr}{ta tb tc:TE}{pos:Pos}
theorem binT (ha:PE X a ta) (hb:PE X b tb) {pins:List (Addr×Obj)}{s:Shared}{σ:St}{H:Hp}{R:V->V->Hp->Prop}(I:Inv X pins σ H s)
  (h:ta σ H fun x H1=>tb σ H1 fun y H2=>R x y H2) {Q:Value->Shared->Prop} {f:Value->Value->Sem Value}
  (hf:∀ v u s2 x y H2,Inv X pins σ H2 s2->RelV x v->RelV y u->R x y H2->wpAny (model X.prog X.w) X.A (f v u) Q X.xe s2) :
  wpAny (model X.prog X.w) X.A (eval a X.env) (fun v s₁=>wpAny (model X.prog X.w) X.A (eval b X.env) (fun u s₂=>wpAny (model X.prog X.w) X.A (f v u) Q X.xe s₂) X.xe s₁) X.xe s:=by
 refine thn (ha pins s σ H _ I h) fun v s1 ⟨x,H1,I1,r1,q1⟩=>?_
 refine thn (hb pins s1 σ H1 _ I1 q1) fun u s2 ⟨y,H2,I2,r2,q2⟩=>?_
 exact hf v u s2 x y H2 I2 r1 r2 q2
theorem aJ {op:Operator}{r:R2}(ho:OpR X (binaryOp op) r) (ha:PE X a ta) (hb:PE X b tb):PE X (.BinOp a op b pos) (tOp r ta tb):=by
 intro pins s σ H Q I h
 exact wpAny_BinOp (binT ha hb I h fun v u s2 x y H2 I2 rx ry q=>ho pins s2 σ H2 x y v u Q I2 rx ry q)
theorem jw {op:UnaryOp}{r:V->Hp->VK->Prop}(ho:UnR X (unaryOp op) r) (ha:PE X a ta):PE X (.UnaryOp op a pos) (tUn r ta):=by
 intro pins s σ H Q I h
 exact UnaryOp_ (thn (ha pins s σ H _ I h) fun v s1 ⟨x,H1,I1,r1,q1⟩=>ho pins s1 σ H1 x v Q I1 r1 q1)
theorem opI {f:Value->Value->Sem Value}{C:Int->Int->Prop}{g:Int->Int->Int}
  (rule:∀ (i j:Int) (t u:Tok) (s:Shared) (Q:Value->Shared->Prop) (E:Value->Shared->Prop),C i j->Q (.int (g i j) s.toks) { s with toks:=s.toks+1 }->wpAny (model X.prog X.w) X.A (f (.int i t) (.int j u)) Q E s) :
  OpR X f (rI C fun i j=>.int (g i j)):=by
 intro pins s σ H x y v u Q I rx ry h
 obtain⟨i,j,rfl,rfl,hc,q⟩:=h
 obtain⟨t,rfl⟩:=rx
 obtain⟨t',rfl⟩:=ry
 exact rule i j t t' s _ _ hc ⟨.int (g i j),H,I.tok _,⟨_,rfl⟩,q⟩
theorem opI0 {f:Value->Value->Sem Value}{g:Int->Int->Int}
  (rule:∀ (i j:Int) (t u:Tok) (s:Shared) (Q:Value->Shared->Prop) (E:Value->Shared->Prop),Q (.int (g i j) s.toks) { s with toks:=s.toks+1 }->wpAny (model X.prog X.w) X.A (f (.int i t) (.int j u)) Q E s) :
  OpR X f (rI0 fun i j=>.int (g i j)):=by
 intro pins s σ H x y v u Q I rx ry h
 obtain⟨i,j,rfl,rfl,q⟩:=h
 obtain⟨t,rfl⟩:=rx
 obtain⟨t',rfl⟩:=ry
 exact rule i j t t' s _ _ ⟨.int (g i j),H,I.tok _,⟨_,rfl⟩,q⟩
theorem opB0 {f:Value->Value->Sem Value}{g:Int->Int->Bool}
  (rule:∀ (i j:Int) (t u:Tok) (s:Shared) (Q:Value->Shared->Prop) (E:Value->Shared->Prop),Q (.bool (g i j)) s->wpAny (model X.prog X.w) X.A (f (.int i t) (.int j u)) Q E s) :
  OpR X f (rI0 fun i j=>.bl (g i j)):=by
 intro pins s σ H x y v u Q I rx ry h
 obtain⟨i,j,rfl,rfl,q⟩:=h
 obtain⟨t,rfl⟩:=rx
 obtain⟨t',rfl⟩:=ry
 exact rule i j t t' s _ _ ⟨.bl (g i j),H,I,rfl,q⟩
def CPow (i j:Int):Prop:=0<=j/\j<=1000000/\i.natAbs<2^64
def CMul (i j:Int):Prop:=(-(2^64)<i/\i<2^64)\/(-(2^64)<j/\j<2^64)
theorem CMul.ok {i j:Int}(h:CMul i j):IntMulOk i j:=by
 rcases h with ⟨h1,h2⟩ | ⟨h1,h2⟩
 ·exact .of_left (intBits_le_64 h1 h2)
 ·exact .of_right (intBits_le_64 h1 h2)
theorem bq:OpR X (binaryOp .Add) (rI0 fun i j=>.int (i+j)):=opI0 fun _ _ _ _ _ _ _ q=>add_int q
theorem dN:OpR X (binaryOp .Sub) (rI0 fun i j=>.int (i-j)):=opI0 fun _ _ _ _ _ _ _ q=>sub_int q
theorem fY:OpR X (binaryOp .Mult) (rI CMul fun i j=>.int (i*j)):=opI fun _ _ _ _ _ _ _ hc q=>mul_int q hc.ok
theorem jV:OpR X (binaryOp .Mod) (rI (fun _ j=>0<j) fun i j=>.int (i%j)):=opI fun i j _ _ _ _ _ hc q=>by
 have h1:(0:Int)<j:=hc
 exact mod_int' (by omega) (by rw[Int.fmod_eq_emod_of_nonneg i (by omega)]; exact q)
theorem op_pow:OpR X (binaryOp .Pow) (rI CPow fun i j=>.int (i^j.toNat)):=opI fun _ _ _ _ _ _ _ hc q=>pow_int_small hc.1 hc.2.1 hc.2.2 q
theorem lL:OpR X (binaryOp .LShift) (rI CPow fun i j=>.int (i*2^j.toNat)):=opI fun _ _ _ _ _ _ _ hc q=>lshift_int_small hc.1 hc.2.1 hc.2.2 q
theorem unI {f:Value->Sem Value}{g:Int->Int}
  (rule:∀ (i:Int) (t:Tok) (s:Shared) (Q:Value->Shared->Prop) (E:Value->Shared->Prop),Q (.int (g i) s.toks) { s with toks:=s.toks+1 }->wpAny (model X.prog X.w) X.A (f (.int i t)) Q E s) :
  UnR X f (rU fun i=>.int (g i)):=by
 intro pins s σ H x v Q I rx h
 obtain⟨i,rfl,q⟩:=h
 obtain⟨t,rfl⟩:=rx
 exact rule i t s _ _ ⟨.int (g i),H,I.tok _,⟨_,rfl⟩,q⟩
theorem dS:UnR X (unaryOp .USub) (rU fun i=>.int (-i)):=unI fun _ _ _ _ _ q=>neg_int q
end
def scal:V->V->Bool
 | .non,.non=>true | .non,.int _=>true | .int _,.non=>true | .non,.bl _=>true | .bl _,.non=>true | .non,.str _=>true | .str _,.non=>true
 | .int _,.int _=>true | .bl _,.bl _=>true | .str _,.str _=>true | .byt _,.byt _=>true
 | .int _,.str _=>true | .str _,.int _=>true | .bl _,.str _=>true | .str _,.bl _=>true
 | _,_=>false
def rEq:R2:=fun x y H Q=>scal x y=true/\Q (.bl (decide (x=y))) H
def rNe:R2:=fun x y H Q=>scal x y=true/\Q (.bl (!decide (x=y))) H
theorem qf {i j:Int}:decide (V.int i=V.int j)=(i == j):=by
 rw[Bool.eq_iff_iff]
 simp
theorem dec_bl {i j:Bool}:decide (V.bl i=V.bl j)=(i == j):=by
 rw[Bool.eq_iff_iff]
 simp
theorem rG {i j:Str}:decide (V.str i=V.str j)=(i == j):=by
 rw[Bool.eq_iff_iff]
 simp
theorem qg {i j:Array UInt8}:decide (V.byt i=V.byt j)=(i.toList == j.toList):=by
 rw[Bool.eq_iff_iff]
 cases i
 cases j
 simp
section
variable {X:Cx}{a b c:Expr}{ta tb tc:TE}{pos:Pos}
theorem aR {pins:List (Addr×Obj)}{σ:St}{H:Hp}{s:Shared}{Q:VK}{k k':Bool}(I:Inv X pins σ H s) (q:Q (.bl k) H) (e:k=k'):EP X pins σ Q (.bool k') s:=by
 subst e
 exact⟨.bl k,H,I,rfl,q⟩
theorem ce:OpR X (compareOp .Eq) rEq:=by
 intro pins s σ H x y v u Q I rx ry h
 obtain⟨hs,q⟩:=h
 cases x with
 | non =>
  cases rx
  cases y with
  | non=>cases ry; exact PySem.EqNone.eq_none_none (aR I q (by simp))
  | bl j=>cases ry; exact PySem.EqNone.eq_none_bool (aR I q (by simp))
  | int j=>obtain⟨t',rfl⟩:=ry; exact PySem.EqNone.eq_none_int (aR I q (by simp))
  | str j=>obtain⟨t',rfl⟩:=ry; exact PySem.EqNone.eq_none_str (aR I q (by simp))
  | _=>exact absurd (show false=true from hs) Bool.false_ne_true
 | bl i =>
  cases rx
  cases y with
  | non=>cases ry; exact PySem.EqNone.eq_bool_none (aR I q (by simp))
  | bl j=>cases ry; exact eq_bool (aR I q dec_bl)
  | str j=>obtain⟨t',rfl⟩:=ry; exact PySem.EqMixed.eq_bool_str (aR I q (by simp))
  | _=>exact absurd (show false=true from hs) Bool.false_ne_true
 | int i =>
  obtain⟨t,rfl⟩:=rx
  cases y with
  | non=>cases ry; exact PySem.EqNone.eq_int_none (aR I q (by simp))
  | int j=>obtain⟨t',rfl⟩:=ry; exact eq_int (aR I q qf)
  | str j=>obtain⟨t',rfl⟩:=ry; exact PySem.EqMixed.eq_int_str (aR I q (by simp))
  | _=>exact absurd (show false=true from hs) Bool.false_ne_true
 | str i =>
  obtain⟨t,rfl⟩:=rx
  cases y with
  | non=>cases ry; exact PySem.EqNone.eq_str_none (aR I q (by simp))
  | bl j=>cases ry; exact PySem.EqMixed.eq_str_bool (aR I q (by simp))
  | int j=>obtain⟨t',rfl⟩:=ry; exact PySem.EqMixed.eq_str_int (aR I q (by simp))
  | str j=>obtain⟨t',rfl⟩:=ry; exact eq_str (aR I q rG)
  | _=>exact absurd (show false=true from hs) Bool.false_ne_true
 | byt i =>
  obtain⟨t,rfl⟩:=rx
  cases y with
  | byt j=>obtain⟨t',rfl⟩:=ry; exact PySem.W.eq_bytes (aR I q qg)
  | _=>exact absurd (show false=true from hs) Bool.false_ne_true
 | _=>cases y <;> exact absurd (show false=true from hs) Bool.false_ne_true
theorem op_ne:OpR X (compareOp .NotEq) rNe:=by
 intro pins s σ H x y v u Q I rx ry h
 obtain⟨hs,q⟩:=h
 cases x with
 | non =>
  cases rx
  cases y with
  | non=>cases ry; exact PySem.EqNone.ne_none_none (aR I q (by simp))
  | bl j=>cases ry; exact PySem.EqNone.ne_none_bool (aR I q (by simp))
  | int j=>obtain⟨t',rfl⟩:=ry; exact PySem.EqNone.ne_none_int (aR I q (by simp))
  | str j=>obtain⟨t',rfl⟩:=ry; exact PySem.EqNone.ne_none_str (aR I q (by simp))
  | _=>exact absurd (show false=true from hs) Bool.false_ne_true
 | bl i =>
  cases rx
  cases y with
  | non=>cases ry; exact PySem.EqNone.ne_bool_none (aR I q (by simp))
  | bl j=>cases ry; exact ne_bool (aR I q (congrArg not dec_bl))
  | str j=>obtain⟨t',rfl⟩:=ry; exact PySem.EqMixed.ne_bool_str (aR I q (by simp))
  | _=>exact absurd (show false=true from hs) Bool.false_ne_true
 | int i =>
  obtain⟨t,rfl⟩:=rx
  cases y with
  | non=>cases ry; exact PySem.EqNone.ne_int_none (aR I q (by simp))
  | int j=>obtain⟨t',rfl⟩:=ry; exact ne_int (aR I q (congrArg not qf))
  | str j=>obtain⟨t',rfl⟩:=ry; exact PySem.EqMixed.ne_int_str (aR I q (by simp))
  | _=>exact absurd (show false=true from hs) Bool.false_ne_true
 | str i =>
  obtain⟨t,rfl⟩:=rx
  cases y with
  | non=>cases ry; exact PySem.EqNone.ne_str_none (aR I q (by simp))
  | bl j=>cases ry; exact PySem.EqMixed.ne_str_bool (aR I q (by simp))
  | int j=>obtain⟨t',rfl⟩:=ry; exact PySem.EqMixed.ne_str_int (aR I q (by simp))
  | str j=>obtain⟨t',rfl⟩:=ry; exact ne_str (aR I q (congrArg not rG))
  | _=>exact absurd (show false=true from hs) Bool.false_ne_true
 | byt i =>
  obtain⟨t,rfl⟩:=rx
  cases y with
  | byt j=>obtain⟨t',rfl⟩:=ry; exact PySem.W.ne_bytes (aR I q (congrArg not qg))
  | _=>exact absurd (show false=true from hs) Bool.false_ne_true
 | _=>cases y <;> exact absurd (show false=true from hs) Bool.false_ne_true
theorem op_lt:OpR X (compareOp .Lt) (rI0 fun i j=>.bl (decide (i<j))):=opB0 fun _ _ _ _ _ _ _ q=>lt_int q
theorem mm:OpR X (compareOp .LtE) (rI0 fun i j=>.bl (decide (i<=j))):=opB0 fun _ _ _ _ _ _ _ q=>le_int q
theorem m4:OpR X (compareOp .Gt) (rI0 fun i j=>.bl (decide (j<i))):=opB0 fun _ _ _ _ _ _ _ q=>gt_int q
theorem op_ge:OpR X (compareOp .GtE) (rI0 fun i j=>.bl (decide (j<=i))):=opB0 fun _ _ _ _ _ _ _ q=>ge_int q
theorem qK:OpR X (compareOp .In) (fun x y H Q=>∃ i j,x=.str i/\y=.str j/\Q (.bl (!(Builtin.Str.occurrences j i 0 j.length 1).isEmpty)) H):=by
 intro pins s σ H x y v u Q I rx ry h
 obtain⟨i,j,rfl,rfl,q⟩:=h
 obtain⟨t,rfl⟩:=rx
 obtain⟨t',rfl⟩:=ry
 exact in_str (aR I q rfl)
theorem iy:OpR X (compareOp .Is) (fun x y H Q=>y=.non/\Q (.bl (decide (x=.non))) H):=by
 intro pins s σ H x y v u Q I rx ry h
 obtain⟨rfl,q⟩:=h
 cases ry
 refine is_none_gen (aR I q ?_)
 cases x <;> first
  | (cases rx; rfl)
  | (obtain⟨t,rfl⟩:=rx; rfl)
theorem jj:OpR X (compareOp .IsNot) (fun x y H Q=>y=.non/\Q (.bl (!decide (x=.non))) H):=by
 intro pins s σ H x y v u Q I rx ry h
 obtain⟨rfl,q⟩:=h
 cases ry
 refine isnot_none_gen (aR I q ?_)
 cases x <;> first
  | (cases rx; rfl)
  | (obtain⟨t,rfl⟩:=rx; rfl)
theorem OpR.or {f:Value->Value->Sem Value}{r r':R2}(h:OpR X f r) (h':OpR X f r'):OpR X f (fun x y H Q=>r x y H Q\/r' x y H Q):=by
 intro pins s σ H x y v u Q I rx ry q
 rcases q with q | q
 ·exact h pins s σ H x y v u Q I rx ry q
 ·exact h' pins s σ H x y v u Q I rx ry q
theorem ay (b:Expr) {op:CmpOp}(h:op≠.In:=by decide) (h2:op≠.NotIn:=by decide):behindInMarks op b=false:=by
 have e1:(op == CmpOp.In)=false:=by cases op <;> first | rfl | exact absurd rfl h
 have e2:(op == CmpOp.NotIn)=false:=by cases op <;> first | rfl | exact absurd rfl h2
 cases b <;> simp[behindInMarks,e1,e2]
theorem bU {op:CmpOp}{r:R2}(ho:OpR X (compareOp op) r) (ha:PE X a ta) (hb:PE X b tb) (hm:behindInMarks op b=false):PE X (.Compare a [op] [b] pos) (tOp r ta tb):=by
 intro pins s σ H Q I h
 exact wpAny_Compare1 (binT ha hb I h fun v u s2 x y H2 I2 rx ry q=>ho pins s2 σ H2 x y v u Q I2 rx ry q) hm
def tTest (t:TE):TT:=fun σ H Q=>t σ H fun x H'=>∃ k,x=.bl k/\Q k H'
theorem au {op:CmpOp}{r:R2}(ho:OpR X (compareOp op) r) (ha:PE X a ta) (hb:PE X b tb) (hm:behindInMarks op b=false):PT X (.Compare a [op] [b] pos) (tTest (tOp r ta tb)):=by
 intro pins s σ H Q I h
 refine wpAny_isTrue_Compare1 (thn (ha pins s σ H _ I h) fun v s1 ⟨x,H1,I1,r1,q1⟩=>thn (hb pins s1 σ H1 _ I1 q1) fun u s2 ⟨y,H2,I2,r2,q2⟩ =>
  thn (ho pins s2 σ H2 x y v u _ I2 r1 r2 q2) fun c s3 ⟨z,H3,I3,r3,k,e,q3⟩=>?_) hm
 subst e
 cases r3
 exact wpAny_truthy_bool ⟨H3,I3,q3⟩
def tChain (r r':R2) (ta tb tc:TE):TE:=fun σ H Q=>ta σ H fun x H1=>tb σ H1 fun y H2=>r x y H2 fun z H3=>∃ k,z=.bl k /\
 (if k=true then tc σ H3 fun w' H4=>r' y w' H4 Q else Q (.bl false) H3)
theorem oZ {op op':CmpOp}{r r':R2}(ho:OpR X (compareOp op) r) (ho':OpR X (compareOp op') r') (ha:PE X a ta) (hb:PE X b tb) (hc:PE X c tc)
  (hm:lastMarks [op,op'] [b,c]=false:=by with_unfolding_all rfl):PE X (.Compare a [op,op'] [b,c] pos) (tChain r r' ta tb tc):=by
 intro pins s σ H Q I h
 refine Compare_chain (thn (ha pins s σ H _ I h) fun v s1 ⟨x,H1,I1,r1,q1⟩=>chain_link (thn (hb pins s1 σ H1 _ I1 q1) fun u s2 ⟨y,H2,I2,r2,q2⟩ =>
  thn (ho pins s2 σ H2 x y v u _ I2 r1 r2 q2) fun d s3 ⟨z,H3,I3,r3,k,e,q3⟩=>?_)) hm
 subst e
 cases r3
 refine wpAny_truthy_bool ?_
 cases k with
 | false=>exact ite_ff ⟨.bl false,H3,I3,rfl,q3⟩
 | true=>exact ite_tt (chain_last (thn (hc pins s3 σ H3 _ I3 q3) fun w' s4 ⟨z',H4,I4,r4,q4⟩=>ho' pins s4 σ H4 y z' u w' Q I4 r2 r4 q4))
theorem ox {op op':CmpOp}{r r':R2}(ho:OpR X (compareOp op) r) (ho':OpR X (compareOp op') r') (ha:PE X a ta) (hb:PE X b tb) (hc:PE X c tc)
  (hm:lastMarks [op,op'] [b,c]=false:=by with_unfolding_all rfl):PT X (.Compare a [op,op'] [b,c] pos) (tTest (tChain r r' ta tb tc)):=by
 intro pins s σ H Q I h
 refine isTrue_chain (thn (ha pins s σ H _ I h) fun v s1 ⟨x,H1,I1,r1,q1⟩=>test_link (thn (hb pins s1 σ H1 _ I1 q1) fun u s2 ⟨y,H2,I2,r2,q2⟩ =>
  thn (ho pins s2 σ H2 x y v u _ I2 r1 r2 q2) fun d s3 ⟨z,H3,I3,r3,k,e,q3⟩=>?_)) hm
 subst e
 cases r3
 refine wpAny_truthy_bool ?_
 cases k with
 | false =>
  obtain⟨k',e',q'⟩:=q3
  cases e'
  exact ite_ff ⟨H3,I3,q'⟩
 | true =>
  refine ite_tt (test_last (thn (hc pins s3 σ H3 _ I3 q3) fun w' s4 ⟨z',H4,I4,r4,q4⟩=>thn (ho' pins s4 σ H4 y z' u w' _ I4 r2 r4 q4) fun d' s5 ⟨z2,H5,I5,r5,k2,e2,q5⟩=>?_))
  subst e2
  cases r5
  exact wpAny_truthy_bool ⟨H5,I5,q5⟩
theorem jU:(sizeLine:Nat)<2^63:=by rw[sizeLine_eq]; decide
theorem bM:OpR X (binaryOp .Add) (fun x y H Q=>∃ i j,x=.str i/\y=.str j/\i.length+j.length<=sizeLine/\Q (.str (i++j)) H):=by
 intro pins s σ H x y v u Q I rx ry h
 obtain⟨i,j,rfl,rfl,hz,q⟩:=h
 obtain⟨t,rfl⟩:=rx
 obtain⟨t',rfl⟩:=ry
 exact add_str (fun t' tk=>⟨.str (i++j),H,I.tok _,⟨_,rfl⟩,q⟩) hz
theorem kM {x:V}{us:List Value}(r:Vals [x] us):∃ u,us=[u]/\RelV x u:=by
 cases r with
 | cons r1 r2=>cases r2; exact⟨_,rfl,r1⟩
theorem vals2 {x y:V}{us:List Value}(r:Vals [x,y] us):∃ u w',us=[u,w']/\RelV x u/\RelV y w':=by
 cases r with
 | cons r1 r2 =>
  cases r2 with
  | cons r3 r4=>cases r4; exact⟨_,_,rfl,r1,r3⟩
theorem lA (hc:X.calm=true):fD X (.builtin "max") (fun xs H Q=>∃ i j,xs=[.int i,.int j]/\Q (.int (if j > i then j else i)) H):=by
 intro pins s σ H xs us Q I r h
 obtain⟨i,j,rfl,q⟩:=h
 obtain⟨u,w',rfl,⟨t,rfl⟩,⟨t',rfl⟩⟩:=vals2 r
 refine max_two_ints (I.ok.hd hc) fun h' tk k=>⟨_,H,I.kept k,?_,q⟩
 by_cases hj:j > i
 ·rw[if_pos hj,if_pos hj]; exact⟨_,rfl⟩
 ·rw[if_neg hj,if_neg hj]; exact⟨_,rfl⟩
theorem sI (hc:X.calm=true):fD X (.builtin "min") (fun xs H Q=>∃ i j,xs=[.int i,.int j]/\Q (.int (if j<i then j else i)) H):=by
 intro pins s σ H xs us Q I r h
 obtain⟨i,j,rfl,q⟩:=h
 obtain⟨u,w',rfl,⟨t,rfl⟩,⟨t',rfl⟩⟩:=vals2 r
 refine min_two_ints (I.ok.hd hc) fun h' tk k=>⟨_,H,I.kept k,?_,q⟩
 by_cases hj:j<i
 ·rw[if_pos hj,if_pos hj]; exact⟨_,rfl⟩
 ·rw[if_neg hj,if_neg hj]; exact⟨_,rfl⟩
theorem gv:fD X (.type "int") (fun xs H Q=>(∃ i,xs=[.int i]/\Q (.int i) H)\/∃ k,xs=[.bl k]/\Q (.int (if k then 1 else 0)) H):=by
 intro pins s σ H xs us Q I r h
 rcases h with ⟨i,rfl,q⟩ | ⟨k,rfl,q⟩
 ·obtain⟨u,rfl,t,rfl⟩:=kM r
  exact call_int_int ⟨.int i,H,I,⟨_,rfl⟩,q⟩
 ·obtain⟨u,rfl,r1⟩:=kM r
  cases r1
  exact call_int_bool ⟨.int (if k then 1 else 0),H,I.tok _,⟨_,rfl⟩,q⟩
end
end L2
namespace L2
open PySem PySem.Spec PyProof.Rows
structure ObjM (h:Heap) (x dx C:Addr) (mA:Str->Option Value):Prop where
 obj:h.get? x=some (instObj C dx)
 ns:h.Ns1 dx mA
 ne:dx≠x
theorem me {h:Heap}{dx:Addr}{mA:Str->Option Value}(n:h.Ns1 dx mA):∃ od,h.get? dx=some od/\∀ name,PySem.W.lookIn name od=some (mA name):=by
 obtain⟨o,es,ep,ho,hd,hk,_,hm⟩:=n
 refine⟨o,ho,fun name=>?_⟩
 have e:=hm name
 unfold nsFind findBy at e
 rw[<- Array.find?_toList] at e
 unfold PySem.W.lookIn
 rw[hd]
 dsimp only
 split
 ·rename_i y q
  rw[q] at e
  exact congrArg some e
 ·rename_i q
  rw[q] at e
  have a:es.toList.any (·.refKey)=false:=by
   rw[List.any_eq_false]
   intro y hy
   obtain⟨z,t,hkey⟩:=hk y (Array.mem_toList_iff.mp hy)
   simp[DictEntry.refKey,hkey]
  have a':¬ es.toList.any (·.refKey)=true:=by rw[a]; exact Bool.false_ne_true
  rw[if_neg a']
  exact congrArg some e
theorem ObjM.look {h:Heap}{x dx C:Addr}{mA:Str->Option Value}(I:ObjM h x dx C mA):∃ od,PySem.W.InstAt h x (instObj C dx) C (some od)/\∀ name,PySem.W.lookIn name od=some (mA name) :=
 let ⟨od,ho,hl⟩:=me I.ns
 ⟨od,⟨I.obj,rfl,rfl,ho⟩,hl⟩
section
variable {prog:Program}{w:World}{A:Around}{E:Value->Shared->Prop}{s:Shared}{K:Frag}{x dx C f:Addr}{mA:Str->Option Value}{name:Str}{v:Value}
theorem get_map {expr:Bool}{Q:Value->Shared->Prop}(X:K.In s.heap) (I:ObjM s.heap x dx C mA) (hg:plainGet K C name=true) (hh:hasDictIn K C=true)
  (ha:findIn K (.ref C) name=some none) (hv:mA name=some v) (hv':PySem.W.handedIn v=true) (h:Q v { s with toks:=s.toks+1 }) :
  wpAny (model prog w) A (getAttr (.ref x) name expr) Q E s:=by
 obtain⟨od,J,hl⟩:=I.look
 exact PySem.W.get_value X J (PySem.W.plainGet_of hg).1 (PySem.W.findObj_own hh ha rfl (by rw[hl,hv])) hv' h
theorem get_meth {pl:Sem Bool}{Q:Value×List Value->Shared->Prop}(X:K.In s.heap) (I:ObjM s.heap x dx C mA) (hg:plainGet K C name=true)
  (hf:findIn K (.ref C) name=some (some (.ref f))) (ht:isFn K (.ref f)=true) (hv:mA name=none) (h:Q (.ref f,[.ref x]) s) :
  wpAny (model prog w) A (getMethod (.ref x) name pl) Q E s:=by
 obtain⟨od,J,hl⟩:=I.look
 exact PySem.W.method_fn X J (PySem.W.plainGet_of hg).1 (PySem.W.plainGet_of hg).2 hf (beq_iff_eq.mp ht) (by show (PySem.W.lookIn name od).map (·.isSome)=some false; rw[hl,hv]; rfl) h
theorem set_map {ns:List Str}{Q:Unit->Shared->Prop}(X:K.In s.heap) (I:ObjM s.heap x dx C mA)
  (hs:findIn K (.ref C) "__setattr__"=some (some (.builtin "object.__setattr__"))) (hp:plainOver K C=true) (ht:PySem.W.takerIn K C name=some none) (hh:hasDictIn K C=true)
  (hw:PySem.Within mA ns) (hsz:ns.length<=sizeLine)
  (h:∀ h',ObjM h' x dx C (fun y=>if y=name then some v else mA y)->Heap.SameBut dx s.heap h'->Q () { s with heap:=h',toks:=s.toks+2 }) :
  wpAny (model prog w) A (setAttr (.ref x) name v) Q E s:=by
 obtain⟨od,J,hl⟩:=I.look
 refine PySem.W.set_plain X J hs (PySem.W.osa_open (s:={ s with toks:=s.toks+1 }) (r:=none) X J hp ht fun b=>?_)
 obtain⟨cd,hc,hd'⟩:=PySem.W.any_some hh
 have hx:s.heap.get? x=some ⟨.ref C,some dx,.plain,#[]⟩:=I.obj
 refine wpAny_bind (wpAny_pure (wpAny_bind (wpAny_bind (wpAny_loadPart hx (wpAny_bind (PySem.W.Looks.here (s:={ s with toks:=s.toks+1 }) (PySem.W.looks_clsIn X hc) ?_))))))
 rw[hd']
 refine wpAny_pure (a:=some dx) (wpAny_bind (wpAny_pure (wpAny_bind ?_)))
 refine wpAny_nsSet1 (s:={ s with toks:=s.toks+1 }) I.ns fun h' hn2 hs2=>?_
 obtain⟨oD,esD,epD,hoD,hdD,hcD⟩:=hn2.count (PySem.Within.cons name v hw)
 refine wpAny_bind (wpAny_lookBehind hoD (by rw[hdD]; exact pastItsLine_dict (Nat.le_trans hcD (by rw[length_cons]; omega))) ?_)
 exact wpAny_pure (h _ ⟨(hs2.2 _ (Ne.symm I.ne)).trans I.obj,hn2,I.ne⟩ hs2)
theorem make_map {R:Result->Shared->Prop}{vs:List Value}{kw:List (Str×Value)}(X:K.In s.heap) (hm:makesIn K C=true)
  (hi:findIn K (.ref C) "__init__"=some (some (.ref f))) (hf:typeIn K (.ref f)=some (.type "function"))
  (h:codeAny (model prog w) (A.under (.builtin "type.__call__" ⟨.ref C::vs,kw⟩)) (.call (.ref f) ⟨.ref (s.heap.objs.size+1)::vs,kw⟩) (PySem.W.InitBack (s.heap.objs.size+1) R)
   { s with heap:=(s.heap.push PySem.W.emptyDict).push (instObj C s.heap.objs.size) }) :
  codeAny (model prog w) A (.call (.ref C) ⟨vs,kw⟩) R s:=by
 obtain⟨hh,g,d,t,os⟩:=s
 exact PySem.W.make_core (PySem.W.makes_of X hm) (PySem.W.looks_findIn X hi) (fun self=>PySem.W.bind_fn X self hf) (.inl rfl) h
end
def cY (f:Str) (v:V):List (Str×V)->List (Str×V)
 | []=>[(f,v)]
 | (g,x)::r=>if g=f then (g,v)::r else (g,x)::cY f v r
theorem i6 (f g:Str) (v:V):∀ fs:List (Str×V),(cY f v fs).lookup g=if g=f then some v else fs.lookup g
 | []=>by
  show List.lookup g [(f,v)]=_
  by_cases h:g=f
  ·have hb:(g == f)=true:=beq_iff_eq.mpr h
   simp only[List.lookup,hb,if_pos h]
  ·have hb:(g == f)=false:=beq_eq_false_iff_ne.mpr h
   simp only[List.lookup,hb,if_neg h]
 | (k,x)::r=>by
  have ih:=i6 f g v r
  rw[show cY f v ((k,x)::r)=(if k=f then (k,v)::r else (k,x)::cY f v r) from rfl]
  by_cases hk:k=f
  ·rw[if_pos hk]
   by_cases h:g=k
   ·have hb:(g == k)=true:=beq_iff_eq.mpr h
    simp only[List.lookup,hb,if_pos (h.trans hk)]
   ·have hb:(g == k)=false:=beq_eq_false_iff_ne.mpr h
    simp only[List.lookup,hb,if_neg (fun e:g=f=>h (e.trans hk.symm))]
  ·rw[if_neg hk]
   by_cases h:g=k
   ·have hb:(g == k)=true:=beq_iff_eq.mpr h
    simp only[List.lookup,hb,if_neg (fun e:g=f=>hk (h.symm.trans e))]
   ·have hb:(g == k)=false:=beq_eq_false_iff_ne.mpr h
    simp only[List.lookup,hb]
    exact ih
theorem ju (f:Str) (v:V):∀ fs:List (Str×V),f∈(cY f v fs).map (·.1)/\∀ g,g∈fs.map (·.1)->g∈(cY f v fs).map (·.1)
 | []=>⟨by simp[cY],fun g h=>by simp at h⟩
 | (k,x)::r=>by
  obtain⟨i1,i2⟩:=ju f v r
  rw[show cY f v ((k,x)::r)=(if k=f then (k,v)::r else (k,x)::cY f v r) from rfl]
  by_cases hk:k=f
  ·rw[if_pos hk]
   subst hk
   exact⟨by simp,fun g h=>by simpa using h⟩
  ·rw[if_neg hk]
   refine⟨?_,fun g h=>?_⟩
   ·rw[map_cons]
    exact mem_cons_of_mem _ i1
   ·rw[map_cons] at h ⊢
    rcases List.mem_cons.mp h with e | e
    ·exact List.mem_cons.mpr (.inl e)
    ·exact mem_cons_of_mem _ (i2 g e)
theorem jx (f:Str) (v:V):∀ fs:List (Str×V),(cY f v fs).length<=fs.length+1
 | []=>by simp[cY]
 | (k,x)::r=>by
  have ih:=jx f v r
  rw[show cY f v ((k,x)::r)=(if k=f then (k,v)::r else (k,x)::cY f v r) from rfl]
  by_cases hk:k=f
  ·rw[if_pos hk,length_cons,length_cons]; omega
  ·rw[if_neg hk,length_cons,length_cons]; omega
theorem RelO.some_of {v:V}{o:Option Value}(r:RelO (some v) o):∃ u,o=some u/\RelV v u:=by
 cases o with
 | none=>exact(show False from r).elim
 | some u=>exact⟨u,rfl,r⟩
theorem RelO.none_of {o:Option Value}(r:RelO none o):o=none:=by
 cases o with
 | none=>rfl
 | some u=>exact(show False from r).elim
theorem mx {v:V}{u:Value}(r:RelV v u):PySem.W.handedIn u=true:=by
 cases v with
 | non=>cases (show u=Value.none from r); rfl
 | bl b=>cases (show u=Value.bool b from r); rfl
 | int i=>obtain⟨t,e⟩:=(show ∃ t,u=Value.int i t from r); cases e; rfl
 | str x=>obtain⟨t,e⟩:=(show ∃ t,u=Value.str x t from r); cases e; rfl
 | byt b=>obtain⟨t,e⟩:=(show ∃ t,u=Value.bytes b t from r); cases e; rfl
 | flt b=>obtain⟨t,e⟩:=(show ∃ t,u=Value.float b t from r); cases e; rfl
 | ref a=>cases (show u=Value.ref a from r); rfl
 | ty n=>cases (show u=Value.type n from r); rfl
section
variable {P:Program}{w:World}{H H':Hp}{h h':Heap}{a C dx:Addr}{fs fs':List (Str×V)}
theorem j8 (hok:HOk P w H h) (e:H a=some (.ins C dx fs)):∃ mA,ObjM h a dx C mA/\(∀ f,RelO (fs.lookup f) (mA f))/\PySem.Within mA (fs.map (·.1))/\fs.length<=1000/\H dx=some (.own a):=by
 obtain⟨d,z,ne,ob,mA,n,r,q⟩:=(show ObjOk P w H h a (.ins C dx fs) from hok a _ e)
 exact⟨mA,⟨ob,n,ne⟩,r,q,z,d⟩
end
structure Cls (K:Frag) (C:Addr):Prop where
 pg:plainGet K C Str.empty=true
 hd:hasDictIn K C=true
 po:plainOver K C=true
 sa:findIn K (.ref C) "__setattr__"=some (some (.builtin "object.__setattr__"))
theorem Cls.get {K:Frag}{C:Addr}(c:Cls K C) (f:Str):plainGet K C f=true:=c.pg
def NoAttr (K:Frag) (C:Addr) (f:Str):Prop:=findIn K (.ref C) f=some none
theorem NoAttr.taker {K:Frag}{C:Addr}{f:Str}(n:NoAttr K C f):PySem.W.takerIn K C f=some none:=by
 unfold PySem.W.takerIn
 rw[show findIn K (.ref C) f=some none from n]
 rfl
structure Meth (K:Frag) (C:Addr) (m:Str) (f:Addr):Prop where
 at_:findIn K (.ref C) m=some (some (.ref f))
 fn:isFn K (.ref f)=true
 kp:keepIn K (.ref f)=true
section
variable {X:Cx}{pins:List (Addr×Obj)}{σ:St}{H:Hp}{s:Shared}{a C dx:Addr}{fs:List (Str×V)}{f:Str}{v:V}{A:Around}{E:Value->Shared->Prop}
theorem pV {b:Bool}{Q:Value->Shared->Prop}(I:Inv X pins σ H s) (e:H a=some (.ins C dx fs)) (c:Cls X.K C) (n:NoAttr X.K C f) (l:fs.lookup f=some v)
  (h:∀ u s',Inv X pins σ H s'->RelV v u->Q u s'):wpAny (model X.prog X.w) A (getAttr (.ref a) f b) Q E s:=by
 obtain⟨mA,O,r,_,_,_⟩:=j8 I.hok e
 obtain⟨u,hu,ru⟩:=RelO.some_of (v:=v) (o:=mA f) (by rw[<- l]; exact r f)
 exact get_map I.kIn O (c.get f) c.hd n hu (mx ru) (h u _ (I.tok _) ru)
theorem jN {m:Str}{g:Addr}{pl:Sem Bool}{Q:Value×List Value->Shared->Prop}(I:Inv X pins σ H s) (e:H a=some (.ins C dx fs)) (c:Cls X.K C) (k:Meth X.K C m g) (l:fs.lookup m=none)
  (h:Q (.ref g,[.ref a]) s):wpAny (model X.prog X.w) A (getMethod (.ref a) m pl) Q E s:=by
 obtain⟨mA,O,r,_,_,_⟩:=j8 I.hok e
 have hn:mA m=none:=RelO.none_of (by rw[<- l]; exact r m)
 exact get_meth I.kIn O (c.get m) k.at_ k.fn hn h
theorem pU {y:V}{u:Value}{Q:Unit->Shared->Prop}(I:Inv X pins σ H s) (e:H a=some (.ins C dx fs)) (c:Cls X.K C) (n:NoAttr X.K C f) (hl:fs.length<1000) (ry:RelV y u)
  (h:∀ s',Inv X pins σ (upd H a (.ins C dx (cY f y fs))) s'->Q () s'):wpAny (model X.prog X.w) A (setAttr (.ref a) f u) Q E s:=by
 obtain⟨mA,O,r,wi,_,ho⟩:=j8 I.hok e
 have hz:(fs.map (·.1)).length<=sizeLine:=by rw[length_map,sizeLine_eq]; omega
 refine set_map I.kIn O c.sa c.po n.taker c.hd wi hz fun h' O' sb=>h _ ?_
 have hd:∃ o,h'.get? dx=some o:=let ⟨o,_,_,e',_⟩:=O'.ns; ⟨o,e'⟩
 refine I.write (x:=a) (e:=dx) (by rw[e]; exact True.intro) (.inr ho) (fun b q hb z=>(sb.2 b hb).trans z) hd ?_
 refine⟨by rw[af O.ne]; exact ho,?_,O.ne,O'.obj,_,O'.ns,fun g=>?_,fun g hg=>?_⟩
 ·have:=jx f y fs; omega
 ·show RelO ((cY f y fs).lookup g) (if g=f then some u else mA g)
  rw[i6]
  by_cases q:g=f
  ·rw[if_pos q,if_pos q]; exact ry
  ·rw[if_neg q,if_neg q]; exact r g
 ·by_cases q:g=f
  ·rw[q]; exact(ju f y fs).1
  ·refine(ju f y fs).2 g (wi g fun z=>hg ?_)
   show (if g=f then some u else mA g)=none
   rw[if_neg q]; exact z
theorem Inv.made (I:Inv X pins σ H s):Inv X pins σ (upd (upd H s.heap.objs.size (.own (s.heap.objs.size+1))) (s.heap.objs.size+1) (.ins C s.heap.objs.size []))
  { s with heap:=(s.heap.push PySem.W.emptyDict).push (instObj C s.heap.objs.size) }:=by
 have e1:(s.heap.push PySem.W.emptyDict).get? s.heap.objs.size=some PySem.W.emptyDict:=Heap.get?_push_size s.heap rfl
 have e2:((s.heap.push PySem.W.emptyDict).push (instObj C s.heap.objs.size)).get? (s.heap.objs.size+1)=some (instObj C s.heap.objs.size):=by
  have:=Heap.get?_push_size (s.heap.push PySem.W.emptyDict) (o:=instObj C s.heap.objs.size) rfl
  rwa [Heap.size_push] at this
 have e3:(s.heap.push PySem.W.emptyDict).Ns s.heap.objs.size (fun _=>none):=⟨PySem.W.emptyDict,#[],_,e1,rfl,(fun e he=>absurd he (by simp)),fun _=>rfl⟩
 have I1:=I.laid (a:=s.heap.objs.size) (o:=.own (s.heap.objs.size+1)) (h':=s.heap.push PySem.W.emptyDict) (t':=s.toks) (fun b u q=>Heap.get?_push_of_some _ q) (le_refl _) ⟨_,e1⟩
 refine I1.laid (a:=s.heap.objs.size+1) (o:=.ins C s.heap.objs.size []) (t':=s.toks) (fun b u q=>Heap.get?_push_of_some _ q) (Nat.le_of_eq (Heap.size_push _ _)) ?_
 have ne:s.heap.objs.size≠s.heap.objs.size+1:=ne_of_lt (lt_succ_self _)
 refine⟨by rw[af ne,ac],zero_le _,ne,e2,fun _=>none,(Heap.Ns1.of_empty e3).at fun o q=>Heap.get?_push_of_some _ q,fun _=>True.intro,fun y hy=>absurd rfl hy⟩
theorem rM {prog:Program}{w:World}{env:Env}{e:Expr}{f:Str}{pos:Pos}{s:Shared}{Q:Value->Shared->Prop}(hb:attributeBase e f env (eval e env)=eval e env)
  (h:wpAny (model prog w) A (eval e env) (fun o s₁=>wpAny (model prog w) A (getAttr o f true) Q E s₁) E s):wpAny (model prog w) A (eval (.Attribute e f pos) env) Q E s :=
 Attribute_any_ h (by rw[arm_eval_Attribute,hb])
end
def tFld (K:Frag) (ta:TE) (f:Str):TE:=fun σ H Q=>ta σ H fun x H1=>∃ a C dx fs v,x=.ref a/\H1 a=some (.ins C dx fs)/\Cls K C/\NoAttr K C f/\fs.lookup f=some v/\Q v H1
def sFld (K:Frag) (ta tv:TE) (f:Str):TS:=fun D σ H=>tv σ H fun y H1=>ta σ H1 fun x H2=>∃ a C dx fs,x=.ref a/\H2 a=some (.ins C dx fs)/\Cls K C/\NoAttr K C f/\fs.length<1000 /\
 D.nx σ (upd H2 a (.ins C dx (cY f y fs)))
section
variable {X:Cx}{o e value:Expr}{f:Str}{pos pos' tpos:Pos}{ta tv:TE}
theorem aC (he:PE X e ta) (hb:attributeBase e f X.env (eval e X.env)=eval e X.env):PE X (.Attribute e f pos) (tFld X.K ta f):=by
 intro pins s σ H Q I h
 refine rM hb (thn (he pins s σ H _ I h) fun u s1 ⟨x,H1,I1,rx,a,C,dx,fs,v,ex,ea,c,n,l,q⟩=>?_)
 subst ex
 obtain rfl:u=Value.ref a:=rx
 exact pV I1 ea c n l fun u' s2 I2 ru=>⟨v,H1,I2,ru,q⟩
theorem bt (ha:PE X o ta) (hv:PE X value tv) (hs:swapsWith value (some (.Attribute o f pos')) pos.line X.env=pure false):PS X (.Assign [.Attribute o f pos'] value pos) (sFld X.K ta tv f):=by
 intro pins s σ H D I h
 refine plainObj_wpAny_Assign_Attribute (thn (hv pins s σ H _ I h) fun u s1 ⟨y,H1,I1,ry,q⟩=>thn (ha pins s1 σ H1 _ I1 q) fun ov s2 ⟨x,H2,I2,rx,a,C,dx,fs,ex,ea,c,n,l,q2⟩=>?_) hs
 subst ex
 obtain rfl:ov=Value.ref a:=rx
 exact pU I2 ea c n l ry fun s3 I3=>⟨σ,_,I3,q2⟩
end
section
variable {X:Cx}{pins:List (Addr×Obj)}{σ:St}{H:Hp}{s:Shared}{A:Around}{E:Value->Shared->Prop}{Q:Value->Shared->Prop}{c:Value}{b:Bool}
inductive TyOf (K:Frag) (H:Hp):V->Value->Prop where
 | non:TyOf K H .non (.type "NoneType")
 | bl (x:Bool):TyOf K H (.bl x) (.type "bool")
 | int (i:Int):TyOf K H (.int i) (.type "int")
 | str (x:Str):TyOf K H (.str x) (.type "str")
 | flt (x:UInt64):TyOf K H (.flt x) (.type "float")
 | lst {a:Addr} {xs:List V} (e:H a=some (.lst xs)):TyOf K H (.ref a) (.type "list")
 | frz {a:Addr} {o:Obj} {xs:List V} (e:H a=some (.frz o (.lst xs))):TyOf K H (.ref a) (.type "list")
 | tup {a:Addr} {xs:List V} (e:H a=some (.tup xs)):TyOf K H (.ref a) (.type "tuple")
 | dK {a:Addr} {kvs:List (Key×V)} (e:H a=some (.dK kvs)):TyOf K H (.ref a) (.type "dict")
 | dT {a:Addr} {kvs:List (List Key×V)} (e:H a=some (.dT kvs)):TyOf K H (.ref a) (.type "dict")
 | ins {a C dx:Addr} {fs:List (Str×V)} (e:H a=some (.ins C dx fs)) (cl:Cls K C) (ha:findIn K (.ref C) "__class__"=some (some (.builtin "object.__class__")))
   (hn:PySem.W.specialIn K (.builtin "object.__class__") "__get__"=some (some (.builtin "getset_descriptor.__get__"))) (htk:PySem.W.takesIn K (.builtin "object.__class__")=some true)
   (hm:mroIn K C (.type "object")=some true):TyOf K H (.ref a) (.ref C)
theorem rA {x:V}{u t:Value}(I:Inv X pins σ H s) (rx:RelV x u) (ty:TyOf X.K H x t) (e:kitOne X.K t c=some b) (h:∀ tk,Q (.bool b) { s with toks:=tk }) :
  wpAny (model X.prog X.w) A (call (.builtin "isinstance") [u,c]) Q E s:=by
 cases ty with
 | non=>cases (show u=Value.none from rx); exact PySem.W.kia_one PySem.W.kitx_none I.kIn True.intro e (fun z=>nomatch z) h
 | bl y=>cases (show u=Value.bool y from rx); exact PySem.W.kia_one PySem.W.kitx_bool I.kIn True.intro e (fun z=>nomatch z) h
 | int i=>obtain⟨t,q⟩:=(show ∃ t,u=Value.int i t from rx); cases q; exact PySem.W.kia_one PySem.W.kitx_int I.kIn True.intro e (fun z=>nomatch z) h
 | str y=>obtain⟨t,q⟩:=(show ∃ t,u=Value.str y t from rx); cases q; exact PySem.W.kia_one PySem.W.kitx_str I.kIn True.intro e (fun z=>nomatch z) h
 | flt y=>obtain⟨t,q⟩:=(show ∃ t,u=Value.float y t from rx); cases q; exact PySem.W.kia_one PySem.W.kitx_float I.kIn True.intro e (fun z=>nomatch z) h
 | @lst a xs ea =>
  cases (show u=Value.ref a from rx)
  obtain⟨_,_,n,_,h1⟩:=(show ObjOk X.prog X.w H s.heap a (.lst xs) from I.hok a _ ea)
  exact PySem.W.kia_one PySem.W.kitx_list I.kIn ⟨_,h1,rfl⟩ e (fun z=>nomatch z) h
 | @frz a ob xs ea =>
  cases (show u=Value.ref a from rx)
  obtain⟨_,_,_,n,_,h1⟩:=(show ObjOk X.prog X.w H s.heap a (.frz ob (.lst xs)) from I.hok a _ ea)
  exact PySem.W.kia_one PySem.W.kitx_list I.kIn ⟨_,h1,rfl⟩ e (fun z=>nomatch z) h
 | @tup a xs ea =>
  cases (show u=Value.ref a from rx)
  obtain⟨_,_,_,p⟩:=(show ObjOk X.prog X.w H s.heap a (.tup xs) from I.hok a _ ea)
  obtain⟨o,h1,h2,_⟩:=p
  exact PySem.W.kia_one PySem.W.kitx_tuple I.kIn ⟨o,h1,h2⟩ e (fun z=>nomatch z) h
 | @dK a kvs ea =>
  cases (show u=Value.ref a from rx)
  obtain⟨_,_,vs,_,p⟩:=(show ObjOk X.prog X.w H s.heap a (.dK kvs) from I.hok a _ ea)
  obtain⟨o,es,ep,h1,h2,_⟩:=p
  exact PySem.W.kia_one PySem.W.kitx_dict I.kIn ⟨o,h1,h2.1⟩ e (fun z=>nomatch z) h
 | @dT a kvs ea =>
  cases (show u=Value.ref a from rx)
  obtain⟨_,_,xs,_,o,es,ep,h1,h2,_⟩:=(show ObjOk X.prog X.w H s.heap a (.dT kvs) from I.hok a _ ea)
  exact PySem.W.kia_one PySem.W.kitx_dict I.kIn ⟨o,h1,h2.1⟩ e (fun z=>nomatch z) h
 | @ins a C dx fs ea cl ha hn htk hm =>
  cases (show u=Value.ref a from rx)
  obtain⟨mA,O,_⟩:=j8 I.hok ea
  obtain⟨od,J,_⟩:=O.look
  exact PySem.W.kia_one (PySem.W.kitx_own (cl.get _) cl.hd ha hn htk hm) I.kIn J e (fun z=>nomatch z) h
end
end L2
namespace L2
open PySem PySem.Spec PyProof.Rows
structure Room (k:Nat) (A:Around):Prop where
 hd:A.handled=none
 dp:A.depth+3*k+5<recursionLimit
 un:A.units+16*k+200<cLine
 gd:A.guards=some []
theorem Room.mono {j k:Nat}{A:Around}(r:Room k A) (h:j<=k):Room j A:=⟨r.hd,by have:=r.dp; omega,by have:=r.un; omega,r.gd⟩
theorem Room.deeper {k:Nat}{A:Around}(r:Room (k+1) A) (env:Env):Room k (A.deeper env) :=
 ⟨r.hd,by have:=r.dp; show A.depth+1+3*k+5<_; omega,by have:=r.un; show A.units+3+16*k+200<_; omega,r.gd⟩
theorem pM {A:Around}{C:Addr}{us:List Value}{kw:List (Str×Value)}:(A.under (.builtin "type.__call__" ⟨.ref C::us,kw⟩)).depth=A.depth+1:=by
 first | rfl | simp[Around.under,Code.weight,Code.isCreation,Code.isGuard,Code.isCaller,Code.frames,Code.isFrame,guardIds]
theorem pN {A:Around}{C:Addr}{us:List Value}{kw:List (Str×Value)}:(A.under (.builtin "type.__call__" ⟨.ref C::us,kw⟩)).units=A.units+1:=by
 first | rfl | simp[Around.under,Code.cUnits,Code.frames,Code.isFrame]
theorem Room.make {k:Nat}{A:Around}(r:Room (k+1) A) (C:Addr) (us:List Value) (kw:List (Str×Value)):Room k (A.under (.builtin "type.__call__" ⟨.ref C::us,kw⟩)) :=
 ⟨r.hd,by have:=r.dp; rw[pM]; omega,by have:=r.un; rw[pN]; omega,r.gd⟩
theorem Room.depth {k:Nat}{A:Around}(r:Room k A):A.depth<recursionLimit:=by have:=r.dp; omega
theorem Room.units {k:Nat}{A:Around}(r:Room k A):A.units+64<cLine:=by have:=r.un; omega
def tNil:TA:=fun _ H Q=>Q [] H
def tCons (ta:TE) (tr:TA):TA:=fun σ H Q=>ta σ H fun x H1=>tr σ H1 fun xs H2=>Q (x::xs) H2
section
variable {X:Cx}{e:Expr}{es:List Expr}{te:TE}{t:TA}{pos:Pos}
theorem ae:PA X [] tNil:=fun _ _ _ _ H Q I h=>Calls.spliced_nil ⟨[],H,I,.nil,h⟩
theorem aa (ha:PE X e te) (hr:PA X es t) (hs:starEach (e::es) X.env=(false,eval e X.env)::starEach es X.env:=by rfl):PA X (e::es) (tCons te t):=by
 intro pos pins s σ H Q I h
 rw[hs]
 show wpAny _ _ (spliced ((false,eval e X.env)::backTo pos (starEach es X.env))) _ _ s
 refine Calls.spliced_cons (thn (ha pins s σ H _ I h) fun u s1 ⟨x,H1,I1,r1,q1⟩=>?_)
 exact thn (hr pos pins s1 σ H1 _ I1 q1) fun us s2 ⟨xs,H2,I2,r2,q2⟩=>⟨x::xs,H2,I2,.cons r1 r2,q2⟩
def tTup (t:TA):TE:=fun σ H Q=>t σ H fun xs H1=>xs.length<=sizeLine/\∀ p,H1 p=none->Q (.ref p) (upd H1 p (.tup xs))
def tLst (t:TA):TE:=fun σ H Q=>t σ H fun xs H1=>xs.length<=sizeLine/\∀ p,H1 p=none->Q (.ref p) (upd H1 p (.lst xs))
theorem aP {x1}(h:PA X es t):PE X (.Tuple es x1 pos) (tTup t):=by
 intro pins s σ H Q I hq
 refine wpAny_Tuple_spliced (thn (h pos pins s σ H _ I hq) fun us s1 ⟨xs,H1,I1,r,z,q⟩=>⟨by rw[<- r.length]; exact z,?_⟩)
 have hf:H1 s1.heap.objs.size=none:=I1.hok.fresh (le_refl _)
 refine⟨.ref s1.heap.objs.size,upd H1 s1.heap.objs.size (.tup xs),I1.laid (t':=s1.toks) (fun b u e=>Heap.get?_push_of_some _ e) (le_refl _) ?_,rfl,q _ hf⟩
 exact⟨z,us,r,⟨_,Heap.get?_push_size _ rfl,rfl,_,rfl⟩⟩
theorem aS (h:PA X es t):PE X (.List es pos) (tLst t):=by
 intro pins s σ H Q I hq
 refine wpAny_List_spliced (thn (h pos pins s σ H _ I hq) fun us s1 ⟨xs,H1,I1,r,z,q⟩=>⟨by rw[<- r.length]; exact z,?_⟩)
 have hf:H1 s1.heap.objs.size=none:=I1.hok.fresh (le_refl _)
 refine⟨.ref s1.heap.objs.size,upd H1 s1.heap.objs.size (.lst xs),I1.laid (t':=s1.toks) (fun b u e=>Heap.get?_push_of_some _ e) (le_refl _) ?_,rfl,q _ hf⟩
 exact⟨z,us,0,r,Heap.get?_push_size _ rfl⟩
end
abbrev Sp:=List V->Hp->VK->XK->Prop
abbrev CXT:=List Env->Hp->Shared->XK->Value->Shared->Prop
structure Env0 (P:Program) (w:World) (K:Frag) (mg:Str->Option Value) (base:Heap) (A:Around) (outer:List Env) (s:Shared) (H:Hp):Prop where
 frames:A.frames=some outer
 mod:Mod K mg base
 bs:∀ b o,base.get? b=some o->s.heap.get? b=some o/\H b=none
 bsz:base.objs.size<=s.heap.objs.size
 funs:s.heap.FunFrames base outer
 frf:∀ b∈frs outer,H b=none
 hok:HOk P w H s.heap
 bare:AllBare s.gens
def CE (outer:List Env) (P:Program) (w:World) (H:Hp) (s:Shared) (Q:VK) (u:Value) (s':Shared):Prop :=
 ∃ v H',s'.os=s.os/\AllBare s'.gens/\Un (frs outer) [] H H' s.heap s'.heap/\HOk P w H' s'.heap/\RelV v u/\Q v H'
def CR (CX:CXT) (outer:List Env) (P:Program) (w:World) (H:Hp) (s:Shared) (Q:VK) (E:XK) (r:Result) (s':Shared):Prop :=
 match r with
 | .ok (.ret u)=>CE outer P w H s Q u s'
 | .ok _=>False
 | .error e=>CX outer H s E e s'
structure FnOk (P:Program) (w:World) (K:Frag) (mg:Str->Option Value) (base:Heap) (CX:CXT) (k:Nat) (f:Addr) (fd:FuncData) (ps:List Str) (sp:Sp):Prop where
 len:∀ vs H Q E,sp vs H Q E->vs.length=ps.length
 run:∀ (A:Around) (outer:List Env) (s:Shared) (H:Hp) (args:Args) (us:List Value) (vs:List V) (Q:VK) (E:XK),Room k A->Env0 P w K mg base A outer s H->BindsTo s fd args (ps.zip us)->Vals vs us->sp vs H Q E ->
  codeAny (model P w) A (.call (.ref f) args) (CR CX outer P w H s Q E) s
theorem FnOk.mono {P:Program}{w:World}{K:Frag}{mg:Str->Option Value}{base:Heap}{CX:CXT}{j k:Nat}{f:Addr}{fd:FuncData}{ps:List Str}{sp:Sp}(F:FnOk P w K mg base CX j f fd ps sp) (h:j<=k) :
  FnOk P w K mg base CX k f fd ps sp:=⟨F.len,fun A outer s H args us vs Q E hr=>F.run A outer s H args us vs Q E (hr.mono h)⟩
theorem Env0.make {P:Program}{w:World}{K:Frag}{mg:Str->Option Value}{base:Heap}{A:Around}{outer:List Env}{s:Shared}{H:Hp}(e:Env0 P w K mg base A outer s H) (C:Addr) (us:List Value) (kw:List (Str×Value)) :
  Env0 P w K mg base (A.under (.builtin "type.__call__" ⟨.ref C::us,kw⟩)) outer s H:=⟨by first | exact e.frames | (simpa [Around.under,Code.envs,Code.isFrame,pushEnvs] using e.frames),e.mod,e.bs,e.bsz,e.funs,e.frf,e.hok,e.bare⟩
section
variable {X:Cx}{pins:List (Addr×Obj)}{σ:St}{H:Hp}{s s':Shared}
theorem Inv.env0 (I:Inv X pins σ H s):Env0 X.prog X.w X.K X.mg X.base X.A X.stack s H :=
 ⟨I.ok.frames,I.ok.mod,I.bs,Nat.le_trans I.ok.bsz I.sz,I.stack,I.stkFree,I.hok,I.bare⟩
theorem Inv.after {Q:VK}{u:Value}(I:Inv X pins σ H s) (h:CE X.stack X.prog X.w H s Q u s'):EP X pins σ Q u s':=by
 obtain⟨v,H',os,bare,un,hok,r,q⟩:=h
 obtain⟨hh,g,d,t,os'⟩:=s'
 obtain rfl:os'=s.os:=os
 exact⟨v,H',I.call (h':=hh) (g':=g) (d':=d) (t':=t) (ch:=[]) un hok bare (fun b z=>absurd z (by simp)),r,q⟩
end
def ma (sp:Sp) (dvs:List V) (E:XK) (t:TA):TE:=fun σ H Q=>t σ H fun vs H1=>sp (vs++dvs) H1 Q E
def tMake (C:Addr) (sp:Sp) (dvs:List V) (E:XK) (t:TA):TE:=fun σ H Q=>t σ H fun vs H1=>∀ x dx,H1 x=none->H1 dx=none->dx≠x ->
 sp (.ref x::(vs++dvs)) (upd (upd H1 dx (.own x)) x (.ins C dx [])) (fun v H2=>v=.non/\Q (.ref x) H2) E
def Binds (K:Frag) (fd:FuncData) (ps:List Str) (ds:List Value):Prop :=
 ∀ (s:Shared) (us:List Value),K.In s.heap->(us++ds).length=ps.length->BindsTo s fd ⟨us,[]⟩ (ps.zip (us++ds))
theorem Binds.all {K:Frag}{fd:FuncData}{ps:List Str}(h:∀ us:List Value,us.length=ps.length->bindArgs fd ⟨us,[]⟩=pure (ps.zip us)):Binds K fd ps []:=fun s us _ hl=>by
 rw[append_nil] at hl ⊢
 exact .of_eq (h us hl)
def jv (CX:CXT) (X:Cx) (E:XK):Prop:=∀ (pins:List (Addr×Obj)) (σ:St) (H:Hp) (s:Shared) (e:Value) (s':Shared),Inv X pins σ H s->CX X.stack H s E e s'->X.xe e s'
section
variable {X:Cx}{CX:CXT}{k:Nat}{f C:Addr}{fd:FuncData}{ps:List Str}{sp:Sp}{dvs:List V}{ds:List Value}{E:XK}{x m:Str}{p pos apos:Pos}{e o:Expr}{es:List Expr}{ta:TE}{t:TA}
theorem lF {pins:List (Addr×Obj)}{σ:St}{H:Hp}{s:Shared}{Q:VK}{us:List Value}{vs:List V}(F:FnOk X.prog X.w X.K X.mg X.base CX k f fd ps sp) (hr:Room k X.A) (hb:Binds X.K fd ps ds) (hd:Vals dvs ds) (hx:jv CX X E)
  (I:Inv X pins σ H s) (r:Vals vs us) (h:sp (vs++dvs) H Q E):wpAny (model X.prog X.w) X.A (call (.ref f) us) (EP X pins σ Q) X.xe s:=by
 have r2:Vals (vs++dvs) (us++ds):=r.append hd
 have hl:(us++ds).length=ps.length:=by rw[<- r2.length]; exact F.len _ _ _ _ h
 refine wpAny_call (codeAny_mono (F.run X.A X.stack s H ⟨us,[]⟩ (us++ds) (vs++dvs) Q E hr I.env0 (hb s us I.kIn hl) r2 h) fun r s' hq=>?_)
 cases r with
 | error e=>exact hx pins σ H s e s' I hq
 | ok fl =>
  cases fl with
  | ret u=>exact I.after hq
  | next=>exact False.elim hq
  | brk=>exact False.elim hq
  | cont=>exact False.elim hq
theorem qX (F:FnOk X.prog X.w X.K X.mg X.base CX k f fd ps sp) (hr:Room k X.A) (hg:Gl X x) (hm:X.mg x=some (.ref f)) (hk:keepIn X.K (.ref f)=true) (hb:Binds X.K fd ps ds) (hd:Vals dvs ds) (hx:jv CX X E)
  (ha:PA X (e::es) t) (hdb:(x == ("__debug__":Str))=false:=by decide) (he:starEach (e::es) X.env=(false,eval e X.env)::starEach es X.env:=by rfl) (hpl:(backTo pos (starEach es X.env)).any (·.1)=false:=by rfl) :
  PE X (.Call (.Name x p) (e::es) [] pos) (ma sp dvs E t):=by
 intro pins s σ H Q I h
 refine wpAny_Call_Name_kw (dU I hg hm ?_ hdb)
 refine PySem.W.callWith_K (h₀:=X.base) I.ok.mod.kin hk (thn (ha pos pins s σ H _ I h) fun us s1 ⟨vs,H1,I1,r,q⟩=>⟨I1.kIn,?_⟩) he hpl
 exact lF F hr hb hd hx I1 r q
theorem pe_call0 (F:FnOk X.prog X.w X.K X.mg X.base CX k f fd ps sp) (hr:Room k X.A) (hg:Gl X x) (hm:X.mg x=some (.ref f)) (hk:keepIn X.K (.ref f)=true) (hb:Binds X.K fd ps ds) (hd:Vals dvs ds) (hx:jv CX X E)
  (hdb:(x == ("__debug__":Str))=false:=by decide):PE X (.Call (.Name x p) [] [] pos) (ma sp dvs E tNil):=by
 intro pins s σ H Q I h
 refine wpAny_Call_Name_kw (dU I hg hm ?_ hdb)
 exact PySem.W.callWith_K0 I.kIn hk (lF (us:=[]) F hr hb hd hx I .nil h)
structure Mk (K:Frag) (C f:Addr):Prop where
 makes:makesIn K C=true
 init:findIn K (.ref C) "__init__"=some (some (.ref f))
 fn:isFn K (.ref f)=true
 kp:keepIn K (.ref C)=true
theorem run_make {pins:List (Addr×Obj)}{σ:St}{H:Hp}{s:Shared}{Q:VK}{us:List Value}{vs:List V}(M:Mk X.K C f) (F:FnOk X.prog X.w X.K X.mg X.base CX k f fd ps sp) (hr:Room (k+1) X.A) (hb:Binds X.K fd ps ds) (hd:Vals dvs ds)
  (hx:jv CX X E) (I:Inv X pins σ H s) (r:Vals vs us)
  (h:∀ x dx,H x=none->H dx=none->dx≠x->sp (.ref x::(vs++dvs)) (upd (upd H dx (.own x)) x (.ins C dx [])) (fun v H2=>v=.non/\Q (.ref x) H2) E) :
  wpAny (model X.prog X.w) X.A (call (.ref C) us) (EP X pins σ Q) X.xe s:=by
 have hq:=h (s.heap.objs.size+1) s.heap.objs.size (I.hok.fresh (Nat.le_succ _)) (I.hok.fresh (le_refl _)) (ne_of_lt (lt_succ_self _))
 have I2:=Inv.made (C:=C) I
 have r2:Vals (V.ref (s.heap.objs.size+1)::(vs++dvs)) (Value.ref (s.heap.objs.size+1)::(us++ds)):=.cons rfl (r.append hd)
 have hl:(Value.ref (s.heap.objs.size+1)::us++ds).length=ps.length:=by
  have e:=r2.length
  rw[F.len _ _ _ _ hq] at e
  exact e.symm
 refine wpAny_call (make_map (f:=f) I.kIn M.makes M.init (beq_iff_eq.mp M.fn) (codeAny_mono (F.run _ X.stack _ _ ⟨Value.ref (s.heap.objs.size+1)::us,[]⟩ (Value.ref (s.heap.objs.size+1)::(us++ds)) _ _ E (hr.make C us [])
  (I2.env0.make C us []) (hb _ (Value.ref (s.heap.objs.size+1)::us) I2.kIn hl) r2 hq) fun r s' hq'=>?_))
 cases r with
 | error e=>exact hx pins σ _ _ e s' I2 hq'
 | ok fl =>
  cases fl with
  | ret u =>
   obtain⟨v,H',I3,rv,ev,q3⟩:=I2.after hq'
   subst ev
   exact⟨rv,⟨V.ref (s.heap.objs.size+1),H',I3,rfl,q3⟩⟩
  | next=>exact False.elim hq'
  | brk=>exact False.elim hq'
  | cont=>exact False.elim hq'
theorem pe_make (M:Mk X.K C f) (F:FnOk X.prog X.w X.K X.mg X.base CX k f fd ps sp) (hr:Room (k+1) X.A) (hg:Gl X x) (hm:X.mg x=some (.ref C)) (hb:Binds X.K fd ps ds) (hd:Vals dvs ds) (hx:jv CX X E)
  (ha:PA X (e::es) t) (hdb:(x == ("__debug__":Str))=false:=by decide) (he:starEach (e::es) X.env=(false,eval e X.env)::starEach es X.env:=by rfl) (hpl:(backTo pos (starEach es X.env)).any (·.1)=false:=by rfl) :
  PE X (.Call (.Name x p) (e::es) [] pos) (tMake C sp dvs E t):=by
 intro pins s σ H Q I h
 refine wpAny_Call_Name_kw (dU I hg hm ?_ hdb)
 refine PySem.W.callWith_K (h₀:=X.base) I.ok.mod.kin M.kp (thn (ha pos pins s σ H _ I h) fun us s1 ⟨vs,H1,I1,r,q⟩=>⟨I1.kIn,?_⟩) he hpl
 exact run_make M F hr hb hd hx I1 r q
end
section
variable {X:Cx}{CX:CXT}{k:Nat}{f C:Addr}{fd:FuncData}{ps ks:List Str}{sp:Sp}{E:XK}{x m:Str}{p pos apos kpos:Pos}{e o:Expr}{es:List Expr}{kws:List Keyword}{te ta:TE}{t tk:TA}{nm:Option Str}
variable {g:List Value->List Value->List Value}{gV:List V->List V->List V}
end
structure FnScope (N P:List Str) (sc:Scope):Prop where
 kind:sc.kind=.function
 co:sc.isCoroutine=false
 gen:sc.isGenerator=false
 nd:N.Nodup
 pre:N.take P.length=P
 par:∀ x∈P,sc.names.lookup x=some .local\/sc.names.lookup x=some .cell
 nofree:∀ y∈sc.names,y.2≠.free
theorem mv {kindOf:Str->Option NameKind}{x:Str}:∀ {binds:List (Str×Value)}{m:Str->Option Value},(∀ v,(x,v)∉binds)->bindL kindOf binds m x=m x
 | [],_,_=>rfl
 | (n,v)::r,m,h=>by
  unfold bindL
  rw[mv fun w hw=>h w (mem_cons_of_mem _ hw)]
  split
  ·have:x≠n:=by rintro rfl; exact h v mem_cons_self
   simp[this]
  ·rfl
theorem kT {kindOf:Str->Option NameKind}{x:Str}:∀ {binds:List (Str×Value)}{m:Str->Option Value},(∀ v,(x,v)∉binds)->bindC kindOf binds m x=m x
 | [],_,_=>rfl
 | (n,v)::r,m,h=>by
  unfold bindC
  rw[kT fun w hw=>h w (mem_cons_of_mem _ hw)]
  split
  ·rfl
  ·have:x≠n:=by rintro rfl; exact h v mem_cons_self
   simp[this]
theorem kU {kindOf:Str->Option NameKind}{x:Str}{v:Value}:∀ {P:List Str}{vs:List Value}{i:Nat}{m:Str->Option Value},P.Nodup->P[i]?=some x->vs[i]?=some v->kindOf x=some .local ->
  bindL kindOf (P.zip vs) m x=some v
 | [],_,_,_,_,h,_,_=>by simp at h
 | _::_,[],_,_,_,_,h,_=>by simp at h
 | p::P,w::vs,0,m,nd,h1,h2,hk=>by
  simp at h1 h2; subst h1; subst h2
  show bindL kindOf ((p,w)::P.zip vs) m p=_
  unfold bindL
  rw[mv fun v hv=>(List.nodup_cons.mp nd).1 (List.of_mem_zip hv).1,if_pos hk]
  simp
 | p::P,w::vs,i+1,m,nd,h1,h2,hk=>by
  show bindL kindOf ((p,w)::P.zip vs) m x=_
  unfold bindL
  exact kU (i:=i) (List.nodup_cons.mp nd).2 (by simpa using h1) (by simpa using h2) hk
theorem my {kindOf:Str->Option NameKind}{x:Str}{v:Value}:∀ {P:List Str}{vs:List Value}{i:Nat}{m:Str->Option Value},P.Nodup->P[i]?=some x->vs[i]?=some v->kindOf x≠some .local ->
  bindC kindOf (P.zip vs) m x=some v
 | [],_,_,_,_,h,_,_=>by simp at h
 | _::_,[],_,_,_,_,h,_=>by simp at h
 | p::P,w::vs,0,m,nd,h1,h2,hk=>by
  simp at h1 h2; subst h1; subst h2
  show bindC kindOf ((p,w)::P.zip vs) m p=_
  unfold bindC
  rw[kT fun v hv=>(List.nodup_cons.mp nd).1 (List.of_mem_zip hv).1,if_neg hk]
  simp
 | p::P,w::vs,i+1,m,nd,h1,h2,hk=>by
  show bindC kindOf ((p,w)::P.zip vs) m x=_
  unfold bindC
  exact my (i:=i) (List.nodup_cons.mp nd).2 (by simpa using h1) (by simpa using h2) hk
def kC (N:List Str) (vs:List V):St:=vs.map some++List.replicate (N.length-vs.length) none
def gW (CX:CXT) (P:Program) (w:World) (K:Frag) (mg:Str->Option Value) (base:Heap) (N:List Str) (qual:Str) (scope:Scope) (f:Addr) (cd:Value) (A:Around) (outer:List Env) (s:Shared) (H:Hp) (E:XK):Cx where
 prog:=P
 w:=w
 K:=K
 mg:=mg
 base:=base
 A:=A.deeper (envOfC qual scope s.heap.objs.size f cd)
 N:=N
 s₀:=s
 H₀:=H
 env:=envOfC qual scope s.heap.objs.size f cd
 outer:=outer
 stack:=envOfC qual scope s.heap.objs.size f cd::outer
 ex:=[]
 calm:=true
 fn:=fun _=>true
 pn:=[]
 xe:=fun e s'=>wpAny (model P w) (A.deeper (envOfC qual scope s.heap.objs.size f cd)) (leaving (envOfC qual scope s.heap.objs.size f cd) e) (fun _ s''=>CX outer H s E e s'') (fun e' s''=>CX outer H s E e' s'') s'
theorem oG {sc:Scope}{n:Nat}{x:Str}(h:sc.names.lookup x=some .cell):∃ c,(cellsFrom n sc.names []).lookup x=some c:=by
 have q:=PySem.W.cellsFrom_some sc.names n [] (.inl h)
 exact Option.isSome_iff_exists.mp q
theorem ql {CX:CXT}{P:Program}{w:World}{K:Frag}{mg:Str->Option Value}{base:Heap}{N ps:List Str}{qual:Str}{scope:Scope}{f:Addr}{cd:Value}{A:Around}{outer:List Env}{s s1:Shared}{H:Hp}{E:XK}{us:List Value}{vs:List V}
  (S:FnScope N ps scope) (hd:A.handled=none) (e0:Env0 P w K mg base A outer s H) (hl:vs.length=ps.length) (r:Vals vs us)
  (x:InCallC s s.heap.objs.size (bindL (envOfC qual scope s.heap.objs.size f cd).kindOf (ps.zip us) fun _=>none) (cellsFrom (s.heap.objs.size+1) scope.names []) (bindC (envOfC qual scope s.heap.objs.size f cd).kindOf (ps.zip us) fun _=>none) s1) :
  Inv (gW CX P w K mg base N qual scope f cd A outer s H E) [] (kC N vs) H s1:=by
 have hpl:ps.length<=N.length:=by have:=congrArg List.length S.pre; rw[length_take] at this; omega
 obtain⟨h1,tk,rfl,hk⟩:=x.done
 have noA:∀ b:Addr,b∉(gW CX P w K mg base N qual scope f cd A outer s H E).ex:=fun b z=>absurd (show b∈([]:List Addr) from z) (by simp)
 refine⟨⟨e0.mod,S.kind,rfl,rfl,le_refl _,fun y z c h1 h2=>?_,fun y hy=>?_,fun y c _ h=>?_,fun _=>hd,Around.frames_deeper e0.frames,.inr ⟨rfl,rfl⟩,fun b z=>absurd z (noA b),e0.bs,e0.bsz,fun b _ _=>noA b,fun b z=>absurd z (noA b),e0.funs,e0.frf⟩,
  rfl,e0.bare,Un.kept hk,⟨_,x.toInCall.ns,fun i y v h1 h2 h3=>?_⟩,fun y c h=>⟨_,x.cell y c h⟩,e0.hok.fresh (le_refl _),fun y c h=>?_,fun p hp=>absurd (show p∈([]:List (Addr×Obj)) from hp) (by simp),e0.hok.kept hk,?_⟩
 ·exact name_of_addr x.apart (PySem.mem_of_lookup h1) (PySem.mem_of_lookup h2)
 ·have hy:scope.names.lookup y=some .cell\/scope.names.lookup y=some .free:=hy
  rcases hy with hy | hy
  ·exact oG hy
  ·exact absurd rfl (S.nofree _ (PySem.mem_of_lookup hy))
 ·exact Nat.le_of_lt (x.above y c (PySem.mem_of_lookup h))
 ·have hi:i<vs.length:=by
   unfold kC at h2
   by_cases hi:i<vs.length
   ·exact hi
   ·rw[List.getElem?_append_right (by simpa using hi)] at h2
    rw[List.getElem?_replicate] at h2
    split at h2 <;> cases h2
  have ha:vs[i]?=some v:=by
   unfold kC at h2
   rw[List.getElem?_append_left (by simpa using hi),List.getElem?_map] at h2
   cases e:vs[i]? with
   | none=>rw[e] at h2; cases h2
   | some a=>rw[e] at h2; cases h2; rfl
  obtain⟨u,hu,rv⟩:=r.get ha
  have hp:ps[i]?=some y:=by
   rw[<- S.pre,List.getElem?_take_of_lt (by omega)]; exact h1
  have ndP:ps.Nodup:=by rw[<- S.pre]; exact S.nd.sublist (List.take_sublist _ _)
  refine⟨u,rv,?_⟩
  rcases S.par y (mem_of_getElem? hp) with k | k
  ·exact .inl ⟨k,kU ndP hp hu k⟩
  ·obtain⟨c,e⟩:=oG (n:=s.heap.objs.size+1) k
   refine .inr ⟨.inl k,c,e,?_⟩
   have q:=x.cell y c e
   rw[my ndP hp hu (by show scope.names.lookup y≠_; rw[k]; decide)] at q
   exact q
 ·exact e0.hok.fresh (Nat.le_of_lt (x.above y c (PySem.mem_of_lookup h)))
 ·unfold kC
  show _=N.length
  rw[length_append,length_map,length_replicate]
  omega
theorem fn_of {CX:CXT}{P:Program}{w:World}{K:Frag}{mg:Str->Option Value}{base:Heap}{k:Nat}{f:Addr}{name qual:Str}{params:Arguments}{body:List Stmt}{scope:Scope}{dV kV doc pm cdv ct oc:Value}{an od:Option Addr}
  {osl:Array (Option Value)} {N ps:List Str} {sp:Sp} (lk:K.lookup f=some ⟨oc,od,.func (fnOf name qual params body scope dV kV doc pm an cdv ct),osl⟩) (hcd:codeIn K cdv qual=true) (S:FnScope N ps scope)
  (len:∀ vs H Q E,sp vs H Q E->vs.length=ps.length)
  (hbody:∀ (A:Around) (outer:List Env) (s:Shared) (H:Hp) (vs:List V) (Q:VK) (E:XK),Room k (A.deeper (envOfC qual scope s.heap.objs.size f cdv))->sp vs H Q E ->
   ∃ t,PSs (gW CX P w K mg base N qual scope f cdv A outer s H E) body t/\t { nx:=fun _ H'=>Q .non H',rt:=Q } (kC N vs) H) :
  FnOk P w K mg base CX (k+1) f (fnOf name qual params body scope dV kV doc pm an cdv ct) ps sp:=by
 refine⟨len,fun A outer s H args us vs Q E hr e0 hb r hsp=>?_⟩
 have hl:=len _ _ _ _ hsp
 have KX:K.In s.heap:=e0.mod.kin.keeps fun b o e=>(e0.bs b o e).1
 have lim:s.heap.NoLimit:=e0.mod.nolimit.keeps fun b o e=>(e0.bs b o e).1
 have hkind:∀ y∈ps.zip us,scope.names.lookup y.1=some .local\/(scope.names.lookup y.1=some .cell/\((cellsFrom (s.heap.objs.size+1) scope.names []).lookup y.1).isSome=true):=fun ⟨n,v⟩ hy=>by
  rcases S.par n (List.of_mem_zip hy).1 with q | q
  ·exact .inl q
  ·exact .inr ⟨q,PySem.W.cellsFrom_some _ _ _ (.inl q)⟩
 refine codeAny_call_function hr.depth (KX _ _ lk) rfl S.co S.gen rfl (PySem.W.codeRec_of KX hcd) (hb _ _ _ _ ?_)
 refine wpAny_newFunctionEnv_cells S.kind hkind fun env he s1 x=>?_
 subst he
 refine⟨lim.keeps x.toInCall.keep,codeAny_func ?_⟩
 obtain⟨t,ht,hq⟩:=hbody A outer s H vs Q E (hr.deeper _) hsp
 have I:Inv (gW CX P w K mg base N qual scope f cdv A outer s H E) [] (kC N vs) H s1:=ql S hr.hd e0 hl r x
 refine wpAny_mono (ht [] s1 (kC N vs) H _ I hq) (fun fl s' hs=>?_) fun e s' hs=>hs
 have fin:∀ {σ':St} {H':Hp} {v:V} {u:Value},Inv (gW CX P w K mg base N qual scope f cdv A outer s H E) [] σ' H' s'->RelV v u->Q v H'->CE outer P w H s Q u s' :=
  fun {σ' H' v u} J rv q=>⟨v,H',J.os,J.bare,J.base,J.hok,rv,q⟩
 cases fl with
 | ret u =>
  obtain⟨v,σ',H',J,rv,q⟩:=hs
  exact fin J rv q
 | next =>
  obtain⟨σ',H',J,q⟩:=hs
  exact fin (v:=V.non) (u:=Value.none) J rfl q
 | brk =>
  obtain⟨_,_,_,q⟩:=hs
  exact False.elim q
 | cont =>
  obtain⟨_,_,_,q⟩:=hs
  exact False.elim q
end L2
namespace L2
open PySem PySem.Spec PyProof.Rows
section
variable {X:Cx}{x:Str}{p pos:Pos}{e:Expr}{es:List Expr}{t:TA}{id T:String}{r:List V->Hp->VK->Prop}
def tCB (r:List V->Hp->VK->Prop) (t:TA):TE:=fun σ H Q=>t σ H fun vs H1=>r vs H1 Q
theorem aG (hc:fD X (.builtin id) r) (hg:Gl X x) (hm:X.mg x=none) (hv:bootBuiltins x=some (.builtin id)) (ha:PA X (e::es) t) (hn:x≠"__name__":=by decide) (hdb:(x == ("__debug__":Str))=false:=by decide)
  (he:starEach (e::es) X.env=(false,eval e X.env)::starEach es X.env:=by rfl) (hpl:(backTo pos (starEach es X.env)).any (·.1)=false:=by rfl):PE X (.Call (.Name x p) (e::es) [] pos) (tCB r t):=by
 intro pins s σ H Q I h
 refine wpAny_Call_Name_kw (gQ I hg hm hv ?_ hn hdb)
 exact PyProof.Rows.callWith_builtin1 (thn (ha pos pins s σ H _ I h) fun us s1 ⟨vs,H1,I1,r1,q1⟩=>hc pins s1 σ H1 vs us Q I1 r1 q1) he hpl
theorem bw (hc:fD X (.type T) r) (hg:Gl X x) (hm:X.mg x=none) (hv:bootBuiltins x=some (.type T)) (ha:PA X (e::es) t) (hn:x≠"__name__":=by decide) (hdb:(x == ("__debug__":Str))=false:=by decide)
  (he:starEach (e::es) X.env=(false,eval e X.env)::starEach es X.env:=by rfl) (hpl:(backTo pos (starEach es X.env)).any (·.1)=false:=by rfl):PE X (.Call (.Name x p) (e::es) [] pos) (tCB r t):=by
 intro pins s σ H Q I h
 refine wpAny_Call_Name_kw (gQ I hg hm hv ?_ hn hdb)
 exact PyProof.Rows.callWith_type1 (thn (ha pos pins s σ H _ I h) fun us s1 ⟨vs,H1,I1,r1,q1⟩=>hc pins s1 σ H1 vs us Q I1 r1 q1) he hpl
end
end L2
namespace HT
open PySem PyProof.Rows
section
open PySem.SeqAt
open PySem.AutoSeq1 (wpAny_loadPart')
open PySem.MeetsSeq PySem.MeetsSeq2 PySem.MeetsSeq3
end
section
variable {prog:Program}{w:World}{A:Around}{E:Value->Shared->Prop}{s:Shared}
def sIx (n d:Nat):Option Int->Nat
 | none=>d
 | some v=>if v<0 then (v+(n:Int)).toNat else min v.toNat n
end
end HT
namespace L2
open PySem PySem.Spec PyProof.Rows
abbrev TO:=St->Hp->(Option Int->Hp->Prop)->Prop
def PO (X:Cx) (e:Option Expr) (t:TO):Prop :=
 ∀ (pins:List (Addr×Obj)) (s:Shared) (σ:St) (H:Hp) (Q:Option Int->Hp->Prop),Inv X pins σ H s->t σ H Q ->
  wpAny (model X.prog X.w) X.A (evalPart e X.env) (fun u s'=>∃ o H',Inv X pins σ H' s'/\IsPart u o/\Q o H') X.xe s
def tNoPart:TO:=fun _ H Q=>Q none H
def tPart (t:TE):TO:=fun σ H Q=>t σ H fun x H1=>∃ i,x=.int i/\Q (some i) H1
section
variable {X:Cx}{e:Expr}{te:TE}{lo hi:Option Expr}{tl th:TO}{pos p2:Pos}
theorem fq:PO X none tNoPart:=by
 intro pins s σ H Q I h
 rw[evalPart_none]
 exact wpAny_pure ⟨none,H,I,.none,h⟩
theorem cT (h:PE X e te):PO X (some e) (tPart te):=by
 intro pins s σ H Q I hw
 rw[evalPart_some]
 refine thn (h pins s σ H _ I hw) fun u s1 ⟨x,H1,I1,r1,q1⟩=>?_
 obtain⟨i,rfl,q⟩:=q1
 obtain⟨t,rfl⟩:=r1
 exact⟨some i,H1,I1,.int i t,q⟩
def SlR (X:Cx) (r:V->Option Int->Option Int->Hp->VK->Prop):Prop :=
 ∀ (pins:List (Addr×Obj)) (s:Shared) (σ:St) (H:Hp) (x:V) (v vl vu:Value) (lo hi:Option Int) (sl:Addr) (Q:VK),Inv X pins σ H s->RelV x v->s.heap.IsSliceOf sl vl vu .none->IsPart vl lo->IsPart vu hi->r x lo hi H Q ->
  ∃ T id,typeLookup (.type T) "__getitem__"=pure (some (.builtin id))/\s.TypeIs v T/\wpAny (model X.prog X.w) X.A (getItem v (.ref sl)) (EP X pins σ Q) X.xe s
def tSl (r:V->Option Int->Option Int->Hp->VK->Prop) (te:TE) (tl th:TO):TE:=fun σ H Q=>te σ H fun x H1=>tl σ H1 fun l H2=>th σ H2 fun u H3=>r x l u H3 Q
theorem cS {r:V->Option Int->Option Int->Hp->VK->Prop}(hr:SlR X r) (he:PE X e te) (hl:PO X lo tl) (hu:PO X hi th):PE X (.Subscript e (.Slice lo hi none p2) pos) (tSl r te tl th):=by
 intro pins s σ H Q I h
 refine Subscript_ (thn (he pins s σ H _ I h) fun v s1 ⟨x,H1,I1,r1,q1⟩=>?_)
 refine wpAny_Slice (thn (hl pins s1 σ H1 _ I1 q1) fun vl s2 ⟨l,H2,I2,pl,q2⟩=>thn (hu pins s2 σ H2 _ I2 q2) fun vu s3 ⟨u,H3,I3,pu,q3⟩=>?_)
 rw[evalPart_none]
 refine wpAny_pure ?_
 have I4:Inv X pins σ H3 { s3 with heap:=s3.heap.push { cls:=.type "slice",data:=.fields #[vl,vu,.none] } }:=I3.kept (t':=s3.toks) fun b ob q=>Heap.get?_push_of_some _ q
 obtain⟨T,id,hT,ht,hg⟩:=hr pins { s3 with heap:=s3.heap.push { cls:=.type "slice",data:=.fields #[vl,vu,.none] } } σ H3 x v vl vu l u s3.heap.objs.size Q I4 r1 (Heap.IsSliceOf.new ..) pl pu q3
 show wpAny (model X.prog X.w) X.A (subscriptTail e (.Slice lo hi none p2) v (.ref s3.heap.objs.size)) (EP X pins σ Q) X.xe { s3 with heap:=s3.heap.push { cls:=.type "slice",data:=.fields #[vl,vu,.none] } }
 exact tail_any (ops:=[.ref s3.heap.objs.size,v]) ht hT hg (by with_unfolding_all rfl)
def kN (xs:List V) (lo hi:Option Int):List V:=(xs.drop (HT.sIx xs.length 0 lo)).take (HT.sIx xs.length xs.length hi-HT.sIx xs.length 0 lo)
theorem nQ (xs:List V) (lo hi:Option Int):(kN xs lo hi).length<=xs.length:=by
 unfold kN
 rw[length_take,length_drop]
 omega
end
end L2
namespace L2
open PySem PySem.Spec PyProof.Rows
def ixN (n:Nat) (i:Int):Option Nat:=if 0<=i then (if i<n then some i.toNat else none) else if -(n:Int)<=i then some (i+n).toNat else none
def atI {α:Type}(xs:List α) (i:Int):Option α:=(ixN xs.length i).bind fun j=>xs[j]?
theorem q9 {n:Nat}{i:Int}{j:Nat}(h:ixN n i=some j):seqIndex? i n=some j/\j<n/\-(n:Int)<=i/\i<n:=by
 unfold ixN at h
 by_cases h0:0<=i
 ·rw[if_pos h0] at h
  by_cases h1:i<n
  ·rw[if_pos h1] at h
   have e:i.toNat=j:=Option.some.inj h
   exact⟨by rw[seqIndex_of h0 h1,e],by omega,by omega,h1⟩
  ·rw[if_neg h1] at h; cases h
 ·rw[if_neg h0] at h
  by_cases h1:-(n:Int)<=i
  ·rw[if_pos h1] at h
   have e:(i+n).toNat=j:=Option.some.inj h
   exact⟨by rw[seqIndex_neg (by omega) h1,e],by omega,h1,by omega⟩
  ·rw[if_neg h1] at h; cases h
theorem mP {α:Type}{xs:List α}{i:Int}{v:α}(h:atI xs i=some v):∃ j,seqIndex? i xs.length=some j/\xs[j]?=some v/\j<xs.length/\-(xs.length:Int)<=i/\i<xs.length:=by
 unfold atI at h
 cases e:ixN xs.length i with
 | none=>rw[e] at h; cases h
 | some j =>
  rw[e] at h
  obtain⟨h1,h2,h3,h4⟩:=q9 e
  exact⟨j,h1,h,h2,h3,h4⟩
theorem bC {α:Type}{xs:List α}{j:Nat}{v:α}(h:xs[j]?=some v):atI xs (j:Int)=some v:=by
 have hj:j<xs.length:=(List.getElem?_eq_some_iff.mp h).1
 have e:ixN xs.length (j:Int)=some j:=by
  unfold ixN
  rw[if_pos (by omega),if_pos (by omega)]; simp
 unfold atI; rw[e]; exact h
theorem oy {α:Type}(xs:List α) (v:α):atI (xs++[v]) (-1)=some v:=by
 have hl:(xs++[v]).length=xs.length+1:=by simp
 have e:ixN (xs++[v]).length (-1)=some xs.length:=by
  unfold ixN
  rw[hl,if_neg (by decide),if_pos (by omega)]
  congr 1
  omega
 unfold atI
 rw[e]
 show (xs++[v])[xs.length]?=some v
 simp
def qp (b:Expr):Prop:=∀ o i,subscripted b false o i=operate [o,i] (getItem o i)
def IxR (X:Cx) (r:R2):Prop :=
 ∀ (value slice:Expr) (pins:List (Addr×Obj)) (s:Shared) (σ:St) (H:Hp) (x y:V) (v u:Value) (Q:VK),Inv X pins σ H s->RelV x v->RelV y u->r x y H Q ->
  subscripted slice false v u=operate [v,u] (getItem v u)->wpAny (model X.prog X.w) X.A (subscriptTail value slice v u) (EP X pins σ Q) X.xe s
def MtR (X:Cx) (id:String) (r:V->List V->Hp->VK->Prop):Prop :=
 ∀ (pins:List (Addr×Obj)) (s:Shared) (σ:St) (H:Hp) (x:V) (xs:List V) (v:Value) (us:List Value) (Q:VK),Inv X pins σ H s->RelV x v->Vals xs us->r x xs H Q ->
  wpAny (model X.prog X.w) X.A (call (.builtin id) (v::us)) (EP X pins σ Q) X.xe s
section
variable {X:Cx}{a b:Expr}{ta tb:TE}{pos:Pos}
theorem aH {r:R2}(hr:IxR X r) (ha:PE X a ta) (hb:PE X b tb) (hs:qp b):PE X (.Subscript a b pos) (tOp r ta tb):=by
 intro pins s σ H Q I h
 exact Subscript_ (binT ha hb I h fun v u s2 x y H2 I2 rx ry q=>hr a b pins s2 σ H2 x y v u Q I2 rx ry q (hs _ _))
def rIxL (K:Frag):R2:=fun x y H Q=>∃ p xs i v,x=.ref p/\y=.int i/\SqL K H p xs/\atI xs i=some v/\Q v H
def rIxT (K:Frag):R2:=fun x y H Q=>∃ p xs i v,x=.ref p/\y=.int i/\SqT K H p xs/\atI xs i=some v/\Q v H
def rIxS:R2:=fun x y H Q=>∃ z i c,x=.str z/\y=.int i/\z.length<=sizeLine/\atI z.cps.toList i=some c/\Q (.str ⟨#[c]⟩) H
theorem aD:IxR X (rIxL X.K):=by
 intro value slice pins s σ H x y v u Q I rx ry h hs
 obtain⟨p,xs,i,z,rfl,rfl,hq,he,q⟩:=h
 cases rx
 obtain⟨t,rfl⟩:=ry
 obtain⟨its,r,pl,hz⟩:=I.list hq
 obtain⟨j,h1,h2,h3,h4,h5⟩:=mP he
 obtain⟨w,ew,rw'⟩:=r.get h2
 have hl:=r.length
 have hn:=jU
 have fin:EP X pins σ Q w s:=⟨z,H,I,rw',q⟩
 by_cases h0:0<=i
 ·have hj:i.toNat=j:=by
   rw[seqIndex_of h0 h5] at h1
   exact Option.some.inj h1
  exact item_listR pl.isList h0 (by omega) (by rw[hj]; simpa using ew) fin hs
 ·have hj:(i+(its.toArray.size:Int)).toNat=j:=by
   rw[seqIndex_neg (by omega) h4] at h1
   rw[size_toArray,<- hl]
   exact Option.some.inj h1
  exact subscriptTail_builtinR (x:=w) pl.isList.typeIs slot_list_getitem.lookup
   (wpAny_getItem_list_neg (Q:=fun r s'=>r=w/\EP X pins σ Q r s') pl.isList (by omega) (by rw[size_toArray] <;> omega) (by omega) (by rw[hj]; simpa using ew) ⟨rfl,fin⟩) hs
theorem bj:IxR X (rIxT X.K):=by
 intro value slice pins s σ H x y v u Q I rx ry h hs
 obtain⟨p,xs,i,z,rfl,rfl,hq,he,q⟩:=h
 cases rx
 obtain⟨t,rfl⟩:=ry
 obtain⟨its,r,pl,hz⟩:=I.tuple hq
 obtain⟨j,h1,h2,h3,h4,h5⟩:=mP he
 obtain⟨w,ew,rw'⟩:=r.get h2
 have hl:=r.length
 have hn:=jU
 have fin:EP X pins σ Q w s:=⟨z,H,I,rw',q⟩
 exact subscriptTail_builtinR (x:=w) pl.typeIs slot_tuple_getitem.lookup
  (getItem_tuple (j:=j) (Q:=fun r s'=>r=w/\EP X pins σ Q r s') pl (by omega) (by omega) (by rw[size_toArray,<- hl]; exact h1) (by simpa using ew) ⟨rfl,fin⟩) hs
theorem ix_str:IxR X rIxS:=by
 intro value slice pins s σ H x y v u Q I rx ry h hs
 obtain⟨z,i,c,rfl,rfl,hz,he,q⟩:=h
 obtain⟨t,rfl⟩:=rx
 obtain⟨t',rfl⟩:=ry
 obtain⟨j,h1,h2,h3,h4,h5⟩:=mP he
 have hl:z.cps.toList.length=z.length:=by simp[Str.length]
 rw[hl] at h1 h4 h5
 have hn:=jU
 exact tail_any (typeIs_str s z t) slot_str_getitem.lookup (getItem_str (c:=c) (by
  have e1:decide (i < -(2^63:Int))=false:=decide_eq_false (by omega)
  have e2:decide (i ≥ 2^63)=false:=decide_eq_false (by omega)
  rw[e1,e2,Bool.or_false]) (by rw[h1]; simpa using h2) ⟨.str ⟨#[c]⟩,H,I.tok _,⟨_,rfl⟩,q⟩) hs
theorem pH (its:List Value) (n j:Nat) (u:Value):Obj.mapSeq (·.setIfInBounds j u) { cls:=.type "list",data:=.seq its.toArray n }={ cls:=.type "list",data:=.seq (its.set j u).toArray n }:=by
 simp[Obj.mapSeq]
theorem Inv.lst {pins:List (Addr×Obj)}{σ:St}{H:Hp}{s:Shared}{p:Addr}{xs:List V}(I:Inv X pins σ H s) (h:H p=some (.lst xs)) :
  ∃ (its:List Value) (n:Nat),Vals xs its/\s.heap.get? p=some { cls:=.type "list",data:=.seq its.toArray n }/\xs.length<=sizeLine:=by
 obtain⟨z,its,n,r,e⟩:=I.hok p _ h
 exact⟨its,n,r,e,z⟩
theorem Inv.lstUpd {pins:List (Addr×Obj)}{σ:St}{H:Hp}{s:Shared}{p:Addr}{xs ys:List V}{its its':List Value}{n n':Nat}{f:Obj->Obj}(I:Inv X pins σ H s) (h:H p=some (.lst xs))
  (ho:s.heap.get? p=some { cls:=.type "list",data:=.seq its.toArray n }) (hf:f { cls:=.type "list",data:=.seq its.toArray n }={ cls:=.type "list",data:=.seq its'.toArray n' }) (r:Vals ys its') (hz:ys.length<=sizeLine) (t:Nat) :
  Inv X pins σ (upd H p (.lst ys)) { s with heap:=s.heap.update p f,toks:=t }:=by
 have e:(s.heap.update p f).get? p=some { cls:=.type "list",data:=.seq its'.toArray n' }:=by
  rw[Heap.get?_update_self f ho (by rw[hf] <;> rfl),hf]
 refine I.write (x:=p) (e:=p) (by rw[h]; trivial) (.inl rfl) (fun b u hb q=>(Heap.get?_update_other _ _ (Ne.symm hb)).trans q) ⟨_,e⟩ ?_
 exact⟨hz,its',n',r,e⟩
def rSetL:V->V->V->Hp->(Hp->Prop)->Prop:=fun o i v H Q=>∃ p xs k j,o=.ref p/\i=.int k/\H p=some (.lst xs)/\ixN xs.length k=some j/\Q (upd H p (.lst (xs.set j v)))
theorem o8:PSet X rSetL:=by
 intro pins s σ H o i v ov iv u Q I ro ri rv h
 obtain⟨p,xs,k,j,rfl,rfl,hp,hj,q⟩:=h
 cases ro
 obtain⟨t,rfl⟩:=ri
 obtain⟨its,n,r,ho,hz⟩:=I.lst hp
 obtain⟨h1,h2,h3,h4⟩:=q9 hj
 have hl:=r.length
 have hn:=jU
 have I':Inv X pins σ (upd H p (.lst (xs.set j v))) { s with heap:=s.heap.update p (Obj.mapSeq (·.setIfInBounds j u)) } :=
  I.lstUpd hp ho (pH its n j u) (r.set rv j) (by rw[List.length_set]; exact hz) s.toks
 by_cases h0:0<=k
 ·have hk:k.toNat=j:=by
   rw[seqIndex_of h0 h4] at h1
   exact Option.some.inj h1
  exact PySem.W.ki_setAt ho h0 (by omega) (by rw[size_toArray,<- hl]; exact h4) (by rw[hk]; exact⟨_,I',q⟩)
 ·have hk:(k+(its.toArray.size:Int)).toNat=j:=by
   rw[seqIndex_neg (by omega) h3] at h1
   rw[size_toArray,<- hl]
   exact Option.some.inj h1
  exact PySem.W.ki_setBack ho (by omega) (by rw[size_toArray,<- hl]; exact h3) (by omega) (by rw[hk]; exact⟨_,I',q⟩)
theorem lJ (lo hi:Option Int) (n:Nat):(sliceBounds lo hi none n).1=((HT.sIx n 0 lo:Nat):Int)/\(sliceBounds lo hi none n).2.1=((HT.sIx n n hi:Nat):Int)/\(sliceBounds lo hi none n).2.2=1:=by
 refine⟨?_,?_,rfl⟩
 ·cases lo with
  | none=>simp[sliceBounds,HT.sIx]
  | some i =>
   simp only[sliceBounds,HT.sIx,Option.getD_none,show (1:Int) > 0 by decide,if_true]
   by_cases h:i<0
   ·simp only[h,if_true] <;> omega
   ·simp only[h,if_false] <;> omega
 ·cases hi with
  | none=>simp[sliceBounds,HT.sIx]
  | some i =>
   simp only[sliceBounds,HT.sIx,Option.getD_none,show (1:Int) > 0 by decide,if_true]
   by_cases h:i<0
   ·simp only[h,if_true] <;> omega
   ·simp only[h,if_false] <;> omega
theorem j6 (its:List Value) (lo hi:Option Int):slicePick its.toArray lo hi none=((its.drop (HT.sIx its.length 0 lo)).take (HT.sIx its.length its.length hi-HT.sIx its.length 0 lo)).toArray:=by
 obtain⟨h1,h2,h3⟩:=lJ lo hi its.toArray.size
 unfold slicePick
 rw[h1,h2,h3]
 simp only[sliceRange_one,pick_run,size_toArray] <;> rfl
def rSlL (K:Frag):V->Option Int->Option Int->Hp->VK->Prop:=fun x lo hi H Q=>∃ a xs,x=.ref a/\SqL K H a xs/\∀ p,H p=none->Q (.ref p) (upd H p (.lst (kN xs lo hi)))
theorem dG:SlR X (rSlL X.K):=by
 intro pins s σ H x v vl vu lo hi sl Q I rx hs pl pu h
 obtain⟨a,xs,rfl,hx,q⟩:=h
 cases rx
 obtain⟨its,r,ht,hz⟩:=I.list hx
 have hlen:=r.length
 refine⟨"list",_,slot_list_getitem.lookup,ht.isList.typeIs,?_⟩
 refine wpAny_getItem_list_slice ht.isList hs pl pu .none (by simp) ?_ (by rw[size_toArray] <;> omega)
 rw[j6,<- hlen]
 refine⟨.ref s.heap.objs.size,_,I.laid (t':=s.toks) (o:=.lst (kN xs lo hi)) (fun b ob q=>Heap.get?_push_of_some _ q) (le_refl _) ?_,rfl,q _ (I.hok.fresh (le_refl _))⟩
 exact⟨Nat.le_trans (nQ xs lo hi) hz,_,0,(r.drop (HT.sIx xs.length 0 lo)).take (HT.sIx xs.length xs.length hi-HT.sIx xs.length 0 lo),Heap.get?_push_size _ rfl⟩
def eS:V->Bool
 | .non=>true
 | .bl _=>true
 | .int _=>true
 | .str _=>true
 | _=>false
def eqV:V->V->Bool
 | .non,.non=>true
 | .bl a,.bl b=>a == b
 | .bl a,.int b=>(if a then 1 else 0) == b
 | .int a,.bl b=>a == (if b then 1 else 0)
 | .int a,.int b=>a == b
 | .str a,.str b=>a == b
 | _,_=>false
theorem qW {A:Around}{s:Shared}{y x:V}{u v:Value}(ry:RelV y u) (rx:RelV x v) (fy:eS y=true) (fx:eS x=true):SeqAt.EqAt A s u v (eqV y x):=by
 cases y with
 | non =>
  cases ry
  cases x with
  | non=>cases rx; exact SeqAt.EqAt.same _
  | bl b=>cases rx; exact SeqAt.EqAt.none_bool b
  | int b=>obtain⟨t,rfl⟩:=rx; exact SeqAt.EqAt.none_int b t
  | str b=>obtain⟨t,rfl⟩:=rx; exact SeqAt.EqAt.none_str b t
  | _=>exact absurd (show false=true from fx) Bool.false_ne_true
 | bl a =>
  cases ry
  cases x with
  | non=>cases rx; exact SeqAt.EqAt.bool_none a
  | bl b=>cases rx; exact SeqAt.EqAt.bool_bool a b
  | int b=>obtain⟨t,rfl⟩:=rx; exact SeqAt.EqAt.bool_int a b t
  | str b=>obtain⟨t,rfl⟩:=rx; exact SeqAt.EqAt.bool_str a b t
  | _=>exact absurd (show false=true from fx) Bool.false_ne_true
 | int a =>
  obtain⟨t',rfl⟩:=ry
  cases x with
  | non=>cases rx; exact SeqAt.EqAt.int_none a t'
  | bl b=>cases rx; exact SeqAt.EqAt.int_bool a t' b
  | int b=>obtain⟨t,rfl⟩:=rx; exact SeqAt.EqAt.int_int a t' b t
  | str b=>obtain⟨t,rfl⟩:=rx; exact SeqAt.EqAt.int_str a t' b t
  | _=>exact absurd (show false=true from fx) Bool.false_ne_true
 | str a =>
  obtain⟨t',rfl⟩:=ry
  cases x with
  | non=>cases rx; exact SeqAt.EqAt.str_none a t'
  | bl b=>cases rx; exact SeqAt.EqAt.str_bool a t' b
  | int b=>obtain⟨t,rfl⟩:=rx; exact SeqAt.EqAt.str_int a t' b t
  | str b=>obtain⟨t,rfl⟩:=rx; exact SeqAt.EqAt.str_str a t' b t
  | _=>exact absurd (show false=true from fx) Bool.false_ne_true
 | _=>exact absurd (show false=true from fy) Bool.false_ne_true
def eqU (x:V) (u:Value):Bool:=match u with
 | .none=>eqV .non x
 | .bool b=>eqV (.bl b) x
 | .int i _=>eqV (.int i) x
 | .str z _=>eqV (.str z) x
 | _=>false
theorem eqU_of {x y:V}{u:Value}(r:RelV y u) (f:eS y=true):eqU x u=eqV y x:=by
 cases y with
 | non=>cases r; rfl
 | bl b=>cases r; rfl
 | int i=>obtain⟨t,rfl⟩:=r; rfl
 | str z=>obtain⟨t,rfl⟩:=r; rfl
 | _=>exact absurd (show false=true from f) Bool.false_ne_true
theorem ji {x:V}:∀ {xs:List V}{us:List Value},Vals xs us->xs.all eS=true->us.any (eqU x)=xs.any fun y=>eqV y x
 | _,_,.nil,_=>rfl
 | y::xs,u::us,.cons r t,f=>by
  rw[List.all_cons,Bool.and_eq_true] at f
  rw[any_cons,any_cons,eqU_of r f.1,ji t f.2]
theorem gE {A:Around}{s:Shared}{x:V}{v:Value}(rx:RelV x v) (fx:eS x=true):∀ {xs:List V}{us:List Value},Vals xs us->xs.all eS=true->∀ u∈us,SeqAt.EqAt A s u v (eqU x u)
 | _,_,.nil,_=>fun u hu=>by cases hu
 | y::xs,u::us,.cons r t,f=>fun u' hu=>by
  rw[List.all_cons,Bool.and_eq_true] at f
  rcases List.mem_cons.mp hu with rfl | hu
  ·rw[eqU_of r f.1]; exact qW r rx f.1 fx
  ·exact gE rx fx t f.2 u' hu
def inV (x:V) (xs:List V):Bool:=xs.any fun y=>eqV y x
def rIn (K:Frag) (neg:Bool):R2:=fun x y H Q=>∃ p xs,y=.ref p/\(SqL K H p xs\/SqT K H p xs)/\eS x=true/\xs.all eS=true/\Q (.bl (if neg then !inV x xs else inV x xs)) H
theorem bH:OpR X (compareOp .In) (rIn X.K false):=by
 intro pins s σ H x y v u Q I rx ry h
 obtain⟨p,xs,rfl,hq,fx,fs,q⟩:=h
 cases ry
 rcases hq with hq | hq
 ·obtain⟨its,r,pl,hz⟩:=I.list hq
  refine SeqAt.in_listAt (eqU x) pl.isList (fun w hw=>gE rx fx r fs w (by simpa using hw)) ⟨.bl _,H,I,rfl,?_⟩
  rw[show its.toArray.any (eqU x)=its.any (eqU x) by simp,ji r fs]
  exact q
 ·obtain⟨its,r,pl,hz⟩:=I.tuple hq
  refine SeqAt.in_tupleAt (eqU x) pl (fun w hw=>gE rx fx r fs w (by simpa using hw)) ⟨.bl _,H,I,rfl,?_⟩
  rw[show its.toArray.any (eqU x)=its.any (eqU x) by simp,ji r fs]
  exact q
theorem lV:OpR X (compareOp .NotIn) (rIn X.K true):=by
 intro pins s σ H x y v u Q I rx ry h
 obtain⟨p,xs,rfl,hq,fx,fs,q⟩:=h
 cases ry
 rcases hq with hq | hq
 ·obtain⟨its,r,pl,hz⟩:=I.list hq
  refine SeqAt.notIn_listAt (eqU x) pl.isList (fun w hw=>gE rx fx r fs w (by simpa using hw)) ⟨.bl _,H,I,rfl,?_⟩
  rw[show its.toArray.any (eqU x)=its.any (eqU x) by simp,ji r fs]
  exact q
 ·obtain⟨its,r,pl,hz⟩:=I.tuple hq
  refine SeqAt.notIn_tupleAt (eqU x) pl (fun w hw=>gE rx fx r fs w (by simpa using hw)) ⟨.bl _,H,I,rfl,?_⟩
  rw[show its.toArray.any (eqU x)=its.any (eqU x) by simp,ji r fs]
  exact q
theorem aE:fD X (.builtin "len") (fun xs H Q=>∃ p ys,xs=[.ref p]/\(SqL X.K H p ys\/SqT X.K H p ys)/\Q (.int ys.length) H):=by
 intro pins s σ H xs us Q I r h
 obtain⟨p,ys,rfl,hq,q⟩:=h
 obtain⟨u,rfl,rx⟩:=kM r
 cases rx
 have hn:=jU
 rcases hq with hq | hq
 ·obtain⟨its,r',pl,hz⟩:=I.list hq
  have hlen:=r'.length
  exact Calls.call_len_list pl.isList (by simp only[size_toArray] <;> omega) ⟨.int ys.length,H,I.tok _,⟨s.toks+1,by rw[size_toArray,hlen]⟩,q⟩
 ·obtain⟨its,r',pl,hz⟩:=I.tuple hq
  have hlen:=r'.length
  exact len_tuple pl (by simp only[size_toArray] <;> omega) ⟨.int ys.length,H,I.tok _,⟨s.toks+1,by rw[size_toArray,hlen]⟩,q⟩
theorem iz:fD X (.builtin "len") (fun xs H Q=>∃ z,xs=[.str z]/\z.length<=sizeLine/\Q (.int z.length) H):=by
 intro pins s σ H xs us Q I r h
 obtain⟨z,rfl,hz,q⟩:=h
 obtain⟨u,rfl,t,rfl⟩:=kM r
 have hn:=jU
 exact len_str (by omega) ⟨.int z.length,H,I.tok _,⟨_,rfl⟩,q⟩
theorem kR:fD X (.type "list") (fun xs H Q=>∃ p ys,xs=[.ref p]/\(SqL X.K H p ys\/SqT X.K H p ys)/\∀ l,H l=none->Q (.ref l) (upd H l (.lst ys))):=by
 intro pins s σ H xs us Q I r h
 obtain⟨p,ys,rfl,hq,q⟩:=h
 obtain⟨u,rfl,rx⟩:=kM r
 cases rx
 have fin:∀ (its:List Value),Vals ys its->ys.length<=sizeLine->∀ (h':Heap) (c':Nat),(∀ b o',s.heap.get? b=some o'->h'.get? b=some o') ->
   h'.get? s.heap.objs.size=some { cls:=.type "list",dict:=none,data:=.seq its.toArray c',slots:=#[] }->EP X pins σ Q (.ref s.heap.objs.size) { s with heap:=h' }:=fun its r' hz h' c' kp e =>
  ⟨.ref s.heap.objs.size,_,I.laid (t':=s.toks) kp (le_refl _) (show ObjOk X.prog X.w _ h' _ (.lst ys) from ⟨hz,its,c',r',e⟩),rfl,q _ (I.hok.fresh (le_refl _))⟩
 rcases hq with hq | hq
 ·obtain⟨its,r',pl,hz⟩:=I.list hq
  have hlen:=r'.length
  obtain⟨o,ho,hc,n,hd⟩:=pl.isList
  exact call_list_seq p (.inl rfl) ho hc hd (fun h' c' kp e=>fin its r' hz h' c' kp e) (by simp only[size_toArray] <;> omega)
 ·obtain⟨its,r',pl,hz⟩:=I.tuple hq
  have hlen:=r'.length
  obtain⟨o,ho,hc,n,hd⟩:=pl
  exact call_list_seq p (.inr rfl) ho hc hd (fun h' c' kp e=>fin its r' hz h' c' kp e) (by simp only[size_toArray] <;> omega)
def tyV (K:Frag) (T:String) (x:V) (H:Hp):Prop:=match x with
 | .str _=>T = "str"
 | .int _=>T = "int"
 | .ref p=>(T = "list"/\∃ xs,SqL K H p xs)\/(T = "tuple"/\∃ o,K.lookup p=some o/\o.cls=.type "tuple"/\o.dict=none) \/
   (T = "dict"/\((∃ kvs,H p=some (.dK kvs))\/∃ kvs,H p=some (.dT kvs)))\/(T = "set"/\∃ S n,H p=some (.set S n))
 | _=>False
theorem tyV_is {pins:List (Addr×Obj)}{σ:St}{H:Hp}{s:Shared}{T:String}{x:V}{v:Value}(I:Inv X pins σ H s) (r:RelV x v) (ty:tyV X.K T x H) :
  s.TypeIs v T/\∀ a,v=.ref a->∃ ob,s.heap.get? a=some ob/\ob.dict=none:=by
 cases x with
 | str z =>
  obtain⟨t,rfl⟩:=r
  cases (show T = "str" from ty)
  exact⟨typeIs_str s z t,fun _ e=>nomatch e⟩
 | int i =>
  obtain⟨t,rfl⟩:=r
  cases (show T = "int" from ty)
  exact⟨typeIs_int s i t,fun _ e=>nomatch e⟩
 | ref p =>
  cases r
  rcases ty with ⟨rfl,xs,hq⟩ | ⟨rfl,o,hk,hc,hd⟩ | ⟨rfl,hk⟩ | ⟨rfl,S,n,hk⟩
  ·obtain⟨its,_,pl,_⟩:=I.list hq
   refine⟨pl.isList.typeIs,fun a e=>?_⟩
   cases e
   obtain⟨o,n,e,c,hd,_⟩:=pl
   exact⟨o,e,hd⟩
  ·refine⟨⟨o,I.kIn p o hk,hc⟩,fun a e=>?_⟩
   cases e
   exact⟨o,I.kIn _ o hk,hd⟩
  ·have z:∃ o,s.heap.get? p=some o/\o.ExactDict:=by
    rcases hk with ⟨kvs,hk⟩ | ⟨kvs,hk⟩
    ·obtain⟨_,_,_,_,o,_,_,e,ex,_⟩:=I.hok p _ hk
     exact⟨o,e,ex⟩
    ·obtain⟨_,_,_,_,o,_,_,e,ex,_⟩:=I.hok p _ hk
     exact⟨o,e,ex⟩
   obtain⟨o,e,ex⟩:=z
   refine⟨⟨o,e,ex.1⟩,fun a e2=>?_⟩
   cases e2
   exact⟨o,e,ex.2.1⟩
  ·obtain⟨o,_,_,_,e,ex,_⟩:=I.hok p _ hk
   refine⟨⟨o,e,ex.1⟩,fun a e2=>?_⟩
   cases e2
   exact⟨o,e,ex.2.1⟩
 | _=>exact False.elim ty
def tBM0 (K:Frag) (T:String) (r:V->List V->Hp->VK->Prop) (to:TE):TE:=fun σ H Q=>to σ H fun x H1=>tyV K T x H1/\r x [] H1 Q
def tBM (K:Frag) (T:String) (r:V->List V->Hp->VK->Prop) (to:TE) (t:TA):TE:=fun σ H Q=>to σ H fun x H1=>tyV K T x H1/\t σ H1 fun xs H2=>r x xs H2 Q
variable {o e:Expr}{es:List Expr}{to:TE}{t:TA}{name:Str}{apos cpos:Pos}{T id:String}{r:V->List V->Hp->VK->Prop}
theorem pe_bm0 (pa:PlainAttrs T) (slot:Slot T name id) (hty:typeOf (.builtin id)=pure (.type "method_descriptor")) (hm:MtR X id r) (ho:PE X o to)
  (hbase:attributeBase o name X.env (eval o X.env)=eval o X.env:=by rfl) (hline:(apos.endLine == cpos.line)=true:=by rfl):PE X (.Call (.Attribute o name apos) [] [] cpos) (tBM0 X.K T r to):=by
 intro pins s σ H Q I h
 refine wpAny_Call_method0_late hbase hline (thn (ho pins s σ H _ I h) fun v s1 ⟨x,H1,I1,r1,ty,q1⟩=>?_)
 obtain⟨h1,h2⟩:=tyV_is I1 r1 ty
 exact⟨T,id,pa,slot,hty,h1,h2,Calls.callWith_builtin rfl (PySem.evalArgs_none (hm pins s1 σ H1 x [] v [] Q I1 r1 .nil q1))⟩
theorem dO (pa:PlainAttrs T) (slot:Slot T name id) (hty:typeOf (.builtin id)=pure (.type "method_descriptor")) (hm:MtR X id r) (ho:PE X o to) (ha:PA X (e::es) t)
  (hbase:attributeBase o name X.env (eval o X.env)=eval o X.env:=by rfl)
  (hfew:((backTo cpos (starEach (e::es) X.env)).all (fun x=>!x.1)&&(backToKw cpos (keywordEach [] X.env)).all (fun x=>x.1.isSome)
  &&decide ((e::es).length+([]:List Keyword).length+(if ([]:List Keyword).isEmpty then 0 else 1)<30))=true:=by rfl)
  (hline:(apos.endLine == cpos.line)=true:=by rfl) (hs:starEach (e::es) X.env=(false,eval e X.env)::starEach es X.env:=by rfl) (hplain:(backTo cpos (starEach es X.env)).any (·.1)=false:=by rfl) :
  PE X (.Call (.Attribute o name apos) (e::es) [] cpos) (tBM X.K T r to t):=by
 intro pins s σ H Q I h
 refine wpAny_Call_method_late hbase hfew hline rfl (thn (ho pins s σ H _ I h) fun v s1 ⟨x,H1,I1,r1,ty,q1⟩=>?_)
 obtain⟨h1,h2⟩:=tyV_is I1 r1 ty
 refine⟨T,id,pa,slot,hty,h1,h2,?_⟩
 have hA:=ha cpos pins s1 σ H1 _ I1 q1
 rw[hs] at hA ⊢
 refine Calls.callWith_builtin (by show (false || (backTo cpos (starEach es X.env)).any (·.1))=false; rw[hplain] <;> rfl) (Calls.evalArgs_plain ?_)
 exact thn hA fun us s2 ⟨vs,H2,I2,r2,q2⟩=>hm pins s2 σ H2 x vs v us Q I2 r1 r2 q2
/- xs.append(e),list.index on a module's tuple .. are MtR facts of 06m -/
end
end L2
namespace L2
open PySem PySem.Spec PyProof.Rows
def MtM (X:Cx) (id:String) (r:V->List V->Hp->VK->Prop):Prop :=
 ∀ (pins:List (Addr×Obj)) (s:Shared) (σ:St) (H:Hp) (x:V) (xs:List V) (v:Value) (us:List Value) (Q:VK),Inv X pins σ H s->RelV x v->Vals xs us->r x xs H Q ->
  wpAny (model X.prog X.w) X.A (call (.builtin id) (v::us)) (EP X pins σ Q) X.xe s
theorem Vals.one:∀ {x:V}{us:List Value},Vals [x] us->∃ u,us=[u]/\RelV x u
 | _,_,.cons r .nil=>⟨_,rfl,r⟩
theorem Vals.zero:∀ {us:List Value},Vals [] us->us=[]
 | _,.nil=>rfl
theorem Vals.dropLast {xs:List V}{us:List Value}(h:Vals xs us):Vals xs.dropLast us.dropLast:=by
 induction h with
 | nil=>exact .nil
 | cons r t ih =>
  cases t with
  | nil=>exact .nil
  | cons q t'=>exact .cons r ih
theorem Vals.rep {xs:List V}{us:List Value}(h:Vals xs us):∀ k:Nat,Vals (List.replicate k xs).flatten (List.replicate k us).flatten
 | 0=>.nil
 | k+1=>by
  rw[replicate_succ,replicate_succ,List.flatten_cons,List.flatten_cons]
  exact Vals.append h (Vals.rep h k)
theorem pR {α:Type}(l:List α):l.eraseIdx (l.length-1)=l.dropLast:=by
 induction l with
 | nil=>rfl
 | cons a r ih =>
  cases r with
  | nil=>rfl
  | cons b r =>
   have e:(a::b::r).length-1=((b::r).length-1)+1:=by
    have h1:(a::b::r).length=r.length+2:=rfl
    have h2:(b::r).length=r.length+1:=rfl
    omega
   rw[e,List.eraseIdx_cons_succ,ih]
   all_goals rfl
theorem mi (its:List Value):∀ (k:Nat) (acc:List Value),
  List.foldl (fun x1 x2=>x1++x2) acc.toArray (List.replicate k its.toArray)=(acc++(List.replicate k its).flatten).toArray
 | 0,acc=>by simp
 | k+1,acc=>by
  have e:acc.toArray++its.toArray=(acc++its).toArray:=by simp
  have e2:(acc++its)++(List.replicate k its).flatten=acc++(List.replicate (k+1) its).flatten:=by
   rw[replicate_succ,List.flatten_cons,append_assoc]
  rw[<- e2,<- mi its k (acc++its),<- e,replicate_succ,List.foldl_cons]
section
variable {X:Cx}{pins:List (Addr×Obj)}{σ:St}{H:Hp}{s:Shared}{l b:Addr}{xs ys zs:List V}
theorem Inv.lset {its its':List Value}{n:Nat}{f:Array Value->Array Value}{t':Nat}(I:Inv X pins σ H s) (hH:H l=some (.lst xs))
  (e:s.heap.get? l=some { cls:=.type "list",data:=.seq its.toArray n }) (hf:f its.toArray=its'.toArray) (hv:Vals ys its') (hz:ys.length<=sizeLine) :
  Inv X pins σ (upd H l (.lst ys)) { s with heap:=s.heap.update l (Obj.mapSeq f),toks:=t' }:=by
 have q:=PySem.IsL.update e f
 rw[hf] at q
 refine I.write (x:=l) (e:=l) (by rw[hH]; exact trivial) (.inl rfl) (fun b' u hb hu=>(Heap.get?_update_other s.heap (Obj.mapSeq f) (Ne.symm hb)).trans hu) ⟨_,q⟩ ?_
 exact⟨hz,its',_,hv,q⟩
theorem Inv.lnew {its:List Value}{t':Nat}(I:Inv X pins σ H s) (hv:Vals ys its) (hz:ys.length<=sizeLine) :
  Inv X pins σ (upd H s.heap.objs.size (.lst ys)) { s with heap:=s.heap.push { cls:=.type "list",data:=.seq its.toArray },toks:=t' } :=
 I.laid (fun _ _ q=>Heap.get?_push_of_some _ q) (le_refl _) ⟨hz,its,0,hv,Heap.get?_push_size _ rfl⟩
theorem Inv.fresh (I:Inv X pins σ H s):H s.heap.objs.size=none:=I.hok.fresh (le_refl _)
theorem Inv.lstM (I:Inv X pins σ H s) (hH:H l=some (.lst xs)):xs.length<=sizeLine/\∃ (its:List Value) (n:Nat),Vals xs its/\xs.length=its.length/\s.heap.get? l=some { cls:=.type "list",data:=.seq its.toArray n }:=by
 obtain⟨z,its,n,r,e⟩:=I.hok l _ hH
 exact⟨z,its,n,r,r.length,e⟩
theorem notLongL {n:Nat}(h:n<=sizeLine):Builtin.List.listTooLong n=false:=by
 unfold Builtin.List.listTooLong
 exact decide_eq_false (by omega)
end
section
variable {X:Cx}
def rAppend:V->List V->Hp->VK->Prop:=fun x vs H Q=>∃ l xs y,x=.ref l/\vs=[y]/\H l=some (.lst xs)/\xs.length<sizeLine/\Q .non (upd H l (.lst (xs++[y])))
theorem aY:MtM X "list.append" rAppend:=by
 intro pins s σ H x vs v us Q I rx rv h
 obtain⟨l,xs,y,rfl,rfl,hH,hz,q⟩:=h
 cases rx
 obtain⟨u,rfl,ru⟩:=rv.one
 obtain⟨z,its,n,r,hl,e⟩:=I.lstM hH
 refine call_meets F.slot_list_append ⟨_,e,rfl⟩ F.entry_list_append (F.args_list_append_2 _ _) (PySem.list_append l its.toArray n u (by rw[size_toArray]; omega)) ⟨e,?_⟩
 refine⟨.non,_,I.lset (its':=its++[u]) hH e (by simp) (r.append (.cons ru .nil)) ?_,rfl,q⟩
 rw[length_append,List.length_singleton]
 omega
def rPop:V->List V->Hp->VK->Prop:=fun x vs H Q=>∃ l xs y,x=.ref l/\vs=[]/\H l=some (.lst xs)/\xs[xs.length-1]?=some y/\Q y (upd H l (.lst xs.dropLast))
theorem mt_pop:MtM X "list.pop" rPop:=by
 intro pins s σ H x vs v us Q I rx rv h
 obtain⟨l,xs,y,rfl,rfl,hH,hy,q⟩:=h
 cases rx
 have hus:=rv.zero
 subst hus
 obtain⟨z,its,n,r,hl,e⟩:=I.lstM hH
 obtain⟨u,hu,ru⟩:=r.get hy
 have hy':its.toArray[its.toArray.size-1]?=some u:=by
  show its.toArray[its.length-1]?=some u
  rw[<- Array.getElem?_toList,<- hl]
  exact hu
 refine call_meets F.slot_list_pop ⟨_,e,rfl⟩ F.entry_list_pop (F.args_list_pop_1 _) (MeetsSeq.list_pop_last l its.toArray n u hy' (by rw[size_toArray]; omega)) ⟨e,?_⟩
 refine⟨y,_,I.lset (its':=its.dropLast) hH e ?_ r.dropLast ?_,ru,q⟩
 ·show its.toArray.eraseIdxIfInBounds (its.toArray.size-1)=its.dropLast.toArray
  rw[size_toArray,List.eraseIdxIfInBounds_toArray,pR]
 ·rw[List.length_dropLast]
  omega
def rRep:R2:=fun x y H Q=>∃ l k xs,x=.ref l/\y=.int k/\H l=some (.lst xs)/\-(2^63)<=k/\k<2^63/\xs.length*k.toNat<=sizeLine /\
 ∀ p,H p=none->Q (.ref p) (upd H p (.lst (List.replicate k.toNat xs).flatten))
theorem qG {α:Type}(xs:List α) (k:Nat):(List.replicate k xs).flatten.length=k*xs.length:=by
 induction k with
 | zero=>simp
 | succ k ih=>rw[replicate_succ,List.flatten_cons,length_append,ih,Nat.succ_mul,Nat.add_comm]
theorem op_rep:OpR X (binaryOp .Mult) rRep:=by
 intro pins s σ H x y v u Q I rx ry h
 obtain⟨l,k,xs,rfl,rfl,hH,h1,h2,hz,q⟩:=h
 cases rx
 obtain⟨t,rfl⟩:=ry
 obtain⟨z,its,n,r,hl,e⟩:=I.lstM hH
 have hlen:its.toArray.size*k.toNat<=sizeLine:=by rw[size_toArray,<- hl]; exact hz
 have hcap:¬ its.toArray.size*k.toNat > (2^63-1)/8:=by
  have:(sizeLine:Nat)<=(2^63-1)/8:=by decide
  omega
 have hfit:¬ (!Builtin.List.listFitsIndex k)=true:=by
  rw[fitsIndex_both h1 h2]
  exact Bool.false_ne_true
 have hlong:¬ Builtin.List.listTooLong (its.toArray.size*k.toNat)=true:=by
  rw[notLongL hlen]
  exact Bool.false_ne_true
 have hnew:List.foldl (fun x1 x2=>x1++x2) #[] (List.replicate (if its.toArray.isEmpty=true then 0 else k.toNat) its.toArray)=(List.replicate k.toNat its).flatten.toArray:=by
  have f0:∀ m:Nat,List.foldl (fun x1 x2=>x1++x2) #[] (List.replicate m its.toArray)=(List.replicate m its).flatten.toArray:=fun m=>by
   have:=mi its m []
   rw[nil_append] at this
   exact this
  rw[f0]
  cases its with
  | nil=>simp
  | cons a r'=>rw[if_neg (by simp)]
 refine wpAny_binaryOp_repeat_ref (T:="list") (U:="int") (by decide) ⟨_,e,rfl⟩ (fun s'=>typeIs_int s' k t) noFill_list_mul F.fills_int_mul F.slot_int_rmul repeat_list F.slot_int_index.lookup
  (call_meets F.slot_int_rmul (typeIs_int s k t) F.entry_int_rmul (F.args_int_rmul_2 _ _) (int___rmul___int_list k t l its.toArray n)
   ⟨e,rfl,⟨_,e,rfl⟩,call_meets F.slot_list_mul ⟨_,e,rfl⟩ F.entry_list_mul (F.args_list_mul_2 _ _) (AutoListH.list___mul___list_int_3 l its.toArray n k t hfit hcap hlong) ⟨e,?_⟩⟩)
 rw[hnew]
 exact⟨.ref _,_,I.lnew (t':=s.toks) (r.rep k.toNat) (by rw[qG,Nat.mul_comm]; exact hz),rfl,q _ I.fresh⟩
end
section
variable {prog:Program}{w:World}{A:Around}{E:Value->Shared->Prop}{s:Shared}
set_option maxRecDepth 100000 in
end
section
variable {X:Cx}
end
end L2
namespace Att
open PySem PySem.W PySem.Calls PyProof.Rows
theorem jb {P:Params}{h:Heap}:∀ (ns:List Int) (vs:List Value),WellAll P h vs (ns.map WData.int)->IntsAre vs ns:=by
 intro ns
 induction ns with
 | nil =>
  intro vs w
  rw[List.map_nil] at w
  cases w
  exact .nil
 | cons n ns ih =>
  intro vs w
  rw[map_cons] at w
  cases w with
  | cons a b =>
   cases a
   exact .cons _ _ (ih _ b)
theorem qY {l:OpenLaw}{n:Nat}(hn:l.most=some n) {P:Params}{h:Heap}{args:List WData}{vals:List Value}
  (hpre:l.row.toRowW.claim.pre args=true) (hwl:WellAll P h vals args) :
  ∃ a vs ns,vals=[Value.ref a]/\args=[WData.list (ns.map WData.int)]/\h.get? a=some { cls:=.type "list",data:=.seq vs.toArray }/\IntsAre vs ns/\ns.length<=n:=by
 have hsh:WShape.hasAll [] args [.list .int]=true:=(pre_splitW hpre).1
 have hc:l.pre.holds [] { args:=args }=true:=(pre_splitW hpre).2
 obtain⟨d,r,rfl,h1,h2⟩:=hasAllW_cons hsh
 obtain rfl:=hasAllW_nil h2
 obtain⟨xs,rfl,h3⟩:=hasW_list h1
 obtain⟨ns,rfl⟩:=items_int h3
 have hlen:ns.length<=n:=by
  unfold OpenLaw.pre at hc
  have h4:(WTm.not (.lt (.lit (.int (n:Int))) (.len (.arg 0)))).holds [] { args:=[.list (ns.map .int)] }=true:=by
   have h4:=(holds_andW hc).1
   rw[hn] at h4
   exact h4
  have h5:=condW_of h4 (w_not (w_lt w_lit (w_len_list (w_arg rfl))))
  rw[length_map] at h5
  refine Nat.le_of_not_lt fun q=>?_
  have q':(n:Int)<((ns.length:Nat):Int):=by omega
  first
   | (rw[decide_eq_true q'] at h5; exact absurd h5 (by decide))
   | (simp at h5; omega)
 cases hwl with
 | cons w1 w2 =>
  cases w2
  cases w1 with
  | list ho hall=>exact⟨_,_,ns,rfl,rfl,ho,jb ns _ hall,hlen⟩
theorem rX (l:OpenLaw) (args:List WData):l.row.toRowW.claim.post args (.bool true) args=true :=
 postW_of (r:=l.row.toRowW) (X:=(true == true))
  (show WShape.has [] (.bool true) .bool=true by first | rfl | decide | simp[WShape.has,WShape.arms,WShape.armsAll])
  (show (WTm.eq .res (.lit (.bool true))).value [] { args:=args,res:=some (.bool true),after:=args }=some (.bool (true == true)) from w_eq_bool (w_res rfl) w_lit) rfl
theorem attach_call {l:OpenLaw}{n:Nat}{q:Program}{loose:List Str}{XP:(Str->Option Value)->Heap->Prop}{YP:World->Heap->Prop}{d:DefRec}
  (hn:l.most=some n) (hdf:d.params.defaults=[])
  (call:∀ (w:World) (s₀ s₁:Shared) (mg mb:Str->Option Value) (fa:Addr) (o:Obj) (pm cd doc:Value) (a:Addr) (vs:List Value) (ns:List Int),
   Ground q loose [] XP w s₀ mg mb s₁.heap->YP w s₁.heap ->
   s₁.heap.get? fa=some o->o.data=.func (docDef d.name d.params d.body d.scope pm cd doc)->s₁.heap.CodeRec cd d.name->mg d.name=some (.ref fa) ->
   s₁.heap.get? a=some { cls:=.type "list",data:=.seq vs.toArray }->IntsAre vs ns->ns.length<=n->s₁.gens=#[] ->
   codeAny (model l.prog w) callerA (.call (.ref fa) ⟨[.ref a],[]⟩) (fun r s'=>r=.ok (.ret (.bool true))/\OldK s₁.heap s'.heap/\s'.os=s₁.os/\AllBare s'.gens) s₁) :
  WalkO q loose XP YP l.row.toRowW d [] (fun f vs=>PySem.call f vs):=by
 intro w s₀ s₁ mg mb G Y fa o pm cd doc dV kV ho hd hcd hD hmg hg args vals as hpre hlay hrd hwl hlo
 obtain rfl:dV=.none:=Dflts.none hD hdf
 obtain rfl:kV=.none:=Dflts.noKw hD
 obtain⟨a,vs,ns,rfl,rfl,hobj,hints,hlen⟩:=qY hn hpre hwl
 refine enter_call (codeAny_mono (call w s₀ s₁ mg mb fa o pm cd doc a vs ns G Y ho (fd_plain hd) hcd hmg hobj hints hlen hg) fun r s' hq=>?_)
 obtain⟨rfl,h2,h3,h4⟩:=hq
 exact⟨.inl ⟨.bool true,.bool true,[],rfl,fun _=>rfl,.bool true,rX l _,fun _=>⟨List.Pairwise.nil,fun _ hm=>(nomatch hm)⟩⟩,h2,h3,h4⟩
section
variable {prog:Program}{w:World}{A:Around}{E:Value->Shared->Prop}{s:Shared}{K:Frag}
end
end Att
namespace L2
open PySem PySem.Spec PyProof.Rows
theorem jg:∀ {vs:List Value}{ns:List Int},IntsAre vs ns->Vals (ns.map V.int) vs
 | _,_,.nil=>.nil
 | _,_,.cons n t h=>.cons ⟨t,rfl⟩ (jg h)
def Only (H:Hp):Prop:=∀ b,H b=none\/∃ o xs,H b=some (.frz o (.lst xs))
theorem law_call {P:Program}{w:World}{K:Frag}{mg mb:Str->Option Value}{CX:CXT}{k:Nat}{fa a:Addr}{fd:FuncData}{x:Str}{sp:Sp}{s₁:Shared}{vs:List Value}{ns:List Int}
  (KX:K.In s₁.heap) (hns:s₁.heap.Ns mainGlobals mg) (hb:s₁.heap.Ns builtinsNs mb) (hbb:∀ x:Str,x≠"__name__"->mb x=bootBuiltins x) (hlim:s₁.heap.NoLimit) (hg:s₁.gens=#[])
  (ha:s₁.heap.get? a=some { cls:=.type "list",data:=.seq vs.toArray }) (hi:IntsAre vs ns) (hl:ns.length<=sizeLine) (hr:Room k callerA)
  (F:∀ base:Heap,K.In base->base.Ns mainGlobals mg->FnOk P w K mg base CX k fa fd [x] sp) (hbind:∀ (s:Shared) (u:Value),BindsTo s fd ⟨[u],[]⟩ [(x,u)])
  (hsp:∀ H:Hp,Only H->SqL K H a (ns.map V.int)->sp [.ref a] H (fun v _=>v=.bl true) fun _ _ _=>False)
  (hCX:∀ H e s',CX [] H s₁ (fun _ _ _=>False) e s'->False) :
  codeAny (model P w) callerA (.call (.ref fa) ⟨[.ref a],[]⟩) (fun r s'=>r=.ok (.ret (.bool true))/\OldK s₁.heap s'.heap/\s'.os=s₁.os/\AllBare s'.gens) s₁:=by
 have rv:=jg hi
 have lenV:=hi.length
 have core:∀ H:Hp,Only H->SqL K H a (ns.map V.int)->HOk P w H s₁.heap->(∀ b,H b≠none->b=a)->(H a≠none->K.lookup a=none) ->
   codeAny (model P w) callerA (.call (.ref fa) ⟨[.ref a],[]⟩) (fun r s'=>r=.ok (.ret (.bool true))/\OldK s₁.heap s'.heap/\s'.os=s₁.os/\AllBare s'.gens) s₁:=by
  intro H hO hS hok hA hK
  have base_of:∀ {b:Addr} {o:Obj},s₁.heap.get? b=some o->H b=none->(nF s₁.heap H).get? b=some o:=fun e n=>oB e n
  have noA:∀ {b:Addr} {o:Obj} {es:Array DictEntry} {ep:Nat},s₁.heap.get? b=some o->o.data=.dict es ep->H b=none:=fun {b o es ep} e d=>by
   cases q:H b with
   | none=>rfl
   | some u =>
    have e':b=a:=hA b (by rw[q]; simp)
    subst e'
    rw[ha] at e; cases e
    have d':Data.seq vs.toArray _=Data.dict es ep:=d
    cases d'
  have nsK:∀ {b:Addr} {m:Str->Option Value},s₁.heap.Ns b m->(nF s₁.heap H).Ns b m:=fun {b m} ⟨o,es,ep,e,d,r⟩=>⟨o,es,ep,base_of e (noA e d),d,r⟩
  have hKb:K.In (nF s₁.heap H):=fun b o e=>base_of (KX b o e) (by
   cases q:H b with
   | none=>rfl
   | some u =>
    have e':b=a:=hA b (by rw[q]; simp)
    subst e'
    rw[hK (by rw[q]; simp)] at e; cases e)
  have hM:Mod K mg (nF s₁.heap H):=⟨hKb,nsK hns,⟨mb,nsK hb,hbb⟩,let ⟨mc,h1,h2⟩:=hlim; ⟨mc,nsK h1,h2⟩⟩
  have e0:Env0 P w K mg (nF s₁.heap H) callerA [] s₁ H:=⟨rfl,hM,fun b o e=>rD e,Nat.le_of_eq (lN _ _),trivial,fun b hb=>absurd (show b∈([]:List Addr) from hb) (by simp),hok,.of_eq hg⟩
  refine codeAny_mono ((F _ hKb (nsK hns)).run callerA [] s₁ H ⟨[.ref a],[]⟩ [.ref a] [.ref a] _ _ hr e0 (hbind s₁ (.ref a)) (.cons rfl .nil) (hsp H hO hS)) fun r s' h=>?_
  cases r with
  | error e=>exact(hCX H e s' h).elim
  | ok fl =>
   cases fl with
   | next=>exact False.elim h
   | brk=>exact False.elim h
   | cont=>exact False.elim h
   | ret u =>
    obtain⟨v,H',os,bare,un,hok',r',q⟩:=h
    have q':v=.bl true:=q
    subst q'
    obtain rfl:u=Value.bool true:=r'
    refine⟨rfl,OldK.of_keep fun b o e=>?_,os,bare⟩
    cases q:H b with
    | none=>exact un.keep b o e q (by intro z; exact absurd (show b∈([]:List Addr) from z) (by simp)) (by simp)
    | some u =>
     rcases hO b with z | ⟨ob,xs,z⟩
     ·rw[q] at z; cases z
     ·have z2:=un.frzs b ob _ z
      obtain⟨e1,_⟩:=hok b _ z
      obtain⟨e2,_⟩:=hok' b _ z2
      rw[e] at e1; cases e1
      exact e2
 cases hk:K.lookup a with
 | some o =>
  have e:=KX a o hk
  rw[ha] at e
  cases e
  refine core (fun _=>none) (fun _=>.inl rfl) (.inr ⟨_,vs.toArray,_,hk,rfl,rfl,rfl,by rw[size_toArray,lenV]; exact hl,by simpa using rv⟩) (fun b u z=>by have z':(none:Option HO)=some u:=z; cases z') (fun b z=>absurd rfl z) fun z=>absurd rfl z
 | none =>
  refine core (fun b=>if b=a then some (.frz { cls:=.type "list",data:=.seq vs.toArray } (.lst (ns.map V.int))) else none) (fun b=>?_) (.inl (.inr ⟨{ cls:=.type "list",data:=.seq vs.toArray },if_pos rfl⟩)) (fun b u z=>?_) (fun b z=>?_) fun _=>hk
  ·by_cases hb:b=a
   ·exact .inr ⟨_,_,if_pos hb⟩
   ·exact .inl (if_neg hb)
  ·by_cases hb:b=a
   ·have z':=(if_pos hb).symm.trans z
    cases z'
    subst hb
    exact⟨ha,by rw[length_map]; exact hl,vs,_,rv,ha⟩
   ·have z':=(if_neg hb).symm.trans z
    cases z'
  ·by_cases hb:b=a
   ·exact hb
   ·exact absurd (if_neg hb) z
end L2
namespace L2
open PySem PySem.Spec PyProof.Rows
theorem walk_of {l:PySem.W.OpenLaw}{n k:Nat}{q:Program}{loose:List Str}{XP:(Str->Option Value)->Heap->Prop}{YP:World->Heap->Prop}{d:DefRec}{K:Params->Frag}{CX:World->CXT}{sp:World->Sp}{x:Str}
  (hn:l.most=some n) (hn2:n<=sizeLine) (hdf:d.params.defaults=[]) (hr:Room k callerA)
  (hY:∀ (w:World) (h:Heap),YP w h->(K w.params).In h)
  (F:∀ (w:World) (mg:Str->Option Value) (fa:Addr) (h:Heap),(K w.params).In h->h.Ns mainGlobals mg->mg d.name=some (.ref fa) ->
   ∃ fd:FuncData,(∀ (s:Shared) (u:Value),BindsTo s fd ⟨[u],[]⟩ [(x,u)]) /\
    ∀ base:Heap,(K w.params).In base->base.Ns mainGlobals mg->FnOk l.prog w (K w.params) mg base (CX w) k fa fd [x] (sp w))
  (hsp:∀ (w:World) (H:Hp) (a:Addr) (ns:List Int),ns.length<=n->Only H->SqL (K w.params) H a (ns.map V.int)->sp w [.ref a] H (fun v _=>v=.bl true) fun _ _ _=>False)
  (hCX:∀ (w:World) (H:Hp) (s:Shared) (e:Value) (s':Shared),CX w [] H s (fun _ _ _=>False) e s'->False) :
  PySem.W.WalkO q loose XP YP l.row.toRowW d [] (fun f vs=>PySem.call f vs):=by
 refine Att.attach_call hn hdf fun w s₀ s₁ mg mb fa o pm cd doc a vs ns G Y ho hd hcd hmg hobj hints hlen hg=>?_
 have KX:=hY w _ Y
 obtain⟨fd,hb,hF⟩:=F w mg fa _ KX G.T.g hmg
 exact law_call KX G.T.g G.T.b G.T.builtins G.T.nolimit hg hobj hints (Nat.le_trans hlen hn2) hr hF hb (fun H hO hS=>hsp w H a ns hlen hO hS) fun H e s'=>hCX w H s₁ e s'
end L2
namespace L2
open PySem PySem.Spec PyProof.Rows
def ba (s:Stmt) (j:Nat):Stmt:=match s with
 | .ClassDef _ _ _ body _ _ _ _ _ _ _=>body.getD j (.Pass ⟨0,0,0,0⟩)
 | _=>.Pass ⟨0,0,0,0⟩
def eu (s:Stmt):Arguments:=match s with
 | .FunctionDef _ a _ _ _ _ _ _ _ _=>a
 | _=>{ posonlyargs:=[],args:=[],vararg:=none,kwonlyargs:=[],kw_defaults:=[],kwarg:=none,defaults:=[] }
def c9 (s:Stmt):List Stmt:=match s with
 | .FunctionDef _ _ b _ _ _ _ _ _ _=>b
 | _=>[]
def av (s:Stmt):Scope:=match s with
 | .FunctionDef _ _ _ _ _ _ sc _ _ _=>sc
 | _=>{ kind:=.function,names:=[],isGenerator:=false,isCoroutine:=false }
abbrev CX0:CXT:=fun _ _ _ _ _ _=>False
abbrev E0:XK:=fun _ _ _=>False
theorem pJ {X:Cx}:jv CX0 X E0:=fun _ _ _ _ _ _ _ h=>h.elim
structure Fun (K:Frag) (x qual:Str) (st:Stmt) (f:Addr) (fd:FuncData):Prop where
 ex:∃ (oc:Value) (od:Option Addr) (kV doc pm:Value) (an:Option Addr) (cdv ct:Value) (osl:Array (Option Value)),
  fd=fnOf x qual (eu st) (c9 st) (av st) .none kV doc pm an cdv ct/\K.lookup f=some ⟨oc,od,.func fd,osl⟩/\codeIn K cdv qual=true
 kp:keepIn K (.ref f)=true
section
variable {P:Program}{w:World}{K:Frag}{mg:Str->Option Value}{base:Heap}
theorem Fun.ok {x qual:Str}{st:Stmt}{f:Addr}{fd:FuncData}{N ps:List Str}{k:Nat}{sp:Sp}(F:Fun K x qual st f fd) (S:FnScope N ps (av st)) (len:∀ vs H Q E,sp vs H Q E->vs.length=ps.length)
  (hbody:∀ (cdv:Value) (A:Around) (outer:List Env) (s:Shared) (H:Hp) (vs:List V) (Q:VK) (E:XK),Room k (A.deeper (envOfC qual (av st) s.heap.objs.size f cdv))->sp vs H Q E ->
   ∃ t,PSs (gW CX0 P w K mg base N qual (av st) f cdv A outer s H E).nox (c9 st) t/\t { nx:=fun _ H'=>Q .non H',rt:=Q } (kC N vs) H):FnOk P w K mg base CX0 (k+1) f fd ps sp:=by
 obtain⟨oc,od,kV,doc,pm,an,cdv,ct,osl,rfl,lk,hcd⟩:=F.ex
 refine fn_of lk hcd S len fun A outer s H vs Q E hr hsp=>?_
 obtain⟨t,h,q⟩:=hbody cdv A outer s H vs Q E hr hsp
 exact⟨t,h.nox,q⟩
theorem Fun.binds {x qual:Str}{st:Stmt}{f:Addr}{fd:FuncData}{ps:List Str}(F:Fun K x qual st f fd)
  (h:∀ (kV doc pm:Value) (an:Option Addr) (cdv ct:Value) (us:List Value),us.length=ps.length->bindArgs (fnOf x qual (eu st) (c9 st) (av st) .none kV doc pm an cdv ct) ⟨us,[]⟩=pure (ps.zip us)):Binds K fd ps []:=by
 obtain⟨oc,od,kV,doc,pm,an,cdv,ct,osl,rfl,lk,hcd⟩:=F.ex
 exact .all (h kV doc pm an cdv ct)
theorem fun_mk {x qual:Str}{st:Stmt}{f:Addr}{oc:Value}{od an:Option Addr}{osl:Array (Option Value)}{kV doc pm cdv ct:Value}(l:K.lookup f=some ⟨oc,od,.func (fnOf x qual (eu st) (c9 st) (av st) .none kV doc pm an cdv ct),osl⟩)
  (c:codeIn K cdv qual=true) (k:keepIn K (.ref f)=true):Fun K x qual st f (fnOf x qual (eu st) (c9 st) (av st) .none kV doc pm an cdv ct):=⟨⟨oc,od,kV,doc,pm,an,cdv,ct,osl,rfl,l,c⟩,k⟩
end
theorem bc {A:Around}{k:Nat}(hr:Room k A):A.units+1<cLine:=lt_of_le_of_lt (Nat.add_le_add_left (by decide:1<=64) _) hr.units
section
variable {X:Cx}
theorem pv (i:Nat) {x:Str}{pos:Pos}(hN:X.N[i]?=some x:=by rfl) (hv:Vis X.env.scope x:=by first | exact Or.inl rfl | exact Or.inr (Or.inl rfl) | exact Or.inr (Or.inr rfl)) (hd:(x == ("__debug__":Str))=false:=by decide)
  (hcd:(x == ("__classdict__":Str))=false:=by decide):PE X (.Name x pos) (tVar i):=pe_var hN hv hd hcd
end
theorem di {A B:Prop}(h:B):if false=true then A else B:=by
 rw[if_neg Bool.false_ne_true]
 exact h
theorem gU {A B:Prop}(h:A):if true=true then A else B:=by
 rw[if_pos rfl]
 exact h
theorem eN {c A B:Prop} [Decidable c] (hc:c) (h:B):if (!decide c)=true then A else B:=by
 rw[decide_eq_true hc]
 exact di h
def Same (H H':Hp):Prop:=∀ b o,H b=some o->H' b=some o
theorem Same.refl (H:Hp):Same H H:=fun _ _ h=>h
theorem Same.trans {H H1 H2:Hp}(a:Same H H1) (b:Same H1 H2):Same H H2:=fun c o h=>b c o (a c o h)
theorem Same.seq {K:Frag}{H H':Hp}{a:Addr}{xs:List V}(e:Same H H') (h:SqL K H a xs):SqL K H' a xs:=by
 rcases h with (h | ⟨o,h⟩) | h
 ·exact .inl (.inl (e _ _ h))
 ·exact .inl (.inr ⟨o,e _ _ h⟩)
 ·exact .inr h
end L2
set_option maxHeartbeats 4000000
namespace Ow
open PySem PySem.Spec PyProof.Rows L2
structure Has (P:Program) (w:World) (K:Frag) (mg:Str->Option Value) (base:Heap) (k:Nat) (x:Str) (ps:List Str) (sp:Sp):Prop where
 ex:∃ (f:Addr) (fd:FuncData),FnOk P w K mg base CX0 k f fd ps sp/\Binds K fd ps []/\keepIn K (.ref f)=true/\mg x=some (.ref f)
section
variable {X:Cx}{k:Nat}{x:Str}{ps:List Str}{sp:Sp}{p pos:Pos}{e:Expr}{es:List Expr}{t:TA}
theorem aM (h:Has X.prog X.w X.K X.mg X.base k x ps sp) (hr:Room k X.A) (hg:Gl X x) (ha:PA X (e::es) t) (hdb:(x == ("__debug__":Str))=false:=by decide)
  (he:starEach (e::es) X.env=(false,eval e X.env)::starEach es X.env:=by rfl) (hpl:(backTo pos (starEach es X.env)).any (·.1)=false:=by rfl) :
  PE X (.Call (.Name x p) (e::es) [] pos) (ma sp [] E0 t):=by
 obtain⟨f,fd,F,b,kp,m⟩:=h.ex
 exact qX F hr hg m kp b .nil pJ ha hdb he hpl
theorem pe_fn0 (h:Has X.prog X.w X.K X.mg X.base k x ps sp) (hr:Room k X.A) (hg:Gl X x) (hdb:(x == ("__debug__":Str))=false:=by decide) :
  PE X (.Call (.Name x p) [] [] pos) (ma sp [] E0 tNil):=by
 obtain⟨f,fd,F,b,kp,m⟩:=h.ex
 exact pe_call0 F hr hg m kp b .nil pJ hdb
theorem pe_ty {T:String}(hg:Gl X x) (hm:X.mg x=none) (hv:bootBuiltins x=some (.type T)) (hn:x≠"__name__":=by decide) (hd:(x == ("__debug__":Str))=false:=by decide):PE X (.Name x pos) (tC (.ty T)):=pe_bltn (v:=.ty T) hg hm hv rfl hn hd
theorem jL {C:Addr}(hg:Gl X x) (hm:X.mg x=some (.ref C)) (hd:(x == ("__debug__":Str))=false:=by decide):PE X (.Name x pos) (tC (.ref C)):=nK (v:=.ref C) hg hm rfl hd
def clsV:V->Option Value
 | .ty n=>some (.type n)
 | .ref C=>some (.ref C)
 | _=>none
theorem clsV_rel {c:V}{u cv:Value}(r:RelV c u) (h:clsV c=some cv):u=cv:=by
 cases c with
 | ty n=>cases h; exact r
 | ref C=>cases h; exact r
 | _=>cases h
theorem dA:fD X (.builtin "isinstance") (fun xs H Q=>∃ x c t cv b,xs=[x,c]/\clsV c=some cv/\TyOf X.K H x t/\kitOne X.K t cv=some b/\Q (.bl b) H):=by
 intro pins s σ H xs us Q I r h
 obtain⟨x,c,t,cv,b,rfl,hc,ty,e,q⟩:=h
 obtain⟨u,u',rfl,rx,rc⟩:=vals2 r
 cases clsV_rel rc hc
 exact rA I rx ty e fun tk=>⟨.bl b,H,I.tok _,rfl,q⟩
theorem oU:OpR X (binaryOp .FloorDiv) (rI (fun _ j=>0<j/\j.natAbs.log2<9000) fun i j=>.int (i/j)):=opI fun i j _ _ _ _ _ hc q=>by
 have h1:(0:Int)<j:=hc.1
 exact floordiv_int (by omega) (by rw[Int.fdiv_eq_ediv_of_nonneg i (by omega)]; exact q) (.inl (PyProof.noPylong_of_log2 hc.2))
end
theorem iV (K:Frag):kitOne K (.type "int") (.type "int")=some true:=rfl
theorem iu (K:Frag):kitOne K (.type "int") (.type "bool")=some false:=by with_unfolding_all rfl
theorem dw {c A B:Prop} [Decidable c] (hc:c) (h:A):if decide c=true then A else B:=by
 rw[if_pos (decide_eq_true hc)]
 exact h
theorem aN {c A B:Prop} [Decidable c] (hc:¬ c) (h:B):if decide c=true then A else B:=by
 rw[if_neg (by rw[decide_eq_false hc]; decide)]
 exact h
theorem ret_true {Q:VK}{H:Hp}{c:Prop} [Decidable c] (hc:c) (q:Q (.bl true) H):Q (.bl (decide c)) H:=by
 rw[decide_eq_true hc]
 exact q
theorem iteN {c A B:Prop} [Decidable c] (hc:¬ c) (h:A):if (!decide c)=true then A else B:=by
 rw[decide_eq_false hc]
 exact gU h
theorem p_pos (n:Nat):(0:Int)<2^n:=Int.pow_pos (by decide)
theorem p_mono {m n:Nat}(h:m<=n):(2:Int)^m<=2^n:=by
 have e:n=m+(n-m):=by omega
 rw[e,Int.pow_add]
 have h1:=p_pos m
 have h2:(1:Int)<=2^(n-m):=p_pos (n-m)
 have h3:=Int.mul_le_mul_of_nonneg_left h2 (Int.le_of_lt h1)
 rw[Int.mul_one] at h3
 exact h3
def SameX (p:Addr) (H H':Hp):Prop:=∀ b o,b≠p->H b=some o->H' b=some o
theorem SameX.trans {p:Addr}{H H1 H2:Hp}(a:SameX p H H1) (b:SameX p H1 H2):SameX p H H2:=fun c o n h=>b c o n (a c o n h)
theorem SameX.of {p:Addr}{H H':Hp}(a:Same H H'):SameX p H H':=fun c o _ h=>a c o h
theorem SameX.upd {p:Addr}{H:Hp}{o:HO}:SameX p H (upd H p o):=fun c u n h=>by rw[af n]; exact h
theorem aj {H:Hp}{p:Addr}(h:H p=none) (o:HO):Same H (L2.upd H p o):=fun b u q=>by rw[af (az q h)]; exact q
theorem SameX.fresh {p:Addr}{H H1:Hp}(h:H p=none) (a:SameX p H H1):Same H H1:=fun b o q=>a b o (az q h) q
def Box (H:Hp) (p:Addr):Prop:=∃ r s c:Int,H p=some (.lst [.int r,.int s,.int c])
theorem Box.same {H H':Hp}{p:Addr}(b:Box H p) (s:Same H H'):Box H' p:=by
 obtain⟨r,s',c,h⟩:=b
 exact⟨r,s',c,s _ _ h⟩
theorem getI (ns:List Int) (k:Nat) (h:k<ns.length):atI (ns.map V.int) (k:Int)=some (.int ns[k]):=bC (by rw[List.getElem?_map,List.getElem?_eq_getElem h] <;> rfl)
end Ow
namespace Ow
open PySem PySem.Spec PyProof.Rows L2
structure MHas (P:Program) (w:World) (K:Frag) (mg:Str->Option Value) (base:Heap) (k:Nat) (C:Addr) (m:Str) (ps:List Str) (sp:Sp):Prop where
 cl:Cls K C
 ex:∃ (f:Addr) (fd:FuncData),Meth K C m f/\FnOk P w K mg base CX0 k f fd ps sp/\Binds K fd ps []
def tMethP (X:Cx) (k:Nat) (m:Str) (ta:TE) (t:TA):TE:=fun σ H Q=>ta σ H fun x H1=>∃ (a C dx:Addr) (fs:List (Str×V)) (ps:List Str) (sp:Sp),x=.ref a/\H1 a=some (.ins C dx fs)/\fs.lookup m=none /\
 MHas X.prog X.w X.K X.mg X.base k C m ps sp/\t σ H1 fun vs H2=>sp (x::(vs++[])) H2 Q E0
section
variable {X:Cx}{k:Nat}{x m:Str}{C:Addr}{p pos apos:Pos}{o e:Expr}{es:List Expr}{ta:TE}{t:TA}
theorem gr {pl:Sem Bool}(he:PE X o ta) (hr:Room k X.A) (ha:PA X (e::es) t)
  (hst:starEach (e::es) X.env=(false,eval e X.env)::starEach es X.env:=by rfl) (hpl:(backTo pos (starEach es X.env)).any (·.1)=false:=by rfl)
  (ht:eval (.Call (.Attribute o m apos) (e::es) [] pos) X.env=(do
   let ov <- eval o X.env
   standAt apos.atName
   let (f,first) <- holding [ov] (getMethod ov m pl)
   callWith pos f first (backTo pos (starEach (e::es) X.env)) (backToKw pos (keywordEach [] X.env))):=by rfl) :
  PE X (.Call (.Attribute o m apos) (e::es) [] pos) (tMethP X k m ta t):=by
 intro pins s σ H Q I h
 refine PySem.W.methodCall_KW (pl:=pl) (thn (he pins s σ H _ I h) fun u s1 ⟨x,H1,I1,rx,a,C,dx,fs,ps,sp,ex,ea,l,M,q⟩=>?_) ht
 subst ex
 obtain rfl:u=Value.ref a:=rx
 obtain⟨f,fd,hm,F,hb⟩:=M.ex
 refine jN I1 ea M.cl hm l ?_
 refine PySem.W.callWith_K (first:=[.ref a]) (h₀:=X.base) I.ok.mod.kin hm.kp (thn (ha pos pins s1 σ H1 _ I1 q) fun us s2 ⟨vs,H2,I2,r,q2⟩=>⟨I2.kIn,?_⟩) hst hpl
 exact lF (us:=.ref a::us) (vs:=.ref a::vs) F hr hb .nil pJ I2 (.cons rfl r) q2
theorem cE {pl:Sem Bool}(he:PE X o ta) (hr:Room k X.A)
  (ht:eval (.Call (.Attribute o m apos) [] [] pos) X.env=(do
   let ov <- eval o X.env
   standAt apos.atName
   let (f,first) <- holding [ov] (getMethod ov m pl)
   callWith pos f first (backTo pos (starEach [] X.env)) (backToKw pos (keywordEach [] X.env))):=by rfl) :
  PE X (.Call (.Attribute o m apos) [] [] pos) (tMethP X k m ta tNil):=by
 intro pins s σ H Q I h
 refine PySem.W.methodCall_KW (pl:=pl) (thn (he pins s σ H _ I h) fun u s1 ⟨x,H1,I1,rx,a,C,dx,fs,ps,sp,ex,ea,l,M,q⟩=>?_) ht
 subst ex
 obtain rfl:u=Value.ref a:=rx
 obtain⟨f,fd,hm,F,hb⟩:=M.ex
 refine jN I1 ea M.cl hm l ?_
 exact PySem.W.callWith_K0 (first:=[.ref a]) I1.kIn hm.kp (lF (us:=[.ref a]) (vs:=[.ref a]) F hr hb .nil pJ I1 (.cons rfl .nil) q)
end
end Ow
namespace Ow
open PySem PySem.Spec PyProof.Rows L2
def aU (X:Cx) (N:List Str) (scope:Scope) (cl:List (Str×Addr)) (C:Addr) (s2:Shared) (H2:Hp) (fp:List Addr):Cx where
 prog:=X.prog
 w:=X.w
 K:=X.K
 mg:=X.mg
 base:=X.base
 A:=X.A
 N:=N
 s₀:=s2
 H₀:=H2
 env:=compEnvC scope cl C X.env
 outer:=X.stack
 stack:=X.stack
 ex:=fp
 calm:=true
 fn:=fun _=>false
 pn:=[]
 xe:=fun _ _=>False
def pW (wi:TI) (te:TE) (cap:L2.St->L2.St):TE:=fun σ H Q=>wi σ H fun J H1=>∀ D,H1 D=none->∃ W:Nat->Nat->Hp->Prop,(∃ m,W 0 m (upd H1 D (.lst [])))/\∀ i m H,W i m H ->
 (J.stop i H/\Q (.ref D) H)\/(J.go i H/\∀ x H',J.yld i H x H'->te (some x::cap σ) H' fun y H2=>∃ ys,H2 D=some (.lst ys)/\ys.length<sizeLine/\∃ m',m'<m/\W (i+1) m' (upd H2 D (.lst (ys++[y]))))
section
variable {X:Cx}{elt iter:Expr}{x:Str}{px pos:Pos}{scope:Scope}{wi:TI}{te:TE}{N:List Str}{cl:List (Str×Addr)}{cap:L2.St->L2.St}
theorem rE (hc:X.calm=true) (hclos:closureFor scope X.env=pure cl) (hsub:∀ n c,cl.lookup n=some c->X.env.cells.lookup n=some c)
  (hcell:∀ y∈scope.names,y.2≠.cell) (hkind:scope.kind=.function) (hnames:∀ y∈scope.names,y.2=.local->scope.names.lookup y.1=some .local) (hx:scope.names.lookup x=some .local)
  (hhas:∀ y,(Env.kindOf (compEnvC scope cl 0 X.env) y=some .cell\/Env.kindOf (compEnvC scope cl 0 X.env) y=some .free)->∃ c,cl.lookup y=some c)
  (hN:(x::N).Nodup) (hcapl:∀ σ,(cap σ).length=N.length)
  (hcap:∀ (σ:L2.St) (i:Nat) (y:Str) (v:V),σ.length=X.N.length->N[i]?=some y->(cap σ)[i]?=some (some v)->(Env.kindOf (compEnvC scope cl 0 X.env) y=some .cell\/Env.kindOf (compEnvC scope cl 0 X.env) y=some .free)/\X.env.kindOf y=some .cell/\∃ j:Nat,X.N[j]?=some y/\σ[j]?=some (some v))
  (hi:PI X (.Name x px) iter wi) (he:∀ C s2 H2 fp,PE (aU X (x::N) scope cl C s2 H2 fp) elt te)
  (hs:∀ z,foldedSetIterable iter X.env z=pure z:=by intro _; rfl) :
  PE X (.ListComp elt [⟨.Name x px,iter,[],0⟩] scope pos) (pW wi te cap):=by
 intro pins s σ H Q I h
 rw[eval_ListComp]
 refine wpAny_comprehension_free (use:=none) rfl hs hclos hkind hnames (thn (hi pins s σ H _ I h) fun xv s1 h1=>thn h1 fun itv s2 h2=>?_)
 obtain⟨it,fp,tn,J,H2,e,I2,T,st2,f2,hW⟩:=h2
 subst e
 have hD:H2 s2.heap.objs.size=none:=I2.hok.fresh (le_refl _)
 obtain⟨W,⟨m0,w0⟩,turn⟩:=hW s2.heap.objs.size hD
 refine wpAny_newObj_type (wpAny_newFunctionEnv hcell (by intro y hy; simp at hy) (fun h4 hns4 hsb4=>?_) hkind) (by show 0<=sizeLine; decide)
 dsimp only at hns4 hsb4 ⊢
 generalize hH3:s2.heap.push { cls:=.type "list",dict:=none,data:=.seq ([]:List Value).toArray }=H3 at hns4 hsb4 ⊢
 have hCz:H3.objs.size=s2.heap.objs.size+1:=by rw[<- hH3,Heap.size_push]
 have old3:∀ b o,s2.heap.get? b=some o->H3.get? b=some o:=fun b o e=>hH3 ▸ Heap.get?_push_of_some _ e
 have eD3:H3.get? s2.heap.objs.size=some { cls:=.type "list",dict:=none,data:=.seq ([]:List Value).toArray }:=hH3 ▸ Heap.get?_push_size _ rfl
 have old4:∀ b o,H3.get? b=some o->h4.get? b=some o:=fun b o e=>hsb4.extBut b o (ne_of_lt (Heap.lt_size e)) (Heap.get?_push_of_some _ e)
 have old:∀ b o,s2.heap.get? b=some o->h4.get? b=some o:=fun b o e=>old4 b o (old3 b o e)
 have szC:s2.heap.objs.size<H3.objs.size:=by rw[hCz]; exact lt_succ_self _
 have fpC:∀ b∈fp,b≠H3.objs.size:=fun b hb=>by
  obtain⟨o,ho,_⟩:=T.obj 0 _ st2 b hb
  exact ne_of_lt (lt_trans (Heap.lt_size ho) szC)
 have ok':(aU X (x::N) scope cl H3.objs.size s2 H2 fp).Ok:=by
  refine⟨I2.ok.mod,hkind,I2.ok.glob,I2.ok.blt,(Nat.le_of_lt szC),fun a b c e1 e2=>I2.ok.inj a b c (hsub a c e1) (hsub b c e2),fun y hy=>hhas y hy,fun y c z _=>absurd (show false=true from z) (by decide),
   fun _=>I2.ok.hd hc,I2.ok.frames,.inl rfl,fun b hb=>⟨fpC b hb,fun y c e=>(f2 b hb).2.2.2.2.1 y c (hsub y c e)⟩,I2.bs,Nat.le_trans I2.ok.bsz I2.sz,fun b o e hb=>?_,fun b hb z=>?_,I2.stack,I2.stkFree⟩
  ·rcases(f2 b hb).2.2.2.1 with q | q
   ·exact I2.ok.noex b o e q
   ·exact absurd (lt_of_lt_of_le (Heap.lt_size e) (Nat.le_trans I2.ok.bsz q)) (lt_irrefl _)
  ·rcases List.mem_cons.mp (I2.stkSub b z) with q | q
   ·exact(f2 b hb).2.1 q
   ·exact(f2 b hb).2.2.1 q
 have okD:ObjOk X.prog X.w (upd H2 s2.heap.objs.size (.lst [])) h4 s2.heap.objs.size (.lst []):=⟨zero_le _,[],0,.nil,old4 _ _ eD3⟩
 have I4:Inv (aU X (x::N) scope cl H3.objs.size s2 H2 fp) [] (none::cap σ) (upd H2 s2.heap.objs.size (.lst [])) { s2 with heap:=h4,toks:=s2.toks+([]:List (Str×Value)).length }:=by
  refine⟨ok',rfl,I2.bare,Un.laid old (le_refl _) hD,⟨_,hns4,fun i y v e1 e2 _=>?_⟩,fun y c e=>?_,?_,fun y c e=>?_,fun p hp=>absurd hp (by show p∉([]++[]:List (Addr×Obj)); simp),I2.hok.laid old (le_refl _) okD,?_⟩
  ·cases i with
   | zero=>simp at e2
   | succ i =>
    obtain⟨k1,k2,j,e3,e4⟩:=hcap σ i y v I2.len (show N[i]?=some y from e1) (show (cap σ)[i]?=some (some v) from e2)
    obtain⟨m,_,hl⟩:=I2.loc
    obtain⟨u,ru,lk⟩:=hl j y v e3 e4 (.inr (.inl k2))
    refine⟨u,ru,.inr ⟨k1,?_⟩⟩
    rcases lk with ⟨z,_⟩ | ⟨_,c,e5,hcl⟩
    ·rw[k2] at z; cases z
    ·obtain⟨c',e6⟩:=hhas y k1
     have:c'=c:=by
      have:=hsub y c' e6
      rw[e5] at this
      exact(Option.some.inj this).symm
     subst this
     obtain⟨oc,ho,hd⟩:=hcl
     exact⟨c',e6,oc,old _ _ ho,hd⟩
  ·obtain⟨v,oc,ho,hd⟩:=I2.cell y c (hsub y c e)
   exact⟨v,oc,old _ _ ho,hd⟩
  ·show upd H2 s2.heap.objs.size (.lst []) H3.objs.size=none
   rw[af (ne_of_gt szC)]
   exact I2.hok.fresh (Nat.le_of_lt szC)
  ·have h1:=I2.freeC y c (hsub y c e)
   obtain⟨v,oc,ho,_⟩:=I2.cell y c (hsub y c e)
   rw[af (ne_of_lt (Heap.lt_size ho))]
   exact h1
  ·show (none::cap σ).length=(x::N).length
   simp[hcapl]
 have stat:∀ {H':Hp},(∀ b∈fp,H' b=none)->∀ b∈fp,FpOk (aU X (x::N) scope cl H3.objs.size s2 H2 fp) [] H' b:=fun {H'} hn b hb =>
  ⟨hn b hb,(ok'.exf b hb).1,ok'.exfs b hb,.inl hb,(ok'.exf b hb).2,fun p hp=>absurd hp (by show p∉([]++[]:List (Addr×Obj)); simp)⟩
 have loop:codeAny (model X.prog X.w) X.A (.compLoop (.ListComp elt [⟨.Name x px,iter,[],0⟩] scope pos) 0 (.ref it) (.ref s2.heap.objs.size) (compEnvC scope cl H3.objs.size X.env))
   (compPost (model X.prog X.w) X.A X.xe none (EP X pins σ Q) (.ref s2.heap.objs.size) H3.objs.size) { s2 with heap:=h4,toks:=s2.toks+([]:List (Str×Value)).length }:=by
  refine codeAny_compLoop_list (fun n s'=>∃ (i:Nat) (z0:Option V) (H':Hp),Inv (aU X (x::N) scope cl H3.objs.size s2 H2 fp) [] (z0::cap σ) H' s'/\tn i s'.heap/\(∀ b∈fp,H' b=none)/\W i n H') ?_ m0
   ⟨0,none,_,I4,T.keep 0 _ _ st2 (fun b _ o e=>old b o e),fun b hb=>?_,w0⟩
  ·rintro n s5 ⟨i,z0,H5,I5,st5,fr5,w5⟩
   rcases turn i n H5 w5 with ⟨stop,qn⟩ | ⟨go,step⟩
   ·refine wpAny_mono (T.done (aU X (x::N) scope cl H3.objs.size s2 H2 fp) rfl rfl rfl rfl i [] s5 _ H5 _ I5 (stat fr5) st5 stop) (fun r s6 ⟨hr,I6⟩=>?_) fun _ _ z=>z
    subst hr
    obtain⟨m,hn6,_⟩:=id I6.loc
    refine⟨m,hn6,fun h' sb=>⟨.ref s2.heap.objs.size,H5,?_,rfl,qn⟩⟩
    have kp:∀ b o,b≠H3.objs.size->s6.heap.get? b=some o->h'.get? b=some o:=fun b o hb e=>sb.extBut b o hb e
    have nC:∀ b o,s2.heap.get? b=some o->b≠H3.objs.size:=fun b o e=>ne_of_lt (lt_trans (Heap.lt_size e) szC)
    have fC:H5 H3.objs.size=none:=I6.free
    refine I2.call' (ch:=fp) (s':={ s6 with heap:=h' }) I6.os ?_ ?_ I6.bare fun b hb=>⟨(f2 b hb).2.2.2.1,(f2 b hb).2.1,(f2 b hb).2.2.2.2.1,(f2 b hb).2.2.2.2.2⟩
    ·have U:Un (frs X.stack) fp H2 H5 s2.heap s6.heap:=I6.base
     exact⟨fun b o e n1 n2 n3=>kp b o (nC b o e) (U.keep b o e n1 n2 n3),fun b o e n1 n2 n3=>by
       obtain⟨sl,q⟩:=U.slot b o e n1 n2 n3
       exact⟨sl,kp b _ (nC b o e) q⟩,U.free,fun b o e n3=>by
       obtain⟨o',q⟩:=U.there b o e n3
       exact⟨o',kp b _ (nC b o e) q⟩,U.tups,U.frzs,U.tbls⟩
    ·intro b u e
     refine(I6.hok b u e).stay (fun c v hc q=>kp c v (fun z=>?_) q) (fun _ q=>q) fun _ _ q=>q
     rcases hc with y | y
     ·rw[<- y,z,fC] at e
      cases e
     ·rw[z,fC] at y
      cases y
   ·refine wpAny_mono (T.item (aU X (x::N) scope cl H3.objs.size s2 H2 fp) rfl rfl rfl rfl i [] s5 _ H5 _ I5 (stat fr5) st5 go) (fun r s6 ⟨u,hr,h6⟩=>?_) fun _ _ z=>z
    subst hr
    have key:(letOwnedTupleGo (.Name x px) (.ref it) u >>= fun _=>assign (.Name x px) (compEnvC scope cl H3.objs.size X.env) u)=assign (.Name x px) (compEnvC scope cl H3.objs.size X.env) u:=by first | rfl | exact pure_bind _ _
    dsimp only
    rw[<- key]
    refine wpAny_bind (wpAny_mono h6 (fun _ s7 ⟨v,H7,I7,r7,y7,st7,fr7⟩=>?_) fun _ _ z=>z)
    have I7':=I7.pinned (stat fr7) (T.obj _ _ st7)
    refine wpAny_assign_Name (eM (i:=0) I7' hN rfl (.inl (lookup_relabel_local hx)) r7 (fun s8 I8=>?_) (.inr (lookup_relabel_local hx)))
    refine wpAny_mono (he H3.objs.size s2 H2 fp _ s8 (some v::cap σ) H7 _ I8 (step v H7 y7)) (fun w9 s9 ⟨y,H9,I9,r9,ys,hys,hlt,m',hm,w9'⟩=>?_) fun _ _ z=>z.elim
    refine wpAny_mono (aY (X:=aU X (x::N) scope cl H3.objs.size s2 H2 fp) _ s9 _ H9 (.ref s2.heap.objs.size) [y] _ [w9] (fun _ Hn=>Hn=upd H9 s2.heap.objs.size (.lst (ys++[y]))) I9 rfl (.cons r9 .nil) ⟨_,ys,y,rfl,rfl,hys,hlt,rfl⟩) (fun _ s10 ⟨_,H10,I10,_,e10⟩=>?_) fun _ _ z=>z.elim
    subst e10
    refine⟨m',hm,i+1,some v,_,I10.unpinned,T.keep _ _ _ st7 fun b hb o e=>(I10.pin (b,o) (mem_append_right _ (mem_append_right _ (bO hb e)))).1,fun b hb=>?_,w9'⟩
    obtain⟨o,e,d⟩:=T.obj _ _ st7 b hb
    exact(I10.pin (b,o) (mem_append_right _ (mem_append_right _ (bO hb e)))).2.1
  ·obtain⟨o,ho,_⟩:=T.obj 0 _ st2 b hb
   rw[af (ne_of_lt (Heap.lt_size ho))]
   exact(f2 b hb).1
 exact codeAny_compStart_list loop (T.self X.A 0 _ _ _ (T.keep 0 _ _ st2 (fun b _ o e=>old b o e)) loop)
theorem eK (hc:X.calm=true) (hclos:closureFor scope X.env=pure []) (hno:∀ p∈scope.names,p.2≠.cell/\p.2≠.free) (hkind:scope.kind=.function)
  (hnames:∀ y∈scope.names,y.2=.local->scope.names.lookup y.1=some .local) (hx:scope.names.lookup x=some .local)
  (hi:PI X (.Name x px) iter wi) (he:∀ C s2 H2 fp,PE (aU X [x] scope [] C s2 H2 fp) elt te)
  (hs:∀ z,foldedSetIterable iter X.env z=pure z:=by intro _; rfl) :
  PE X (.ListComp elt [⟨.Name x px,iter,[],0⟩] scope pos) (pW wi te fun _=>[]):=by
 refine rE (N:=[]) (cl:=[]) hc hclos (fun _ _ e=>nomatch e) (fun y hy=>(hno y hy).1) hkind hnames hx (fun y hy=>?_) (by simp) (fun _=>rfl) (fun _ i y v _ e _=>by simp at e) hi he hs
 exfalso
 have sub:∀ (l:List (Str×NameKind)),(∀ p∈l,p.2≠.cell/\p.2≠.free)->∀ p∈(l.map fun (n,k)=>if (k == NameKind.free&&X.env.scope.kind == ScopeKind.function&&X.env.kindOf n == some NameKind.cell) then (n,NameKind.cell) else (n,k)),p.2≠.cell/\p.2≠.free:=by
  intro l hl p hp
  obtain⟨q,hq,e⟩:=List.mem_map.mp hp
  have h1:=hl q hq
  obtain⟨n,k⟩:=q
  have hf:(k == NameKind.free)=false:=by
   cases k <;> first | rfl | exact absurd rfl h1.2
  rw[<- e]
  dsimp only
  rw[hf,Bool.false_and,Bool.false_and,if_neg (by decide)]
  exact h1
 have mem:∀ k,Env.kindOf (compEnvC scope [] 0 X.env) y=some k->k≠.cell/\k≠.free:=fun k e=>sub scope.names hno (y,k) (PySem.mem_of_lookup e)
 rcases hy with z | z
 ·exact(mem _ z).1 rfl
 ·exact(mem _ z).2 rfl
theorem qx {i:Nat}{y:Str}{py spos:Pos}(hNX:X.N.Nodup) (hiy:X.N[i]?=some y) (hly:Loc X.env.scope y) (hsw:swapsWith (.ListComp elt [⟨.Name x px,iter,[],0⟩] scope pos) (some (.Name y py)) spos.line X.env=pure true) (hc:X.calm=true) (hclos:closureFor scope X.env=pure cl) (hsub:∀ n c,cl.lookup n=some c->X.env.cells.lookup n=some c)
  (hcell:∀ y∈scope.names,y.2≠.cell) (hkind:scope.kind=.function) (hnames:∀ y∈scope.names,y.2=.local->scope.names.lookup y.1=some .local) (hx:scope.names.lookup x=some .local)
  (hhas:∀ y,(Env.kindOf (compEnvC scope cl 0 X.env) y=some .cell\/Env.kindOf (compEnvC scope cl 0 X.env) y=some .free)->∃ c,cl.lookup y=some c)
  (hN:(x::N).Nodup) (hcapl:∀ σ,(cap σ).length=N.length)
  (hcap:∀ (σ:L2.St) (i:Nat) (y:Str) (v:V),σ.length=X.N.length->N[i]?=some y->(cap σ)[i]?=some (some v)->(Env.kindOf (compEnvC scope cl 0 X.env) y=some .cell\/Env.kindOf (compEnvC scope cl 0 X.env) y=some .free)/\X.env.kindOf y=some .cell/\∃ j:Nat,X.N[j]?=some y/\σ[j]?=some (some v))
  (hi:PI X (.Name x px) iter wi) (he:∀ C s2 H2 fp,PE (aU X (x::N) scope cl C s2 H2 fp) elt te)
  (hs:∀ z,foldedSetIterable iter X.env z=pure z:=by intro _; rfl) (hf:X.fn y=true\/X.env.scope.names.lookup y=some .local:=by first | exact .inl rfl | exact .inr rfl | assumption) :
  PS X (.Assign [.Name y py] (.ListComp elt [⟨.Name x px,iter,[],0⟩] scope pos) spos) (tAsg (pW wi te cap) (kS i)):=by
 intro pins s σ H DD I h
 rw[exec_Assign_Name_used _ _ _ _ hsw]
 refine wpAny_bind (wpAny_standAt (wpAny_bind ?_))
 show wpAny _ X.A (do let _ <- comprehension (.ListComp elt [⟨.Name x px,iter,[],0⟩] scope pos) scope X.env _ (newList []) false (eval iter X.env) (some (assign (.Name y py) X.env))) _ _ s
 refine wpAny_bind (wpAny_mono (wpAny_comprehension_free (use:=some (assign (.Name y py) X.env)) (Q:=fun _ s'=>SP X pins DD .next s') rfl hs hclos hkind hnames (thn (hi pins s σ H _ I h) fun xv s1 h1=>thn h1 fun itv s2 h2=>?_)) (fun _ s' hq=>wpAny_pure (wpAny_pure hq)) fun _ _ e=>e)
 obtain⟨it,fp,tn,J,H2,e,I2,T,st2,f2,hW⟩:=h2
 subst e
 have hD:H2 s2.heap.objs.size=none:=I2.hok.fresh (le_refl _)
 obtain⟨W,⟨m0,w0⟩,turn⟩:=hW s2.heap.objs.size hD
 refine wpAny_newObj_type (wpAny_newFunctionEnv hcell (by intro y hy; simp at hy) (fun h4 hns4 hsb4=>?_) hkind) (by show 0<=sizeLine; decide)
 dsimp only at hns4 hsb4 ⊢
 generalize hH3:s2.heap.push { cls:=.type "list",dict:=none,data:=.seq ([]:List Value).toArray }=H3 at hns4 hsb4 ⊢
 have hCz:H3.objs.size=s2.heap.objs.size+1:=by rw[<- hH3,Heap.size_push]
 have old3:∀ b o,s2.heap.get? b=some o->H3.get? b=some o:=fun b o e=>hH3 ▸ Heap.get?_push_of_some _ e
 have eD3:H3.get? s2.heap.objs.size=some { cls:=.type "list",dict:=none,data:=.seq ([]:List Value).toArray }:=hH3 ▸ Heap.get?_push_size _ rfl
 have old4:∀ b o,H3.get? b=some o->h4.get? b=some o:=fun b o e=>hsb4.extBut b o (ne_of_lt (Heap.lt_size e)) (Heap.get?_push_of_some _ e)
 have old:∀ b o,s2.heap.get? b=some o->h4.get? b=some o:=fun b o e=>old4 b o (old3 b o e)
 have szC:s2.heap.objs.size<H3.objs.size:=by rw[hCz]; exact lt_succ_self _
 have fpC:∀ b∈fp,b≠H3.objs.size:=fun b hb=>by
  obtain⟨o,ho,_⟩:=T.obj 0 _ st2 b hb
  exact ne_of_lt (lt_trans (Heap.lt_size ho) szC)
 have ok':(aU X (x::N) scope cl H3.objs.size s2 H2 fp).Ok:=by
  refine⟨I2.ok.mod,hkind,I2.ok.glob,I2.ok.blt,(Nat.le_of_lt szC),fun a b c e1 e2=>I2.ok.inj a b c (hsub a c e1) (hsub b c e2),fun y hy=>hhas y hy,fun y c z _=>absurd (show false=true from z) (by decide),
   fun _=>I2.ok.hd hc,I2.ok.frames,.inl rfl,fun b hb=>⟨fpC b hb,fun y c e=>(f2 b hb).2.2.2.2.1 y c (hsub y c e)⟩,I2.bs,Nat.le_trans I2.ok.bsz I2.sz,fun b o e hb=>?_,fun b hb z=>?_,I2.stack,I2.stkFree⟩
  ·rcases(f2 b hb).2.2.2.1 with q | q
   ·exact I2.ok.noex b o e q
   ·exact absurd (lt_of_lt_of_le (Heap.lt_size e) (Nat.le_trans I2.ok.bsz q)) (lt_irrefl _)
  ·rcases List.mem_cons.mp (I2.stkSub b z) with q | q
   ·exact(f2 b hb).2.1 q
   ·exact(f2 b hb).2.2.1 q
 have okD:ObjOk X.prog X.w (upd H2 s2.heap.objs.size (.lst [])) h4 s2.heap.objs.size (.lst []):=⟨zero_le _,[],0,.nil,old4 _ _ eD3⟩
 have I4:Inv (aU X (x::N) scope cl H3.objs.size s2 H2 fp) [] (none::cap σ) (upd H2 s2.heap.objs.size (.lst [])) { s2 with heap:=h4,toks:=s2.toks+([]:List (Str×Value)).length }:=by
  refine⟨ok',rfl,I2.bare,Un.laid old (le_refl _) hD,⟨_,hns4,fun i y v e1 e2 _=>?_⟩,fun y c e=>?_,?_,fun y c e=>?_,fun p hp=>absurd hp (by show p∉([]++[]:List (Addr×Obj)); simp),I2.hok.laid old (le_refl _) okD,?_⟩
  ·cases i with
   | zero=>simp at e2
   | succ i =>
    obtain⟨k1,k2,j,e3,e4⟩:=hcap σ i y v I2.len (show N[i]?=some y from e1) (show (cap σ)[i]?=some (some v) from e2)
    obtain⟨m,_,hl⟩:=I2.loc
    obtain⟨u,ru,lk⟩:=hl j y v e3 e4 (.inr (.inl k2))
    refine⟨u,ru,.inr ⟨k1,?_⟩⟩
    rcases lk with ⟨z,_⟩ | ⟨_,c,e5,hcl⟩
    ·rw[k2] at z; cases z
    ·obtain⟨c',e6⟩:=hhas y k1
     have:c'=c:=by
      have:=hsub y c' e6
      rw[e5] at this
      exact(Option.some.inj this).symm
     subst this
     obtain⟨oc,ho,hd⟩:=hcl
     exact⟨c',e6,oc,old _ _ ho,hd⟩
  ·obtain⟨v,oc,ho,hd⟩:=I2.cell y c (hsub y c e)
   exact⟨v,oc,old _ _ ho,hd⟩
  ·show upd H2 s2.heap.objs.size (.lst []) H3.objs.size=none
   rw[af (ne_of_gt szC)]
   exact I2.hok.fresh (Nat.le_of_lt szC)
  ·have h1:=I2.freeC y c (hsub y c e)
   obtain⟨v,oc,ho,_⟩:=I2.cell y c (hsub y c e)
   rw[af (ne_of_lt (Heap.lt_size ho))]
   exact h1
  ·show (none::cap σ).length=(x::N).length
   simp[hcapl]
 have stat:∀ {H':Hp},(∀ b∈fp,H' b=none)->∀ b∈fp,FpOk (aU X (x::N) scope cl H3.objs.size s2 H2 fp) [] H' b:=fun {H'} hn b hb =>
  ⟨hn b hb,(ok'.exf b hb).1,ok'.exfs b hb,.inl hb,(ok'.exf b hb).2,fun p hp=>absurd hp (by show p∉([]++[]:List (Addr×Obj)); simp)⟩
 have loop:codeAny (model X.prog X.w) X.A (.compLoop (.ListComp elt [⟨.Name x px,iter,[],0⟩] scope pos) 0 (.ref it) (.ref s2.heap.objs.size) (compEnvC scope cl H3.objs.size X.env))
   (compPost (model X.prog X.w) X.A X.xe (some (assign (.Name y py) X.env)) (fun _ s'=>SP X pins DD .next s') (.ref s2.heap.objs.size) H3.objs.size) { s2 with heap:=h4,toks:=s2.toks+([]:List (Str×Value)).length }:=by
  refine codeAny_compLoop_list (fun n s'=>∃ (i:Nat) (z0:Option V) (H':Hp),Inv (aU X (x::N) scope cl H3.objs.size s2 H2 fp) [] (z0::cap σ) H' s'/\tn i s'.heap/\(∀ b∈fp,H' b=none)/\W i n H') ?_ m0
   ⟨0,none,_,I4,T.keep 0 _ _ st2 (fun b _ o e=>old b o e),fun b hb=>?_,w0⟩
  ·rintro n s5 ⟨i,z0,H5,I5,st5,fr5,w5⟩
   rcases turn i n H5 w5 with ⟨stop,qn⟩ | ⟨go,step⟩
   ·refine wpAny_mono (T.done (aU X (x::N) scope cl H3.objs.size s2 H2 fp) rfl rfl rfl rfl i [] s5 _ H5 _ I5 (stat fr5) st5 stop) (fun r s6 ⟨hr,I6⟩=>?_) fun _ _ z=>z
    subst hr
    obtain⟨m,hn6,_⟩:=id I6.loc
    have I6X:Inv X pins σ H5 s6:=I2.call' (ch:=fp) (s':=s6) I6.os I6.base I6.hok I6.bare fun b hb=>⟨(f2 b hb).2.2.2.1,(f2 b hb).2.1,(f2 b hb).2.2.2.2.1,(f2 b hb).2.2.2.2.2⟩
    have fC:H5 H3.objs.size=none:=I6.free
    have nL:H3.objs.size≠X.env.locals:=Ne.symm (ne_of_lt (lt_trans I2.lt szC))
    have nCl:∀ z c,X.env.cells.lookup z=some c->c≠H3.objs.size:=fun z c e=>by
     obtain⟨v,oc,ho,_⟩:=I2.cell z c e
     exact ne_of_lt (lt_trans (Heap.lt_size ho) szC)
    refine wpAny_assign_Name (md I6X hNX hiy hly (v:=.ref s2.heap.objs.size) rfl (fun s7 I7 ⟨ad,sb7,had⟩=>?_) hf)
    have nA:H3.objs.size≠ad:=by
     rcases had with e | e
     ·rw[e]; exact nL
     ·exact Ne.symm (nCl _ _ e)
    refine⟨m,hn6.sameBut sb7 nA,fun h' sb=>⟨_,H5,?_,qn⟩⟩
    refine I7.turned (it:=H3.objs.size) (t':=s7.toks) (fun b o hb e=>sb.extBut b o hb e) fC nL (.inr (Nat.le_trans I2.sz (Nat.le_of_lt szC))) nCl fun p hp=>?_
    exact ne_of_lt (lt_trans (Heap.lt_size (I2.pin p hp).1) szC)
   ·refine wpAny_mono (T.item (aU X (x::N) scope cl H3.objs.size s2 H2 fp) rfl rfl rfl rfl i [] s5 _ H5 _ I5 (stat fr5) st5 go) (fun r s6 ⟨u,hr,h6⟩=>?_) fun _ _ z=>z
    subst hr
    have key:(letOwnedTupleGo (.Name x px) (.ref it) u >>= fun _=>assign (.Name x px) (compEnvC scope cl H3.objs.size X.env) u)=assign (.Name x px) (compEnvC scope cl H3.objs.size X.env) u:=by first | rfl | exact pure_bind _ _
    dsimp only
    rw[<- key]
    refine wpAny_bind (wpAny_mono h6 (fun _ s7 ⟨v,H7,I7,r7,y7,st7,fr7⟩=>?_) fun _ _ z=>z)
    have I7':=I7.pinned (stat fr7) (T.obj _ _ st7)
    refine wpAny_assign_Name (eM (i:=0) I7' hN rfl (.inl (lookup_relabel_local hx)) r7 (fun s8 I8=>?_) (.inr (lookup_relabel_local hx)))
    refine wpAny_mono (he H3.objs.size s2 H2 fp _ s8 (some v::cap σ) H7 _ I8 (step v H7 y7)) (fun w9 s9 ⟨yv,H9,I9,r9,ys,hys,hlt,m',hm,w9'⟩=>?_) fun _ _ z=>z.elim
    refine wpAny_mono (aY (X:=aU X (x::N) scope cl H3.objs.size s2 H2 fp) _ s9 _ H9 (.ref s2.heap.objs.size) [yv] _ [w9] (fun _ Hn=>Hn=upd H9 s2.heap.objs.size (.lst (ys++[yv]))) I9 rfl (.cons r9 .nil) ⟨_,ys,yv,rfl,rfl,hys,hlt,rfl⟩) (fun _ s10 ⟨_,H10,I10,_,e10⟩=>?_) fun _ _ z=>z.elim
    subst e10
    refine⟨m',hm,i+1,some v,_,I10.unpinned,T.keep _ _ _ st7 fun b hb o e=>(I10.pin (b,o) (mem_append_right _ (mem_append_right _ (bO hb e)))).1,fun b hb=>?_,w9'⟩
    obtain⟨o,e,d⟩:=T.obj _ _ st7 b hb
    exact(I10.pin (b,o) (mem_append_right _ (mem_append_right _ (bO hb e)))).2.1
  ·obtain⟨o,ho,_⟩:=T.obj 0 _ st2 b hb
   rw[af (ne_of_lt (Heap.lt_size ho))]
   exact(f2 b hb).1
 exact codeAny_compStart_list loop (T.self X.A 0 _ _ _ (T.keep 0 _ _ st2 (fun b _ o e=>old b o e)) loop)
theorem ps_comp0 {i:Nat}{y:Str}{py spos:Pos}(hNX:X.N.Nodup) (hiy:X.N[i]?=some y) (hly:Loc X.env.scope y) (hsw:swapsWith (.ListComp elt [⟨.Name x px,iter,[],0⟩] scope pos) (some (.Name y py)) spos.line X.env=pure true) (hc:X.calm=true) (hclos:closureFor scope X.env=pure []) (hno:∀ p∈scope.names,p.2≠.cell/\p.2≠.free) (hkind:scope.kind=.function)
  (hnames:∀ y∈scope.names,y.2=.local->scope.names.lookup y.1=some .local) (hx:scope.names.lookup x=some .local)
  (hi:PI X (.Name x px) iter wi) (he:∀ C s2 H2 fp,PE (aU X [x] scope [] C s2 H2 fp) elt te)
  (hs:∀ z,foldedSetIterable iter X.env z=pure z:=by intro _; rfl) (hf:X.fn y=true\/X.env.scope.names.lookup y=some .local:=by first | exact .inl rfl | exact .inr rfl | assumption) :
  PS X (.Assign [.Name y py] (.ListComp elt [⟨.Name x px,iter,[],0⟩] scope pos) spos) (tAsg (pW wi te fun _=>[]) (kS i)):=by
 refine qx hNX hiy hly hsw (N:=[]) (cl:=[]) hc hclos (fun _ _ e=>nomatch e) (fun z hy=>(hno z hy).1) hkind hnames hx (fun z0 hy=>?_) (by simp) (fun _=>rfl) (fun _ i y v _ e _=>by simp at e) hi he hs hf
 exfalso
 have sub:∀ (l:List (Str×NameKind)),(∀ p∈l,p.2≠.cell/\p.2≠.free)->∀ p∈(l.map fun (n,k)=>if (k == NameKind.free&&X.env.scope.kind == ScopeKind.function&&X.env.kindOf n == some NameKind.cell) then (n,NameKind.cell) else (n,k)),p.2≠.cell/\p.2≠.free:=by
  intro l hl p hp
  obtain⟨q,hq,e⟩:=List.mem_map.mp hp
  have h1:=hl q hq
  obtain⟨n,k⟩:=q
  have hf:(k == NameKind.free)=false:=by
   cases k <;> first | rfl | exact absurd rfl h1.2
  rw[<- e]
  dsimp only
  rw[hf,Bool.false_and,Bool.false_and,if_neg (by decide)]
  exact h1
 have mem:∀ k,Env.kindOf (compEnvC scope [] 0 X.env) z0=some k->k≠.cell/\k≠.free:=fun k e=>sub scope.names hno (z0,k) (PySem.mem_of_lookup e)
 rcases hy with z | z
 ·exact(mem _ z).1 rfl
 ·exact(mem _ z).2 rfl
theorem cF {K:Frag}{a D:Addr}{xs:List V}{te':TE}{tl:L2.St}{G:Hp->Prop}{H1:Hp}(Pv:Nat->Hp->Prop) (h0:Pv 0 (upd H1 D (.lst []))) (hl:∀ i H,i<=xs.length->Pv i H->SqL K H a xs)
  (hs:∀ i x H,xs[i]?=some x->Pv i H->te' (some x::tl) H fun y H2=>∃ ys,H2 D=some (.lst ys)/\ys.length<sizeLine/\∃ m',m'<xs.length-i/\(m'=xs.length-(i+1)/\i+1<=xs.length/\Pv (i+1) (upd H2 D (.lst (ys++[y])))))
  (hd:∀ H,Pv xs.length H->G H) :
  ∃ W:Nat->Nat->Hp->Prop,(∃ m,W 0 m (upd H1 D (.lst [])))/\∀ i m H,W i m H ->
   ((Itl K a).stop i H/\G H)\/((Itl K a).go i H/\∀ x H',(Itl K a).yld i H x H'->te' (some x::tl) H' fun y H2=>∃ ys,H2 D=some (.lst ys)/\ys.length<sizeLine/\∃ m',m'<m/\W (i+1) m' (upd H2 D (.lst (ys++[y])))):=by
 refine⟨fun i m H=>m=xs.length-i/\i<=xs.length/\Pv i H,⟨xs.length,by simp,zero_le _,h0⟩,?_⟩
 rintro i m H ⟨rfl,hi,p⟩
 have q:=hl i H hi p
 by_cases hlt:i<xs.length
 ·refine .inr ⟨⟨xs,xs[i],q,by simp[hlt]⟩,fun x H' y=>?_⟩
  obtain⟨e,y⟩:=y
  subst e
  exact hs i x _ (y xs q) p
 ·have e:i=xs.length:=by omega
  subst e
  exact .inl ⟨⟨xs,q,le_refl _⟩,hd H p⟩
end
def tJoin (t u:TS):TS:=fun D σ H=>∃ J:L2.St->Hp->Prop,t { D with nx:=J } σ H/\∀ σ' H',J σ' H'->u D σ' H'
theorem gg {X:Cx}{st:Stmt}{rest:List Stmt}{t u:TS}(h1:PS X st t) (h2:PSs X rest u):PSs X (st::rest) (tJoin t u):=by
 intro pins s σ H D I h
 obtain⟨J,h,hJ⟩:=h
 refine wpAny_execs_cons (thn (h1 pins s σ H { D with nx:=J } I h) fun f s1 q=>?_)
 cases f with
 | next =>
  obtain⟨σ',H',I',q⟩:=q
  exact h2 pins s1 σ' H' D I' (hJ _ _ q)
 | ret v=>exact q
 | brk=>exact q
 | cont=>exact q
end Ow
namespace Ow
open PySem PySem.Spec PyProof.Rows L2
section
variable {X:Cx}
theorem df {xs:List V}{us:List Value}(r:Vals xs us) {j:Nat}(h1:j<us.length):RelV (xs.getD j .non) us[j]:=by
 have hl:=r.length
 have hj:j<xs.length:=by omega
 obtain⟨u,hu,ru⟩:=r.get (i:=j) (x:=xs[j]) (List.getElem?_eq_getElem hj)
 rw[List.getElem?_eq_getElem h1] at hu
 rw[getD_eq_getElem?_getD,List.getElem?_eq_getElem hj]
 cases hu
 exact ru
def rEq0 (K:Frag) (neg:Bool):R2:=fun x y H Q=>∃ p q xs,x=.ref p/\y=.ref q/\SqL K H p xs/\SqL K H q []/\Q (.bl (if neg then !xs.isEmpty else xs.isEmpty)) H
theorem oY (hu:X.A.units<cLine):OpR X (compareOp .Eq) (rEq0 X.K false):=by
 intro pins s σ H x y v u Q I rx ry h
 obtain⟨p,q,xs,rfl,rfl,hp,hq,k⟩:=h
 cases rx
 cases ry
 obtain⟨its,r,pl,hz⟩:=I.list hp
 obtain⟨its2,r2,pl2,hz2⟩:=I.list hq
 cases r2
 have hl:=r.length
 cases xs with
 | nil =>
  cases r
  exact SeqAt.eq_listAt (e:=fun _=>true) pl.isList pl2.isList rfl hu (fun j h1 _=>absurd h1 (by simp)) ⟨.bl _,H,I,rfl,k⟩
 | cons z zs =>
  refine SeqAt.eq_list_lengthsAt pl.isList pl2.isList ?_ hu ⟨.bl _,H,I,rfl,k⟩
  rw[length_cons] at hl
  simp only[size_toArray,<- hl]
  rfl
theorem iP (hu:X.A.units<cLine):OpR X (compareOp .NotEq) (rEq0 X.K true):=by
 intro pins s σ H x y v u Q I rx ry h
 obtain⟨p,q,xs,rfl,rfl,hp,hq,k⟩:=h
 cases rx
 cases ry
 obtain⟨its,r,pl,hz⟩:=I.list hp
 obtain⟨its2,r2,pl2,hz2⟩:=I.list hq
 cases r2
 have hl:=r.length
 cases xs with
 | nil =>
  cases r
  exact SeqAt.RcNeAt.lists (e:=fun _=>true) pl.isList pl2.isList rfl hu (fun j h1 _=>absurd h1 (by simp)) X.prog X.w X.xe _ ⟨.bl _,H,I,rfl,k⟩
 | cons z zs =>
  refine SeqAt.RcNeAt.lists_lengths pl.isList pl2.isList ?_ hu X.prog X.w X.xe _ ⟨.bl _,H,I,rfl,k⟩
  rw[length_cons] at hl
  simp only[size_toArray,<- hl]
  rfl
structure ClsFn (K:Frag) (C:Addr) (m:Str) (f:Addr):Prop where
 reads:PySem.W.readsIn K C (.type "type")=true
 ga:PySem.W.specialIn K (.ref C) "__getattribute__"=some (some (.builtin "type.__getattribute__"))
 fnd:PySem.W.findCls K (.ref C) (.type "type") m=some (.val (.ref f))
 hd:PySem.W.handedIn (.ref f)=true
 kp:keepIn K (.ref f)=true
theorem pe_clsm {pl:Sem Bool}{k:Nat}{f C:Addr}{fd:FuncData}{ps:List Str}{sp:Sp}{cn m:Str}{p pos apos:Pos}{e:Expr}{es:List Expr}{t:TA}(hg:Gl X cn) (hC:X.mg cn=some (.ref C)) (cf:ClsFn X.K C m f)
  (F:FnOk X.prog X.w X.K X.mg X.base CX0 k f fd ps sp) (hr:Room k X.A) (hb:Binds X.K fd ps []) (ha:PA X (e::es) t) (hdb:(cn == ("__debug__":Str))=false:=by decide)
  (hst:starEach (e::es) X.env=(false,eval e X.env)::starEach es X.env:=by rfl) (hpl:(backTo pos (starEach es X.env)).any (·.1)=false:=by rfl)
  (ht:eval (.Call (.Attribute (.Name cn p) m apos) (e::es) [] pos) X.env=(do
   let ov <- eval (.Name cn p) X.env
   standAt apos.atName
   let (f,first) <- holding [ov] (getMethod ov m pl)
   callWith pos f first (backTo pos (starEach (e::es) X.env)) (backToKw pos (keywordEach [] X.env))):=by rfl) :
  PE X (.Call (.Attribute (.Name cn p) m apos) (e::es) [] pos) (ma sp [] E0 t):=by
 intro pins s σ H Q I h
 refine PySem.W.methodCall_KW (pl:=pl) (dU I hg hC ?_ hdb) ht
 refine PySem.W.method_cls I.kIn cf.ga (PySem.W.cls_value I.kIn cf.reads cf.fnd cf.hd ?_)
 have I1:=I.tok (s.toks+1)
 refine PySem.W.callWith_K (first:=[]) (h₀:=X.base) I.ok.mod.kin cf.kp (thn (ha pos pins _ σ H _ I1 h) fun us s2 ⟨vs,H2,I2,r,q2⟩=>⟨I2.kIn,?_⟩) hst hpl
 exact lF (us:=us) (vs:=vs) F hr hb .nil pJ I2 r q2
end
end Ow
namespace Ow
open PySem PySem.Spec PyProof.Rows L2
section
variable {X:Cx}
def rAddL (K:Frag):R2:=fun x y H Q=>∃ a b xs ys,x=.ref a/\y=.ref b/\SqL K H a xs/\SqL K H b ys/\xs.length+ys.length<=sizeLine/\∀ p,H p=none->Q (.ref p) (upd H p (.lst (xs++ys)))
theorem cO:OpR X (binaryOp .Add) (rAddL X.K):=by
 intro pins s σ H x y v u Q I rx ry h
 obtain⟨a,b,xs,ys,rfl,rfl,ha,hb,hz,q⟩:=h
 cases rx
 cases ry
 obtain⟨its,r,pl,_⟩:=I.list ha
 obtain⟨its2,r2,pl2,_⟩:=I.list hb
 have hl:=r.length
 have hl2:=r2.length
 obtain⟨⟨cls,dd,data,sl⟩,ho,hc,n,hd⟩:=id pl.isList
 obtain⟨⟨cls2,dd2,data2,sl2⟩,ho2,hc2,n2,hd2⟩:=id pl2.isList
 simp only at hc hd hc2 hd2
 subst hc hd hc2 hd2
 have e:its.toArray++its2.toArray=(its++its2).toArray:=by simp
 refine concat_meets ⟨_,ho,rfl⟩ ⟨_,ho2,rfl⟩ noFill_list_add seq_list_add PySem.F.slot_list_add PySem.F.entry_list_add (PySem.F.args_list_add_2 _ _) (list_addW a b its.toArray its2.toArray n n2 dd dd2 sl sl2 (by simp; omega)) ⟨ho,ho2,?_⟩
 rw[e]
 exact⟨.ref s.heap.objs.size,_,I.lnew (t':=s.toks) (r.append r2) (by rw[length_append]; exact hz),rfl,q _ I.fresh⟩
variable {tg:Expr}
inductive EqD (K:Frag) (H:Hp):Nat->V->V->Bool->Prop where
 | flat {d:Nat} {x y:V} (fx:eS x=true) (fy:eS y=true):EqD K H d x y (eqV x y)
 | tup {d:Nat} {p q:Addr} {xs ys:List V} {e:Nat->Bool} (hn:p≠q) (hx:SqT K H p xs) (hy:SqT K H q ys) (he:∀ j,j<xs.length->j<ys.length->EqD K H d (xs.getD j .non) (ys.getD j .non) (e j)) :
   EqD K H (d+1) (.ref p) (.ref q) ((List.range (min xs.length ys.length)).all e&&xs.length == ys.length)
 | lst {d:Nat} {p q:Addr} {xs ys:List V} {e:Nat->Bool} (hn:p≠q) (hx:SqL K H p xs) (hy:SqL K H q ys) (hl:xs.length=ys.length) (he:∀ j,j<xs.length->EqD K H d (xs.getD j .non) (ys.getD j .non) (e j)) :
   EqD K H (d+1) (.ref p) (.ref q) ((List.range xs.length).all e)
 | same {d:Nat} {p:Addr}:EqD K H d (.ref p) (.ref p) true
theorem EqD.at {pins:List (Addr×Obj)}{σ:L2.St}{H:Hp}{s:Shared}(I:Inv X pins σ H s):∀ {d:Nat}{x y:V}{b:Bool}{u v:Value}{A:Around},EqD X.K H d x y b->RelV x u->RelV y v->A.units+d<cLine->SeqAt.EqAt A s u v b:=by
 intro d x y b u v A h
 induction h generalizing u v A with
 | flat fx fy=>intro rx ry _; exact qW rx ry fx fy
 | same=>intro rx ry _; cases rx; cases ry; exact SeqAt.EqAt.same _
 | @tup d p q xs ys e hn hx hy he ih =>
  intro rx ry hu
  cases rx
  cases ry
  obtain⟨its,r,pl,_⟩:=I.tuple hx
  obtain⟨its2,r2,pl2,_⟩:=I.tuple hy
  have hl:=r.length
  have hl2:=r2.length
  have:=SeqAt.EqAt.of_refs hn (SeqAt.RcAt.tuples (A:=A) (e:=e) pl pl2 (by omega) (fun j h1 h2=>by
   have h1':j<its.length:=by simpa using h1
   have h2':j<its2.length:=by simpa using h2
   have z:=ih j (by omega) (by omega) (df r h1') (df r2 h2') (A:=A.in1) (by show A.units+1+d<_; omega)
   simpa using z))
  simp only[size_toArray,<- hl,<- hl2] at this
  exact this
 | @lst d p q xs ys e hn hx hy hle he ih =>
  intro rx ry hu
  cases rx
  cases ry
  obtain⟨its,r,pl,_⟩:=I.list hx
  obtain⟨its2,r2,pl2,_⟩:=I.list hy
  have hl:=r.length
  have hl2:=r2.length
  have:=SeqAt.EqAt.of_refs hn (SeqAt.RcAt.lists (A:=A) (e:=e) pl.isList pl2.isList (by simp only[size_toArray]; omega) (by omega) (fun j h1 h2=>by
   have h1':j<its.length:=by simpa using h1
   have h2':j<its2.length:=by simpa using h2
   have z:=ih j (by omega) (df r h1') (df r2 h2') (A:=A.in1) (by show A.units+1+d<_; omega)
   simpa using z))
  simp only[size_toArray,<- hl] at this
  exact this
theorem qE:∀ {xs:List V}{us:List Value},xs.length=us.length->(∀ (j:Nat) (x:V) (u:Value),xs[j]?=some x->us[j]?=some u->RelV x u)->Vals xs us
 | [],[],_,_=>.nil
 | [],_::_,h,_=>absurd h (by simp)
 | _::_,[],h,_=>absurd h (by simp)
 | x::xs,u::us,hl,h=>.cons (h 0 x u rfl rfl) (qE (by simpa using hl) fun j y v h1 h2=>h (j+1) y v (by simpa using h1) (by simpa using h2))
def upTo (j:Int):List V:=(List.range j.toNat).map fun k:Nat=>V.int (k:Int)
theorem jr (j:Int):(upTo j).length=j.toNat:=by unfold upTo; simp
theorem upTo_at {j:Int}{k:Nat}{x:V}(h:(upTo j)[k]?=some x):x=.int k/\k<j.toNat:=by
 unfold upTo at h
 rw[List.getElem?_map] at h
 by_cases hk:k<j.toNat
 ·rw[List.getElem?_range hk] at h
  cases h
  exact⟨rfl,hk⟩
 ·rw[List.getElem?_eq_none (by simpa using hk)] at h
  cases h
def tRange1 (ta:TA):TE:=fun σ H Q=>ta σ H fun vs H1=>∃ j:Int,vs=[.int j]/\∀ p,H1 p=none->Q (.ref p) (upd H1 p (.rng 0 j))
theorem qA {a:Expr}{ta:TA}{p pos:Pos}(hg:Gl X "range") (hm:X.mg "range"=none) (ha:PA X [a] ta) (hs:starEach [a] X.env=[(false,eval a X.env)]:=by rfl):PE X (.Call (.Name "range" p) [a] [] pos) (tRange1 ta):=by
 intro pins s σ H Q I h
 refine Call_ (gQ I hg hm boot_range (PyProof.Rows.callWith_type1 (thn (ha pos pins s σ H _ I h) fun us s1 ⟨vs,H1,I1,r1,q1⟩=>?_) hs rfl))
 obtain⟨j,e,q⟩:=q1
 subst e
 cases r1 with
 | cons r rr =>
  cases rr
  obtain⟨t,rfl⟩:=r
  exact call_range_1 ⟨.ref s1.heap.objs.size,_,I1.laid (o:=.rng 0 j) (fun _ _ q=>Heap.get?_push_of_some _ q) (le_refl _) ⟨_,_,_,Heap.get?_push_size _ rfl⟩,rfl,q _ I1.fresh⟩
theorem kc (hc:X.calm=true):fD X (.type "list") (fun xs H Q=>∃ p j,xs=[.ref p]/\H p=some (.rng 0 j)/\0<=j/\j<=100000/\∀ l,H l=none->Q (.ref l) (upd H l (.lst (upTo j)))):=by
 intro pins s σ H xs us Q I r h
 obtain⟨p,j,rfl,hp,j0,j1,q⟩:=h
 obtain⟨u,rfl,rx⟩:=kM r
 cases rx
 obtain⟨t,u,v,e⟩:=I.hok p _ hp
 refine call_list_range (n:=j.toNat) (I.ok.hd hc) e (small_one (by decide) (by decide) (by omega) (by omega)) (by rw[rangeSize_one]; split <;> omega) (by omega) fun h' tk acc' c' hk hS' hacc=>?_
 refine⟨.ref s.heap.objs.size,_,I.laid (t':=tk) hk (le_refl _) (show ObjOk X.prog X.w _ h' _ (.lst (upTo j)) from ⟨?_,acc'.toList,c',?_,by simpa using hS'⟩),rfl,q _ I.fresh⟩
 ·rw[jr]
  have:(100000:Nat)<=sizeLine:=by decide
  omega
 ·refine qE (by rw[jr]; simp[hacc.1]) fun k x u h1 h2=>?_
  obtain⟨rfl,hk2⟩:=upTo_at h1
  obtain⟨tt,rfl⟩:=hacc.2 k u (by simpa using h2)
  refine⟨tt,?_⟩
  rw[Int.zero_add,Int.mul_one]
end
end Ow
namespace Ow
open PySem PySem.Spec PyProof.Rows L2
section
variable {X:Cx}{tg:Expr}
theorem fo (hc:X.calm=true):fD X (.builtin "all") (fun xs H Q=>∃ (a:Addr) (bs:List Bool),xs=[.ref a]/\SqL X.K H a (bs.map V.bl)/\Q (.bl (bs.all id)) H):=by
 intro pins s σ H xs us Q I r h
 obtain⟨a,bs,rfl,hq,q⟩:=h
 obtain⟨u,rfl,rx⟩:=kM r
 cases rx
 obtain⟨its,rv,pl,hz⟩:=I.list hq
 have hl:=rv.length
 rw[length_map] at hl
 refine call_all_walk (wpAny_pyIter_list pl.isList ?_)
 have hne:a≠s.heap.objs.size:=by
  obtain⟨o,ho,_⟩:=pl.isList
  exact ne_of_lt (Heap.lt_size ho)
 refine⟨s.heap.objs.size,_,_,_,_,_,fun j=>bs.getD j false,rfl,Walks.list (A:=X.A.in1) (I.ok.hd hc) s.heap.objs.size a hne its.toArray,⟨⟨_,Heap.get?_push_size _ rfl,rfl,rfl⟩,Heap.IsList.push pl.isList _⟩,?_,?_⟩
 ·intro i v s' Q' E' hP hQ'
  have hP':its[i]?=some v:=by simpa using hP
  have hi:i<its.length:=(List.getElem?_eq_some_iff.mp hP').1
  have hb:(bs.map V.bl)[i]?=some (V.bl (bs.getD i false)):=by
   rw[List.getElem?_map,getD_eq_getElem?_getD,List.getElem?_eq_getElem (by omega)]
   rfl
  obtain⟨u',hu',ru'⟩:=rv.get hb
  rw[hP'] at hu'
  cases hu'
  cases ru'
  exact wpAny_truthy_bool hQ'
 ·intro h' tk hk
  refine⟨.bl _,H,I.kept (t':=tk) fun b o e=>hk b o (fun z=>?_) (Heap.get?_push_of_some _ e),?_,q⟩
  ·have z':b=s.heap.objs.size:=by simpa using z
   exact absurd (Heap.lt_size e) (by rw[z']; exact lt_irrefl _)
  ·have e1:(List.range its.toArray.size).all (fun j=>bs.getD j false)=bs.all id:=by
    rw[size_toArray,<- hl]
    rw[Bool.eq_iff_iff,List.all_eq_true,List.all_eq_true]
    constructor
    ·intro h x hx
     obtain⟨j,hj,e⟩:=List.getElem_of_mem hx
     have:=h j (List.mem_range.mpr hj)
     rw[getD_eq_getElem?_getD,List.getElem?_eq_getElem hj] at this
     show x=true
     rw[<- e]
     exact this
    ·intro h j hj
     have hj':=List.mem_range.mp hj
     rw[getD_eq_getElem?_getD,List.getElem?_eq_getElem hj']
     exact h _ (List.getElem_mem hj')
   rw[e1]
   rfl
variable {elt iter:Expr}{x:Str}{px pos:Pos}{scope:Scope}{wi:TI}{te:TE}{cl:List (Str×Addr)}
theorem oA (js:List Nat) (ns:List Str) (hc:X.calm=true) (hclos:closureFor scope X.env=pure cl) (hcls:cl.map (·.1)=ns) (hsub:∀ p∈cl,X.env.cells.lookup p.1=some p.2)
  (hno:∀ p∈scope.names,p.2≠.cell/\(p.2=.free->p.1∈ns)) (hkind:scope.kind=.function) (hnames:∀ y∈scope.names,y.2=.local->scope.names.lookup y.1=some .local) (hx:scope.names.lookup x=some .local)
  (hN:(x::ns).Nodup) (hkd:∀ y∈ns,(Env.kindOf (compEnvC scope cl 0 X.env) y=some .cell\/Env.kindOf (compEnvC scope cl 0 X.env) y=some .free)/\X.env.kindOf y=some .cell)
  (hjl:js.length=ns.length) (hj:js.map (fun j=>X.N[j]?)=ns.map some)
  (hi:PI X (.Name x px) iter wi) (he:∀ C s2 H2 fp,PE (aU X (x::ns) scope cl C s2 H2 fp) elt te)
  (hs:∀ z,foldedSetIterable iter X.env z=pure z:=by intro _; rfl) :
  PE X (.ListComp elt [⟨.Name x px,iter,[],0⟩] scope pos) (pW wi te fun σ=>js.map fun j=>(σ[j]?).getD none):=by
 refine rE (N:=ns) (cl:=cl) hc hclos (fun n c e=>hsub (n,c) (PySem.mem_of_lookup e)) (fun y hy=>(hno y hy).1) hkind hnames hx (fun y hy=>?_) hN (fun σ=>by rw[length_map]; exact hjl) (fun σ i y v _ e1 e2=>?_) hi he hs
 ·have sub:∀ (l:List (Str×NameKind)),(∀ p∈l,p.2≠.cell/\(p.2=.free->p.1∈ns))->∀ p∈(l.map fun (n,k)=>if (k == NameKind.free&&X.env.scope.kind == ScopeKind.function&&X.env.kindOf n == some NameKind.cell) then (n,NameKind.cell) else (n,k)),(p.2=.cell\/p.2=.free)->p.1∈ns:=by
   intro l hl p hp hk
   obtain⟨q,hq,e⟩:=List.mem_map.mp hp
   have h1:=hl q hq
   obtain⟨n,k⟩:=q
   dsimp only at e
   by_cases hf:k=.free
   ·have h2:=h1.2 hf
    split at e
    ·rw[<- e]; exact h2
    ·rw[<- e]; exact h2
   ·have hf':(k == NameKind.free)=false:=by
     cases k <;> first | rfl | exact absurd rfl hf
    rw[hf',Bool.false_and,Bool.false_and,if_neg (by decide)] at e
    rw[<- e] at hk
    rcases hk with z | z
    ·exact absurd z h1.1
    ·exact absurd z hf
  have hy':y∈ns:=by
   rcases hy with z | z
   ·exact sub scope.names hno (y,.cell) (PySem.mem_of_lookup z) (.inl rfl)
   ·exact sub scope.names hno (y,.free) (PySem.mem_of_lookup z) (.inr rfl)
  rw[<- hcls] at hy'
  have key:∀ l:List (Str×Addr),y∈l.map (·.1)->∃ c,l.lookup y=some c:=by
   intro l
   induction l with
   | nil=>intro h; simp at h
   | cons p r ih =>
    intro h
    by_cases e:y=p.1
    ·exact⟨p.2,by obtain⟨p1,p2⟩:=p; dsimp only at e; subst e; simp[List.lookup]⟩
    ·have h':y∈r.map (·.1):=by
      rw[map_cons] at h
      exact(List.mem_cons.mp h).resolve_left e
     obtain⟨c,hc'⟩:=ih h'
     refine⟨c,?_⟩
     obtain⟨p1,p2⟩:=p
     have:(y == p1)=false:=by simpa using e
     rw[lookup_cons,this]
     exact hc'
  exact key cl hy'
 ·have hm:y∈ns:=mem_of_getElem? e1
  refine⟨(hkd y hm).1,(hkd y hm).2,?_⟩
  rw[List.getElem?_map] at e2
  cases hji:js[i]? with
  | none=>rw[hji] at e2; cases e2
  | some j =>
   rw[hji] at e2
   have e3:(σ[j]?).getD none=some v:=by
    have:=Option.some.inj e2
    exact this
   have e4:=congrArg (fun l=>l[i]?) hj
   rw[List.getElem?_map,List.getElem?_map,hji,e1] at e4
   have e5:X.N[j]?=some y:=by
    have:=Option.some.inj e4
    exact this
   refine⟨j,e5,?_⟩
   cases hσ:σ[j]? with
   | none=>rw[hσ] at e3; cases e3
   | some o =>
    rw[hσ] at e3
    have e6:o=some v:=e3
    rw[e6]
structure CHas (P:Program) (w:World) (K:Frag) (mg:Str->Option Value) (base:Heap) (k:Nat) (C:Addr) (x:Str) (ps:List Str) (sp:Sp):Prop where
 ex:∃ (f:Addr) (fd:FuncData),Mk K C f/\FnOk P w K mg base CX0 k f fd ps sp/\Binds K fd ps []/\mg x=some (.ref C)
theorem iw {k:Nat}{C:Addr}{y:Str}{ps:List Str}{sp:Sp}{p:Pos}{e:Expr}{es:List Expr}{t:TA}(h:CHas X.prog X.w X.K X.mg X.base k C y ps sp) (hr:Room (k+1) X.A) (hg:Gl X y) (ha:PA X (e::es) t) (hdb:(y == ("__debug__":Str))=false:=by decide)
  (he:starEach (e::es) X.env=(false,eval e X.env)::starEach es X.env:=by rfl) (hpl:(backTo pos (starEach es X.env)).any (·.1)=false:=by rfl) :
  PE X (.Call (.Name y p) (e::es) [] pos) (tMake C sp [] E0 t):=by
 obtain⟨f,fd,M,F,b,m⟩:=h.ex
 exact pe_make M F hr hg m b .nil pJ ha hdb he hpl
structure BHas (P:Program) (w:World) (K:Frag) (mg:Str->Option Value) (base:Heap) (k:Nat) (x m:Str) (ps:List Str) (sp:Sp):Prop where
 ex:∃ (C f:Addr) (fd:FuncData),ClsFn K C m f/\FnOk P w K mg base CX0 k f fd ps sp/\Binds K fd ps []/\mg x=some (.ref C)
theorem nJ {pl:Sem Bool}{k:Nat}{ps:List Str}{sp:Sp}{cn m:Str}{p apos:Pos}{e:Expr}{es:List Expr}{t:TA}(h:BHas X.prog X.w X.K X.mg X.base k cn m ps sp) (hr:Room k X.A) (hg:Gl X cn) (ha:PA X (e::es) t) (hdb:(cn == ("__debug__":Str))=false:=by decide)
  (hst:starEach (e::es) X.env=(false,eval e X.env)::starEach es X.env:=by rfl) (hpl:(backTo pos (starEach es X.env)).any (·.1)=false:=by rfl)
  (ht:eval (.Call (.Attribute (.Name cn p) m apos) (e::es) [] pos) X.env=(do
   let ov <- eval (.Name cn p) X.env
   standAt apos.atName
   let (f,first) <- holding [ov] (getMethod ov m pl)
   callWith pos f first (backTo pos (starEach (e::es) X.env)) (backToKw pos (keywordEach [] X.env))):=by rfl) :
  PE X (.Call (.Attribute (.Name cn p) m apos) (e::es) [] pos) (ma sp [] E0 t):=by
 obtain⟨C,f,fd,cf,F,b,g⟩:=h.ex
 exact pe_clsm hg g cf F hr b ha hdb hst hpl ht
end
end Ow
namespace Ow
open PySem PySem.Spec PyProof.Rows L2
section
variable {X:Cx}
theorem ix_listK {K:Frag}(h:X.K=K):IxR X (rIxL K):=by
 subst h
 exact aD
theorem im {K:Frag}(h:X.K=K):IxR X (rIxT K):=by
 subst h
 exact bj
variable {elt iter:Expr}{x:Str}{px pos:Pos}{scope:Scope}{wi:TI}{te:TE}{cl:List (Str×Addr)}
theorem gP {i:Nat}{y:Str}{py spos:Pos}(hNX:X.N.Nodup) (hiy:X.N[i]?=some y) (hly:Loc X.env.scope y) (hsw:swapsWith (.ListComp elt [⟨.Name x px,iter,[],0⟩] scope pos) (some (.Name y py)) spos.line X.env=pure true) (js:List Nat) (ns:List Str) (hc:X.calm=true) (hclos:closureFor scope X.env=pure cl) (hcls:cl.map (·.1)=ns) (hsub:∀ p∈cl,X.env.cells.lookup p.1=some p.2)
  (hno:∀ p∈scope.names,p.2≠.cell/\(p.2=.free->p.1∈ns)) (hkind:scope.kind=.function) (hnames:∀ y∈scope.names,y.2=.local->scope.names.lookup y.1=some .local) (hx:scope.names.lookup x=some .local)
  (hN:(x::ns).Nodup) (hkd:∀ y∈ns,(Env.kindOf (compEnvC scope cl 0 X.env) y=some .cell\/Env.kindOf (compEnvC scope cl 0 X.env) y=some .free)/\X.env.kindOf y=some .cell)
  (hjl:js.length=ns.length) (hj:js.map (fun j=>X.N[j]?)=ns.map some)
  (hi:PI X (.Name x px) iter wi) (he:∀ C s2 H2 fp,PE (aU X (x::ns) scope cl C s2 H2 fp) elt te)
  (hs:∀ z,foldedSetIterable iter X.env z=pure z:=by intro _; rfl) (hf:X.fn y=true\/X.env.scope.names.lookup y=some .local:=by first | exact .inl rfl | exact .inr rfl | assumption) :
  PS X (.Assign [.Name y py] (.ListComp elt [⟨.Name x px,iter,[],0⟩] scope pos) spos) (tAsg (pW wi te fun σ=>js.map fun j=>(σ[j]?).getD none) (kS i)):=by
 refine qx hNX hiy hly hsw (N:=ns) (cl:=cl) hc hclos (fun n c e=>hsub (n,c) (PySem.mem_of_lookup e)) (fun y hy=>(hno y hy).1) hkind hnames hx (fun y hy=>?_) hN (fun σ=>by rw[length_map]; exact hjl) (fun σ i y v _ e1 e2=>?_) hi he hs hf
 ·have sub:∀ (l:List (Str×NameKind)),(∀ p∈l,p.2≠.cell/\(p.2=.free->p.1∈ns))->∀ p∈(l.map fun (n,k)=>if (k == NameKind.free&&X.env.scope.kind == ScopeKind.function&&X.env.kindOf n == some NameKind.cell) then (n,NameKind.cell) else (n,k)),(p.2=.cell\/p.2=.free)->p.1∈ns:=by
   intro l hl p hp hk
   obtain⟨q,hq,e⟩:=List.mem_map.mp hp
   have h1:=hl q hq
   obtain⟨n,k⟩:=q
   dsimp only at e
   by_cases hf:k=.free
   ·have h2:=h1.2 hf
    split at e
    ·rw[<- e]; exact h2
    ·rw[<- e]; exact h2
   ·have hf':(k == NameKind.free)=false:=by
     cases k <;> first | rfl | exact absurd rfl hf
    rw[hf',Bool.false_and,Bool.false_and,if_neg (by decide)] at e
    rw[<- e] at hk
    rcases hk with z | z
    ·exact absurd z h1.1
    ·exact absurd z hf
  have hy':y∈ns:=by
   rcases hy with z | z
   ·exact sub scope.names hno (y,.cell) (PySem.mem_of_lookup z) (.inl rfl)
   ·exact sub scope.names hno (y,.free) (PySem.mem_of_lookup z) (.inr rfl)
  rw[<- hcls] at hy'
  have key:∀ l:List (Str×Addr),y∈l.map (·.1)->∃ c,l.lookup y=some c:=by
   intro l
   induction l with
   | nil=>intro h; simp at h
   | cons p r ih =>
    intro h
    by_cases e:y=p.1
    ·exact⟨p.2,by obtain⟨p1,p2⟩:=p; dsimp only at e; subst e; simp[List.lookup]⟩
    ·have h':y∈r.map (·.1):=by
      rw[map_cons] at h
      exact(List.mem_cons.mp h).resolve_left e
     obtain⟨c,hc'⟩:=ih h'
     refine⟨c,?_⟩
     obtain⟨p1,p2⟩:=p
     have:(y == p1)=false:=by simpa using e
     rw[lookup_cons,this]
     exact hc'
  exact key cl hy'
 ·have hm:y∈ns:=mem_of_getElem? e1
  refine⟨(hkd y hm).1,(hkd y hm).2,?_⟩
  rw[List.getElem?_map] at e2
  cases hji:js[i]? with
  | none=>rw[hji] at e2; cases e2
  | some j =>
   rw[hji] at e2
   have e3:(σ[j]?).getD none=some v:=by
    have:=Option.some.inj e2
    exact this
   have e4:=congrArg (fun l=>l[i]?) hj
   rw[List.getElem?_map,List.getElem?_map,hji,e1] at e4
   have e5:X.N[j]?=some y:=by
    have:=Option.some.inj e4
    exact this
   refine⟨j,e5,?_⟩
   cases hσ:σ[j]? with
   | none=>rw[hσ] at e3; cases e3
   | some o =>
    rw[hσ] at e3
    have e6:o=some v:=e3
    rw[e6]
end
end Ow
namespace Ow
open PySem PySem.Spec PyProof.Rows L2
structure Gnd (P:Program) (w:World) (base:Heap) (fs:List Addr) (H H':Hp) (h B:Heap):Prop where
 st:base.StaysIn B
 keep:∀ b o,h.get? b=some o->H b=none->b∉fs->B.get? b=some o
 free:∀ b o,h.get? b=some o->H b=none->H' b=none
 there:∀ b o,h.get? b=some o->b∉fs->∃ o',B.get? b=some o'
 tups:∀ b xs,H b=some (.tup xs)->H' b=some (.tup xs)
 frzs:∀ b o u,H b=some (.frz o u)->H' b=some (.frz o u)
 tbls:∀ b ps,H b=some (.tbl ps)->∃ more,H' b=some (.tbl (ps++more))
 hok:HOk P w H' B
def Slots (fs:List Addr) (h h':Heap):Prop:=∀ b∈fs,∀ o,h.get? b=some o->∃ sl,h'.get? b=some { o with slots:=sl }
section
variable {P:Program}{w:World}{base h h1 h2 B:Heap}{fs:List Addr}{H H':Hp}{l:List Env}
theorem Gnd.un (G:Gnd P w base fs H H' h B) (sb:B.StaysIn h1) (sl:Slots fs h h1):Un fs [] H H' h h1 where
 keep:=fun b o q n hb _=>sb _ _ (G.keep b o q n hb)
 slot:=fun b o q _ hb _=>sl b hb o q
 free:=fun b o q n _=>G.free b o q n
 there:=fun b o q _=>by
  by_cases hb:b∈fs
  ·obtain⟨s,e⟩:=sl b hb o q
   exact⟨_,e⟩
  ·obtain⟨o',e⟩:=G.there b o q hb
   exact⟨o',sb _ _ e⟩
 tups:=G.tups
 frzs:=G.frzs
 tbls:=G.tbls
theorem Slots.on (x:Slots (frs l) h h1) (hl:h1.FunFrames B l) (u:h1.UpToSlots h2):Slots (frs l) h h2:=fun b hb o q=>by
 obtain⟨sl,e⟩:=x b hb o q
 obtain⟨_,o1,e1,d1⟩:=hl.mem hb
 rw[e] at e1
 cases e1
 obtain⟨s2,e2⟩:=u b _ e d1
 exact⟨s2,e2⟩
end
abbrev VE:List Value:=[.type "ValueError",.type "Exception",.type "BaseException",.type "object"]
section
variable {P:Program}{w:World}{K:Frag}{mg:Str->Option Value}{base:Heap}{N:List Str}{qual:Str}{scope:Scope}{f:Addr}{cdv:Value}{A:Around}{outer:List Env}{s₀:Shared}{H₀:Hp}{E:XK}
end
def jh (X:Cx) (a:Addr) (oe:Obj):Cx:={ X with A:=X.A.mark (some (.ref a)),calm:=false,pn:=(a,oe)::X.pn }
section
variable {X:Cx}{pins:List (Addr×Obj)}{σ:L2.St}{H:Hp}{s:Shared}{a:Addr}{oe:Obj}
theorem jM (I:Inv X pins σ H s) (e:s.heap.get? a=some oe) (n:H a=none) (hl:a≠X.env.locals) (hf:a∉X.fs) (hd:∀ v,oe.data≠.cell v):Inv (jh X a oe) pins σ H s :=
 ⟨⟨I.ok.mod,I.ok.kind,I.ok.glob,I.ok.blt,I.ok.above,I.ok.inj,I.ok.has,I.ok.cab,(fun z=>nomatch z),I.ok.frames,I.ok.stk,I.ok.exf,I.ok.bs,I.ok.bsz,I.ok.noex,I.ok.exfs,I.ok.funs,I.ok.frf⟩,
  I.os,I.bare,I.base,I.loc,I.cell,I.free,I.freeC,fun p hp=>by
   rcases List.mem_cons.mp (show p∈(a,oe)::(X.pn++pins) from hp) with rfl | hp
   ·exact⟨e,n,hl,hf,hd⟩
   ·exact I.pin p hp,I.hok,I.len⟩
theorem rf {h':Heap}{m':Str->Option Value}{t':Nat}(I:Inv (jh X a oe) pins σ H s) (okX:X.Ok) (hn:h'.Ns X.env.locals m') (hs:Heap.SameBut X.env.locals s.heap h') :
  Inv X pins (List.replicate X.N.length none) H { s with heap:=h',toks:=t' }:=by
 have neL:∀ b o,X.s₀.heap.get? b=some o->b≠X.env.locals:=fun b o e=>ne_of_lt (lt_of_lt_of_le (Heap.lt_size e) okX.above)
 refine⟨okX,I.os,I.bare,⟨fun b o e n hb hx=>?_,fun b o e n hb hx=>?_,I.base.free,fun b o e hx=>?_,I.base.tups,I.base.frzs,I.base.tbls⟩,⟨m',hn,fun i x v e1 e2 e3=>?_⟩,fun x c e=>?_,I.free,I.freeC,fun p hp=>?_,fun b ob e=>?_,length_replicate ..⟩
 ·exact(hs.2 b (neL b o e)).trans (I.base.keep b o e n hb hx)
 ·obtain⟨sl,e1⟩:=I.base.slot b o e n hb hx
  exact⟨sl,(hs.2 b (neL b o e)).trans e1⟩
 ·obtain⟨o',e1⟩:=I.base.there b o e hx
  exact⟨o',(hs.2 b (neL b o e)).trans e1⟩
 ·rw[List.getElem?_replicate] at e2
  split at e2 <;> cases e2
 ·obtain⟨v,z⟩:=I.cell x c e
  exact⟨v,z.sameBut hs (I.cne x c e)⟩
 ·obtain⟨e,n,ne,nf,d⟩:=I.pin p (mem_cons_of_mem _ hp)
  exact⟨(hs.2 p.1 ne).trans e,n,ne,nf,d⟩
 ·refine(I.hok b ob e).stay (fun c w' hc z=>(hs.2 c ?_).trans z) (fun _ z=>z) fun _ _ z=>z
  have fr:H X.env.locals=none:=I.free
  rintro rfl
  rcases hc with rfl | hc
  ·rw[fr] at e; cases e
  ·rw[fr] at hc; cases hc
end
section
variable {X:Cx}{k i j:Nat}{f y n c:Str}{ps:List Str}{sp:Sp}{e:Expr}{es:List Expr}{ta:TA}{C₁:Addr}{b₀:Stmt}{suite:List Stmt}{tb:Addr->Obj->TS}{py p pos apos np hpos tpos:Pos}
end
structure ExF (K:Frag) (C:Addr):Prop where
 ga:findIn K (.ref C) "__getattribute__"=some (some (.builtin "BaseException.__getattribute__"))
 gn:findIn K (.ref C) "__getattr__"=some none
 gc:findIn K (.ref C) "__class__"=some (some (.builtin "object.__class__"))
 mo:mroIn K C (.type "object")=some true
 mb:mroIn K C (.type "BaseException")=some true
section
variable {prog:Program}{w:World}{A:Around}{E:Value->Shared->Prop}{h:Heap}{g:Array GenState}{d:Drawn}{t:Nat}{os:OsState}{K:Frag}{a C:Addr}{o:Obj}
theorem rT {M:Model}{nv:Value}{Q:Unit->Shared->Prop}(X:K.In h) (f:ExF K C) (hx:h.get? a=some o) (hc:o.cls=.ref C) (hq:Q () ⟨h,g,d,t,os⟩) :
  wpAny M A (checkBuiltinCall "BaseException.__getattribute__" ⟨[.ref a,nv],[]⟩) Q E ⟨h,g,d,t,os⟩:=by
 have k1:builtinKind "BaseException.__getattribute__"=some .slot:=by decide +kernel
 have k2:splitId "BaseException.__getattribute__"=some ("BaseException","__getattribute__"):=by decide +kernel
 have L1:=PySem.W.looks_mroIn (M:=M) X f.mb
 have k3:=F.args_bexc_ga (.ref a) nv
 simp only[checkBuiltinCall,k1,k2]
 refine wpAny_bind ?_
 unfold isInstance
 repeat (first | (with_reducible refine wpAny_loadPart_at hx ?_; rw[hc]) | with_reducible refine L1.at ?_ | wp_step)
 exact hq
end
theorem rJ {K:Frag}{C D:Addr}{b:Bool}(h1:isClsIn K D=true) (h2:typeIn K (.ref D)=some (.type "type")) (h3:mroIn K C (.ref D)=some b):PySem.W.kitCls K (.ref C) (.ref D)=some b:=by
 unfold PySem.W.kitCls
 have e:((PySem.W.clsIn K D).isSome&&typeIn K (.ref D) == some (.type "type"))=true:=by
  rw[h2]
  have h1':(PySem.W.clsIn K D).isSome=true:=h1
  rw[h1',Bool.true_and]
  exact beq_self_eq_true _
 show (if ((PySem.W.clsIn K D).isSome&&typeIn K (.ref D) == some (.type "type"))=true then PySem.W.subIn K (.ref C) (.ref D) else none)=_
 rw[if_pos e]
 exact h3
theorem qT {K:Frag}{C D:Addr}(h1:isClsIn K D=true) (h2:typeIn K (.ref D)=some (.type "type")) (h3:mroIn K C (.ref D)=some true) (h4:mroIn K D (.type "BaseException")=some true):exmOne K (.ref C) (.ref D)=some true:=by
 unfold exmOne
 have e:PySem.W.subIn K (.ref D) (.type "BaseException")=some true:=h4
 rw[e,if_pos (by rw[beq_self_eq_true])]
 exact rJ h1 h2 h3
end Ow
namespace Ow
open PySem PySem.Spec PyProof.Rows L2
section
variable {P:Program}{w:World}{K:Frag}{mg:Str->Option Value}{base:Heap}{N:List Str}{qual:Str}{scope:Scope}{f:Addr}{cdv:Value}{A:Around}{outer:List Env}{s₀:Shared}{H₀:Hp}{E:XK}
end
def pinned (X:Cx) (pins:List (Addr×Obj)):Cx:={ X with pn:=X.pn++pins }
section
variable {X:Cx}{pins pins':List (Addr×Obj)}{σ:L2.St}{H:Hp}{s:Shared}{E:L2.St->XK}
theorem p7 (I:Inv X pins σ H s):Inv (pinned X pins) [] σ H s :=
 ⟨⟨I.ok.mod,I.ok.kind,I.ok.glob,I.ok.blt,I.ok.above,I.ok.inj,I.ok.has,I.ok.cab,I.ok.hd,I.ok.frames,I.ok.stk,I.ok.exf,I.ok.bs,I.ok.bsz,I.ok.noex,I.ok.exfs,I.ok.funs,I.ok.frf⟩,
  I.os,I.bare,I.base,I.loc,I.cell,I.free,I.freeC,fun p hp=>I.pin p (by
   rw[append_nil] at hp
   exact hp),I.hok,I.len⟩
theorem d5 (okX:X.Ok) (I:Inv (pinned X pins) pins' σ H s):Inv X pins σ H s :=
 ⟨okX,I.os,I.bare,I.base,I.loc,I.cell,I.free,I.freeC,fun p hp=>I.pin p (mem_append_left _ hp),I.hok,I.len⟩
def tCallT (sp:Sp) (E:L2.St->XK) (t:TA):TE:=fun σ H Q=>t σ H fun vs H1=>sp (vs++[]) H1 Q (E σ)
end
end Ow
namespace Ow
open PySem PySem.Spec PyProof.Rows L2
section
variable {X:Cx}{pins:List (Addr×Obj)}{σ:L2.St}{H:Hp}{s:Shared}{a:Addr}{oe:Obj}{j:Nat}{n:Str}
theorem pw {h':Heap}{m:Str->Option Value}{v':Option Value}{t':Nat}(I:Inv (jh X a oe) pins σ H s) (okX:X.Ok) (hN:X.N.Nodup) (hj:X.N[j]?=some n)
  (hl:∀ (i:Nat) (x:Str) (v:V),X.N[i]?=some x->σ[i]?=some (some v)->Vis X.env.scope x->∃ u,RelV v u/\Look X.env s.heap m x u)
  (hn:h'.Ns X.env.locals (fun x=>if x=n then v' else m x)) (hs:Heap.SameBut X.env.locals s.heap h') :
  Inv X pins (σ.set j none) H { s with heap:=h',toks:=t' }:=by
 have neL:∀ b o,X.s₀.heap.get? b=some o->b≠X.env.locals:=fun b o e=>ne_of_lt (lt_of_lt_of_le (Heap.lt_size e) okX.above)
 refine⟨okX,I.os,I.bare,⟨fun b o e n hb hx=>?_,fun b o e n hb hx=>?_,I.base.free,fun b o e hx=>?_,I.base.tups,I.base.frzs,I.base.tbls⟩,⟨_,hn,fun i x v e1 e2 e3=>?_⟩,fun x c e=>?_,I.free,I.freeC,fun p hp=>?_,fun b ob e=>?_,by rw[List.length_set]; exact I.len⟩
 ·exact(hs.2 b (neL b o e)).trans (I.base.keep b o e n hb hx)
 ·obtain⟨sl,e1⟩:=I.base.slot b o e n hb hx
  exact⟨sl,(hs.2 b (neL b o e)).trans e1⟩
 ·obtain⟨o',e1⟩:=I.base.there b o e hx
  exact⟨o',(hs.2 b (neL b o e)).trans e1⟩
 ·by_cases hij:i=j
  ·subst hij
   have hi:i<σ.length:=by have z:σ.length=X.N.length:=I.len; rw[z]; exact(List.getElem?_eq_some_iff.mp hj).1
   rw[List.getElem?_set_self hi] at e2
   cases e2
  ·rw[List.getElem?_set_ne (Ne.symm hij)] at e2
   obtain⟨u',r',q⟩:=hl i x v e1 e2 e3
   refine⟨u',r',?_⟩
   rcases q with ⟨k,e⟩ | ⟨k,c,e,z⟩
   ·refine .inl ⟨k,?_⟩
    have:x≠n:=fun e=>hij (kF hN e1 (e ▸ hj))
    simp[this,e]
   ·exact .inr ⟨k,c,e,z.sameBut hs (I.cne x c e)⟩
 ·obtain⟨v,z⟩:=I.cell x c e
  exact⟨v,z.sameBut hs (I.cne x c e)⟩
 ·obtain⟨e,n,ne,nf,d⟩:=I.pin p (mem_cons_of_mem _ hp)
  exact⟨(hs.2 p.1 ne).trans e,n,ne,nf,d⟩
 ·refine(I.hok b ob e).stay (fun c w' hc z=>(hs.2 c ?_).trans z) (fun _ z=>z) fun _ _ z=>z
  have fr:H X.env.locals=none:=I.free
  rintro rfl
  rcases hc with rfl | hc
  ·rw[fr] at e; cases e
  ·rw[fr] at hc; cases hc
end
def endsK (j:Nat) (D:Ends):Ends:={ nx:=fun σ H=>D.nx (σ.set j none) H,rt:=D.rt }
section
variable {X:Cx}{j:Nat}{n c:Str}{C₁:Addr}{b₀:Stmt}{suite:List Stmt}{tb:Addr->Obj->TS}{np hpos:Pos}
end
end Ow
namespace Ow
open PySem PySem.Spec PyProof.Rows L2
def Ctx0 (o:Obj):Prop:=∃ vs,o.data=.fields vs/\vs[2]?=some .none
def OwnD (c:Bool) (h:Heap) (e:Addr) (d:Option Addr):Prop:=∃ o,h.get? e=some o/\o.dict=d/\(c=true->Ctx0 o)
theorem ss (f:Array Value->Array Value) (o:Obj):(Obj.mapFields f o).dict=o.dict:=by
 obtain⟨c,d,dt,sl⟩:=o
 cases dt <;> rfl
section
variable {M:Model}{A:Around}{E:Value->Shared->Prop}{s:Shared}{bs:Heap}{en:Env}{out:List Env}{L e:Addr}{c:Bool}
theorem kY {oe:Obj}{vs:Array Value}{hd0 a0:Value}{nx:Bool}{Q:Unit->Shared->Prop}(fr:A.frames=some (en::out)) (ff:s.heap.FunFrames bs (en::out)) (fl:en.frame=some L)
  (ge:s.heap.get? e=some oe) (st:bs.StaysIn s.heap) (ne:bs.get? e=none) (dt:oe.data=.fields vs) (z1:1<vs.size) (z0:vs[0]?=some a0) (z2:c=true->vs[2]?=some .none)
  (k:∀ h',Heap.NotedW bs (en::out) e oe.cls a0 (rawInt L) s.heap h'->OwnD c h' e oe.dict->Q () { s with heap:=h' }) :
  wpAny M A (do let a <- frameOf en; let pl <- entryPlaceOf L nx; let b <- EntryCells.newEntry hd0 a .none (rawInt L) .none pl; setField (.ref e) 1 b) Q E s:=by
 have nf:e∉(en::out).filterMap (·.frame):=fun hm=>by
  obtain⟨_,o,g1,g2⟩:=ff.mem hm
  rw[ge] at g1
  cases g1
  exact g2 _ dt
 refine wpAny_bind (wpAny_frameOf_fun fr ff fl fun h1 so=>wpAny_bind (wpAny_entryPlaceOf fun pl hpl=>?_))
 unfold EntryCells.newEntry newFields
 refine wpAny_bind (wpAny_newObj_type ?_ (hpl.sizeOk5 _ _ _ _ _))
 generalize hT:(([hd0,Value.ref L,Value.none,rawInt L,Value.none]++(if pl.isEmpty then List.replicate 6 Value.none else pl)).toArray:Array Value)=ts
 have t3:ts[3]?=some (rawInt L):=by
  rw[<- hT]
  rfl
 have g1:h1.get? e=some oe:=(so.2.1 e nf).trans ge
 have g2:(h1.push { cls:=.type "traceback",dict:=none,data:=.fields ts }).get? e=some oe:=Heap.get?_push_of_some _ g1
 have neT:h1.objs.size≠e:=ne_of_gt (Heap.lt_size g1)
 have st1:bs.StaysIn h1:=fun b o hb=>(so.2.1 b fun hm=>by rw[(ff.mem hm).1] at hb; cases hb).trans (st b o hb)
 refine wpAny_setField g2 dt z1 (k _ ?_ ?_)
 ·have g3:=Heap.get?_update_self (Obj.mapFields (·.setIfInBounds 1 (Value.ref h1.objs.size))) g2 (Obj.isFreed_of_fields (Obj.data_mapFields dt _))
  have kp:∀ b o,b≠e->h1.get? b=some o->((h1.push { cls:=.type "traceback",dict:=none,data:=.fields ts }).update e (Obj.mapFields (·.setIfInBounds 1 (Value.ref h1.objs.size)))).get? b=some o:=fun b o hb q=>by
   rw[Heap.get?_update_other _ _ (Ne.symm hb)]
   exact Heap.get?_push_of_some _ q
  have nr:∀ b o,s.heap.get? b=some o->(∀ us,o.data≠.fields us)->b≠e:=fun b o q hn z=>by
   subst z
   rw[ge] at q
   cases q
   exact hn _ dt
  refine⟨fun b o hb=>kp b o (fun z=>by rw[z,ne] at hb; cases hb) (st1 b o hb),ff.of_keeps fun b o q hn=>?_,⟨_,_,h1.objs.size,⟨.type "traceback",none,.fields ts,#[]⟩,ts,g3,⟨Obj.cls_mapFields _ _,?_⟩,Obj.data_mapFields dt _,?_,st1.fresh,neT,?_,rfl,t3⟩,fun b o q hn=>?_⟩
  ·obtain⟨sl,e1⟩:=so.2.2 b o q
   exact⟨_,kp b _ (nr b o q hn) e1,rfl⟩
  ·rw[Array.getElem?_setIfInBounds_ne (by decide)]
   exact z0
  ·rw[Array.getElem?_setIfInBounds_self_of_lt z1]
  ·exact(Heap.get?_update_other _ _ (Ne.symm neT)).trans (Heap.get?_push_size h1 rfl)
  ·obtain⟨sl,e1⟩:=so.2.2 b o q
   exact⟨sl,kp b _ (nr b o q hn) e1⟩
 ·exact⟨_,Heap.get?_update_self _ g2 (Obj.isFreed_of_fields (Obj.data_mapFields dt _)),ss _ _,fun hc=>⟨_,Obj.data_mapFields dt _,by rw[Array.getElem?_setIfInBounds_ne (by decide)]; exact z2 hc⟩⟩
theorem oR {cls a0:Value}{d:Option Addr}{Q:Unit->Shared->Prop}(fr:A.frames=some (en::out)) (fl:en.frame=some L) (F:Heap.FlyingW bs (en::out) e cls a0 s.heap) (D:OwnD c s.heap e d)
  (k:∀ h',Heap.HeldW bs (en::out) e cls a0 L h'->OwnD c h' e d->s.heap.UpToSlots h'->Q () { s with heap:=h' }):wpAny M A (noteFrame (.ref e) en) Q E s:=by
 obtain⟨st,ne,ff,oe,vs,T,oT,ts,ge,⟨rfl,z0⟩,dt,z1,nT,neT,gT,dT,t3⟩:=F
 obtain⟨o1,g1,rfl,hc⟩:=D
 cases ge.symm.trans g1
 unfold noteFrame
 simp only[fl]
 refine wpAny_bind (wpAny_field ge dt z1 ?_)
 rw[if_pos (show (Value.ref T != Value.none)=true from rfl)]
 refine wpAny_bind (wpAny_field gT dT t3 ?_)
 rw[if_neg (show ¬ ((Value.none == rawInt L)=true) from fun z=>by cases z)]
 refine wpAny_bind (wpAny_setField gT dT (Array.getElem?_eq_some_iff.mp t3).1 ?_)
 have ot:∀ b,b≠T->(s.heap.update T (Obj.mapFields (·.setIfInBounds 3 Value.none))).get? b=s.heap.get? b:=fun b hb=>Heap.get?_update_other _ _ (Ne.symm hb)
 have nr:∀ b o,s.heap.get? b=some o->(∀ us,o.data≠.fields us)->b≠T:=fun b o q hn z=>by
  subst z
  rw[gT] at q
  cases q
  exact hn _ dT
 refine kY (s:={ s with heap:=s.heap.update T (Obj.mapFields (·.setIfInBounds 3 Value.none)) }) fr (ff.of_keeps fun b o q hn=>⟨o,(ot b (nr b o q hn)).trans q,rfl⟩) fl ((ot e (Ne.symm neT)).trans ge) (fun b o q=>(ot b fun z=>by subst z; rw[nT] at q; cases q).trans (st b o q)) ne dt
  (Array.getElem?_eq_some_iff.mp z1).1 z0 (fun h=>by obtain⟨vs',q1,q2⟩:=hc h; rw[dt] at q1; cases q1; exact q2) fun h' ⟨x1,x2,x3,x4⟩ D'=>k h' ⟨x1,ne,x2,x3⟩ D' fun b o q hn=>x4 b o ((ot b (nr b o q hn)).trans q) hn
theorem eJ {l:List Env}{cls a0 fv:Value}{d:Option Addr}{Q:Unit->Shared->Prop}(st:bs.StaysIn s.heap) (ne:bs.get? e=none) (ff:s.heap.FunFrames bs l) (tr:s.heap.TracedAtW bs e cls a0 fv) (D:OwnD c s.heap e d)
  (k:∀ h',Heap.FlyingW bs l e cls a0 h'->OwnD c h' e d->s.heap.UpToSlots h'->Q () { s with heap:=h' }):wpAny M A (setFlight (.ref e) none) Q E s:=by
 obtain⟨oe,vs,T,oT,ts,ge,hc,dt,z1,nT,neT,gT,dT,t3⟩:=tr
 have ot:∀ b,b≠T->(s.heap.update T (Obj.mapFields (·.setIfInBounds 3 ((none:Option Addr).elim Value.none fun f=>rawInt f)))).get? b=s.heap.get? b:=fun b hb=>Heap.get?_update_other _ _ (Ne.symm hb)
 have nr:∀ b o,s.heap.get? b=some o->(∀ us,o.data≠.fields us)->b≠T:=fun b o q hn z=>by
  subst z
  rw[gT] at q
  cases q
  exact hn _ dT
 have z3:=(Array.getElem?_eq_some_iff.mp t3).1
 unfold setFlight
 refine wpAny_bind (wpAny_field ge dt z1 ?_)
 rw[if_pos (show (Value.ref T != Value.none)=true from rfl)]
 refine wpAny_setField gT dT z3 (k _ ⟨fun b o q=>(ot b fun z=>by subst z; rw[nT] at q; cases q).trans (st b o q),ne,ff.of_keeps fun b o q hn=>⟨o,(ot b (nr b o q hn)).trans q,rfl⟩,
  oe,vs,T,_,_,(ot e (Ne.symm neT)).trans ge,hc,dt,z1,nT,neT,Heap.get?_update_self _ gT (Obj.isFreed_of_fields (Obj.data_mapFields dT _)),Obj.data_mapFields dT _,Array.getElem?_setIfInBounds_self_of_lt z3⟩ ?_ fun b o q hn=>⟨o.slots,(ot b (nr b o q hn)).trans q⟩)
 obtain⟨o1,g1,hd⟩:=D
 exact⟨o1,(ot e (Ne.symm neT)).trans g1,hd⟩
theorem sE {cls a0:Value}{d:Option Addr}{Q:Unit->Shared->Prop}(fr:A.frames=some (en::out)) (fl:en.frame=some L) (F:Heap.FlyingW bs (en::out) e cls a0 s.heap) (D:OwnD c s.heap e d)
  (k:∀ h',Heap.FlyingW bs out e cls a0 h'->OwnD c h' e d->s.heap.UpToSlots h'->Q () { s with heap:=h' }):wpAny M A (leaving en (.ref e)) Q E s:=by
 unfold leaving
 refine wpAny_bind (oR fr fl F D fun h1 ⟨x1,x2,x3,x4⟩ D1 u1=>eJ (s:={ s with heap:=h1 }) x1 x2 x3 x4 D1 fun h2 ⟨y1,y2,y3,y4⟩ D2 u2=>?_)
 obtain⟨_,_,y3'⟩:=y3
 exact k h2 ⟨y1,y2,y3',y4⟩ D2 (u1.trans u2)
theorem nU {oe:Obj}{vs:Array Value}{a0:Value}{Q:Unit->Shared->Prop}(fr:A.frames=some (en::out)) (ff:s.heap.FunFrames bs (en::out)) (fl:en.frame=some L)
  (ge:s.heap.get? e=some oe) (st:bs.StaysIn s.heap) (ne:bs.get? e=none) (dt:oe.data=.fields vs) (z1:vs[1]?=some .none) (z0:vs[0]?=some a0) (z2:c=true->vs[2]?=some .none)
  (k:∀ h',Heap.FlyingW bs out e oe.cls a0 h'->OwnD c h' e oe.dict->s.heap.UpToSlots h'->Q () { s with heap:=h' }):wpAny M A (leaving en (.ref e)) Q E s:=by
 unfold leaving noteFrame
 simp only[fl]
 refine wpAny_bind (wpAny_bind (wpAny_field ge dt z1 ?_))
 rw[if_neg (by decide)]
 refine kY fr ff fl ge st ne dt (Array.getElem?_eq_some_iff.mp z1).1 z0 z2 fun h1 ⟨x1,x2,x3,x4⟩ D1=>eJ (s:={ s with heap:=h1 }) x1 ne x2 x3 D1 fun h2 ⟨y1,y2,y3,y4⟩ D2 u2=>?_
 obtain⟨_,_,y3'⟩:=y3
 exact k h2 ⟨y1,y2,y3',y4⟩ D2 (Heap.UpToSlots.trans x4 u2)
end
end Ow
namespace Ow
open PySem PySem.Spec PyProof.Rows L2
theorem iY {h:Heap}{l:List Value}(self:Value) (T:OwnTail h VE l):refuseLoop self "__setattr__" l=pure ():=by
 induction T with
 | base=>exact PySem.F.store_ValueError.passes self
 | own _ _ _ _ ih=>rw[refuseLoop_ref]; exact ih
section
variable {prog:Program}{w:World}{A:Around}{E:Value->Shared->Prop}{s:Shared}{K:Frag}{x C N:Addr}{fs:Array Value}{sl:Array (Option Value)}{name:Str}{v:Value}
variable {nm qn:Str}{bs bm:List Value}{sn:List Str}{sub:List Value}{ab:Bool}{col:Option Bool}{dd:Option Addr}{k0 k1 k2 k3 k5:Option Value}{nid:String}
theorem set_exc {Q:Unit->Shared->Prop}(X:K.In s.heap) (hx:s.heap.get? x=some ⟨.ref C,none,.fields fs,sl⟩) (hC:s.heap.get? C=some (excClassObj nm qn C N bs bm true sn sub ab col dd k0 k1 k2 k3 k5 nid)) (T:OwnTail s.heap VE bm)
  (sa:findIn K (.ref C) "__setattr__"=some (some (.builtin "object.__setattr__"))) (na:findIn K (.ref C) name=some none) (mo:mroIn K C (.type "object")=some true)
  (k:∀ h' t',h'.get? x=some ⟨.ref C,some s.heap.objs.size,.fields fs,sl⟩->h'.Ns1 s.heap.objs.size (fun y=>if y=name then some v else none)->(∀ b o,b≠x->s.heap.get? b=some o->h'.get? b=some o)->Q () { s with heap:=h',toks:=t' }) :
  wpAny (model prog w) A (setAttr (.ref x) name v) Q E s:=by
 have I:PySem.W.InstAt s.heap x ⟨.ref C,none,.fields fs,sl⟩ C none:=⟨hx,rfl,rfl,True.intro⟩
 have SF:=PySem.F.store_object
 have su:PySem.W.Looks (model prog w) s.heap (isInstance (.ref x) (.type "object")) true:=I.type.andThen (PySem.W.looks_mroIn X mo)
 refine PySem.W.set_plain X I sa (codeAny_call_builtin SF.slot.plain SF.entry (@PySem.W.check_slot (model prog w) _ _ { s with toks:=s.toks+1 } "object.__setattr__" "object" "__setattr__" (.ref x) [.str name s.toks,v] [] _ SF.kind SF.split su (SF.args (.ref x) (.str name s.toks) v) ?_))
 rw[PySem.W.osa_eq,refuse_eq]
 refine wpAny_bind (wpAny_bind (PySem.W.Looks.here (s:={ s with toks:=s.toks+1 }) I.type (wpAny_bind (wpAny_mroOf_exc hC ?_))))
 rw[refuseLoop_ref,iY _ T]
 refine wpAny_pure (wpAny_bind (PySem.W.Looks.here (s:={ s with toks:=s.toks+1 }) I.type (wpAny_bind (PySem.W.Looks.here (s:={ s with toks:=s.toks+1 }) (PySem.W.looks_findIn X na) (wpAny_bind (wpAny_pure ?_))))))
 show wpAny _ _ (Builtin.ObjectAttr.storeInOwnDict (.ref x) (.ref C) (.str name s.toks) name v false) _ _ _
 have L1:PySem.W.Looks (model prog w) s.heap (classData C) _:=(PySem.W.Looks.ld (part:=none) hC).andThen .now
 have xs:x≠s.heap.objs.size:=ne_of_lt (Heap.lt_size hx)
 have hx1:(s.heap.push { cls:=.type "dict",data:=.dict #[] }).get? x=some ⟨.ref C,none,.fields fs,sl⟩:=Heap.get?_push_of_some _ hx
 have up:∀ f:Obj->Obj,f ⟨.ref C,none,.fields fs,sl⟩=⟨.ref C,some s.heap.objs.size,.fields fs,sl⟩->((s.heap.push { cls:=.type "dict",data:=.dict #[] }).update x f).get? x=some ⟨.ref C,some s.heap.objs.size,.fields fs,sl⟩:=fun f ef=>by
  rw[Heap.get?_update_self f hx1 (by rw[ef]; rfl),ef]
 refine wpAny_bind (wpAny_pure (wpAny_bind (wpAny_bind (wpAny_loadPart hx (wpAny_bind (PySem.W.Looks.here (s:={ s with toks:=s.toks+1 }) L1 ?_))))))
 refine wpAny_bind (wpAny_alloc' (wpAny_bind (wpAny_update' hx1 (wpAny_pure ?_))))
 have gd:((s.heap.push { cls:=.type "dict",data:=.dict #[] }).update x fun o=>{ o with dict:=some s.heap.objs.size }).get? s.heap.objs.size=some { cls:=.type "dict",data:=.dict #[] } :=
  (Heap.get?_update_other _ _ xs).trans (Heap.get?_push_size _ rfl)
 have nd:((s.heap.push { cls:=.type "dict",data:=.dict #[] }).update x fun o=>{ o with dict:=some s.heap.objs.size }).Ns s.heap.objs.size (fun _=>none):=⟨_,#[],_,gd,rfl,fun e he=>absurd he (by simp),fun _=>rfl⟩
 refine wpAny_bind (wpAny_pure (wpAny_bind (wpAny_nsSet1 (Heap.Ns1.of_empty nd) fun h' n2 sb=>?_)))
 obtain⟨oD,eD,pD,gD,dD,cD⟩:=n2.count (PySem.Within.cons name v PySem.Within.nil)
 refine wpAny_bind (wpAny_lookBehind gD (by rw[dD]; exact pastItsLine_dict (Nat.le_trans cD (by rw[length_cons,length_nil,sizeLine_eq]; omega))) ?_)
 refine wpAny_pure (k h' _ ?_ ?_ fun b o hb q=>?_)
 ·exact(sb.2 x xs).trans (up _ rfl)
 ·exact n2
 ·exact(sb.2 b (ne_of_lt (Heap.lt_size q))).trans ((Heap.get?_update_other _ _ (Ne.symm hb)).trans (Heap.get?_push_of_some _ q))
end
end Ow
namespace Ow
open PySem PySem.Spec PyProof.Rows L2
abbrev exF (t:Addr):Array Value:=#[.ref t,.none,.none,.none,.bool false,.none]
section
variable {prog:Program}{w:World}{A:Around}{E:Value->Shared->Prop}{h:Heap}{g:Array GenState}{d:Drawn}{t:Nat}{os:OsState}{C N fI:Addr}{v:Value}{oI:Obj}{mN:Str->Option Value}
variable {nm qn:Str}{bs bm:List Value}{hdc:Bool}{sn:List Str}{sub:List Value}{ab:Bool}{col:Option Bool}{dd:Option Addr}{k0 k1 k2 k3 k5:Option Value}
end
theorem pA {M:Model}{A:Around}{E:Value->Shared->Prop}{s:Shared}{env:Env}{C N:Addr}{nm qn:Str}{bs bm:List Value}{hdc:Bool}{sn:List Str}{sub:List Value}{ab:Bool}{col:Option Bool}{dd:Option Addr}{k0 k1 k2 k3 k5:Option Value}{nid:String}
  {x:Sem Value} {Q:Flow->Shared->Prop} (hb:bm.contains (.type "BaseException")=true) (hh:A.handled=none)
  (k:wpAny M A x (fun v s1=>∃ (e t:Addr) (od:Option Addr),v=.ref e/\s1.heap.get? C=some (excClassObj nm qn C N bs bm hdc sn sub ab col dd k0 k1 k2 k3 k5 nid)/\s1.heap.get? e=some ⟨.ref C,od,.fields (exF t),#[]⟩/\E (.ref e) s1) E s) :
  wpAny M A (raiseStmt env (some x) none) Q E s:=by
 have cb:(Value.ref C::bm).contains (.type "BaseException")=true:=by rw[List.contains_cons,hb,Bool.or_true]
 unfold raiseStmt
 refine wpAny_bind (wpAny_mono k (fun v s1 q=>?_) fun _ _ z=>z)
 obtain⟨e,t,od,rfl,gC,ge,q⟩:=q
 obtain⟨hp,g,d,tk,os⟩:=s1
 repeat (first | with_reducible refine wpAny_loadPart_at ge ?_ | with_reducible refine wpAny_loadPart_at gC ?_ | (with_reducible refine wpAny_isSubtype_exc gC ?_; rw[cb]) | wp_step)
 exact wpAny_raiseNew_none hh q
end Ow
namespace Ow
open PySem PySem.Spec PyProof.Rows L2
def pX (K:Frag) (C f:Addr):Bool :=
 match K.lookup C with
 | some ⟨.type "type",_,.cls c,q⟩ =>
  (match c.mro,q.toList with
  | .ref D::tl,[_,_,_,_,some (.builtin n),_]=>D == C&&(n == "ValueError.__new__"&&(!c.hasDel&&(c.hasDict&&(PySem.W.tailIn K VE tl&&(PySem.W.nsOkIn K c.ns&&nsIn K c.ns "__init__" == some (some (.ref f)))))))
  | _,_=>false)
 | _=>false
theorem ns_some {K:Frag}{h:Heap}{N:Addr}{m:Str->Option Value}{n:Str}{v:Value}(X:K.In h) (G:h.Ns N m) (e:nsIn K N n=some (some v)):m n=some v:=by
 obtain⟨o,es,ep,go,hd,_,hf⟩:=G
 unfold nsIn at e
 split at e
 ·next q =>
  have z:=X _ _ q
  rw[go] at z
  cases z
  cases hd
  split at e
  ·next he =>
   cases e
   rw[<- hf]
   unfold nsFind findBy
   rw[<- Array.find?_toList,he]
   rfl
  ·split at e <;> cases e
 ·cases e
theorem rR {K:Frag}{h:Heap}{C f:Addr}(X:K.In h) (q:pX K C f=true) :
  ∃ bm N nm qn bs sn sub ab col dd k0 k1 k2 k3 k5 mN,h.get? C=some (excClassObj nm qn C N bs bm true sn sub ab col dd k0 k1 k2 k3 k5 "ValueError.__new__")/\h.Ns N mN/\mN "__init__"=some (.ref f)/\OwnTail h VE bm:=by
 unfold pX at q
 split at q
 ·next d0 c0 s0 e0 =>
  split at q
  ·next D m1 y0 y1 y2 y3 n1 y5 em es =>
   simp only[beq_iff_eq,Bool.not_eq_true',Bool.and_eq_true] at q
   obtain⟨eC,en,ed,eh,et,eo,ei⟩:=q
   subst eC en
   obtain⟨a1,a2,a3,a4,a5,a6,a7,a8,a9,a10,a11⟩:=c0
   dsimp only at em ed eo ei eh
   subst em ed eh
   obtain⟨l0⟩:=s0
   have es':l0=[y0,y1,y2,y3,some (Value.builtin "ValueError.__new__"),y5]:=es
   subst es'
   have G:h.Ns a4 _:=.of_isNs (PySem.W.isNs_of_in X eo)
   exact⟨m1,a4,a1,a5,a2,a7,a8,a9,a10,d0,y0,y1,y2,y3,y5,_,X _ _ e0,G,ns_some X G ei,PySem.W.tail_of_in X et⟩
  ·cases q
 ·cases q
def xO (e C t:Addr) (od:Option Addr):HO:=.ext fun h=>h.get? e=some ⟨.ref C,od,.fields (exF t),#[]⟩
def drop (H:Hp) (e:Addr):Hp:=fun b=>if b=e then none else H b
theorem kJ {H:Hp}{e b:Addr}(h:b≠e):drop H e b=H b:=if_neg h
theorem fZ {H:Hp}{e:Addr}:drop H e e=none:=if_pos rfl
theorem xO_ok {P:Program}{w:World}{H:Hp}{h:Heap}{e C t:Addr}{od:Option Addr}(g:h.get? e=some ⟨.ref C,od,.fields (exF t),#[]⟩):ObjOk P w H h e (xO e C t od):=⟨g,⟨_,g⟩,fun _ _ a b=>b _ a⟩
def CX2c (c:Bool) (P:Program) (w:World) (base:Heap):CXT:=fun outer H s E e s' =>
 ∃ (a:Addr) (cls a0:Value) (B:Heap) (H':Hp) (dd:Option Addr),e=.ref a/\s'.os=s.os/\AllBare s'.gens/\Gnd P w base (frs outer) H H' s.heap B/\Slots (frs outer) s.heap s'.heap/\Heap.FlyingW B outer a cls a0 s'.heap/\H' a=none/\OwnD c s'.heap a dd/\E cls dd H'
abbrev CX2 (P:Program) (w:World) (base:Heap):CXT:=CX2c true P w base
section
variable {P:Program}{w:World}{K:Frag}{mg:Str->Option Value}{base:Heap}{N:List Str}{qual:Str}{scope:Scope}{f:Addr}{cdv:Value}{A:Around}{outer:List Env}{s₀:Shared}{H₀:Hp}{E:XK}
theorem pI {pins:List (Addr×Obj)}{σ:L2.St}{H:Hp}{s:Shared}{e C t:Addr}{od:Option Addr}(I:Inv (gW (CX2 P w base) P w K mg base N qual scope f cdv A outer s₀ H₀ E) pins σ H s)
  (he:H e=some (xO e C t od)) (hn:s₀.heap.get? e=none) (q:E (.ref C) od (drop H e)):(gW (CX2 P w base) P w K mg base N qual scope f cdv A outer s₀ H₀ E).xe (.ref e) s:=by
 have ge:s.heap.get? e=some ⟨.ref C,od,.fields (exF t),#[]⟩:=(I.hok e _ he).1
 have hst:=I.stack
 have nof:∀ b o,s₀.heap.get? b=some o->b∉frs outer->b∉e::frs (envOfC qual scope s₀.heap.objs.size f cdv::outer):=fun b o e1 nb hm=>by
  rcases List.mem_cons.mp hm with z | hm
  ·rw[z,hn] at e1
   cases e1
  rcases List.mem_cons.mp (I.stkSub b hm) with z | z
  ·exact lt_irrefl _ (lt_of_lt_of_le (z ▸ Heap.lt_size e1) I.ok.above)
  ·exact nb z
 have nx:∀ b:Addr,b∉([]:List Addr):=fun b z=>nomatch z
 have ne:∀ b u,H b=some u->(∀ φ,u≠.ext φ)->b≠e:=fun b u e1 hk z=>by
  rw[z,he] at e1
  cases e1
  exact hk _ rfl
 have dr:∀ b u,H b=some u->(∀ φ,u≠.ext φ)->drop H e b=some u:=fun b u e1 hk=>by rw[kJ (ne b u e1 hk)]; exact e1
 refine nU (c:=true) (bs:=PySem.W.hideAll s.heap (e::frs (envOfC qual scope s₀.heap.objs.size f cdv::outer))) (a0:=.ref t) I.ok.frames
  (PySem.W.funFrames_hide hst fun e1 he1 b hb=>mem_cons_of_mem _ (List.mem_filterMap.mpr ⟨e1,he1,hb⟩)) rfl ge (fun b o e1=>PySem.W.of_hideAll _ e1) (PySem.W.hideAll_none _ (mem_cons_self ..)) rfl rfl rfl (fun _=>rfl) fun h2 fl D up=>?_
 refine⟨e,_,.ref t,_,drop H e,od,rfl,I.os,I.bare,⟨fun b o e1=>PySem.W.hideAll_get _ (I.bk b o e1) fun hm=>?_,fun b o e1 n nb=>PySem.W.hideAll_get _ (I.base.keep b o e1 n nb (nx b)) (nof b o e1 nb),fun b o e1 n=>?_,
  fun b o e1 nb=>?_,fun b xs z=>dr b _ (I.base.tups b xs z) (fun _ z=>nomatch z),fun b o u z=>dr b _ (I.base.frzs b o u z) (fun _ z=>nomatch z),fun b ps z=>?_,fun b u e1=>?_⟩,fun b hb o e1=>?_,fl,fZ,D,q⟩
 ·rcases List.mem_cons.mp hm with z | hm
  ·have z2:=(I.bs b o e1).2
   rw[z,he] at z2
   cases z2
  ·have z:=(hst.mem hm).1
   exact nomatch (show (some o:Option Obj)=none from e1.symm.trans z)
 ·by_cases hb:b=e
  ·rw[hb,fZ]
  ·rw[kJ hb]
   exact I.base.free b o e1 n (nx b)
 ·obtain⟨o',e2⟩:=I.base.there b o e1 (nx b)
  exact⟨o',PySem.W.hideAll_get _ e2 (nof b o e1 nb)⟩
 ·obtain⟨more,z2⟩:=I.base.tbls b ps z
  exact⟨more,dr b _ z2 (fun _ z=>nomatch z)⟩
 ·have hb:b≠e:=fun z=>by
   rw[z,fZ] at e1
   cases e1
  rw[kJ hb] at e1
  refine(I.hok b u e1).stay (fun c v hc e2=>PySem.W.hideAll_get _ e2 fun hm=>?_) (fun c z=>dr c _ z (fun _ z=>nomatch z)) fun c xs z=>dr c _ z (fun _ z=>nomatch z)
  rcases List.mem_cons.mp hm with z | hm
  ·rcases hc with hc | hc
   ·exact hb (hc.symm.trans z)
   ·rw[z,he] at hc
    cases hc
  ·have z:=I.stkFree c hm
   rcases hc with rfl | hc
   ·rw[e1] at z; cases z
   ·rw[hc] at z; cases z
 ·obtain⟨sl,e2⟩:=I.base.slot b o e1 (I.ok.frf b hb) hb (nx b)
  obtain⟨_,o1,e3,d⟩:=I.funs.mem hb
  rw[e2] at e3
  cases e3
  obtain⟨s2,e4⟩:=up b _ e2 d
  exact⟨s2,e4⟩
end
end Ow
namespace Ow
open PySem PySem.Spec PyProof.Rows L2
section
variable {X:Cx}{f:Str}{o value:Expr}{ta tv:TE}{pos pos':Pos}
end
end Ow
namespace Ow
open PySem PySem.Spec PyProof.Rows L2
section
variable {P:Program}{w:World}{K:Frag}{mg:Str->Option Value}{base:Heap}{N:List Str}{qual:Str}{scope:Scope}{fa:Addr}{cdv:Value}{A:Around}{outer:List Env}{s₀:Shared}{H₀:Hp}{E:XK}
end
end Ow
namespace Ow
open PySem PySem.Spec PyProof.Rows L2
section
variable {P:Program}{w:World}{K:Frag}{mg:Str->Option Value}{base:Heap}{N:List Str}{qual:Str}{scope:Scope}{f:Addr}{cdv:Value}{A:Around}{outer:List Env}{s₀:Shared}{H₀:Hp}{E:XK}
theorem Fun.okY {x qual:Str}{st:Stmt}{f:Addr}{fd:FuncData}{N ps:List Str}{k:Nat}{sp:Sp}(F:Fun K x qual st f fd) (S:FnScope N ps (av st)) (len:∀ vs H Q E,sp vs H Q E->vs.length=ps.length)
  (hbody:∀ (cdv:Value) (A:Around) (outer:List Env) (s:Shared) (H:Hp) (vs:List V) (Q:VK) (E:XK),Room k (A.deeper (envOfC qual (av st) s.heap.objs.size f cdv))->sp vs H Q E ->
   ∃ t,PSs (gW (CX2 P w base) P w K mg base N qual (av st) f cdv A outer s H E) (c9 st) t/\t { nx:=fun _ H'=>Q .non H',rt:=Q } (kC N vs) H):FnOk P w K mg base (CX2 P w base) (k+1) f fd ps sp:=by
 obtain⟨oc,od,kV,doc,pm,an,cdv,ct,osl,e1,lk,hcd⟩:=F.ex
 subst e1
 exact fn_of lk hcd S len fun A outer s H vs Q E hr hsp=>hbody cdv A outer s H vs Q E hr hsp
theorem passY:jv (CX2 P w base) (gW (CX2 P w base) P w K mg base N qual scope f cdv A outer s₀ H₀ E) E:=by
 intro pins σ H s e s' I hq
 obtain⟨a,cls,a0,B,H2,dd,rfl,hos,hba,G,sl,fl,ha0,D,hw⟩:=hq
 have nof:∀ b o,s₀.heap.get? b=some o->b∉frs outer->b∉frs (envOfC qual scope s₀.heap.objs.size f cdv::outer):=fun b o e1 nb hm=>by
  rcases List.mem_cons.mp (I.stkSub b hm) with z | z
  ·exact lt_irrefl _ (lt_of_lt_of_le (z ▸ Heap.lt_size e1) I.ok.above)
  ·exact nb z
 have nx:∀ b:Addr,b∉([]:List Addr):=fun b z=>nomatch z
 have sub:∀ b∈frs outer,b∈frs (envOfC qual scope s₀.heap.objs.size f cdv::outer):=fun b hb=>by
  obtain⟨en,he,hf⟩:=List.mem_filterMap.mp hb
  exact List.mem_filterMap.mpr ⟨en,mem_cons_of_mem _ he,hf⟩
 refine sE I.ok.frames rfl fl D fun h2 fl2 D2 up=>?_
 refine⟨a,cls,a0,B,H2,dd,rfl,hos.trans I.os,hba,⟨G.st,fun b o e1 n nb=>G.keep b o (I.base.keep b o e1 n nb (nx b)) (I.base.free b o e1 n (nx b)) (nof b o e1 nb),fun b o e1 n=>?_,fun b o e1 nb=>?_,
  fun b xs z=>G.tups b xs (I.base.tups b xs z),fun b o u z=>G.frzs b o u (I.base.frzs b o u z),fun b ps z=>?_,G.hok⟩,fun b hb o e1=>?_,fl2,ha0,D2,hw⟩
 ·obtain⟨o',e2⟩:=I.base.there b o e1 (nx b)
  exact G.free b o' e2 (I.base.free b o e1 n (nx b))
 ·obtain⟨o',e2⟩:=I.base.there b o e1 (nx b)
  exact G.there b o' e2 (nof b o e1 nb)
 ·obtain⟨m1,e1⟩:=I.base.tbls b ps z
  obtain⟨m2,e2⟩:=G.tbls b _ e1
  exact⟨m1++m2,by rw[e2,Array.append_assoc]⟩
 ·obtain⟨l1,e2⟩:=I.base.slot b o e1 (I.ok.frf b hb) hb (nx b)
  obtain⟨l2,e3⟩:=sl b (sub b hb) _ e2
  obtain⟨_,o1,e4,d⟩:=fl.2.2.1.mem (sub b hb)
  rw[e3] at e4
  cases e4
  obtain⟨l3,e5⟩:=up b _ e3 d
  exact⟨l3,e5⟩
end
structure HasY (P:Program) (w:World) (K:Frag) (mg:Str->Option Value) (base:Heap) (k:Nat) (x:Str) (ps:List Str) (sp:Sp):Prop where
 ex:∃ (f:Addr) (fd:FuncData),FnOk P w K mg base (CX2 P w base) k f fd ps sp/\Binds K fd ps []/\keepIn K (.ref f)=true/\mg x=some (.ref f)
section
variable {P:Program}{w:World}{K:Frag}{mg:Str->Option Value}{base:Heap}{N:List Str}{qual:Str}{scope:Scope}{f:Addr}{cdv:Value}{A:Around}{outer:List Env}{s₀:Shared}{H₀:Hp}{E:XK}
theorem mW {k:Nat}{x:Str}{ps:List Str}{sp:Sp}{p pos:Pos}{e:Expr}{es:List Expr}{t:TA}(h:HasY P w K mg base k x ps sp) (hr:Room k (gW (CX2 P w base) P w K mg base N qual scope f cdv A outer s₀ H₀ E).A)
  (hg:Gl (gW (CX2 P w base) P w K mg base N qual scope f cdv A outer s₀ H₀ E) x) (ha:PA (gW (CX2 P w base) P w K mg base N qual scope f cdv A outer s₀ H₀ E) (e::es) t) (hdb:(x == ("__debug__":Str))=false:=by decide)
  (he:starEach (e::es) (gW (CX2 P w base) P w K mg base N qual scope f cdv A outer s₀ H₀ E).env=(false,eval e (gW (CX2 P w base) P w K mg base N qual scope f cdv A outer s₀ H₀ E).env)::starEach es (gW (CX2 P w base) P w K mg base N qual scope f cdv A outer s₀ H₀ E).env:=by rfl)
  (hpl:(backTo pos (starEach es (gW (CX2 P w base) P w K mg base N qual scope f cdv A outer s₀ H₀ E).env)).any (·.1)=false:=by rfl) :
  PE (gW (CX2 P w base) P w K mg base N qual scope f cdv A outer s₀ H₀ E) (.Call (.Name x p) (e::es) [] pos) (ma sp [] E t):=by
 obtain⟨fa,fd,F,b,kp,m⟩:=h.ex
 exact qX F hr hg m kp b .nil passY ha hdb he hpl
end
def tryCy (X:Cx) (pins:List (Addr×Obj)) (E:L2.St->XK):Cx:=(pinned X pins).wish fun e s'=>∃ (pins':List (Addr×Obj)) (σ':L2.St) (H:Hp) (s:Shared),Inv (pinned X pins) pins' σ' H s/\CX2 X.prog X.w X.base X.stack H s (E σ') e s'
theorem pe_fnYT {X:Cx}{pins:List (Addr×Obj)}{E:L2.St->XK}{k:Nat}{x:Str}{ps:List Str}{sp:Sp}{p pos:Pos}{e:Expr}{es:List Expr}{t:TA}(h:HasY X.prog X.w X.K X.mg X.base k x ps sp) (hr:Room k X.A) (hg:Gl X x) (ha:PA (tryCy X pins E) (e::es) t) (hdb:(x == ("__debug__":Str))=false:=by decide)
  (he:starEach (e::es) X.env=(false,eval e X.env)::starEach es X.env:=by rfl) (hpl:(backTo pos (starEach es X.env)).any (·.1)=false:=by rfl) :
  PE (tryCy X pins E) (.Call (.Name x p) (e::es) [] pos) (tCallT sp E t):=by
 intro pins2 s σ H Q I ht
 obtain⟨fa,fd,F,hbi,hk,hm⟩:=h.ex
 refine wpAny_Call_Name_kw (dU I hg hm ?_ hdb)
 refine PySem.W.callWith_K (h₀:=X.base) I.ok.mod.kin hk (thn (ha pos pins2 s σ H _ I ht) fun us s1 ⟨vs,H1,I1,r1,q1⟩=>⟨I1.kIn,?_⟩) he hpl
 have r2:Vals (vs++[]) us:=by rw[append_nil]; exact r1
 have hl:us.length=ps.length:=by rw[<- r2.length]; exact F.len _ _ _ _ q1
 have bd:=hbi s1 us I1.kIn (by rw[append_nil]; exact hl)
 rw[append_nil] at bd
 refine wpAny_call (codeAny_mono (F.run X.A X.stack s1 H1 ⟨us,[]⟩ us (vs++[]) _ _ hr I1.env0 bd r2 q1) fun r s' hq=>?_)
 cases r with
 | error ev=>exact⟨pins2,σ,H1,s1,I1.unwish,hq⟩
 | ok fl =>
  cases fl with
  | ret u=>exact I1.after hq
  | next=>exact False.elim hq
  | brk=>exact False.elim hq
  | cont=>exact False.elim hq
section
variable {X:Cx}{j:Nat}{n c:Str}{C₁:Addr}{b₀:Stmt}{suite:List Stmt}{tb:Addr->Obj->TS}{np hpos:Pos}
end
end Ow
namespace Ow
open PySem PySem.Spec PyProof.Rows L2
section
variable {prog:Program}{w:World}{A:Around}{E:Value->Shared->Prop}{h:Heap}{g:Array GenState}{d:Drawn}{t:Nat}{os:OsState}{K:Frag}{a C D:Addr}{o od:Obj}{name:Str}{v:Value}
theorem xat (hx:h.get? a=some o) (hc:o.cls=.ref C) (hd:o.dict=some D) (hn:PySem.W.notCls o=true) (gd:h.get? D=some od):PySem.W.InstAt h a o C (some od):=⟨hx,hc,hn,by rw[hd]; exact gd⟩
theorem pT {tk:Tok}{Q:Fin->Shared->Prop}(X:K.In h) (I:PySem.W.InstAt h a o C (some od)) (hf:PySem.W.findObj K C (some od) name=some (.value v)) (hq:Q (.done (.ret v)) ⟨h,g,d,t,os⟩) :
  wpAny (model prog w) A (Builtin.«object.__getattribute__» ⟨[.ref a,.str name tk],[]⟩) Q E ⟨h,g,d,t,os⟩:=by
 have L0:=I.type (M:=model prog w)
 have L1:=PySem.W.looks_find (M:=model prog w) X I hf
 refine wpAny_bind (wpAny_pure (wpAny_bind (wpAny_pure (wpAny_bind (L0.at (wpAny_bind (L1.at ?_)))))))
 exact wpAny_pure hq
theorem getx_by {tk:Tok}{fill ex:Bool}{Q:Value->Shared->Prop}(X:K.In h) (f:ExF K C) (I:PySem.W.InstAt h a o C (some od)) (hf:PySem.W.findObj K C (some od) name=some (.value v)) (hv:PySem.W.handedIn v=true) (hq:Q v ⟨h,g,d,t,os⟩) :
  wpAny (model prog w) A (getAttrBy (.ref a) (.str name tk) fill ex) Q E ⟨h,g,d,t,os⟩:=by
 have hx:=I.at_
 have hc:=I.cls
 have f3:=F.attr_ValueError.ga.bind (.ref a)
 have L1:=PySem.W.looks_findIn (M:=model prog w) X f.ga
 have L2:=PySem.W.looks_findIn (M:=model prog w) X f.gn
 have hx2:(Value.builtin "BaseException.__getattribute__" == Value.builtin "object.__getattribute__")=false:=by decide +kernel
 have hx1:(onTheHeap (Value.ref C)&&Value.builtin "BaseException.__getattribute__" == Value.builtin "object.__getattribute__")=false:=by rw[hx2]; rfl
 have hx0:(ex&&onTheHeap (Value.builtin "BaseException.__getattribute__"))=false:=by cases ex <;> rfl
 have hho:=PySem.W.handedOut_of hv
 repeat (any_goals (first | assumption | (with_reducible refine wpAny_loadPart_at hx ?_; rw[hc]) | with_reducible refine L1.at ?_ | with_reducible refine L2.at ?_ | wp_step))
 refine codeAny_call_builtin F.attr_ValueError.ga.plain F.entry_bexc_ga (rT X f hx hc (pT X I hf ?_))
 repeat (any_goals (first | assumption | wp_step))
theorem getx {ex:Bool}{Q:Value->Shared->Prop}(X:K.In h) (f:ExF K C) (I:PySem.W.InstAt h a o C (some od)) (hf:PySem.W.findObj K C (some od) name=some (.value v)) (hv:PySem.W.handedIn v=true) (hq:Q v ⟨h,g,d,t+1,os⟩) :
  wpAny (model prog w) A (getAttr (.ref a) name ex) Q E ⟨h,g,d,t,os⟩:=by
 unfold getAttr
 exact wpAny_bind (wpAny_mkText (getx_by X f I hf hv hq))
end
def tXf (K:Frag) (ta:TE) (a:Addr) (oe:Obj) (f:Str):TE:=fun σ H Q=>ta σ H fun x H1=>∃ C D fs v,x=.ref a/\oe.cls=.ref C/\oe.dict=some D/\PySem.W.notCls oe=true/\ExF K C/\hasDictIn K C=true/\NoAttr K C f/\H1 D=some (.xd fs)/\fs.lookup f=some v/\Q v H1
theorem pG {X:Cx}{a:Addr}{oe:Obj}{f:Str}{e:Expr}{ta:TE}{pos:Pos}(hp:(a,oe)∈X.pn) (he:PE X e ta) (hb:attributeBase e f X.env (eval e X.env)=eval e X.env):PE X (.Attribute e f pos) (tXf X.K ta a oe f):=by
 intro pins s σ H Q I h
 refine rM hb (thn (he pins s σ H _ I h) fun u s1 ⟨x,H1,I1,rx,C,D,fs,v,ex,hc,hd,hn,f1,f2,f3,hD,hl,q⟩=>?_)
 subst ex
 obtain rfl:u=Value.ref a:=rx
 have pa:=I1.pin _ (mem_append_left _ hp)
 obtain⟨mA,ns,r⟩:=I1.hok D _ hD
 obtain⟨od,gd,hlk⟩:=me ns
 obtain⟨v',hv,rv⟩:=RelO.some_of (v:=v) (o:=mA f) (by rw[<- hl]; exact r f)
 obtain⟨hh,g,d,t,os⟩:=s1
 exact getx I1.kIn f1 (xat pa.1 hc hd hn gd) (PySem.W.findObj_own f2 f3 rfl (by rw[hlk,hv])) (mx rv) ⟨v,H1,I1.tok _,rv,q⟩
end Ow
namespace Ow
open PySem PySem.Spec PyProof.Rows L2
end Ow
namespace Ow
open PySem PySem.Spec PyProof.Rows L2
section
variable {prog:Program}{w:World}{A:Around}{E:Value->Shared->Prop}{s:Shared}{a:Addr}{o:Obj}{ks:List Int}{k:Int}{tk:Tok}
end
end Ow
namespace Ow
open PySem PySem.Spec PyProof.Rows L2
section
variable {prog:Program}{w:World}{A:Around}{R:Result->Shared->Prop}{I:Addr}{fp wr:List Addr}{G:Array GenState->Array GenState->Prop}{n:Nat}{P:Nat->Value->Prop}{St:Nat->Shared->Prop}
end
section
variable {prog:Program}{w:World}{A:Around}{E:Value->Shared->Prop}{s:Shared}
end
end Ow
namespace Ow
open PySem PySem.Spec PyProof.Rows L2
section
variable {prog:Program}{w:World}{A:Around}{E:Value->Shared->Prop}{s:Shared}{S I:Addr}{es:Array (Int×Value)}{ep:Nat}{t:SetTable}
end
end Ow
namespace Ow
open PySem PySem.Spec PyProof.Rows L2
section
variable {prog:Program}{w:World}{A:Around}{E:Value->Shared->Prop}{s:Shared}{S I:Addr}{es:Array (Int×Value)}{ep:Nat}{t:SetTable}
end
end Ow
namespace Ow
open PySem PySem.Spec PyProof.Rows L2
section
variable {prog:Program}{w:World}{A:Around}{E:Value->Shared->Prop}{s:Shared}{S:Addr}{es:Array (Int×Value)}{ep:Nat}{t:SetTable}
end
end Ow
namespace Ow
open PySem PySem.Spec PyProof.Rows L2
section
variable {prog:Program}{w:World}{A:Around}{E:Value->Shared->Prop}{s:Shared}{S:Addr}{es:Array (Int×Value)}{ep:Nat}{t:SetTable}
end
end Ow
namespace Ow
open PySem PySem.Spec PyProof.Rows L2
section
variable {prog:Program}{w:World}{A:Around}{E:Value->Shared->Prop}{s:Shared}{S:Addr}{o:Obj}{ks:List Int}
end
end Ow
namespace L2
open PySem PySem.Spec PyProof.Rows
section
variable {X:Cx}{pins:List (Addr×Obj)}{σ:St}{H:Hp}{s:Shared}{cl:List (Str×Addr)}{ns:List Str}{vals:List V}
end
section
variable {X:Cx}
end
section
variable {X:Cx}
end
structure LamBase (mg:Str->Option Value) (base:Heap) (c P:Addr):Prop where
 code:PySem.W.CodeHd base c P
 bm:∃ bm ob,mg "__builtins__"=some (.ref bm)/\bm≠builtinsNs/\base.get? bm=some ob/\ob.cls=.type "module"/\ob.dict=some builtinsNs/\ob.data=.plain
section
variable {X:Cx}
end
theorem sO {P:Program}{w:World}{K:Frag}{mg mb:Str->Option Value}{CX:CXT}{k:Nat}{fa a:Addr}{fd:FuncData}{x:Str}{sp:Sp}{s₁:Shared}{vs:List Value}{ns:List Int}{tabs:List (Addr×Addr)}
  (KX:K.In s₁.heap) (hns:s₁.heap.Ns mainGlobals mg) (hb:s₁.heap.Ns builtinsNs mb) (hbb:∀ x:Str,x≠"__name__"->mb x=bootBuiltins x) (hlim:s₁.heap.NoLimit) (hg:s₁.gens=#[])
  (hbm:∃ bm ob,mg "__builtins__"=some (.ref bm)/\bm≠builtinsNs/\s₁.heap.get? bm=some ob/\ob.cls=.type "module"/\ob.dict=some builtinsNs/\ob.data=.plain)
  (hT:PySem.W.TabsAt tabs s₁.heap) (hTK:∀ q∈tabs,K.lookup q.2=none)
  (ha:s₁.heap.get? a=some { cls:=.type "list",data:=.seq vs.toArray }) (hi:IntsAre vs ns) (hl:ns.length<=sizeLine) (hr:Room k callerA)
  (F:∀ base:Heap,K.In base->base.Ns mainGlobals mg->(∀ q∈tabs,LamBase mg base q.1 q.2)->FnOk P w K mg base CX k fa fd [x] sp) (hbind:∀ (s:Shared) (u:Value),BindsTo s fd ⟨[u],[]⟩ [(x,u)])
  (hsp:∀ H:Hp,(∀ q∈tabs,H q.2=some (.tbl #[]))->SqL K H a (ns.map V.int)->sp [.ref a] H (fun v _=>v=.bl true) fun _ _ _=>False)
  (hCX:∀ H e s',CX [] H s₁ (fun _ _ _=>False) e s'->False) :
  codeAny (model P w) callerA (.call (.ref fa) ⟨[.ref a],[]⟩) (fun r s'=>r=.ok (.ret (.bool true))/\OldK s₁.heap s'.heap/\s'.os=s₁.os/\AllBare s'.gens) s₁:=by
 have rv:=jg hi
 have lenV:=hi.length
 have tabAt:∀ b,b∈tabs.map (·.2)->∃ q∈tabs,q.2=b/\s₁.heap.get? b=some (PySem.W.tabObj #[]):=fun b hb=>by
  obtain⟨q,hq,rfl⟩:=List.mem_map.mp hb
  exact⟨q,hq,rfl,(hT q hq).2⟩
 have aT:a∉tabs.map (·.2):=fun z=>by
  obtain⟨_,_,_,e⟩:=tabAt a z
  rw[ha] at e
  have e':=congrArg Obj.data (Option.some.inj e)
  have e2:Data.seq vs.toArray _=Data.fields #[]:=e'
  cases e2
 have core:∀ H:Hp,(∀ b,H b=none\/(b=a/\∃ xs,H b=some (.frz { cls:=.type "list",data:=.seq vs.toArray } (.lst xs)))\/(b∈tabs.map (·.2)/\H b=some (.tbl #[])))->(∀ b∈tabs.map (·.2),H b=some (.tbl #[]))->SqL K H a (ns.map V.int)->HOk P w H s₁.heap->(H a≠none->K.lookup a=none) ->
   codeAny (model P w) callerA (.call (.ref fa) ⟨[.ref a],[]⟩) (fun r s'=>r=.ok (.ret (.bool true))/\OldK s₁.heap s'.heap/\s'.os=s₁.os/\AllBare s'.gens) s₁:=by
  intro H hO hTb hS hok hK
  have base_of:∀ {b:Addr} {o:Obj},s₁.heap.get? b=some o->H b=none->(nF s₁.heap H).get? b=some o:=fun e n=>oB e n
  have noA:∀ {b:Addr} {o:Obj},s₁.heap.get? b=some o->(o.data≠.seq vs.toArray)->o.cls≠.none->H b=none:=fun {b o} e d c=>by
   rcases hO b with z | ⟨z,_⟩ | ⟨z,_⟩
   ·exact z
   ·rw[z,ha] at e; cases e; exact absurd rfl d
   ·obtain⟨_,_,_,e2⟩:=tabAt b z
    rw[e] at e2; cases e2; exact absurd rfl c
  have noD:∀ {b:Addr} {o:Obj} {es:Array DictEntry} {ep:Nat},s₁.heap.get? b=some o->o.data=.dict es ep->H b=none:=fun {b o es ep} e d=>by
   rcases hO b with z | ⟨z,_⟩ | ⟨z,_⟩
   ·exact z
   ·rw[z,ha] at e; cases e
    have d':Data.seq vs.toArray _=Data.dict es ep:=d
    cases d'
   ·obtain⟨_,_,_,e2⟩:=tabAt b z
    rw[e] at e2; cases e2; cases d
  have nsK:∀ {b:Addr} {m:Str->Option Value},s₁.heap.Ns b m->(nF s₁.heap H).Ns b m:=fun {b m} ⟨o,es,ep,e,d,r⟩=>⟨o,es,ep,base_of e (noD e d),d,r⟩
  have hKb:K.In (nF s₁.heap H):=fun b o e=>base_of (KX b o e) (by
   rcases hO b with z | ⟨z,xs,z2⟩ | ⟨z,z2⟩
   ·exact z
   ·rw[z,hK (by rw[<- z,z2]; simp)] at e; cases e
   ·obtain⟨q,hq,hqb,_⟩:=tabAt b z
    rw[<- hqb,hTK q hq] at e; cases e)
  have hM:Mod K mg (nF s₁.heap H):=⟨hKb,nsK hns,⟨mb,nsK hb,hbb⟩,let ⟨mc,h1,h2⟩:=hlim; ⟨mc,nsK h1,h2⟩⟩
  have hLB:∀ q∈tabs,LamBase mg (nF s₁.heap H) q.1 q.2:=fun q hq=>by
   refine⟨?_,?_⟩
   ·obtain⟨o,us,file,tf,flags,tg,inF,text,tt,e,e2,e3,r⟩:=(hT q hq).1
    refine⟨o,us,file,tf,flags,tg,inF,text,tt,base_of e (noA e (by rw[e3]; nofun) (by rw[e2]; nofun)),e2,e3,r⟩
   ·obtain⟨bm,ob,b1,b2,b3,b4,b5,b6⟩:=hbm
    exact⟨bm,ob,b1,b2,base_of b3 (noA b3 (by rw[b6]; nofun) (by rw[b4]; nofun)),b4,b5,b6⟩
  have e0:Env0 P w K mg (nF s₁.heap H) callerA [] s₁ H:=⟨rfl,hM,fun b o e=>rD e,Nat.le_of_eq (lN _ _),trivial,fun b hb=>absurd (show b∈([]:List Addr) from hb) (by simp),hok,.of_eq hg⟩
  refine codeAny_mono ((F _ hKb (nsK hns) hLB).run callerA [] s₁ H ⟨[.ref a],[]⟩ [.ref a] [.ref a] _ _ hr e0 (hbind s₁ (.ref a)) (.cons rfl .nil) (hsp H (fun q hq=>hTb _ (List.mem_map_of_mem hq)) hS)) fun r s' h=>?_
  cases r with
  | error e=>exact(hCX H e s' h).elim
  | ok fl =>
   cases fl with
   | next=>exact False.elim h
   | brk=>exact False.elim h
   | cont=>exact False.elim h
   | ret u =>
    obtain⟨v,H',os,bare,un,hok',r',q⟩:=h
    have q':v=.bl true:=q
    subst q'
    obtain rfl:u=Value.bool true:=r'
    have key:∀ b o,s₁.heap.get? b=some o->asItWas s₁.heap s'.heap b o/\∃ o',s'.heap.get? b=some o':=fun b o e=>by
     rcases hO b with z | ⟨z,xs,z2⟩ | ⟨z,z2⟩
     ·have e1:=un.keep b o e z (by intro z; exact absurd (show b∈([]:List Addr) from z) (by simp)) (by simp)
      exact⟨.inl e1,o,e1⟩
     ·have z3:=un.frzs b _ _ z2
      obtain⟨e1,_⟩:=hok b _ z2
      obtain⟨e2,_⟩:=hok' b _ z3
      rw[e] at e1; cases e1
      exact⟨.inl e2,_,e2⟩
     ·obtain⟨q,hq,rfl,e1⟩:=tabAt b z
      rw[e] at e1; cases e1
      obtain⟨more,z3⟩:=un.tbls _ _ z2
      have e2:s'.heap.get? q.2=some (PySem.W.tabObj (#[]++more)):=hok' _ _ z3
      exact⟨.inr (.inl ⟨((hT q hq).1.tab (hT q hq).2).isCodeTable,rfl,#[],more,rfl,e2⟩),_,e2⟩
    exact⟨rfl,⟨fun b o e=>(key b o e).1,fun b o e=>(key b o e).2⟩,os,bare⟩
 have tbOk:∀ (H:Hp) (b:Addr),b∈tabs.map (·.2)->ObjOk P w H s₁.heap b (.tbl #[]):=fun H b hb=>by
  obtain⟨_,_,_,e⟩:=tabAt b hb
  exact e
 have dec:∀ b,Decidable (b∈tabs.map (·.2)):=fun b=>inferInstance
 cases hk:K.lookup a with
 | some o =>
  have e:=KX a o hk
  rw[ha] at e
  cases e
  refine core (fun b=>if b∈tabs.map (·.2) then some (.tbl #[]) else none) (fun b=>?_) (fun b hb=>if_pos hb) (.inr ⟨_,vs.toArray,_,hk,rfl,rfl,rfl,by rw[size_toArray,lenV]; exact hl,by simpa using rv⟩) (fun b u z=>?_) fun z=>absurd (if_neg aT) z
  ·by_cases hb:b∈tabs.map (·.2)
   ·exact .inr (.inr ⟨hb,if_pos hb⟩)
   ·exact .inl (if_neg hb)
  ·by_cases hb:b∈tabs.map (·.2)
   ·have z':=(if_pos hb).symm.trans z
    cases z'
    exact tbOk _ b hb
   ·have z':=(if_neg hb).symm.trans z
    cases z'
 | none =>
  have eA:(if a=a then some (HO.frz { cls:=.type "list",data:=.seq vs.toArray } (.lst (ns.map V.int))) else if a∈tabs.map (·.2) then some (.tbl #[]) else none)=some (HO.frz { cls:=.type "list",data:=.seq vs.toArray } (.lst (ns.map V.int))):=if_pos rfl
  refine core (fun b=>if b=a then some (.frz { cls:=.type "list",data:=.seq vs.toArray } (.lst (ns.map V.int))) else if b∈tabs.map (·.2) then some (.tbl #[]) else none) (fun b=>?_) (fun b hb=>?_) (.inl (.inr ⟨{ cls:=.type "list",data:=.seq vs.toArray },if_pos rfl⟩)) (fun b u z=>?_) fun _=>hk
  ·by_cases hb:b=a
   ·exact .inr (.inl ⟨hb,_,if_pos hb⟩)
   ·by_cases hb2:b∈tabs.map (·.2)
    ·exact .inr (.inr ⟨hb2,(if_neg hb).trans (if_pos hb2)⟩)
    ·exact .inl ((if_neg hb).trans (if_neg hb2))
  ·exact(if_neg fun z=>aT (by rw[<- z]; exact hb)).trans (if_pos hb)
  ·by_cases hb:b=a
   ·have z':=(if_pos hb).symm.trans z
    cases z'
    subst hb
    exact⟨ha,by rw[length_map]; exact hl,vs,_,rv,ha⟩
   ·have z':=(if_neg hb).symm.trans z
    by_cases hb2:b∈tabs.map (·.2)
    ·have z'':=(if_pos hb2).symm.trans z'
     cases z''
     exact tbOk _ b hb2
    ·have z'':=(if_neg hb2).symm.trans z'
     cases z''
theorem walk_ofT {l:PySem.W.OpenLaw}{n k:Nat}{q:Program}{loose:List Str}{XP:(Str->Option Value)->Heap->Prop}{YP:World->Heap->Prop}{d:DefRec}{K:Params->Frag}{CX:World->CXT}{sp:World->Sp}{x:Str}(tabs:List (Addr×Addr))
  (hn:l.most=some n) (hn2:n<=sizeLine) (hdf:d.params.defaults=[]) (hr:Room k callerA)
  (hY:∀ (w:World) (h:Heap),YP w h->(K w.params).In h)
  (hT:∀ (w:World) (lo:List Str) (mean:ExcName->Option Value) (mg mb:Str->Option Value) (h:Heap),Top q lo mean mg mb h->(K w.params).In h->PySem.W.TabsAt tabs h)
  (hTK:∀ w:World,∀ t∈tabs,(K w.params).lookup t.2=none)
  (F:∀ (w:World) (mg:Str->Option Value) (fa:Addr) (h:Heap),(K w.params).In h->h.Ns mainGlobals mg->mg d.name=some (.ref fa) ->
   ∃ fd:FuncData,(∀ (s:Shared) (u:Value),BindsTo s fd ⟨[u],[]⟩ [(x,u)]) /\
    ∀ base:Heap,(K w.params).In base->base.Ns mainGlobals mg->(∀ t∈tabs,LamBase mg base t.1 t.2)->FnOk l.prog w (K w.params) mg base (CX w) k fa fd [x] (sp w))
  (hsp:∀ (w:World) (H:Hp) (a:Addr) (ns:List Int),ns.length<=n->(∀ t∈tabs,H t.2=some (.tbl #[]))->SqL (K w.params) H a (ns.map V.int)->sp w [.ref a] H (fun v _=>v=.bl true) fun _ _ _=>False)
  (hCX:∀ (w:World) (H:Hp) (s:Shared) (e:Value) (s':Shared),CX w [] H s (fun _ _ _=>False) e s'->False) :
  PySem.W.WalkO q loose XP YP l.row.toRowW d [] (fun f vs=>PySem.call f vs):=by
 refine Att.attach_call hn hdf fun w s₀ s₁ mg mb fa o pm cd doc a vs ns G Y ho hd hcd hmg hobj hints hlen hg=>?_
 have KX:=hY w _ Y
 obtain⟨fd,hb,hF⟩:=F w mg fa _ KX G.T.g hmg
 exact sO KX G.T.g G.T.b G.T.builtins G.T.nolimit hg G.T.bmain (hT w _ _ mg mb _ G.T KX) (hTK w) hobj hints (Nat.le_trans hlen hn2) hr hF hb (fun H hO hS=>hsp w H a ns hlen hO hS) fun H e s'=>hCX w H s₁ e s'
end L2
namespace L2
open PySem PySem.Spec PyProof.Rows
end L2
namespace L2
open PySem PySem.Spec PyProof.Rows
section
variable {prog:Program}{w:World}{A:Around}{E:Value->Shared->Prop}{s:Shared}
theorem jR {it t:Addr}{i:Nat}{items:Array Value}{x:Value}{Q:Value->Shared->Prop}(hit:s.heap.IsTupleIter it t i) (ht:s.heap.IsTuple t items) (hx:items[i]?=some x)
  (hQ:∀ h',h'.IsTupleIter it t (i+1)->Heap.SameBut it s.heap h'->Q x { s with heap:=h' }):wpAny (model prog w) A (Builtin.SmallTypes.nextOf (.ref it)) Q E s:=by
 obtain⟨o,ho,hc,hd⟩:=id hit
 obtain⟨ot,hot,_,n,hdt⟩:=ht
 have fin:(s.heap.update it (·.mapFields (·.setIfInBounds 1 (rawInt ((i:Int)+1))))).IsTupleIter it t (i+1) :=
  ⟨_,Heap.get?_update_self _ ho (Obj.isFreed_of_fields (Obj.data_mapFields hd _)),(Obj.cls_mapFields ..).trans hc,by rw[Obj.data_mapFields hd]; simp[rawInt]⟩
 unfold Builtin.SmallTypes.nextOf
 refine wpAny_bind (wpAny_callSpecial?_slot (name:=Str.ofString "__next__") hit.typeIs F.slot_tuple_iterator_next (wpAny_call_entry F.slot_tuple_iterator_next hit.typeIs F.entry_tuple_iterator_next ?_ (F.args_tuple_iterator_next_1 _)))
 show wpAny _ _ (field (.ref it) 0 >>= _) _ _ s
 refine wpAny_bind (wpAny_field ho hd (x:=.ref t) rfl ?_)
 show wpAny _ _ (if (Value.ref t == Value.none)=true then _ else _) _ _ s
 rw[if_neg (show ¬ ((Value.ref t == Value.none)=true) from Bool.false_ne_true)]
 show wpAny _ _ (field (.ref it) 1 >>= _) _ _ s
 refine wpAny_bind (wpAny_field ho hd (x:=.int i 0) rfl ?_)
 show wpAny _ _ (seqItems? (.ref t) >>= _) _ _ s
 refine wpAny_bind (wpAny_seqItems hot hdt ?_)
 simp only[Int.toNat_natCast,hx]
 exact wpAny_bind (wpAny_setField ho hd (by simp) (wpAny_pure ⟨x,rfl,wpAny_pure (hQ _ fin (Heap.SameBut.update ..))⟩))
theorem gB {it t:Addr}{i:Nat}{items:Array Value}{Q:Value->Shared->Prop}(hh:A.handled=none) (hit:s.heap.IsTupleIter it t i) (ht:s.heap.IsTuple t items) (hx:items[i]?=none)
  (hE:∀ h' e,Heap.ExtBut it s.heap h'->(∃ o,h'.get? e=some o/\o.cls=.type "StopIteration")->E (.ref e) { s with heap:=h' }):wpAny (model prog w) A (Builtin.SmallTypes.nextOf (.ref it)) Q E s:=by
 obtain⟨o,ho,hc,hd⟩:=id hit
 obtain⟨ot,hot,_,n,hdt⟩:=ht
 unfold Builtin.SmallTypes.nextOf
 refine wpAny_bind (wpAny_callSpecial?_slot (name:=Str.ofString "__next__") hit.typeIs F.slot_tuple_iterator_next (wpAny_call_entry F.slot_tuple_iterator_next hit.typeIs F.entry_tuple_iterator_next ?_ (F.args_tuple_iterator_next_1 _)))
 show wpAny _ _ (field (.ref it) 0 >>= _) _ _ s
 refine wpAny_bind (wpAny_field ho hd (x:=.ref t) rfl ?_)
 show wpAny _ _ (if (Value.ref t == Value.none)=true then _ else _) _ _ s
 rw[if_neg (show ¬ ((Value.ref t == Value.none)=true) from Bool.false_ne_true)]
 show wpAny _ _ (field (.ref it) 1 >>= _) _ _ s
 refine wpAny_bind (wpAny_field ho hd (x:=.int i 0) rfl ?_)
 show wpAny _ _ (seqItems? (.ref t) >>= _) _ _ s
 refine wpAny_bind (wpAny_seqItems hot hdt ?_)
 simp only[Int.toNat_natCast,hx]
 refine wpAny_bind (wpAny_rule (wpAny_bind (wpAny_setField ho hd (by simp) ?_)))
 show wpAny _ _ (newExc (.type "StopIteration") [] >>= _) _ _ _
 refine wpAny_bind ?_
 simp only[newExc,newTuple]
 refine wpAny_bind (wpAny_newObj_type ?_ (by size_fits))
 refine wpAny_bind (m:=firstArgMember _ _) (wpAny_of_eq (a:=Value.none) (by first | rfl | (simp only[firstArgMember]; rfl)) ?_)
 refine wpAny_newObj_type ?_ (by size_fits)
 simp only[raiseNew]
 refine wpAny_bind (wpAny_handled ?_)
 first | rw[show A.in1.handled=none from hh] | rw[hh]
 exact wpAny_bind (wpAny_pure (wpAny_throw (hE _ _ (((Heap.SameBut.update ..).extBut.push _).push _) ⟨_,Heap.get?_push_size _ rfl,rfl⟩)))
end
section
variable {X:Cx}
end
end L2
namespace Ow
open PySem PySem.Spec PyProof.Rows L2
theorem dk_none {P:Program}{w:World}{H:Hp}(h:Heap) (hb:sysModules<h.objs.size):ObjOk P w H (h.push { cls:=.type "dict",data:=.dict #[] }) h.objs.size (.dK []) :=
 ⟨zero_le _,beq_eq_false_iff_ne.mpr (Ne.symm (ne_of_lt hb)),[],.nil,Heap.DictOf.new h⟩
theorem inv_big {X:Cx}{pins:List (Addr×Obj)}{σ:L2.St}{H:Hp}{s:Shared}(I:Inv X pins σ H s):sysModules<s.heap.objs.size:=by
 have h1:=I.ok.mod.glob.lt
 have h2:=Nat.le_trans I.ok.bsz I.sz
 exact lt_of_lt_of_le (lt_of_le_of_lt (by decide) h1) h2
def tDNew:TE:=fun _ H Q=>∀ p,H p=none->Q (.ref p) (upd H p (.dK []))
theorem iJ {X:Cx}{pos:Pos}:PE X (.Dict [] [] pos) tDNew:=fun pins s σ H Q I h =>
 wpAny_Dict_empty ⟨.ref s.heap.objs.size,_,I.laid (a:=s.heap.objs.size) (o:=.dK []) (t':=s.toks) (fun _ _ q=>Heap.get?_push_of_some _ q) (le_refl _) (dk_none s.heap (inv_big I)),rfl,h _ (I.hok.fresh (le_refl _))⟩
end Ow
namespace Ow
open PySem PySem.Spec PyProof.Rows L2
def tCompT (wi:TI) (tc:TT) (te:TE) (cap:L2.St->L2.St):TE:=fun σ H Q=>wi σ H fun J H1=>∀ D,H1 D=none->∃ W:Nat->Nat->Hp->Prop,(∃ m,W 0 m (upd H1 D (.lst [])))/\∀ i m H,W i m H ->
 (J.stop i H/\Q (.ref D) H)\/(J.go i H/\∀ x H',J.yld i H x H'->tc (some x::cap σ) H' fun b HA=>if b=true then te (some x::cap σ) HA (fun y H2=>∃ ys,H2 D=some (.lst ys)/\ys.length<sizeLine/\∃ m',m'<m/\W (i+1) m' (upd H2 D (.lst (ys++[y])))) else ∃ m',m'<m/\W (i+1) m' HA)
section
variable {X:Cx}{elt iter cc:Expr}{x:Str}{px pos:Pos}{scope:Scope}{wi:TI}{tc:TT}{te:TE}{N:List Str}{cl:List (Str×Addr)}{cap:L2.St->L2.St}
theorem pe_compT (hc:X.calm=true) (hclos:closureFor scope X.env=pure cl) (hsub:∀ n c,cl.lookup n=some c->X.env.cells.lookup n=some c)
  (hcell:∀ y∈scope.names,y.2≠.cell) (hkind:scope.kind=.function) (hnames:∀ y∈scope.names,y.2=.local->scope.names.lookup y.1=some .local) (hx:scope.names.lookup x=some .local)
  (hhas:∀ y,(Env.kindOf (compEnvC scope cl 0 X.env) y=some .cell\/Env.kindOf (compEnvC scope cl 0 X.env) y=some .free)->∃ c,cl.lookup y=some c)
  (hN:(x::N).Nodup) (hcapl:∀ σ,(cap σ).length=N.length)
  (hcap:∀ (σ:L2.St) (i:Nat) (y:Str) (v:V),σ.length=X.N.length->N[i]?=some y->(cap σ)[i]?=some (some v)->(Env.kindOf (compEnvC scope cl 0 X.env) y=some .cell\/Env.kindOf (compEnvC scope cl 0 X.env) y=some .free)/\X.env.kindOf y=some .cell/\∃ j:Nat,X.N[j]?=some y/\σ[j]?=some (some v))
  (hi:PI X (.Name x px) iter wi) (ht:∀ C s2 H2 fp,PT (aU X (x::N) scope cl C s2 H2 fp) cc tc) (he:∀ C s2 H2 fp,PE (aU X (x::N) scope cl C s2 H2 fp) elt te)
  (hs:∀ z,foldedSetIterable iter X.env z=pure z:=by intro _; rfl) :
  PE X (.ListComp elt [⟨.Name x px,iter,[cc],0⟩] scope pos) (tCompT wi tc te cap):=by
 intro pins s σ H Q I h
 rw[eval_ListComp]
 refine wpAny_comprehension_free (use:=none) rfl hs hclos hkind hnames (thn (hi pins s σ H _ I h) fun xv s1 h1=>thn h1 fun itv s2 h2=>?_)
 obtain⟨it,fp,tn,J,H2,e,I2,T,st2,f2,hW⟩:=h2
 subst e
 have hD:H2 s2.heap.objs.size=none:=I2.hok.fresh (le_refl _)
 obtain⟨W,⟨m0,w0⟩,turn⟩:=hW s2.heap.objs.size hD
 refine wpAny_newObj_type (wpAny_newFunctionEnv hcell (by intro y hy; simp at hy) (fun h4 hns4 hsb4=>?_) hkind) (by show 0<=sizeLine; decide)
 dsimp only at hns4 hsb4 ⊢
 generalize hH3:s2.heap.push { cls:=.type "list",dict:=none,data:=.seq ([]:List Value).toArray }=H3 at hns4 hsb4 ⊢
 have hCz:H3.objs.size=s2.heap.objs.size+1:=by rw[<- hH3,Heap.size_push]
 have old3:∀ b o,s2.heap.get? b=some o->H3.get? b=some o:=fun b o e=>hH3 ▸ Heap.get?_push_of_some _ e
 have eD3:H3.get? s2.heap.objs.size=some { cls:=.type "list",dict:=none,data:=.seq ([]:List Value).toArray }:=hH3 ▸ Heap.get?_push_size _ rfl
 have old4:∀ b o,H3.get? b=some o->h4.get? b=some o:=fun b o e=>hsb4.extBut b o (ne_of_lt (Heap.lt_size e)) (Heap.get?_push_of_some _ e)
 have old:∀ b o,s2.heap.get? b=some o->h4.get? b=some o:=fun b o e=>old4 b o (old3 b o e)
 have szC:s2.heap.objs.size<H3.objs.size:=by rw[hCz]; exact lt_succ_self _
 have fpC:∀ b∈fp,b≠H3.objs.size:=fun b hb=>by
  obtain⟨o,ho,_⟩:=T.obj 0 _ st2 b hb
  exact ne_of_lt (lt_trans (Heap.lt_size ho) szC)
 have ok':(aU X (x::N) scope cl H3.objs.size s2 H2 fp).Ok:=by
  refine⟨I2.ok.mod,hkind,I2.ok.glob,I2.ok.blt,(Nat.le_of_lt szC),fun a b c e1 e2=>I2.ok.inj a b c (hsub a c e1) (hsub b c e2),fun y hy=>hhas y hy,fun y c z _=>absurd (show false=true from z) (by decide),
   fun _=>I2.ok.hd hc,I2.ok.frames,.inl rfl,fun b hb=>⟨fpC b hb,fun y c e=>(f2 b hb).2.2.2.2.1 y c (hsub y c e)⟩,I2.bs,Nat.le_trans I2.ok.bsz I2.sz,fun b o e hb=>?_,fun b hb z=>?_,I2.stack,I2.stkFree⟩
  ·rcases(f2 b hb).2.2.2.1 with q | q
   ·exact I2.ok.noex b o e q
   ·exact absurd (lt_of_lt_of_le (Heap.lt_size e) (Nat.le_trans I2.ok.bsz q)) (lt_irrefl _)
  ·rcases List.mem_cons.mp (I2.stkSub b z) with q | q
   ·exact(f2 b hb).2.1 q
   ·exact(f2 b hb).2.2.1 q
 have okD:ObjOk X.prog X.w (upd H2 s2.heap.objs.size (.lst [])) h4 s2.heap.objs.size (.lst []):=⟨zero_le _,[],0,.nil,old4 _ _ eD3⟩
 have I4:Inv (aU X (x::N) scope cl H3.objs.size s2 H2 fp) [] (none::cap σ) (upd H2 s2.heap.objs.size (.lst [])) { s2 with heap:=h4,toks:=s2.toks+([]:List (Str×Value)).length }:=by
  refine⟨ok',rfl,I2.bare,Un.laid old (le_refl _) hD,⟨_,hns4,fun i y v e1 e2 _=>?_⟩,fun y c e=>?_,?_,fun y c e=>?_,fun p hp=>absurd hp (by show p∉([]++[]:List (Addr×Obj)); simp),I2.hok.laid old (le_refl _) okD,?_⟩
  ·cases i with
   | zero=>simp at e2
   | succ i =>
    obtain⟨k1,k2,j,e3,e4⟩:=hcap σ i y v I2.len (show N[i]?=some y from e1) (show (cap σ)[i]?=some (some v) from e2)
    obtain⟨m,_,hl⟩:=I2.loc
    obtain⟨u,ru,lk⟩:=hl j y v e3 e4 (.inr (.inl k2))
    refine⟨u,ru,.inr ⟨k1,?_⟩⟩
    rcases lk with ⟨z,_⟩ | ⟨_,c,e5,hcl⟩
    ·rw[k2] at z; cases z
    ·obtain⟨c',e6⟩:=hhas y k1
     have:c'=c:=by
      have:=hsub y c' e6
      rw[e5] at this
      exact(Option.some.inj this).symm
     subst this
     obtain⟨oc,ho,hd⟩:=hcl
     exact⟨c',e6,oc,old _ _ ho,hd⟩
  ·obtain⟨v,oc,ho,hd⟩:=I2.cell y c (hsub y c e)
   exact⟨v,oc,old _ _ ho,hd⟩
  ·show upd H2 s2.heap.objs.size (.lst []) H3.objs.size=none
   rw[af (ne_of_gt szC)]
   exact I2.hok.fresh (Nat.le_of_lt szC)
  ·have h1:=I2.freeC y c (hsub y c e)
   obtain⟨v,oc,ho,_⟩:=I2.cell y c (hsub y c e)
   rw[af (ne_of_lt (Heap.lt_size ho))]
   exact h1
  ·show (none::cap σ).length=(x::N).length
   simp[hcapl]
 have stat:∀ {H':Hp},(∀ b∈fp,H' b=none)->∀ b∈fp,FpOk (aU X (x::N) scope cl H3.objs.size s2 H2 fp) [] H' b:=fun {H'} hn b hb =>
  ⟨hn b hb,(ok'.exf b hb).1,ok'.exfs b hb,.inl hb,(ok'.exf b hb).2,fun p hp=>absurd hp (by show p∉([]++[]:List (Addr×Obj)); simp)⟩
 have loop:codeAny (model X.prog X.w) X.A (.compLoop (.ListComp elt [⟨.Name x px,iter,[cc],0⟩] scope pos) 0 (.ref it) (.ref s2.heap.objs.size) (compEnvC scope cl H3.objs.size X.env))
   (compPost (model X.prog X.w) X.A X.xe none (EP X pins σ Q) (.ref s2.heap.objs.size) H3.objs.size) { s2 with heap:=h4,toks:=s2.toks+([]:List (Str×Value)).length }:=by
  refine codeAny_compLoop_tests (fun n s'=>∃ (i:Nat) (z0:Option V) (H':Hp),Inv (aU X (x::N) scope cl H3.objs.size s2 H2 fp) [] (z0::cap σ) H' s'/\tn i s'.heap/\(∀ b∈fp,H' b=none)/\W i n H') ?_ m0
   ⟨0,none,_,I4,T.keep 0 _ _ st2 (fun b _ o e=>old b o e),fun b hb=>?_,w0⟩
  ·rintro n s5 ⟨i,z0,H5,I5,st5,fr5,w5⟩
   rcases turn i n H5 w5 with ⟨stop,qn⟩ | ⟨go,step⟩
   ·refine wpAny_mono (T.done (aU X (x::N) scope cl H3.objs.size s2 H2 fp) rfl rfl rfl rfl i [] s5 _ H5 _ I5 (stat fr5) st5 stop) (fun r s6 ⟨hr,I6⟩=>?_) fun _ _ z=>z
    subst hr
    obtain⟨m,hn6,_⟩:=id I6.loc
    refine⟨m,hn6,fun h' sb=>⟨.ref s2.heap.objs.size,H5,?_,rfl,qn⟩⟩
    have kp:∀ b o,b≠H3.objs.size->s6.heap.get? b=some o->h'.get? b=some o:=fun b o hb e=>sb.extBut b o hb e
    have nC:∀ b o,s2.heap.get? b=some o->b≠H3.objs.size:=fun b o e=>ne_of_lt (lt_trans (Heap.lt_size e) szC)
    have fC:H5 H3.objs.size=none:=I6.free
    refine I2.call' (ch:=fp) (s':={ s6 with heap:=h' }) I6.os ?_ ?_ I6.bare fun b hb=>⟨(f2 b hb).2.2.2.1,(f2 b hb).2.1,(f2 b hb).2.2.2.2.1,(f2 b hb).2.2.2.2.2⟩
    ·have U:Un (frs X.stack) fp H2 H5 s2.heap s6.heap:=I6.base
     exact⟨fun b o e n1 n2 n3=>kp b o (nC b o e) (U.keep b o e n1 n2 n3),fun b o e n1 n2 n3=>by
       obtain⟨sl,q⟩:=U.slot b o e n1 n2 n3
       exact⟨sl,kp b _ (nC b o e) q⟩,U.free,fun b o e n3=>by
       obtain⟨o',q⟩:=U.there b o e n3
       exact⟨o',kp b _ (nC b o e) q⟩,U.tups,U.frzs,U.tbls⟩
    ·intro b u e
     refine(I6.hok b u e).stay (fun c v hc q=>kp c v (fun z=>?_) q) (fun _ q=>q) fun _ _ q=>q
     rcases hc with y | y
     ·rw[<- y,z,fC] at e
      cases e
     ·rw[z,fC] at y
      cases y
   ·refine wpAny_mono (T.item (aU X (x::N) scope cl H3.objs.size s2 H2 fp) rfl rfl rfl rfl i [] s5 _ H5 _ I5 (stat fr5) st5 go) (fun r s6 ⟨u,hr,h6⟩=>?_) fun _ _ z=>z
    subst hr
    have key:(letOwnedTupleGo (.Name x px) (.ref it) u >>= fun _=>assign (.Name x px) (compEnvC scope cl H3.objs.size X.env) u)=assign (.Name x px) (compEnvC scope cl H3.objs.size X.env) u:=by first | rfl | exact pure_bind _ _
    dsimp only
    rw[<- key]
    refine wpAny_bind (wpAny_mono h6 (fun _ s7 ⟨v,H7,I7,r7,y7,st7,fr7⟩=>?_) fun _ _ z=>z)
    have I7':=I7.pinned (stat fr7) (T.obj _ _ st7)
    refine wpAny_assign_Name (eM (i:=0) I7' hN rfl (.inl (lookup_relabel_local hx)) r7 (fun s8 I8=>?_) (.inr (lookup_relabel_local hx)))
    have behind:∀ (m':Nat) (H10:Hp) (s10:Shared),m'<n->Inv (aU X (x::N) scope cl H3.objs.size s2 H2 fp) ([]++mz fp s7.heap) (some v::cap σ) H10 s10->W (i+1) m' H10->∃ m,m<n/\∃ (i:Nat) (z0:Option V) (H':Hp),Inv (aU X (x::N) scope cl H3.objs.size s2 H2 fp) [] (z0::cap σ) H' s10/\tn i s10.heap/\(∀ b∈fp,H' b=none)/\W i m H':=by
     intro m' H10 s10 hm I10 w9'
     refine⟨m',hm,i+1,some v,_,I10.unpinned,T.keep _ _ _ st7 fun b hb o e=>(I10.pin (b,o) (mem_append_right _ (mem_append_right _ (bO hb e)))).1,fun b hb=>?_,w9'⟩
     obtain⟨o,e,d⟩:=T.obj _ _ st7 b hb
     exact(I10.pin (b,o) (mem_append_right _ (mem_append_right _ (bO hb e)))).2.1
    refine wpAny_tests_one (wpAny_mono (ht H3.objs.size s2 H2 fp _ s8 (some v::cap σ) H7 _ I8 (step v H7 y7)) (fun ok sA ⟨HA,IA,hA⟩=>?_) fun _ _ z=>z.elim)
    cases ok with
    | false =>
     rw[if_neg (by decide)] at hA ⊢
     obtain⟨m',hm,wA⟩:=hA
     exact behind m' HA sA hm IA wA
    | true =>
     rw[if_pos rfl] at hA ⊢
     refine wpAny_mono (he H3.objs.size s2 H2 fp _ sA (some v::cap σ) HA _ IA hA) (fun w9 s9 ⟨y,H9,I9,r9,ys,hys,hlt,m',hm,w9'⟩=>?_) fun _ _ z=>z.elim
     refine wpAny_mono (aY (X:=aU X (x::N) scope cl H3.objs.size s2 H2 fp) _ s9 _ H9 (.ref s2.heap.objs.size) [y] _ [w9] (fun _ Hn=>Hn=upd H9 s2.heap.objs.size (.lst (ys++[y]))) I9 rfl (.cons r9 .nil) ⟨_,ys,y,rfl,rfl,hys,hlt,rfl⟩) (fun _ s10 ⟨_,H10,I10,_,e10⟩=>?_) fun _ _ z=>z.elim
     subst e10
     exact behind m' _ s10 hm I10 w9'
  ·obtain⟨o,ho,_⟩:=T.obj 0 _ st2 b hb
   rw[af (ne_of_lt (Heap.lt_size ho))]
   exact(f2 b hb).1
 exact codeAny_compStart_list loop (T.self X.A 0 _ _ _ (T.keep 0 _ _ st2 (fun b _ o e=>old b o e)) loop)
theorem si (js:List Nat) (ns:List Str) (hc:X.calm=true) (hclos:closureFor scope X.env=pure cl) (hcls:cl.map (·.1)=ns) (hsub:∀ p∈cl,X.env.cells.lookup p.1=some p.2)
  (hno:∀ p∈scope.names,p.2≠.cell/\(p.2=.free->p.1∈ns)) (hkind:scope.kind=.function) (hnames:∀ y∈scope.names,y.2=.local->scope.names.lookup y.1=some .local) (hx:scope.names.lookup x=some .local)
  (hN:(x::ns).Nodup) (hkd:∀ y∈ns,(Env.kindOf (compEnvC scope cl 0 X.env) y=some .cell\/Env.kindOf (compEnvC scope cl 0 X.env) y=some .free)/\X.env.kindOf y=some .cell)
  (hjl:js.length=ns.length) (hj:js.map (fun j=>X.N[j]?)=ns.map some)
  (hi:PI X (.Name x px) iter wi) (ht:∀ C s2 H2 fp,PT (aU X (x::ns) scope cl C s2 H2 fp) cc tc) (he:∀ C s2 H2 fp,PE (aU X (x::ns) scope cl C s2 H2 fp) elt te)
  (hs:∀ z,foldedSetIterable iter X.env z=pure z:=by intro _; rfl) :
  PE X (.ListComp elt [⟨.Name x px,iter,[cc],0⟩] scope pos) (tCompT wi tc te fun σ=>js.map fun j=>(σ[j]?).getD none):=by
 refine pe_compT (N:=ns) (cl:=cl) hc hclos (fun n c e=>hsub (n,c) (PySem.mem_of_lookup e)) (fun y hy=>(hno y hy).1) hkind hnames hx (fun y hy=>?_) hN (fun σ=>by rw[length_map]; exact hjl) (fun σ i y v _ e1 e2=>?_) hi ht he hs
 ·have sub:∀ (l:List (Str×NameKind)),(∀ p∈l,p.2≠.cell/\(p.2=.free->p.1∈ns))->∀ p∈(l.map fun (n,k)=>if (k == NameKind.free&&X.env.scope.kind == ScopeKind.function&&X.env.kindOf n == some NameKind.cell) then (n,NameKind.cell) else (n,k)),(p.2=.cell\/p.2=.free)->p.1∈ns:=by
   intro l hl p hp hk
   obtain⟨q,hq,e⟩:=List.mem_map.mp hp
   have h1:=hl q hq
   obtain⟨n,k⟩:=q
   dsimp only at e
   by_cases hf:k=.free
   ·have h2:=h1.2 hf
    split at e
    ·rw[<- e]; exact h2
    ·rw[<- e]; exact h2
   ·have hf':(k == NameKind.free)=false:=by
     cases k <;> first | rfl | exact absurd rfl hf
    rw[hf',Bool.false_and,Bool.false_and,if_neg (by decide)] at e
    rw[<- e] at hk
    rcases hk with z | z
    ·exact absurd z h1.1
    ·exact absurd z hf
  have hy':y∈ns:=by
   rcases hy with z | z
   ·exact sub scope.names hno (y,.cell) (PySem.mem_of_lookup z) (.inl rfl)
   ·exact sub scope.names hno (y,.free) (PySem.mem_of_lookup z) (.inr rfl)
  rw[<- hcls] at hy'
  have key:∀ l:List (Str×Addr),y∈l.map (·.1)->∃ c,l.lookup y=some c:=by
   intro l
   induction l with
   | nil=>intro h; simp at h
   | cons p r ih =>
    intro h
    by_cases e:y=p.1
    ·exact⟨p.2,by obtain⟨p1,p2⟩:=p; dsimp only at e; subst e; simp[List.lookup]⟩
    ·have h':y∈r.map (·.1):=by
      rw[map_cons] at h
      exact(List.mem_cons.mp h).resolve_left e
     obtain⟨c,hc'⟩:=ih h'
     refine⟨c,?_⟩
     obtain⟨p1,p2⟩:=p
     have:(y == p1)=false:=by simpa using e
     rw[lookup_cons,this]
     exact hc'
  exact key cl hy'
 ·have hm:y∈ns:=mem_of_getElem? e1
  refine⟨(hkd y hm).1,(hkd y hm).2,?_⟩
  rw[List.getElem?_map] at e2
  cases hji:js[i]? with
  | none=>rw[hji] at e2; cases e2
  | some j =>
   rw[hji] at e2
   have e3:(σ[j]?).getD none=some v:=by
    have:=Option.some.inj e2
    exact this
   have e4:=congrArg (fun l=>l[i]?) hj
   rw[List.getElem?_map,List.getElem?_map,hji,e1] at e4
   have e5:X.N[j]?=some y:=by
    have:=Option.some.inj e4
    exact this
   refine⟨j,e5,?_⟩
   cases hσ:σ[j]? with
   | none=>rw[hσ] at e3; cases e3
   | some o =>
    rw[hσ] at e3
    have e6:o=some v:=e3
    rw[e6]
end
theorem pL {K:Frag}{a D:Addr}{xs:List V}{tc':TT}{te':TE}{tl:L2.St}{G:Hp->Prop}{H1:Hp}(Pv:Nat->Hp->Prop) (h0:Pv 0 (upd H1 D (.lst []))) (hl:∀ i H,i<=xs.length->Pv i H->SqL K H a xs)
  (hs:∀ i x H,xs[i]?=some x->Pv i H->tc' (some x::tl) H fun b HA=>if b=true then te' (some x::tl) HA (fun y H2=>∃ ys,H2 D=some (.lst ys)/\ys.length<sizeLine/\∃ m',m'<xs.length-i/\(m'=xs.length-(i+1)/\i+1<=xs.length/\Pv (i+1) (upd H2 D (.lst (ys++[y]))))) else ∃ m',m'<xs.length-i/\(m'=xs.length-(i+1)/\i+1<=xs.length/\Pv (i+1) HA))
  (hd:∀ H,Pv xs.length H->G H) :
  ∃ W:Nat->Nat->Hp->Prop,(∃ m,W 0 m (upd H1 D (.lst [])))/\∀ i m H,W i m H ->
   ((Itl K a).stop i H/\G H)\/((Itl K a).go i H/\∀ x H',(Itl K a).yld i H x H'->tc' (some x::tl) H' fun b HA=>if b=true then te' (some x::tl) HA (fun y H2=>∃ ys,H2 D=some (.lst ys)/\ys.length<sizeLine/\∃ m',m'<m/\W (i+1) m' (upd H2 D (.lst (ys++[y])))) else ∃ m',m'<m/\W (i+1) m' HA):=by
 refine⟨fun i m H=>m=xs.length-i/\i<=xs.length/\Pv i H,⟨xs.length,by simp,zero_le _,h0⟩,?_⟩
 rintro i m H ⟨rfl,hi,p⟩
 have q:=hl i H hi p
 by_cases hlt:i<xs.length
 ·refine .inr ⟨⟨xs,xs[i],q,by simp[hlt]⟩,fun x H' y=>?_⟩
  obtain⟨e,y⟩:=y
  subst e
  exact hs i x _ (y xs q) p
 ·have e:i=xs.length:=by omega
  subst e
  exact .inl ⟨⟨xs,q,le_refl _⟩,hd H p⟩
end Ow
namespace Ow
open PySem PySem.Spec PyProof.Rows L2
theorem kit_of {K:Frag}{C D:Addr}(h1:isClsIn K D=true) (h2:typeIn K (.ref D)=some (.type "type")) (h3:mroIn K C (.ref D)=some true):kitOne K (.ref C) (.ref D)=some true:=by
 unfold kitOne
 split
 ·rfl
 ·unfold PySem.W.kitCls
  have e:((PySem.W.clsIn K D).isSome&&typeIn K (.ref D) == some (.type "type"))=true:=by
   rw[h2]
   have h1':(PySem.W.clsIn K D).isSome=true:=h1
   rw[h1',Bool.true_and]
   exact beq_self_eq_true _
  show (if ((PySem.W.clsIn K D).isSome&&typeIn K (.ref D) == some (.type "type"))=true then PySem.W.subIn K (.ref C) (.ref D) else none)=_
  rw[if_pos e]
  exact h3
end Ow
namespace L2
open PySem PySem.Spec PyProof.Rows
section
variable {X:Cx}
def ItzL (K:Frag) (a b:Addr):It :=
 ⟨fun i H=>∃ xs ys x y,SqL K H a xs/\SqL K H b ys/\xs[i]?=some x/\ys[i]?=some y,
  fun i H v H'=>∀ xs ys x y,SqL K H a xs->SqL K H b ys->xs[i]?=some x->ys[i]?=some y->∃ T,v=.ref T/\H T=none/\H'=upd H T (.tup [x,y]),
  fun i H=>∃ xs ys,SqL K H a xs/\SqL K H b ys/\xs.length<=i⟩
theorem qH {P:Program}{w:World}{K:Frag}{elts:List Expr}{x1}{tp:Pos}{z TI TO i1 i2 a b:Addr}(D:ZipApart z TI TO i1 i2 a b) :
  Turn P w K (.Tuple elts x1 tp) (ItzL K a b) [z,TO,i1,i2,TI] z (fun i h=>IsZip h z TI TO .none/\IsPair h TI (.ref i1) (.ref i2)/\(∃ u v,IsPair h TO u v)/\h.IsListIter i1 a i/\h.IsListIter i2 b i) where
 mem:=by simp
 obj:=fun i h st c hc=>by
  obtain⟨q1,q2,⟨u,v,q3⟩,⟨o1,e1,_,d1⟩,⟨o2,e2,_,d2⟩⟩:=st
  simp only[mem_cons,not_mem_nil,or_false] at hc
  rcases hc with rfl | rfl | rfl | rfl | rfl
  ·exact⟨_,q1,fun v z=>by cases z⟩
  ·exact⟨_,q3,fun v z=>by cases z⟩
  ·exact⟨_,e1,fun v z=>by rw[d1] at z; cases z⟩
  ·exact⟨_,e2,fun v z=>by rw[d2] at z; cases z⟩
  ·exact⟨_,q2,fun v z=>by cases z⟩
 keep:=fun i h h' st k=>by
  obtain⟨q1,q2,⟨u,v,q3⟩,q4,q5⟩:=st
  exact⟨k z (by simp) _ q1,k TI (by simp) _ q2,⟨u,v,k TO (by simp) _ q3⟩,q4.at fun o e=>k i1 (by simp) o e,q5.at fun o e=>k i2 (by simp) o e⟩
 item:=by
  intro X hP hw hK hc i pins s σ H E I hf st hg
  subst hP hw hK
  obtain⟨xs,ys,x,y,ha,hb,hx,hy⟩:=hg
  obtain⟨q1,q2,⟨u,v,q3⟩,q4,q5⟩:=st
  obtain⟨its,rv,p,_⟩:=I.list ha
  obtain⟨jts,rw',p',_⟩:=I.list hb
  obtain⟨ux,hux,rx⟩:=rv.get hx
  obtain⟨uy,huy,ry⟩:=rw'.get hy
  refine wpAny_pyNext_zip_item D q1 q2 q3 q4 q5 (show s.heap.IsList a its.toArray from p.isList) (show s.heap.IsList b jts.toArray from p'.isList) (x:=ux) (y:=uy) (by simpa using hux) (by simpa using huy) fun h' z1 o1 v1 v2 pr sz all=>?_
  refine⟨_,rfl,wpAny_letOwnedTupleGo_zip z1 fun h'' z2 sb=>?_⟩
  have nz:∀ c o,c≠z->h'.get? c=some o->h''.get? c=some o:=fun c o n e=>sb.extBut c o n e
  have zl:z<s.heap.objs.size:=Heap.lt_size q1
  have hT:H s.heap.objs.size=none:=I.hok.fresh (le_refl _)
  have prT:IsPair h'' s.heap.objs.size ux uy:=nz _ _ (ne_of_gt zl) pr
  have kept:∀ c o,c∉[z,TO,i1,i2]->s.heap.get? c=some o->h''.get? c=some o:=fun c o n e=>by
   simp only[mem_cons,not_mem_nil,or_false,not_or] at n
   exact nz c o n.1 (all c o n.1 n.2.1 n.2.2.1 n.2.2.2 e)
  have sub:∀ c∈[z,TO,i1,i2],c∈[z,TO,i1,i2,TI]:=fun c h=>by
   simp only[mem_cons,not_mem_nil,or_false] at h ⊢
   rcases h with h | h | h | h <;> simp[h]
  have trk:∀ c u,H c=some u->c∉[z,TO,i1,i2]:=fun c u e n=>by
   have:=(hf c (sub c n)).1
   rw[e] at this; cases this
  refine⟨.ref s.heap.objs.size,upd H s.heap.objs.size (.tup [x,y]),?_,rfl,fun xs' ys' x' y' ha' hb' hx' hy'=>?_,⟨z2,nz _ _ D.TIz (all _ _ D.TIz D.TITO D.TIi1 D.TIi2 q2),⟨_,_,nz _ _ D.TOz o1⟩,v1.at fun o e=>nz _ o D.i1z e,v2.at fun o e=>nz _ o D.i2z e⟩,fun c hc=>?_⟩
  ·refine Inv.step (s:=s) (h':=h'') (g':=s.gens) (d':=s.drawn) (t':=s.toks) (ch:=[z,TO,i1,i2]) I (fun c n=>let q:=hf c (sub c n); ⟨q.2.2.2.1,q.2.1,q.2.2.2.2.1,q.2.2.2.2.2⟩) (fun c o _ _ n e _=>kept c o n e) (fun c o _ _ n e _=>⟨o.slots,kept c o n e⟩)
    (fun c o _ e n=>by rw[af (ne_of_lt (Heap.lt_size e))]; exact n) (fun c o n e=>⟨o,kept c o n e⟩) (fun c zs e=>by rw[af (az e hT)]; exact e) (fun c o u e=>by rw[af (az e hT)]; exact e) (fun c ps e=>⟨#[],by rw[af (az e hT),e]; simp⟩) (fun m hm=>?_) (fun c u e=>?_) I.bare
   ·obtain⟨o,es,ep,ho,r⟩:=hm
    refine⟨o,es,ep,kept _ o (fun n=>?_) ho,r⟩
    exact(hf _ (sub _ n)).2.1 rfl
   ·by_cases q:c=s.heap.objs.size
    ·subst q
     rw[ac] at e; cases e
     exact⟨by show 2<=sizeLine; decide,[ux,uy],.cons rx (.cons ry .nil),⟨_,prT,rfl,_,rfl⟩⟩
    ·rw[af q] at e
     refine(I.hok c u e).stay (fun c' v hc' e'=>kept c' v ?_ e') (fun c' e'=>by rw[af (az e' hT)]; exact e') fun c' zs e'=>by rw[af (az e' hT)]; exact e'
     rcases hc' with z' | z'
     ·rw[z']; exact trk c u e
     ·exact trk c' _ z'
  ·rw[I.list_inj ha' ha] at hx'
   rw[I.list_inj hb' hb] at hy'
   rw[hx] at hx'; rw[hy] at hy'
   cases hx'; cases hy'
   exact⟨_,rfl,hT,rfl⟩
  ·have q:=hf c hc
   have hl:c≠s.heap.objs.size:=by
    simp only[mem_cons,not_mem_nil,or_false] at hc
    obtain⟨_,e4,_⟩:=q4
    obtain⟨_,e5,_⟩:=q5
    rcases hc with rfl | rfl | rfl | rfl | rfl
    ·exact ne_of_lt zl
    ·exact ne_of_lt (Heap.lt_size q3)
    ·exact ne_of_lt (Heap.lt_size e4)
    ·exact ne_of_lt (Heap.lt_size e5)
    ·exact ne_of_lt (Heap.lt_size q2)
   rw[af hl]
   exact q.1
 done:=by
  intro X hP hw hK hc i pins s σ H E I hf st hg
  subst hP hw hK
  obtain⟨xs,ys,ha,hb,hx⟩:=hg
  obtain⟨q1,q2,⟨u,v,q3⟩,q4,q5⟩:=st
  obtain⟨its,rv,p,_⟩:=I.list ha
  obtain⟨jts,rw',p',_⟩:=I.list hb
  have hl:=rv.length
  have sub:∀ c∈[z,TO,i1,i2],c∈[z,TO,i1,i2,TI]:=fun c h=>by
   simp only[mem_cons,not_mem_nil,or_false] at h ⊢
   rcases h with h | h | h | h <;> simp[h]
  refine wpAny_pyNext_zip_end (I.ok.hd hc) D q1 q2 q3 q4 q5 (show s.heap.IsList a its.toArray from p.isList) (show s.heap.IsList b jts.toArray from p'.isList) (.inl (by simp; omega)) fun h' all=>⟨rfl,?_⟩
  have kept:∀ c o,c∉[z,TO,i1,i2]->s.heap.get? c=some o->h'.get? c=some o:=fun c o n e=>by
   simp only[mem_cons,not_mem_nil,or_false,not_or] at n
   exact all c o n.1 n.2.1 n.2.2.1 n.2.2.2 e
  have trk:∀ c u,H c=some u->c∉[z,TO,i1,i2]:=fun c u e n=>by
   have:=(hf c (sub c n)).1
   rw[e] at this; cases this
  refine Inv.step (s:=s) (h':=h') (g':=s.gens) (d':=s.drawn) (t':=s.toks) (ch:=[z,TO,i1,i2]) I (fun c n=>let q:=hf c (sub c n); ⟨q.2.2.2.1,q.2.1,q.2.2.2.2.1,q.2.2.2.2.2⟩) (fun c o _ _ n e _=>kept c o n e) (fun c o _ _ n e _=>⟨o.slots,kept c o n e⟩)
    (fun c o _ e n=>n) (fun c o n e=>⟨o,kept c o n e⟩) (fun c zs e=>e) (fun c o u e=>e) (fun c ps e=>⟨#[],by rw[e]; simp⟩) (fun m hm=>?_) (fun c u e=>?_) I.bare
  ·obtain⟨o,es,ep,ho,r⟩:=hm
   exact⟨o,es,ep,kept _ o (fun n=>(hf _ (sub _ n)).2.1 rfl) ho,r⟩
  ·refine(I.hok c u e).stay (fun c' v hc' e'=>kept c' v ?_ e') (fun c' e'=>e') fun c' zs e'=>e'
   rcases hc' with z' | z'
   ·rw[z']; exact trk c u e
   ·exact trk c' _ z'
 self:=fun _ _ _ _ _ st h=>wpAny_pyIter_zip st.1 h
def iZipL (K:Frag) (ta:TA):TI:=fun σ H R=>ta σ H fun vs H1=>∃ a b xs ys,vs=[.ref a,.ref b]/\SqL K H1 a xs/\SqL K H1 b ys/\R (ItzL K a b) H1
theorem pi_zipL {e1 e2:Expr}{ta:TA}{p pos:Pos}{elts:List Expr}{x1}{tp:Pos}(hg:Gl X "zip") (hm:X.mg "zip"=none) (ha:PA X [e1,e2] ta) (hs:starEach [e1,e2] X.env=(false,eval e1 X.env)::starEach [e2] X.env:=by rfl) (hpl:(backTo pos (starEach [e2] X.env)).any (·.1)=false:=by rfl) :
  PI X (.Tuple elts x1 tp) (.Call (.Name "zip" p) [e1,e2] [] pos) (iZipL X.K ta):=by
 intro pins s σ H R I h
 refine Call_ (gQ I hg hm PyProof.Rows.boot_zip (PyProof.Rows.callWith_type1 (thn (ha pos pins s σ H _ I h) fun us s1 ⟨vs,H1,I1,r1,q1⟩=>?_) hs hpl))
 obtain⟨a,b,xs,ys,e,hqa,hqb,q⟩:=q1
 subst e
 cases r1 with
 | cons r rr =>
  cases rr with
  | cons r' rr' =>
   cases rr'
   cases r
   cases r'
   obtain⟨its,rv,pl,_⟩:=I1.list hqa
   obtain⟨jts,rw',pl',_⟩:=I1.list hqb
   refine call_zip_2 (show s1.heap.IsList a its.toArray from pl.isList) (show s1.heap.IsList b jts.toArray from pl'.isList) fun h' z1 z2 z3 z4 z5 _ z6=>?_
   have I2:Inv X pins σ H1 { s1 with heap:=h' }:=I1.kept (t':=s1.toks) z6
   have la:a<s1.heap.objs.size:=by obtain⟨o,e,_⟩:=pl.isList; exact Heap.lt_size e
   have lb:b<s1.heap.objs.size:=by obtain⟨o,e,_⟩:=pl'.isList; exact Heap.lt_size e
   refine wpAny_pyIter_zip z1 ?_
   refine⟨s1.heap.objs.size+4,[s1.heap.objs.size+4,s1.heap.objs.size+3,s1.heap.objs.size,s1.heap.objs.size+1,s1.heap.objs.size+2],_,_,H1,rfl,I2,qH (zipApart_new la lb),⟨z1,z2,⟨_,_,z3⟩,z4,z5⟩,fun c hc=>?_,q⟩
   have le:s1.heap.objs.size<=c:=by
    simp only[mem_cons,not_mem_nil,or_false] at hc
    rcases hc with h | h | h | h | h <;> rw[h]
    ·exact le_add_right _ _
    ·exact le_add_right _ _
    ·exact le_refl _
    ·exact le_add_right _ _
    ·exact le_add_right _ _
   exact I1.fpOk le (I1.hok.fresh le)
theorem for_zipL {K:Frag}{a b:Addr}{xs ys:List V}{g:TG}{tb:TS}{D:Ends}{σ:L2.St}{H:Hp}(Pv:Nat->L2.St->Hp->Prop) (h0:Pv 0 σ H) (hl:∀ i σ H,Pv i σ H->SqL K H a xs/\SqL K H b ys) (hle:xs.length=ys.length)
  (hs:∀ i x y σ H,xs[i]?=some x->ys[i]?=some y->Pv i σ H->∀ T,H T=none->g (.ref T) σ (upd H T (.tup [x,y])) fun σ2 H2=>tb { D with nx:=Pv (i+1),ct:=Pv (i+1),bk:=D.nx } σ2 H2) (hd:∀ σ H,Pv xs.length σ H->D.nx σ H) :
  ∃ W:Nat->Nat->L2.St->Hp->Prop,(∃ m,W 0 m σ H)/\∀ i m σ H,W i m σ H ->
   ((ItzL K a b).stop i H/\D.nx σ H)\/((ItzL K a b).go i H/\∃ N:L2.St->Hp->Prop,(∀ σ' H',N σ' H'->∃ m',m'<m/\W (i+1) m' σ' H')/\∀ x H',(ItzL K a b).yld i H x H'->g x σ H' fun σ2 H2=>tb { D with nx:=N,ct:=N,bk:=D.nx } σ2 H2):=by
 refine⟨fun i m σ H=>m=xs.length-i/\i<=xs.length/\Pv i σ H,⟨xs.length,by simp,zero_le _,h0⟩,?_⟩
 rintro i m σ H ⟨rfl,hi,p⟩
 obtain⟨qa,qb⟩:=hl i σ H p
 by_cases hlt:i<xs.length
 ·have ex:xs[i]?=some xs[i]:=List.getElem?_eq_getElem hlt
  have ey:ys[i]?=some (ys[i]'(by omega)):=List.getElem?_eq_getElem (by omega)
  refine .inr ⟨⟨xs,ys,_,_,qa,qb,ex,ey⟩,Pv (i+1),fun σ' H' p'=>⟨xs.length-(i+1),by omega,rfl,hlt,p'⟩,fun x H' y=>?_⟩
  obtain⟨T,rfl,hT,rfl⟩:=y xs ys _ _ qa qb ex ey
  exact hs i _ _ σ H ex ey p T hT
 ·have e:i=xs.length:=by omega
  subst e
  exact .inl ⟨⟨xs,ys,qa,qb,le_refl _⟩,hd σ H p⟩
end
end L2
namespace Ow
open PySem PySem.Spec PyProof.Rows L2
theorem iG {lo:Int}{n:Nat}{D:Addr}{te':TE}{tl:L2.St}{G:Hp->Prop}{H1:Hp}(Pv:Nat->Hp->Prop) (h0:Pv 0 (upd H1 D (.lst [])))
  (hs:∀ (i:Nat) H,i<n->Pv i H->te' (some (.int (lo+i))::tl) H fun y H2=>∃ ys,H2 D=some (.lst ys)/\ys.length<sizeLine/\∃ m',m'<n-i/\(m'=n-(i+1)/\i+1<=n/\Pv (i+1) (upd H2 D (.lst (ys++[y])))))
  (hd:∀ H,Pv n H->G H) :
  ∃ W:Nat->Nat->Hp->Prop,(∃ m,W 0 m (upd H1 D (.lst [])))/\∀ i m H,W i m H ->
   ((Itr lo n).stop i H/\G H)\/((Itr lo n).go i H/\∀ x H',(Itr lo n).yld i H x H'->te' (some x::tl) H' fun y H2=>∃ ys,H2 D=some (.lst ys)/\ys.length<sizeLine/\∃ m',m'<m/\W (i+1) m' (upd H2 D (.lst (ys++[y])))):=by
 refine⟨fun i m H=>m=n-i/\i<=n/\Pv i H,⟨n,by simp,zero_le _,h0⟩,?_⟩
 rintro i m H ⟨rfl,hi,p⟩
 by_cases hlt:i<n
 ·refine .inr ⟨hlt,fun x H' y=>?_⟩
  obtain⟨e,y⟩:=y
  subst e y
  exact hs i _ hlt p
 ·have e:i=n:=by omega
  subst e
  exact .inl ⟨le_refl _,hd H p⟩
end Ow
namespace Ow
open PySem PySem.Spec PyProof.Rows L2
section
variable {X:Cx}
theorem jq {K:Frag}{x:Str}{H:Hp}:tyV K "str" (.str x) H:=rfl
theorem qi {ys:List Str}{us:List Value}(h:Vals (ys.map V.str) us):StrsAre us ys:=by
 induction ys generalizing us with
 | nil=>cases h; exact .nil
 | cons y ys ih =>
  cases h with
  | cons r rr =>
   obtain⟨t,rfl⟩:=r
   exact .cons _ _ (ih rr)
def rJoin (K:Frag):V->List V->Hp->VK->Prop:=fun x xs H Q=>∃ sep p ys,x=.str sep/\xs=[.ref p]/\SqL K H p (ys.map V.str)/\(ys.map (·.length)).sum+ys.length*sep.length<=16777216/\Q (.str (Txt.join sep ys)) H
theorem sD:MtM X "str.join" (rJoin X.K):=by
 intro pins s σ H x vs v us Q I rx rv h
 obtain⟨sep,p,ys,rfl,rfl,hp,hok,q⟩:=h
 obtain⟨t,rfl⟩:=rx
 obtain⟨u,rfl,ru⟩:=rv.one
 cases (show u=Value.ref p from ru)
 obtain⟨its,r,pl,_⟩:=I.list hp
 exact join_list pl.isList (qi r) hok fun t' k=>⟨.str _,H,I.kept (t':=k) fun b o e=>e,⟨t',rfl⟩,q⟩
end
def Its (z:Str):It where
 go:=fun i _=>i<z.cps.size
 yld:=fun i H x H'=>H'=H/\∃ c,z.cps[i]?=some c/\x=.str ⟨#[c]⟩
 stop:=fun i _=>z.cps.size<=i
theorem pB {P:Program}{w:World}{K:Frag}{tg:Expr}(it:Addr) (z:Str) (t:Tok):Turn P w K tg (Its z) [it] it (fun i h=>h.IsStrIter it "str_ascii_iterator" z t i) where
 mem:=by simp
 obj:=fun i h st b hb=>by
  have e:b=it:=by simpa using hb
  subst e
  obtain⟨o,e,c,d⟩:=st
  exact⟨o,e,fun v z=>by rw[d] at z; cases z⟩
 keep:=fun i h h' st k=>let ⟨o,ho,r⟩:=st; ⟨o,k it (by simp) o ho,r⟩
 item:=by
  intro X hP hw hK hc i pins s σ H E I hf st hg
  subst hP hw hK
  obtain⟨f0,f1,f2,f3,f4,f5⟩:=hf it (by simp)
  have hi:i<z.cps.size:=hg
  refine wpAny_pyNext_ascii_item st (c:=z.cps[i]) (by simp[hi]) fun h' st' sb=>?_
  have I1:Inv X pins σ H { s with heap:=h',toks:=s.toks+1 }:=I.turned (t':=s.toks+1) (fun b o hb e=>(sb.2 b hb).trans e) f0 f1 f3 f4 f5
  obtain⟨o,e,c,d⟩:=id st'
  exact⟨_,rfl,go_of (s:={ s with heap:=h',toks:=s.toks+1 }) e c d (by decide) ⟨.str ⟨#[z.cps[i]]⟩,H,I1,⟨_,rfl⟩,⟨rfl,_,by simp[hi],rfl⟩,st',fun b hb=>(hf b hb).1⟩⟩
 done:=by
  intro X hP hw hK hc i pins s σ H E I hf st hg
  subst hP hw hK
  obtain⟨f0,f1,f2,f3,f4,f5⟩:=hf it (by simp)
  have hi:z.cps.size<=i:=hg
  exact wpAny_pyNext_ascii_end (I.ok.hd hc) st (by simp[hi]) fun h' eb=>⟨rfl,I.turned (t':=s.toks) (fun b o hb e=>eb b o hb e) f0 f1 f3 f4 f5⟩
 self:=fun _ _ _ _ _ st h=>wpAny_pyIter_striter_ascii st h
theorem sM {P:Program}{w:World}{K:Frag}{tg:Expr}(it:Addr) (z:Str) (t:Tok):Turn P w K tg (Its z) [it] it (fun i h=>h.IsStrIter it "str_iterator" z t i) where
 mem:=by simp
 obj:=fun i h st b hb=>by
  have e:b=it:=by simpa using hb
  subst e
  obtain⟨o,e,c,d⟩:=st
  exact⟨o,e,fun v z=>by rw[d] at z; cases z⟩
 keep:=fun i h h' st k=>let ⟨o,ho,r⟩:=st; ⟨o,k it (by simp) o ho,r⟩
 item:=by
  intro X hP hw hK hc i pins s σ H E I hf st hg
  subst hP hw hK
  obtain⟨f0,f1,f2,f3,f4,f5⟩:=hf it (by simp)
  have hi:i<z.cps.size:=hg
  refine wpAny_pyNext_wide_item st (c:=z.cps[i]) (by simp[hi]) fun h' st' sb=>?_
  have I1:Inv X pins σ H { s with heap:=h',toks:=s.toks+1 }:=I.turned (t':=s.toks+1) (fun b o hb e=>(sb.2 b hb).trans e) f0 f1 f3 f4 f5
  obtain⟨o,e,c,d⟩:=id st'
  exact⟨_,rfl,go_of (s:={ s with heap:=h',toks:=s.toks+1 }) e c d (by decide) ⟨.str ⟨#[z.cps[i]]⟩,H,I1,⟨_,rfl⟩,⟨rfl,_,by simp[hi],rfl⟩,st',fun b hb=>(hf b hb).1⟩⟩
 done:=by
  intro X hP hw hK hc i pins s σ H E I hf st hg
  subst hP hw hK
  obtain⟨f0,f1,f2,f3,f4,f5⟩:=hf it (by simp)
  have hi:z.cps.size<=i:=hg
  exact wpAny_pyNext_wide_end (I.ok.hd hc) st (by simp[hi]) fun h' eb=>⟨rfl,I.turned (t':=s.toks) (fun b o hb e=>eb b o hb e) f0 f1 f3 f4 f5⟩
 self:=fun _ _ _ _ _ st h=>wpAny_pyIter_striter_wide st h
def iStr (tl:TE):TI:=fun σ H R=>tl σ H fun x H1=>∃ z,x=.str z/\R (Its z) H1
theorem pi_str {X:Cx}{tg l:Expr}{tl:TE}(hl:PE X l tl):PI X tg l (iStr tl):=by
 intro pins s σ H R I h
 refine thn (hl pins s σ H _ I h) fun v s1 ⟨x,H1,I1,r1,q1⟩=>?_
 obtain⟨z,e,q⟩:=q1
 subst e
 obtain⟨t,rfl⟩:=r1
 have ff:∀ b∈[s1.heap.objs.size],FpOk X pins H1 b:=fun b hb=>by
  have e:b=s1.heap.objs.size:=by simpa using hb
  subst e
  exact I1.fpOk (le_refl _) (I1.hok.fresh (le_refl _))
 cases ha:z.cps.all (·<128) with
 | true=>exact wpAny_pyIter_ascii ha ⟨s1.heap.objs.size,[s1.heap.objs.size],_,_,H1,rfl,I1.kept (t':=s1.toks) fun b o e=>Heap.get?_push_of_some _ e,pB _ z t,⟨_,Heap.get?_push_size _ rfl,rfl,rfl⟩,ff,q⟩
 | false=>exact wpAny_pyIter_wide ha ⟨s1.heap.objs.size,[s1.heap.objs.size],_,_,H1,rfl,I1.kept (t':=s1.toks) fun b o e=>Heap.get?_push_of_some _ e,sM _ z t,⟨_,Heap.get?_push_size _ rfl,rfl,rfl⟩,ff,q⟩
theorem for_str {z:Str}{g:TG}{tb:TS}{D:Ends}{σ:L2.St}{H:Hp}(Pv:Nat->L2.St->Hp->Prop) (h0:Pv 0 σ H)
  (hs:∀ i c σ H,z.cps[i]?=some c->Pv i σ H->g (.str ⟨#[c]⟩) σ H fun σ2 H2=>tb { D with nx:=Pv (i+1),ct:=Pv (i+1),bk:=D.nx } σ2 H2) (hd:∀ σ H,Pv z.cps.size σ H->D.nx σ H) :
  ∃ W:Nat->Nat->L2.St->Hp->Prop,(∃ m,W 0 m σ H)/\∀ i m σ H,W i m σ H ->
   ((Its z).stop i H/\D.nx σ H)\/((Its z).go i H/\∃ N:L2.St->Hp->Prop,(∀ σ' H',N σ' H'->∃ m',m'<m/\W (i+1) m' σ' H')/\∀ x H',(Its z).yld i H x H'->g x σ H' fun σ2 H2=>tb { D with nx:=N,ct:=N,bk:=D.nx } σ2 H2):=by
 refine⟨fun i m σ H=>m=z.cps.size-i/\i<=z.cps.size/\Pv i σ H,⟨z.cps.size,by simp,zero_le _,h0⟩,?_⟩
 rintro i m σ H ⟨rfl,hi,p⟩
 by_cases hlt:i<z.cps.size
 ·refine .inr ⟨hlt,Pv (i+1),fun σ' H' p'=>⟨z.cps.size-(i+1),by omega,rfl,hlt,p'⟩,fun x H' y=>?_⟩
  obtain⟨e,c,hc,ex⟩:=y
  subst e ex
  exact hs i c σ _ hc p
 ·have e:i=z.cps.size:=by omega
  subst e
  exact .inl ⟨le_refl _,hd σ H p⟩
def pZ (K:Frag) (d:Nat) (neg:Bool):R2:=fun x y H Q=>∃ p q xs ys e,x=.ref p/\y=.ref q/\SqT K H p xs/\SqT K H q ys/\(∀ j,j<xs.length->j<ys.length->EqD K H d (xs.getD j .non) (ys.getD j .non) (e j))/\Q (.bl (if neg=true then !((List.range (min xs.length ys.length)).all e&&xs.length == ys.length) else ((List.range (min xs.length ys.length)).all e&&xs.length == ys.length))) H
theorem op_eqTD {X:Cx}{d:Nat}(hu:X.A.units+d+1<cLine):OpR X (compareOp .Eq) (pZ X.K d false):=by
 intro pins s σ H x y v u Q I rx ry h
 obtain⟨p,q,xs,ys,e,rfl,rfl,hp,hq,he,k⟩:=h
 cases rx
 cases ry
 obtain⟨its,r,pl,_⟩:=I.tuple hp
 obtain⟨its2,r2,pl2,_⟩:=I.tuple hq
 have hl:=r.length
 have hl2:=r2.length
 refine SeqAt.eq_tupleAt (e:=e) pl pl2 (by omega) (fun j h1 h2=>?_) ⟨.bl _,H,I,rfl,?_⟩
 ·have h1':j<its.length:=by simpa using h1
  have h2':j<its2.length:=by simpa using h2
  have z:=(he j (by omega) (by omega)).at I (df r h1') (df r2 h2') (A:=X.A.in1) (by show X.A.units+1+d<_; omega)
  simpa using z
 ·simp only[size_toArray,<- hl,<- hl2]
  exact k
end Ow
namespace Ow
open PySem PySem.Spec PyProof.Rows L2
section
variable {prog:Program}{w:World}{K:Type} [DecidableEq K] {knd:KeyKind prog w K}{A:Around}{E:Value->Shared->Prop}{s:Shared}
end
section
variable {prog:Program}{w:World}{A:Around}{E:Value->Shared->Prop}{s:Shared}
end
section
variable {X:Cx}
end
def jW:Expr->Bool
 | .Starred _ _=>false
 | _=>true
theorem kX {e:Expr}(h:jW e=true) (rest:List Expr) (env:Env):starEach (e::rest) env=(false,eval e env)::starEach rest env:=by
 cases e <;> first | rfl | cases h
theorem aO {X:Cx}{e:Expr}{es:List Expr}{te:TE}{t:TA}(ha:PE X e te) (hr:PA X es t) (hn:jW e=true:=by rfl):PA X (e::es) (tCons te t):=aa ha hr (kX hn es X.env)
structure Sl (p:Prop):Prop where
 out:p
section
variable {X:Cx}
theorem cL {i:Nat}{x:Str}{e:Expr}{te:TE}{pos pos':Pos}(hN:X.N.Nodup) (hi:X.N[i]?=some x) (hx:Loc X.env.scope x) (he:Sl (PE X e te)) (hs:swapsWith e (some (.Name x pos')) pos.line X.env=pure false:=by rfl) (hf:X.fn x=true\/X.env.scope.names.lookup x=some .local:=by first | exact .inl rfl | exact .inr rfl | assumption) :
  Sl (PS X (.Assign [.Name x pos'] e pos) (tAsg te (kS i))):=⟨aF hN hi hx he.out hs hf⟩
theorem bu {es:List Expr}{t:TA}{pos:Pos}(h:Sl (PA X es t)):Sl (PE X (.List es pos) (tLst t)):=⟨aS h.out⟩
theorem aw {e:Expr}{es:List Expr}{te:TE}{t:TA}(ha:PE X e te) (hr:Sl (PA X es t)) (hn:jW e=true:=by rfl):Sl (PA X (e::es) (tCons te t)):=⟨aO ha hr.out hn⟩
theorem aL:Sl (PA X [] tNil):=⟨ae⟩
end
end Ow
namespace L2
open PySem PySem.Spec PyProof.Rows
section
variable {κ:Type} [DecidableEq κ]
def eV (kvs:List (κ×V)) (k:κ):Option V:=(kvs.find? fun kv=>decide (kv.1=k)).map (·.2)
def ig (kvs:List (κ×V)) (k:κ) (v:V):List (κ×V) :=
 if (kvs.any fun kv=>decide (kv.1=k))=true then kvs.map (fun kv=>if kv.1=k then (kv.1,v) else kv) else kvs++[(k,v)]
theorem bT {p:κ×V}{r:List (κ×V)}{k:κ}(e:p.1=k):eV (p::r) k=some p.2:=by simp[eV,List.find?_cons,e]
theorem bX {p:κ×V}{r:List (κ×V)}{k:κ}(e:¬ p.1=k):eV (p::r) k=eV r k:=by simp[eV,List.find?_cons,e]
theorem iK (k:κ):∀ kvs:List (κ×V),(kvs.any fun kv=>decide (kv.1=k))=(eV kvs k).isSome
 | []=>rfl
 | p::r=>by
  rw[any_cons]
  by_cases e:p.1=k
  ·simp only[bT e,decide_eq_true e,Bool.true_or,Option.isSome_some]
  ·rw[bX e,decide_eq_false e,Bool.false_or]; exact iK k r
theorem oH (k j:κ) (y:V):∀ kvs:List (κ×V),eV (kvs.map fun kv=>if kv.1=k then (kv.1,y) else kv) j=(eV kvs j).map fun x=>if j=k then y else x
 | []=>rfl
 | p::r=>by
  have ih:=oH k j y r
  rw[map_cons]
  by_cases h:p.1=k
  ·rw[if_pos h]
   by_cases e:p.1=j
   ·rw[bT (p:=(p.1,y)) e,bT e,Option.map_some,if_pos (e.symm.trans h)]
   ·rw[bX (p:=(p.1,y)) e,bX e,ih]
  ·rw[if_neg h]
   by_cases e:p.1=j
   ·rw[bT (p:=p) e,bT e,Option.map_some,if_neg (fun z=>h (e.trans z))]
   ·rw[bX (p:=p) e,bX e,ih]
theorem lX (k j:κ) (y:V):∀ kvs:List (κ×V),eV kvs k=none->eV (kvs++[(k,y)]) j=if j=k then some y else eV kvs j
 | [],_=>by
  by_cases e:k=j
  ·rw[if_pos e.symm]; exact bT (p:=(k,y)) e
  ·rw[if_neg (fun z=>e z.symm)]; exact bX (p:=(k,y)) e
 | p::r,hn=>by
  rw[List.cons_append]
  have hk:¬ p.1=k:=fun z=>by rw[bT z] at hn; cases hn
  rw[bX hk] at hn
  have ih:=lX k j y r hn
  by_cases e:p.1=j
  ·rw[bT e,bT e,if_neg (fun z=>hk (e.trans z))]
  ·rw[bX e,bX e,ih]
theorem kB (kvs:List (κ×V)) (k j:κ) (y:V):eV (ig kvs k y) j=if j=k then some y else eV kvs j:=by
 unfold ig
 by_cases a:(kvs.any fun kv=>decide (kv.1=k))=true
 ·rw[if_pos a,oH]
  rw[iK] at a
  by_cases e:j=k
  ·obtain⟨x,hx⟩:=Option.isSome_iff_exists.mp a
   rw[if_pos e,e,hx,Option.map_some,if_pos rfl]
  ·rw[if_neg e]
   cases eV kvs j with
   | none=>rfl
   | some x=>rw[Option.map_some,if_neg e]
 ·rw[if_neg a]
  refine lX k j y kvs ?_
  rw[iK] at a
  cases q:eV kvs k with
  | none=>rfl
  | some x=>rw[q] at a; exact(a rfl).elim
theorem fh (kvs:List (κ×V)) (k:κ) (v:V):(ig kvs k v).length<=kvs.length+1:=by
 unfold ig
 split
 ·rw[length_map]; omega
 ·rw[length_append,length_cons,length_nil]; omega
theorem RelO.isSome_eq {o:Option V}{u:Option Value}(r:RelO o u):o.isSome=u.isSome:=by
 cases o with
 | none=>cases u with
  | none=>rfl
  | some _=>exact(show False from r).elim
 | some _=>cases u with
  | none=>exact(show False from r).elim
  | some _=>rfl
theorem RelO.getD {o:Option V}{u:Option Value}{d:V}{d':Value}(r:RelO o u) (rd:RelV d d'):RelV (o.getD d) (u.getD d'):=by
 cases o with
 | none=>cases u with
  | none=>exact rd
  | some _=>exact(show False from r).elim
 | some _=>cases u with
  | none=>exact(show False from r).elim
  | some _=>exact r
theorem KV.val {kvs:List (κ×V)}{vs:List (κ×Value)}(r:KV kvs vs) (k:κ):RelO (eV kvs k) (valueAt vs k):=by
 unfold KV at r
 induction r with
 | nil=>exact True.intro
 | @cons p q ps qs h t ih =>
  obtain⟨h1,h2⟩:=h
  by_cases e:p.1=k
  ·have e':q.1=k:=h1.symm.trans e
   have b:valueAt (q::qs) k=some q.2:=by simp[valueAt,List.find?_cons,e']
   rw[bT e,b]; exact h2
  ·have e':¬ q.1=k:=fun z=>e (h1.trans z)
   have b:valueAt (q::qs) k=valueAt qs k:=by simp[valueAt,List.find?_cons,e']
   rw[bX e,b]; exact ih
theorem KV.any {kvs:List (κ×V)}{vs:List (κ×Value)}(r:KV kvs vs) (k:κ):(kvs.any fun kv=>decide (kv.1=k))=vs.any fun kv=>decide (kv.1=k):=by
 unfold KV at r
 induction r with
 | nil=>rfl
 | cons h t ih=>rw[any_cons,any_cons,ih,h.1]
theorem KV.repl {kvs:List (κ×V)}{vs:List (κ×Value)}(r:KV kvs vs) (k:κ) {y:V}{u:Value}(ry:RelV y u) :
  KV (kvs.map fun kv=>if kv.1=k then (kv.1,y) else kv) (vs.map fun kv=>if kv.1=k then (kv.1,u) else kv):=by
 unfold KV at r ⊢
 induction r with
 | nil=>exact .nil
 | @cons p q ps qs h t ih =>
  rw[map_cons,map_cons]
  refine .cons ?_ ih
  obtain⟨h1,h2⟩:=h
  by_cases e:p.1=k
  ·rw[if_pos e,if_pos (h1.symm.trans e)]; exact⟨h1,ry⟩
  ·rw[if_neg e,if_neg (fun z=>e (h1.trans z))]; exact⟨h1,h2⟩
theorem KV.put {kvs:List (κ×V)}{vs:List (κ×Value)}(r:KV kvs vs) (k:κ) {y:V}{u:Value}(ry:RelV y u):KV (ig kvs k y) (stored vs k u):=by
 unfold ig stored
 rw[r.any k]
 by_cases e:(vs.any fun kv=>decide (kv.1=k))=true
 ·rw[if_pos e,if_pos e]; exact r.repl k ry
 ·rw[if_neg e,if_neg e]; exact Paired.snoc r ⟨rfl,ry⟩
theorem KV.length {kvs:List (κ×V)}{vs:List (κ×Value)}(r:KV kvs vs):kvs.length=vs.length:=Paired.length r
end
theorem mC {P:Program}{w:World}{k:Key}{u:Value}(r:RelV (kV k) u):(bb P w).is k u=true:=by
 cases k with
 | inl i=>obtain⟨t,e⟩:=(show ∃ t,u=Value.int i t from r); subst e; exact nP P w i t
 | inr x=>obtain⟨t,e⟩:=(show ∃ t,u=Value.str x t from r); subst e; exact nX P w x t
theorem kQ {P:Program}{w:World}:∀ {ks:List Key}{us:List Value},Vals (ks.map kV) us->ItemsAre (bb P w) ks us
 | [],_,r=>by rw[List.map_nil] at r; cases r; exact .nil
 | k::ks,_,r=>by
  rw[map_cons] at r
  cases r with
  | cons h t=>exact .cons (mC h) (kQ t)
abbrev KT (H:Hp):List (List Key×V)->List (List Key×Addr×Value)->Prop:=Paired fun p q=>p.1=q.1/\H q.2.1=some (.tup (p.1.map kV))/\RelV p.2 q.2.2
theorem KT.val {H:Hp}{kvs:List (List Key×V)}{xs:List (List Key×Addr×Value)}(r:KT H kvs xs) (k:List Key):RelO (eV kvs k) ((atKey xs k).map (·.2)):=by
 induction r with
 | nil=>exact True.intro
 | @cons p q ps qs h t ih =>
  obtain⟨h1,_,h2⟩:=h
  by_cases e:p.1=k
  ·have e':q.1=k:=h1.symm.trans e
   have b:atKey (q::qs) k=some q.2:=by simp[atKey,List.find?_cons,e']
   rw[bT e,b]; exact h2
  ·have e':¬ q.1=k:=fun z=>e (h1.trans z)
   have b:atKey (q::qs) k=atKey qs k:=by simp[atKey,List.find?_cons,e']
   rw[bX e,b]; exact ih
theorem KT.repl {H:Hp}{kvs:List (List Key×V)}{xs:List (List Key×Addr×Value)}(r:KT H kvs xs) (k:List Key) {y:V}{u:Value}(ry:RelV y u) :
  KT H (kvs.map fun kv=>if kv.1=k then (kv.1,y) else kv) (xs.map (putAt k u)):=by
 induction r with
 | nil=>exact .nil
 | @cons p q ps qs h t ih =>
  rw[map_cons,map_cons]
  refine .cons ?_ ih
  obtain⟨h1,h2,h3⟩:=h
  unfold putAt
  by_cases e:p.1=k
  ·rw[if_pos e,if_pos (h1.symm.trans e)]; exact⟨h1,h2,ry⟩
  ·rw[if_neg e,if_neg (fun z=>e (h1.trans z))]; exact⟨h1,h2,h3⟩
theorem KT.put {H:Hp}{kvs:List (List Key×V)}{xs:List (List Key×Addr×Value)}(r:KT H kvs xs) (k:List Key) {b:Addr}{y:V}{u:Value}(hb:H b=some (.tup (k.map kV))) (ry:RelV y u) :
  KT H (ig kvs k y) (storedH xs k b u):=by
 have e:(kvs.any fun kv=>decide (kv.1=k))=(atKey xs k).isSome:=by
  rw[iK,(r.val k).isSome_eq,Option.isSome_map]
 unfold ig storedH
 rw[e]
 by_cases q:(atKey xs k).isSome=true
 ·rw[if_pos q,if_pos q]; exact r.repl k ry
 ·rw[if_neg q,if_neg q]; exact Paired.snoc r ⟨rfl,hb,ry⟩
theorem KT.keeps {H H':Hp}{kvs:List (List Key×V)}{xs:List (List Key×Addr×Value)}(r:KT H kvs xs) (ht:∀ b ys,H b=some (.tup ys)->H' b=some (.tup ys)):KT H' kvs xs :=
 Paired.mapP r fun _ _ z=>⟨z.1,ht _ _ z.2.1,z.2.2⟩
section
variable {P:Program}{w:World}{H:Hp}{h:Heap}{a:Addr}
theorem rd_of {u:HO}(ok:HOk P w H h) (e:Rd H a u):ObjOk P w H h a u:=e.ok ok
theorem mF {kvs:List (Key×V)}(ok:HOk P w H h) (e:Rd H a (.dK kvs)):kvs.length<=sizeLine/\(a == sysModules)=false/\∃ vs,KV kvs vs/\h.DictOf (bb P w) a vs :=
 show ObjOk P w H h a (.dK kvs) from rd_of ok e
theorem dk_of {kvs:List (Key×V)}(ok:HOk P w H h) (e:H a=some (.dK kvs)):kvs.length<=sizeLine/\(a == sysModules)=false/\∃ vs,KV kvs vs/\h.DictOf (bb P w) a vs:=mF ok (.inl e)
theorem jY {ks:List Key}(ok:HOk P w H h) (e:H a=some (.tup (ks.map kV))):(tupleKind (bb P w)).is h ks a:=by
 obtain⟨_,its,r,o,h1,h2,n,h3⟩:=(show ObjOk P w H h a (.tup (ks.map kV)) from ok a _ e)
 exact⟨o,its.toArray,n,h1,h2,h3,by simpa using kQ r⟩
theorem nh {kvs:List (List Key×V)}(ok:HOk P w H h) (e:Rd H a (.dT kvs)):kvs.length<=sizeLine/\(a == sysModules)=false /\
  ∃ xs,KT H kvs xs/\h.DictOfH (tupleKind (bb P w)) a xs:=by
 obtain⟨z,y,xs,r,o,es,ep,h1,h2,h3,h4,h5⟩:=(show ObjOk P w H h a (.dT kvs) from rd_of ok e)
 refine⟨z,y,xs,r,o,es,ep,h1,h2,h3,h4,fun x hx=>?_,h5⟩
 have all:∀ {l:List (List Key×V)} {m:List (List Key×Addr×Value)},KT H l m->∀ x∈m,(tupleKind (bb P w)).is h x.1 x.2.1:=by
  intro l m q
  induction q with
  | nil=>intro x hx; exact nomatch hx
  | @cons p q ps qs hq t ih =>
   intro x hx
   rcases List.mem_cons.mp hx with e | hx
   ·subst e
    exact jY ok (by rw[<- hq.1]; exact hq.2.1)
   ·exact ih x hx
 exact all r x hx
theorem dt_of {kvs:List (List Key×V)}(ok:HOk P w H h) (e:H a=some (.dT kvs)):kvs.length<=sizeLine/\(a == sysModules)=false /\
  ∃ xs,KT H kvs xs/\h.DictOfH (tupleKind (bb P w)) a xs:=nh ok (.inl e)
end
def DGet (H:Hp) (a:Addr) (y:V) (r:Option V):Prop :=
 (∃ kvs k,Rd H a (.dK kvs)/\y=kV k/\r=eV kvs k)\/∃ kvs k b,Rd H a (.dT kvs)/\y=.ref b/\H b=some (.tup (k.map kV))/\r=eV kvs k
def DPut (H:Hp) (a:Addr) (y v:V) (H':Hp):Prop :=
 (∃ kvs k,H a=some (.dK kvs)/\y=kV k/\kvs.length<sizeLine/\H'=upd H a (.dK (ig kvs k v))) \/
 ∃ kvs k b,H a=some (.dT kvs)/\y=.ref b/\H b=some (.tup (k.map kV))/\kvs.length<sizeLine/\H'=upd H a (.dT (ig kvs k v))
theorem DGet.k {H:Hp}{a:Addr}{kvs:List (Key×V)}{k:Key}(e:H a=some (.dK kvs)):DGet H a (kV k) (eV kvs k):=.inl ⟨kvs,k,.inl e,rfl,rfl⟩
theorem DPut.k {H:Hp}{a:Addr}{kvs:List (Key×V)}{k:Key}{v:V}(e:H a=some (.dK kvs)) (hl:kvs.length<sizeLine):DPut H a (kV k) v (upd H a (.dK (ig kvs k v))):=.inl ⟨kvs,k,e,rfl,hl,rfl⟩
section
variable {X:Cx}{pins:List (Addr×Obj)}{σ:St}{H:Hp}{s:Shared}{a:Addr}{y v:V}{u r:Value}{o:Option V}{A:Around}{E:Value->Shared->Prop}
theorem Inv.big (I:Inv X pins σ H s):sysModules<s.heap.objs.size:=by
 have h:mainGlobals<s.heap.objs.size:=(I.mod.glob.keeps I.bk).lt
 exact lt_trans (by decide) h
theorem rH {Q:Value->Shared->Prop}(hu:A.units+1<cLine) (I:Inv X pins σ H s) (g:DGet H a y (some v)) (ry:RelV y u) (h:∀ w' s',Inv X pins σ H s'->RelV v w'->Q w' s') :
  wpAny (model X.prog X.w) A (getItem (.ref a) u) Q E s:=by
 rcases g with ⟨kvs,k,e,ey,l⟩ | ⟨kvs,k,b,e,ey,eb,l⟩
 ·subst ey
  obtain⟨z,hd,vs,rel,dd⟩:=mF I.hok e
  obtain⟨w',hw,rw'⟩:=RelO.some_of (v:=v) (o:=valueAt vs k) (by rw[l]; exact rel.val k)
  exact wpAny_getItem_of (mC ry) dd.mapOf hw (h w' _ (I.tok _) rw')
 ·subst ey
  cases (show u=Value.ref b from ry)
  obtain⟨z,hd,xs,rel,dd⟩:=nh I.hok e
  obtain⟨w',hw,rw'⟩:=RelO.some_of (v:=v) (o:=(atKey xs k).map (·.2)) (by rw[l]; exact rel.val k)
  obtain⟨p,hp,hp2⟩:=Option.map_eq_some_iff.mp hw
  refine wpAny_getItem_heap (tupleKind_room_in1 hu) (jY I.hok eb) dd hp ?_
  rw[hp2]
  exact h w' _ (I.tok _) rw'
theorem d_in {Q:Value->Shared->Prop}(hu:A.units+1<cLine) (I:Inv X pins σ H s) (g:DGet H a y o) (ry:RelV y u) (h:∀ s',Inv X pins σ H s'->Q (.bool o.isSome) s') :
  wpAny (model X.prog X.w) A (compareOp .In u (.ref a)) Q E s:=by
 rcases g with ⟨kvs,k,e,ey,l⟩ | ⟨kvs,k,b,e,ey,eb,l⟩
 ·subst ey
  obtain⟨z,hd,vs,rel,dd⟩:=mF I.hok e
  refine wpAny_in_of (mC ry) hd dd.mapOf ?_
  rw[<- (rel.val k).isSome_eq,<- l]
  exact h _ (I.tok _)
 ·subst ey
  cases (show u=Value.ref b from ry)
  obtain⟨z,hd,xs,rel,dd⟩:=nh I.hok e
  refine wpAny_in_heap (tupleKind_room_in1 hu) (jY I.hok eb) hd dd ?_
  have q:=(rel.val k).isSome_eq
  rw[Option.isSome_map] at q
  rw[<- q,<- l]
  exact h _ (I.tok _)
theorem d_notIn {Q:Value->Shared->Prop}(hu:A.units+1<cLine) (I:Inv X pins σ H s) (g:DGet H a y o) (ry:RelV y u) (h:∀ s',Inv X pins σ H s'->Q (.bool (!o.isSome)) s') :
  wpAny (model X.prog X.w) A (compareOp .NotIn u (.ref a)) Q E s:=by
 rcases g with ⟨kvs,k,e,ey,l⟩ | ⟨kvs,k,b,e,ey,eb,l⟩
 ·subst ey
  obtain⟨z,hd,vs,rel,dd⟩:=mF I.hok e
  refine wpAny_notIn_of (mC ry) hd dd.mapOf ?_
  rw[<- (rel.val k).isSome_eq,<- l]
  exact h _ (I.tok _)
 ·subst ey
  cases (show u=Value.ref b from ry)
  obtain⟨z,hd,xs,rel,dd⟩:=nh I.hok e
  refine wpAny_notIn_heap (tupleKind_room_in1 hu) (jY I.hok eb) hd dd ?_
  have q:=(rel.val k).isSome_eq
  rw[Option.isSome_map] at q
  rw[<- q,<- l]
  exact h _ (I.tok _)
theorem ky {h':Heap}{t':Nat}{ob:HO}(I:Inv X pins σ H s) (mu:Mut (H a)) (hs:Heap.SameBut a s.heap h') (he:∃ q,h'.get? a=some q) (new:ObjOk X.prog X.w (upd H a ob) h' a ob) :
  Inv X pins σ (upd H a ob) { s with heap:=h',toks:=t' } :=
 I.write (x:=a) (e:=a) mu (.inl rfl) (fun b q hb z=>(hs.2 b hb).trans z) he new
theorem rK {P:Program}{w:World}{H':Hp}{h':Heap}{kvs:List (Key×V)}{vs:List (Key×Value)}(z:kvs.length<=sizeLine) (hd:(a == sysModules)=false) (rel:KV kvs vs) (dd:h'.DictOf (bb P w) a vs) :
  ObjOk P w H' h' a (.dK kvs):=⟨z,hd,vs,rel,dd⟩
theorem rZ {H':Hp}{Q:Unit->Shared->Prop}(hu:A.units+1<cLine) (I:Inv X pins σ H s) (g:DPut H a y v H') (ry:RelV y u) (rv:RelV v r) (h:∀ s',Inv X pins σ H' s'->Q () s') :
  wpAny (model X.prog X.w) A (setItem (.ref a) u r) Q E s:=by
 rcases g with ⟨kvs,k,e,ey,l,eH⟩ | ⟨kvs,k,b,e,ey,eb,l,eH⟩
 ·subst ey eH
  obtain⟨z,hd,vs,rel,dd⟩:=dk_of I.hok e
  have hz:vs.length<=sizeLine:=by rw[<- rel.length]; exact z
  have hl:(ig kvs k v).length<=sizeLine:=by have:=fh kvs k v; omega
  refine wpAny_setItem_pairs (hsz:=hz) (mC ry) dd fun h' dd' hs=>h _ ?_
  have he:∃ q,h'.get? a=some q:=let ⟨q,_,_,hq,_⟩:=dd'; ⟨q,hq⟩
  exact ky I (by rw[e]; exact True.intro) hs he (rK hl hd (rel.put k rv) dd')
 ·subst ey eH
  cases (show u=Value.ref b from ry)
  obtain⟨z,hd,xs,rel,dd⟩:=dt_of I.hok e
  have hz:xs.length<=sizeLine:=by rw[<- Paired.length rel]; exact z
  have hl:(ig kvs k v).length<=sizeLine:=by have:=fh kvs k v; omega
  refine wpAny_setItem_heap (hsz:=hz) (tupleKind_room_in1 hu) (jY I.hok eb) dd fun h' dd' hs=>h _ ?_
  obtain⟨q,es,ep,hq,h2,h3,h4,_,h5⟩:=dd'
  refine ky I (by rw[e]; exact True.intro) hs ⟨q,hq⟩ ⟨hl,hd,_,(rel.put k eb rv).keeps fun c ys ec=>?_,q,es,ep,hq,h2,h3,h4,h5⟩
  rw[af (ne_of ec e (fun z=>nomatch z))]
  exact ec
end
section
variable {X:Cx}{pins:List (Addr×Obj)}{σ:St}{H:Hp}{s:Shared}{a:Addr}{kvs:List (Key×V)}{k:Key}{u:Value}{A:Around}{E:Value->Shared->Prop}
theorem d_len {Q:Value->Shared->Prop}(I:Inv X pins σ H s) (e:Rd H a (.dK kvs)) (h:∀ t s',Inv X pins σ H s'->Q (.int kvs.length t) s'):wpAny (model X.prog X.w) A (call (.builtin "len") [.ref a]) Q E s:=by
 obtain⟨z,hd,vs,rel,dd⟩:=mF I.hok e
 refine call_len_dict hd dd (by rw[<- rel.length]; rw[sizeLine_eq] at z; omega) ?_
 rw[<- rel.length]
 exact h _ _ (I.tok _)
end
def NoSl (i:Expr):Prop:=∀ ov iv,subscripted i false ov iv=operate [ov,iv] (getItem ov iv)
theorem subD_of {prog:Program}{w:World}{A:Around}{E:Value->Shared->Prop}{s:Shared}{env:Env}{value slice:Expr}{pos:Pos}{T id:String}{Q:Value->Shared->Prop}
  (hl:typeLookup (.type T) "__getitem__"=pure (some (.builtin id))) (hs:NoSl slice)
  (h:wpAny (model prog w) A (eval value env) (fun o s₁=>wpAny (model prog w) A (eval slice env) (fun i s₂=>s₂.TypeIs o T/\wpAny (model prog w) A (getItem o i) Q E s₂) E s₁) E s) :
  wpAny (model prog w) A (eval (.Subscript value slice pos) env) Q E s:=by
 refine Subscript_ (wpAny_mono h (fun o s₁ h₁=>wpAny_mono h₁ (fun i s₂ h₂=>?_) fun _ _ x=>x) fun _ _ x=>x)
 obtain⟨hT,h₂⟩:=h₂
 unfold subscriptTail
 refine wpAny_bind ?_
 rw[getitemInPython_of_ne hT.not_modules]
 refine wpAny_bind (wpAny_specialOf hT hl ?_)
 have fin:wpAny (model prog w) A (subscripted slice false o i) (fun r s₃=>wpAny (model prog w) A (letTemporaryGo value o r >>= fun _=>pure r) Q E s₃) E s₂:=by
  rw[hs o i]
  exact wpAny_operating (wpAny_mono h₂ (fun r s₃ h₃=>wpAny_bind (wpAny_letTemporaryGo (wpAny_pure h₃))) fun _ _ x=>x)
 first
  | exact wpAny_pure (wpAny_bind fin)
  | exact wpAny_bind (wpAny_pure (wpAny_bind fin))
  | exact wpAny_bind fin
theorem nW {X:Cx}{pins:List (Addr×Obj)}{σ:St}{H:Hp}{s:Shared}{a:Addr}{y:V}{o:Option V}(I:Inv X pins σ H s) (g:DGet H a y o):s.TypeIs (.ref a) "dict":=by
 rcases g with ⟨kvs,k,e,_,_⟩ | ⟨kvs,k,b,e,_,_,_⟩
 ·obtain⟨_,_,vs,_,dd⟩:=mF I.hok e
  exact dd.typeIs
 ·obtain⟨_,_,xs,_,dd⟩:=nh I.hok e
  exact dd.typeIs
def tDGet (td ty:TE):TE:=fun σ H Q=>td σ H fun x H1=>ty σ H1 fun y H2=>∃ a v,x=.ref a/\DGet H2 a y (some v)/\Q v H2
def sDPut (td ty tv:TE):TS:=fun D σ H=>tv σ H fun v H1=>td σ H1 fun x H2=>ty σ H2 fun y H3=>∃ a H4,x=.ref a/\DPut H3 a y v H4/\D.nx σ H4
section
variable {X:Cx}{o i e value:Expr}{pos pos' tpos:Pos}{td ty tv:TE}
theorem fk (hu:X.A.units+1<cLine) (ho:PE X o td) (hi:PE X i ty) (hs:NoSl i):PE X (.Subscript o i pos) (tDGet td ty):=by
 intro pins s σ H Q I h
 refine subD_of PySem.F.slot_dict_getitem.lookup hs (thn (ho pins s σ H _ I h) fun u s1 ⟨x,H1,I1,rx,q1⟩=>thn (hi pins s1 σ H1 _ I1 q1) fun iv s2 ⟨y,H2,I2,ry,a,v,ex,g,q2⟩=>?_)
 subst ex
 obtain rfl:u=Value.ref a:=rx
 exact⟨nW I2 g,rH hu I2 g ry fun w' s3 I3 rw'=>⟨v,H2,I3,rw',q2⟩⟩
theorem fM (hu:X.A.units+1<cLine) (ho:PE X o td) (hi:PE X i ty) (hv:PE X value tv) (hs:swapsWith value (some (.Subscript o i pos')) pos.line X.env=pure false) :
  PS X (.Assign [.Subscript o i pos'] value pos) (sDPut td ty tv):=by
 intro pins s σ H D I h
 refine wpAny_Assign_Subscript (thn (hv pins s σ H _ I h) fun r s1 ⟨v,H1,I1,rv,q1⟩=>thn (ho pins s1 σ H1 _ I1 q1) fun u s2 ⟨x,H2,I2,rx,q2⟩=>thn (hi pins s2 σ H2 _ I2 q2) fun iv s3 ⟨y,H3,I3,ry,a,H4,ex,g,q3⟩=>?_) hs
 subst ex
 obtain rfl:u=Value.ref a:=rx
 exact rZ hu I3 g ry rv fun s4 I4=>⟨σ,H4,I4,q3⟩
end
theorem dk_empty {P:Program}{w:World}{H:Hp}(h:Heap) (hb:sysModules<h.objs.size):ObjOk P w H (h.push { cls:=.type "dict",data:=.dict #[] }) h.objs.size (.dK []) :=
 ⟨zero_le _,beq_eq_false_iff_ne.mpr (Ne.symm (ne_of_lt hb)),[],.nil,Heap.DictOf.new h⟩
section
variable {X:Cx}{pos:Pos}
end
def rP:List (TE×TE)->St->Hp->(List (V×V)->Hp->Prop)->Prop
 | [],_,H,Q=>Q [] H
 | (tk,tv)::r,σ,H,Q=>tk σ H fun x H1=>tv σ H1 fun y H2=>rP r σ H2 fun ps H3=>Q ((x,y)::ps) H3
abbrev VV:List (V×V)->List (Value×Value)->Prop:=Paired fun p q=>RelV p.1 q.1/\RelV p.2 q.2
def PPs (X:Cx) (pos:Pos) (keys:List (Option Expr)) (values:List Expr) (trs:List (TE×TE)):Prop :=
 ∀ (pins:List (Addr×Obj)) (s:Shared) (σ:St) (H:Hp) (Q:List (V×V)->Hp->Prop),Inv X pins σ H s->rP trs σ H Q ->
  wpAny (model X.prog X.w) X.A (evalPairs (pairTrees keys values X.env pos)) (fun vs s'=>∃ ps H',Inv X pins σ H' s'/\VV ps vs/\Q ps H') X.xe s
theorem sF {X:Cx}{pos:Pos}:PPs X pos [] [] []:=fun pins s σ H Q I h=>pairTrees_nil_walk ⟨[],H,I,.nil,h⟩
theorem pps_cons {X:Cx}{pos:Pos}{k v:Expr}{ks:List (Option Expr)}{vs:List Expr}{tk tv:TE}{trs:List (TE×TE)}(hk:PE X k tk) (hv:PE X v tv) (hr:PPs X pos ks vs trs) :
  PPs X pos (some k::ks) (v::vs) ((tk,tv)::trs):=fun pins s σ H Q I h =>
 pairTrees_cons_walk (thn (hk pins s σ H _ I h) fun u s1 ⟨x,H1,I1,rx,q1⟩=>thn (hv pins s1 σ H1 _ I1 q1) fun w2 s2 ⟨y,H2,I2,ry,q2⟩ =>
  thn (hr pins s2 σ H2 _ I2 q2) fun ws s3 ⟨ps,H3,I3,rel,q3⟩=>⟨(x,y)::ps,H3,I3,.cons ⟨rx,ry⟩ rel,q3⟩)
def ck (kvs more:List (Key×V)):List (Key×V):=more.foldl (fun acc kv=>ig acc kv.1 kv.2) kvs
theorem KV.merge:∀ {more:List (Key×V)}{rs:List (Key×Value)}{kvs:List (Key×V)}{vs:List (Key×Value)},KV more rs->KV kvs vs->KV (ck kvs more) (merged vs rs):=by
 intro more rs kvs vs r
 unfold KV at r
 induction r generalizing kvs vs with
 | nil=>intro q; exact q
 | @cons p q ps qs h t ih =>
  intro r0
  have e:KV (ig kvs p.1 p.2) (stored vs q.1 q.2):=by
   have:=r0.put p.1 h.2
   rw[<- h.1]; exact this
  exact ih e
theorem cR:∀ (more kvs:List (Key×V)),(ck kvs more).length<=kvs.length+more.length
 | [],kvs=>by show kvs.length<=kvs.length+0; omega
 | p::r,kvs=>by
  have h1:=cR r (ig kvs p.1 p.2)
  have h2:=fh kvs p.1 p.2
  show (ck (ig kvs p.1 p.2) r).length<=_
  rw[length_cons]; omega
theorem jT {P:Program}{w:World}:∀ {kvs:List (Key×V)}{ws:List (Value×Value)},VV (kvs.map fun kv=>(kV kv.1,kv.2)) ws->∃ rs,Carries (bb P w) ws rs/\KV kvs rs
 | [],_,r=>by rw[List.map_nil] at r; cases r; exact⟨[],True.intro,.nil⟩
 | p::kvs,_,r=>by
  rw[map_cons] at r
  cases r with
  | @cons a b as bs h t =>
   obtain⟨rs,c,q⟩:=jT (P:=P) (w:=w) t
   obtain⟨b1,b2⟩:=b
   exact⟨(p.1,b2)::rs,⟨mC h.1,rfl,c⟩,.cons ⟨rfl,h.2⟩ q⟩
def tDisp (trs:List (TE×TE)):TE:=fun σ H Q=>∀ p,H p=none->rP trs σ (upd H p (.dK [])) fun ps H2=>H2 p=some (.dK [])/\∃ kvs:List (Key×V),ps=kvs.map (fun kv=>(kV kv.1,kv.2))/\kvs.length<=15/\Q (.ref p) (upd H2 p (.dK (ck [] kvs)))
theorem pe_disp {X:Cx}{pos:Pos}{keys:List (Option Expr)}{values:List Expr}{trs:List (TE×TE)}(h:PPs X pos keys values trs) (hall:keys.all (·.isSome)=true) (hl:keys.length=values.length) (h0:keys≠[])
  (h15:keys.length<=15):PE X (.Dict keys values pos) (tDisp trs):=by
 intro pins s σ H Q I q
 have hn:=I.hok.fresh (le_refl s.heap.objs.size)
 have I1:=I.laid (a:=s.heap.objs.size) (o:=.dK []) (h':=s.heap.push { cls:=.type "dict",data:=.dict #[] }) (t':=s.toks) (fun _ _ q=>Heap.get?_push_of_some _ q) (le_refl _) (dk_empty s.heap I.big)
 refine wpAny_Dict_walk (knd:=bb X.prog X.w) hall hl h0 h15 (thn (h pins _ σ _ _ I1 (q _ hn)) fun ws s2 ⟨ps,H2,I2,rel,e,kvs,ep,lk,q2⟩=>?_)
 subst ep
 obtain⟨rs,c,rk⟩:=jT (P:=X.prog) (w:=X.w) rel
 obtain⟨z,hd,vs0,r0,dd⟩:=dk_of I2.hok e
 cases r0
 refine⟨rs,c,dd,fun h' dd' hs=>⟨.ref s.heap.objs.size,_,?_,rfl,q2⟩⟩
 have hz:(ck [] kvs).length<=sizeLine:=by
  have h1:=cR kvs []
  rw[length_nil] at h1
  rw[sizeLine_eq]; omega
 have he:∃ q,h'.get? s.heap.objs.size=some q:=let ⟨q,_,_,hq,_⟩:=dd'; ⟨q,hq⟩
 exact ky I2 (by rw[e]; exact True.intro) hs he (rK hz hd (rk.merge .nil) dd')
structure M2 (X:Cx) (o:Expr) (m:Str) (apos:Pos) (e f:Expr) (cpos:Pos):Prop where
 base:attributeBase o m X.env (eval o X.env)=eval o X.env
 few:((backTo cpos (starEach [e,f] X.env)).all (fun x=>!x.1)&&(backToKw cpos (keywordEach [] X.env)).all (fun x=>x.1.isSome)
 &&decide (([e,f]:List Expr).length+([]:List Keyword).length+(if ([]:List Keyword).isEmpty then 0 else 1)<30))=true
 line:(apos.endLine == cpos.line)=true
 trees:backTo cpos (starEach [e,f] X.env)=[(false,eval e X.env),(false,eval f X.env)]
def IsD (H:Hp) (a:Addr):Prop:=(∃ kvs,Rd H a (.dK kvs))\/∃ kvs,Rd H a (.dT kvs)
theorem isD_at {X:Cx}{pins:List (Addr×Obj)}{σ:St}{H:Hp}{s:Shared}{a:Addr}(I:Inv X pins σ H s) (d:IsD H a) :
  s.TypeIs (.ref a) "dict"/\(∀ b,Value.ref a=.ref b->∃ ob,s.heap.get? b=some ob/\ob.dict=none)/\(a == sysModules)=false:=by
 rcases d with ⟨kvs,e⟩ | ⟨kvs,e⟩
 ·obtain⟨_,hd,vs,_,dd⟩:=mF I.hok e
  refine⟨dd.typeIs,fun b q=>?_,hd⟩
  cases q
  obtain⟨ob,_,_,h1,h2,_⟩:=dd
  exact⟨ob,h1,h2.2.1⟩
 ·obtain⟨_,hd,xs,_,dd⟩:=nh I.hok e
  refine⟨dd.typeIs,fun b q=>?_,hd⟩
  cases q
  obtain⟨ob,_,_,h1,h2,_⟩:=dd
  exact⟨ob,h1,h2.2.1⟩
section
variable {X:Cx}{pins:List (Addr×Obj)}{σ:St}{H:Hp}{s:Shared}{a:Addr}{y d:V}{u r:Value}{o:Option V}{A:Around}{E:Value->Shared->Prop}
theorem d_get2 {Q:Value->Shared->Prop}(hu:A.units+1<cLine) (I:Inv X pins σ H s) (g:DGet H a y o) (ry:RelV y u) (rd:RelV d r) (h:∀ w' s',Inv X pins σ H s'->RelV (o.getD d) w'->Q w' s') :
  wpAny (model X.prog X.w) A (call (.builtin "dict.get") [.ref a,u,r]) Q E s:=by
 rcases g with ⟨kvs,k,e,ey,l⟩ | ⟨kvs,k,b,e,ey,eb,l⟩
 ·subst ey
  obtain⟨z,hd,vs,rel,dd⟩:=mF I.hok e
  refine call_meetsIn PySem.F.slot_dict_get dd.typeIs PySem.F.entry_dict_get (PySem.F.args_dict_get_3 _ _ _) (meets_dict_get_default (bb X.prog X.w) a (mC ry) hd r) ⟨_,dd.mapOf,h _ _ (I.tok _) ?_⟩
  rw[l]
  exact(rel.val k).getD rd
 ·subst ey
  cases (show u=Value.ref b from ry)
  obtain⟨z,hd,xs,rel,dd⟩:=nh I.hok e
  refine call_meetsIn PySem.F.slot_dict_get dd.typeIs PySem.F.entry_dict_get (PySem.F.args_dict_get_3 _ _ _) (meetsH_dict_get_default (tupleKind (bb X.prog X.w)) a b hd r) ⟨tupleKind_room_in1 hu,k,xs,jY I.hok eb,dd,h _ _ (I.tok _) ?_⟩
  rw[l]
  exact(rel.val k).getD rd
end
def tDGet2 (td ty tx:TE):TE:=fun σ H Q=>td σ H fun x H1=>∃ a,x=.ref a/\IsD H1 a/\ty σ H1 fun y H2=>tx σ H2 fun z H3=>∃ o,DGet H3 a y o/\Q (o.getD z) H3
section
variable {X:Cx}{o e f:Expr}{apos cpos:Pos}{td ty tx:TE}
theorem pe_dget2 (hu:X.A.units+1<cLine) (ho:PE X o td) (he:PE X e ty) (hf:PE X f tx) (m:M2 X o "get" apos e f cpos):PE X (.Call (.Attribute o "get" apos) [e,f] [] cpos) (tDGet2 td ty tx):=by
 intro pins s σ H Q I h
 refine wpAny_Call_method m.base m.few m.line PySem.F.plainAttrs_dict PySem.F.slot_dict_get PySem.F.type_dict_get (thn (ho pins s σ H _ I h) fun u s1 ⟨x,H1,I1,rx,a,ex,d,q1⟩=>?_)
 subst ex
 obtain rfl:u=Value.ref a:=rx
 obtain⟨t1,t2,_⟩:=isD_at I1 d
 refine⟨t1,t2,?_⟩
 rw[m.trees]
 refine Calls.callWith_builtin rfl (Calls.evalArgs_plain (Calls.spliced_cons (thn (he pins s1 σ H1 _ I1 q1) fun iv s2 ⟨y,H2,I2,ry,q2⟩ =>
  Calls.spliced_cons (thn (hf pins s2 σ H2 _ I2 q2) fun fv s3 ⟨z,H3,I3,rz,ov,g,q3⟩=>Calls.spliced_nil ?_))))
 exact d_get2 hu I3 g ry rz fun w' s4 I4 rw'=>⟨_,H3,I4,rw',q3⟩
end
section
variable {X:Cx}{pins:List (Addr×Obj)}{σ:St}{H:Hp}{s:Shared}{a:Addr}{kvs:List (Key×V)}{A:Around}{E:Value->Shared->Prop}
end
section
variable {X:Cx}{pins:List (Addr×Obj)}{σ:St}{H:Hp}{s:Shared}{a:Addr}{y:V}{u:Value}{A:Around}{E:Value->Shared->Prop}
end
end L2
namespace L2
open PySem PySem.Spec PyProof.Rows
section
variable {κ:Type} [DecidableEq κ]
end
end L2
namespace Ow
open PySem PySem.Spec PyProof.Rows L2
section
variable {X:Cx}{pins:List (Addr×Obj)}{σ:L2.St}{H:Hp}{s:Shared}
end
section
variable {X:Cx}{tg:Expr}
end
theorem call_sum {X:Cx}(hc:X.calm=true):fD X (.builtin "sum") (fun xs H Q=>∃ (a:Addr) (ns:List Int),xs=[.ref a]/\SqL X.K H a (ns.map V.int)/\Q (.int ns.sum) H):=by
 intro pins s σ H xs us Q I r h
 obtain⟨a,ns,rfl,hq,q⟩:=h
 obtain⟨u,rfl,rx⟩:=kM r
 cases rx
 obtain⟨its,rv,pl,hz⟩:=I.list hq
 have hl:=rv.length
 rw[length_map] at hl
 refine call_sum_walkG (wpAny_pyIter_list pl.isList ?_)
 have hne:a≠s.heap.objs.size:=by
  obtain⟨o,ho,_⟩:=pl.isList
  exact ne_of_lt (Heap.lt_size ho)
 refine⟨s.heap.objs.size,_,_,_,_,_,fun j=>ns.getD j 0,rfl,Walks.list (A:=X.A.in1) (I.ok.hd hc) s.heap.objs.size a hne its.toArray,⟨⟨_,Heap.get?_push_size _ rfl,rfl,rfl⟩,Heap.IsList.push pl.isList _⟩,?_,?_,?_⟩
 ·intro b hb
  show b<(s.heap.push _).objs.size
  rw[Heap.size_push]
  rcases List.mem_cons.mp hb with rfl | hb
  ·exact lt_succ_self _
  ·rw[List.mem_singleton.mp hb]
   obtain⟨o,ho,_⟩:=pl.isList
   exact Nat.lt_succ_of_lt (Heap.lt_size ho)
 ·intro i v hP
  have hP':its[i]?=some v:=by simpa using hP
  have hi:i<its.length:=(List.getElem?_eq_some_iff.mp hP').1
  have hb:(ns.map V.int)[i]?=some (V.int (ns.getD i 0)):=by
   rw[List.getElem?_map,getD_eq_getElem?_getD,List.getElem?_eq_getElem (by omega)]
   rfl
  obtain⟨u',hu',t,ru'⟩:=rv.get hb
  rw[hP'] at hu'
  cases hu'
  exact⟨t,ru'⟩
 ·intro h' tk t' hk
  have e0:∀ (l:List Int) (m:Nat),m<=l.length->preSum (fun j=>l.getD j 0) m=(l.take m).sum:=by
   intro l m
   induction m with
   | zero=>intro _; simp[preSum]
   | succ m ih =>
    intro hm
    rw[take_add_one,List.sum_append,<- ih (by omega),List.getElem?_eq_getElem (by omega)]
    simp[preSum,getD_eq_getElem?_getD,List.getElem?_eq_getElem (show m<l.length by omega)]
  have e1:preSum (fun j=>ns.getD j 0) its.toArray.size=ns.sum:=by
   rw[size_toArray,<- hl,e0 ns ns.length (le_refl _),take_length]
  rw[e1]
  exact⟨.int _,H,I.kept (t':=tk) fun b o e=>hk b o (fun z=>by
   have z':b=s.heap.objs.size:=by simpa using z
   exact absurd (Heap.lt_size e) (by rw[z']; exact lt_irrefl _)) (Heap.get?_push_of_some _ e),⟨t',rfl⟩,q⟩
structure GD (K:Frag) (P:Program) (w:World) (a:Addr) (vs:List (Key×Value)):Prop where
 ex:∃ o es ep,K.lookup a=some o/\o.ExactDict/\o.data=.dict es ep/\PySem.KeysOf (bb P w) es/\Pairs (bb P w) es.toList vs/\(vs.map (·.1)).Nodup
def gEnt (p:Params) (x:Str×Tok×Addr):DictEntry:=⟨PyData.keyHash p x.1,.str x.1 x.2.1,.ref x.2.2⟩
def gVal (x:Str×Tok×Addr):Key×Value:=(.inr x.1,.ref x.2.2)
theorem gd_mk {K:Frag}{P:Program}{w:World}{a:Addr}{ents:List (Str×Tok×Addr)}{ep:Nat}{sl:Array (Option Value)}(h:K.lookup a=some ⟨.type "dict",none,.dict (ents.map (gEnt w.params)).toArray ep,sl⟩) (nd:(ents.map (·.1)).Nodup) (hx:(⟨.type "dict",none,.dict (ents.map (gEnt w.params)).toArray ep,sl⟩:Obj).ExactDict) :
  GD K P w a (ents.map gVal):=by
 refine⟨_,_,_,h,hx,rfl,fun e he=>?_,?_,?_⟩
 ·obtain⟨x,_,rfl⟩:=List.mem_map.mp (List.mem_toArray.mp he)
  refine⟨.inr x.1,?_,?_⟩
  ·show Value.isStrOf x.1 (.str x.1 x.2.1)=true
   exact beq_self_eq_true _
  ·rfl
 ·show Pairs _ (ents.map (gEnt w.params)) _
  clear h nd hx
  induction ents with
  | nil=>exact .nil
  | cons x r ih =>
   refine .cons ?_ rfl ih
   show Value.isStrOf x.1 (.str x.1 x.2.1)=true
   exact beq_self_eq_true _
 ·have e:(ents.map gVal).map (·.1)=(ents.map (·.1)).map (Sum.inr (α:=Int)):=by
   rw[map_map,map_map]
   rfl
  rw[e]
  unfold List.Nodup
  rw[List.pairwise_map]
  exact List.Pairwise.imp (fun h z=>h (Sum.inr.inj z)) nd
section
variable {X:Cx}
theorem cU {pos:Pos}{k v:Expr}{ks:List (Option Expr)}{vs:List Expr}{tk tv:TE}{trs:List (TE×TE)}(hk:PE X k tk) (hv:Sl (PE X v tv)) (hr:Sl (PPs X pos ks vs trs)):Sl (PPs X pos (some k::ks) (v::vs) ((tk,tv)::trs)):=⟨pps_cons hk hv.out hr.out⟩
theorem oE {pos:Pos}{keys:List (Option Expr)}{values:List Expr}{trs:List (TE×TE)}(h:Sl (PPs X pos keys values trs)) (hall:keys.all (·.isSome)=true) (hl:keys.length=values.length) (h0:keys≠[]) (h15:keys.length<=15):Sl (PE X (.Dict keys values pos) (tDisp trs)):=⟨pe_disp h.out hall hl h0 h15⟩
end
theorem mS {X:Cx}{d:Nat}(hu:X.A.units+d+1<cLine):OpR X (compareOp .NotEq) (pZ X.K d true):=by
 intro pins s σ H x y v u Q I rx ry h
 obtain⟨p,q,xs,ys,e,rfl,rfl,hp,hq,he,k⟩:=h
 cases rx
 cases ry
 obtain⟨its,r,pl,_⟩:=I.tuple hp
 obtain⟨its2,r2,pl2,_⟩:=I.tuple hq
 have hl:=r.length
 have hl2:=r2.length
 refine SeqAt.RcNeAt.tuples (e:=e) pl pl2 (by omega) (fun j h1 h2=>?_) X.prog X.w X.xe _ ⟨.bl _,H,I,rfl,?_⟩
 ·have h1':j<its.length:=by simpa using h1
  have h2':j<its2.length:=by simpa using h2
  have z:=(he j (by omega) (by omega)).at I (df r h1') (df r2 h2') (A:=X.A.in1) (by show X.A.units+1+d<_; omega)
  simpa using z
 ·simp only[size_toArray,<- hl,<- hl2]
  exact k
end Ow
namespace Ow
open PySem PySem.Spec PyProof.Rows L2
section
variable {X:Cx}
theorem pe_ixS {a b:Expr}{r:R2}{ta tb:TE}{pos:Pos}(hr:IxR X r) (ha:Sl (PE X a ta)) (hb:PE X b tb) (hs:qp b):Sl (PE X (.Subscript a b pos) (tOp r ta tb)):=⟨aH hr ha.out hb hs⟩
end
end Ow
namespace Ow
open PySem PySem.Spec PyProof.Rows L2
section
variable {prog:Program}{w:World}{A:Around}{R:Result->Shared->Prop}{s:Shared}
end
section
variable {X:Cx}{elt iter:Expr}{x y:Str}{px py pos tp:Pos}{kk:Nat}{scope:Scope}{wi:TI}{te:TE}{N:List Str}{cl:List (Str×Addr)}{cap:L2.St->L2.St}
end
section
variable {X:Cx}{elt iter:Expr}{x y0:Str}{px py pos tp:Pos}{kk:Nat}{scope:Scope}{wi:TI}{te:TE}{cl:List (Str×Addr)}
end
end Ow
namespace L2
open PySem PySem.Spec PyProof.Rows
section
variable {X:Cx}
def Ite (K:Frag) (a:Addr):It :=
 ⟨fun i H=>∃ xs x,SqL K H a xs/\xs[i]?=some x,
  fun i H v H'=>∀ xs x,SqL K H a xs->xs[i]?=some x->∃ T,v=.ref T/\H T=none/\H'=upd H T (.tup [.int (i:Nat),x]),
  fun i H=>∃ xs,SqL K H a xs/\xs.length<=i⟩
theorem sv {P:Program}{w:World}{K:Frag}{elts:List Expr}{x1}{tp:Pos}{e it a:Addr}(hei:e≠it) (hae:a≠e) (hai:a≠it) :
  Turn P w K (.Tuple elts x1 tp) (Ite K a) [e,it] e (fun i h=>(∃ old,IsEnum h e it (i:Nat) old)/\h.IsListIter it a i) where
 mem:=by simp
 obj:=fun i h st c hc=>by
  obtain⟨⟨old,q1⟩,⟨o2,e2,_,d2⟩⟩:=st
  simp only[mem_cons,not_mem_nil,or_false] at hc
  rcases hc with rfl | rfl
  ·exact⟨_,q1,fun v z=>by cases z⟩
  ·exact⟨_,e2,fun v z=>by rw[d2] at z; cases z⟩
 keep:=fun i h h' st k=>by
  obtain⟨⟨old,q1⟩,q2⟩:=st
  exact⟨⟨old,k e (by simp) _ q1⟩,q2.at fun o e=>k it (by simp) o e⟩
 item:=by
  intro X hP hw hK hc i pins s σ H E I hf st hg
  subst hP hw hK
  obtain⟨xs,x,ha,hx⟩:=hg
  obtain⟨⟨old,q1⟩,q2⟩:=st
  obtain⟨its,rv,p,_⟩:=I.list ha
  obtain⟨ux,hux,rx⟩:=rv.get hx
  refine wpAny_pyNext_enum_item q1 q2 (show s.heap.IsList a its.toArray from p.isList) (x:=ux) (by simpa using hux) hei fun h' z1 v1 pr sz all=>?_
  refine⟨_,rfl,wpAny_letOwnedTupleGo_enum z1 fun h'' z2 sb=>?_⟩
  have nz:∀ c o,c≠e->h'.get? c=some o->h''.get? c=some o:=fun c o n e=>sb.extBut c o n e
  have zl:e<s.heap.objs.size:=Heap.lt_size q1
  have hT:H s.heap.objs.size=none:=I.hok.fresh (le_refl _)
  have prT:=nz _ _ (ne_of_gt zl) pr
  have kept:∀ c o,c∉[e,it]->s.heap.get? c=some o->h''.get? c=some o:=fun c o n e=>by
   simp only[mem_cons,not_mem_nil,or_false,not_or] at n
   exact nz c o n.1 (all c o n.1 n.2 e)
  have trk:∀ c u,H c=some u->c∉[e,it]:=fun c u e n=>by
   have:=(hf c n).1
   rw[e] at this; cases this
  refine⟨.ref s.heap.objs.size,upd H s.heap.objs.size (.tup [.int (i:Nat),x]),?_,rfl,fun xs' x' ha' hx'=>?_,⟨⟨_,by simpa using z2⟩,v1.at fun o e=>nz _ o (Ne.symm hei) e⟩,fun c hc=>?_⟩
  ·refine Inv.step (s:=s) (h':=h'') (g':=s.gens) (d':=s.drawn) (t':=s.toks+1) (ch:=[e,it]) I (fun c n=>let q:=hf c n; ⟨q.2.2.2.1,q.2.1,q.2.2.2.2.1,q.2.2.2.2.2⟩) (fun c o _ _ n e _=>kept c o n e) (fun c o _ _ n e _=>⟨o.slots,kept c o n e⟩)
    (fun c o _ e n=>by rw[af (ne_of_lt (Heap.lt_size e))]; exact n) (fun c o n e=>⟨o,kept c o n e⟩) (fun c zs e=>by rw[af (az e hT)]; exact e) (fun c o u e=>by rw[af (az e hT)]; exact e) (fun c ps e=>⟨#[],by rw[af (az e hT),e]; simp⟩) (fun m hm=>?_) (fun c u e=>?_) I.bare
   ·obtain⟨o,es,ep,ho,r⟩:=hm
    exact⟨o,es,ep,kept _ o (fun n=>(hf _ n).2.1 rfl) ho,r⟩
   ·by_cases q:c=s.heap.objs.size
    ·subst q
     rw[ac] at e; cases e
     exact⟨by show 2<=sizeLine; decide,[.int (i:Nat) s.toks,ux],.cons ⟨s.toks,rfl⟩ (.cons rx .nil),⟨_,prT,rfl,_,rfl⟩⟩
    ·rw[af q] at e
     refine(I.hok c u e).stay (fun c' v hc' e'=>kept c' v ?_ e') (fun c' e'=>by rw[af (az e' hT)]; exact e') fun c' zs e'=>by rw[af (az e' hT)]; exact e'
     rcases hc' with z' | z'
     ·rw[z']; exact trk c u e
     ·exact trk c' _ z'
  ·rw[I.list_inj ha' ha,hx] at hx'
   cases hx'
   exact⟨_,rfl,hT,rfl⟩
  ·have q:=hf c hc
   have hl:c≠s.heap.objs.size:=by
    simp only[mem_cons,not_mem_nil,or_false] at hc
    obtain⟨_,e4,_⟩:=q2
    rcases hc with rfl | rfl
    ·exact ne_of_lt zl
    ·exact ne_of_lt (Heap.lt_size e4)
   rw[af hl]
   exact q.1
 done:=by
  intro X hP hw hK hc i pins s σ H E I hf st hg
  subst hP hw hK
  obtain⟨xs,ha,hx⟩:=hg
  obtain⟨⟨old,q1⟩,q2⟩:=st
  obtain⟨its,rv,p,_⟩:=I.list ha
  have hl:=rv.length
  refine wpAny_pyNext_enum_end (I.ok.hd hc) q1 q2 (show s.heap.IsList a its.toArray from p.isList) (by simp; omega) fun h' all=>⟨rfl,?_⟩
  have kept:∀ c o,c∉[e,it]->s.heap.get? c=some o->h'.get? c=some o:=fun c o n e=>by
   simp only[mem_cons,not_mem_nil,or_false,not_or] at n
   exact all c o n.2 e
  have trk:∀ c u,H c=some u->c∉[e,it]:=fun c u e n=>by
   have:=(hf c n).1
   rw[e] at this; cases this
  refine Inv.step (s:=s) (h':=h') (g':=s.gens) (d':=s.drawn) (t':=s.toks) (ch:=[e,it]) I (fun c n=>let q:=hf c n; ⟨q.2.2.2.1,q.2.1,q.2.2.2.2.1,q.2.2.2.2.2⟩) (fun c o _ _ n e _=>kept c o n e) (fun c o _ _ n e _=>⟨o.slots,kept c o n e⟩)
    (fun c o _ e n=>n) (fun c o n e=>⟨o,kept c o n e⟩) (fun c zs e=>e) (fun c o u e=>e) (fun c ps e=>⟨#[],by rw[e]; simp⟩) (fun m hm=>?_) (fun c u e=>?_) I.bare
  ·obtain⟨o,es,ep,ho,r⟩:=hm
   exact⟨o,es,ep,kept _ o (fun n=>(hf _ n).2.1 rfl) ho,r⟩
  ·refine(I.hok c u e).stay (fun c' v hc' e'=>kept c' v ?_ e') (fun c' e'=>e') fun c' zs e'=>e'
   rcases hc' with z' | z'
   ·rw[z']; exact trk c u e
   ·exact trk c' _ z'
 self:=fun _ _ _ _ _ st h=>by
  obtain⟨⟨old,q1⟩,_⟩:=st
  exact wpAny_pyIter_enum q1 h
def iEnum (K:Frag) (ta:TA):TI:=fun σ H R=>ta σ H fun vs H1=>∃ a xs,vs=[.ref a]/\SqL K H1 a xs/\R (Ite K a) H1
theorem nR {e1:Expr}{ta:TA}{p pos:Pos}{elts:List Expr}{x1}{tp:Pos}(hg:Gl X "enumerate") (hm:X.mg "enumerate"=none) (ha:PA X [e1] ta) (hs:starEach [e1] X.env=(false,eval e1 X.env)::starEach [] X.env:=by rfl) (hpl:(backTo pos (starEach [] X.env)).any (·.1)=false:=by rfl) :
  PI X (.Tuple elts x1 tp) (.Call (.Name "enumerate" p) [e1] [] pos) (iEnum X.K ta):=by
 intro pins s σ H R I h
 refine Call_ (gQ I hg hm PyProof.Rows.boot_enumerate (PyProof.Rows.callWith_type1 (thn (ha pos pins s σ H _ I h) fun us s1 ⟨vs,H1,I1,r1,q1⟩=>?_) hs hpl))
 obtain⟨a,xs,e,hqa,q⟩:=q1
 subst e
 cases r1 with
 | cons r rr =>
  cases rr
  cases r
  obtain⟨its,rv,pl,_⟩:=I1.list hqa
  refine call_enumerate_list (show s1.heap.IsList a its.toArray from pl.isList) fun h' z1 z2 sz z6=>?_
  have I2:Inv X pins σ H1 { s1 with heap:=h' }:=I1.kept (t':=s1.toks) z6
  have la:a<s1.heap.objs.size:=by obtain⟨o,e,_⟩:=pl.isList; exact Heap.lt_size e
  refine wpAny_pyIter_enum z1 ?_
  refine⟨s1.heap.objs.size+1,[s1.heap.objs.size+1,s1.heap.objs.size],_,_,H1,rfl,I2,sv (ne_of_gt (lt_succ_self _)) (ne_of_lt (Nat.lt_succ_of_lt la)) (ne_of_lt la),⟨⟨_,z1⟩,z2⟩,fun c hc=>?_,q⟩
  have le:s1.heap.objs.size<=c:=by
   simp only[mem_cons,not_mem_nil,or_false] at hc
   rcases hc with h | h <;> rw[h]
   ·exact le_add_right _ _
   ·exact le_refl _
  exact I1.fpOk le (I1.hok.fresh le)
theorem ku {K:Frag}{a:Addr}{xs:List V}{g:TG}{tb:TS}{D:Ends}{σ:L2.St}{H:Hp}(Pv:Nat->L2.St->Hp->Prop) (h0:Pv 0 σ H) (hl:∀ i σ H,Pv i σ H->SqL K H a xs)
  (hs:∀ i x σ H,xs[i]?=some x->Pv i σ H->∀ T,H T=none->g (.ref T) σ (upd H T (.tup [.int (i:Nat),x])) fun σ2 H2=>tb { D with nx:=Pv (i+1),ct:=Pv (i+1),bk:=D.nx } σ2 H2) (hd:∀ σ H,Pv xs.length σ H->D.nx σ H) :
  ∃ W:Nat->Nat->L2.St->Hp->Prop,(∃ m,W 0 m σ H)/\∀ i m σ H,W i m σ H ->
   ((Ite K a).stop i H/\D.nx σ H)\/((Ite K a).go i H/\∃ N:L2.St->Hp->Prop,(∀ σ' H',N σ' H'->∃ m',m'<m/\W (i+1) m' σ' H')/\∀ x H',(Ite K a).yld i H x H'->g x σ H' fun σ2 H2=>tb { D with nx:=N,ct:=N,bk:=D.nx } σ2 H2):=by
 refine⟨fun i m σ H=>m=xs.length-i/\i<=xs.length/\Pv i σ H,⟨xs.length,by simp,zero_le _,h0⟩,?_⟩
 rintro i m σ H ⟨rfl,hi,p⟩
 have qa:=hl i σ H p
 by_cases hlt:i<xs.length
 ·have ex:xs[i]?=some xs[i]:=List.getElem?_eq_getElem hlt
  refine .inr ⟨⟨xs,_,qa,ex⟩,Pv (i+1),fun σ' H' p'=>⟨xs.length-(i+1),by omega,rfl,hlt,p'⟩,fun x H' y=>?_⟩
  obtain⟨T,rfl,hT,rfl⟩:=y xs _ qa ex
  exact hs i _ σ H ex p T hT
 ·have e:i=xs.length:=by omega
  subst e
  exact .inl ⟨⟨xs,qa,le_refl _⟩,hd σ H p⟩
end
end L2
namespace Ow
open PySem PySem.Spec PyProof.Rows L2
def xW (d:Addr) (fs:List (Str×V)):HO:=.ext fun h=>∃ mA,h.Ns1 d mA/\(∀ f,RelO (fs.lookup f) (mA f))/\PySem.Within mA (fs.map (·.1))
theorem xW_ok {P:Program}{w:World}{H:Hp}{h:Heap}{d:Addr}{fs:List (Str×V)}{mA:Str->Option Value}(g:h.Ns1 d mA) (r:∀ f,RelO (fs.lookup f) (mA f)) (wi:PySem.Within mA (fs.map (·.1))):ObjOk P w H h d (xW d fs) :=
 ⟨⟨mA,g,r,wi⟩,(by obtain⟨o,es,ep,e,_⟩:=g; exact⟨o,e⟩),fun h1 h2 ⟨m,n,q⟩ k=>⟨m,n.at k,q⟩⟩
section
variable {prog:Program}{w:World}{A:Around}{E:Value->Shared->Prop}{s:Shared}{K:Frag}{x C N:Addr}{fs:Array Value}{sl:Array (Option Value)}{name:Str}{v:Value}
variable {nm qn:Str}{bs bm:List Value}{sn:List Str}{sub:List Value}{ab:Bool}{col:Option Bool}{dd:Option Addr}{k0 k1 k2 k3 k5:Option Value}{nid:String}
theorem set_exc2 {D:Addr}{mA:Str->Option Value}{ns:List Str}{Q:Unit->Shared->Prop}(X:K.In s.heap) (hx:s.heap.get? x=some ⟨.ref C,some D,.fields fs,sl⟩) (hC:s.heap.get? C=some (excClassObj nm qn C N bs bm true sn sub ab col dd k0 k1 k2 k3 k5 nid)) (T:OwnTail s.heap VE bm)
  (sa:findIn K (.ref C) "__setattr__"=some (some (.builtin "object.__setattr__"))) (na:findIn K (.ref C) name=some none) (mo:mroIn K C (.type "object")=some true)
  (n1:s.heap.Ns1 D mA) (hw:PySem.Within mA ns) (hsz:ns.length<=100)
  (k:∀ h' t',h'.Ns1 D (fun y=>if y=name then some v else mA y)->Heap.SameBut D s.heap h'->Q () { s with heap:=h',toks:=t' }) :
  wpAny (model prog w) A (setAttr (.ref x) name v) Q E s:=by
 obtain⟨oD0,es0,ep0,gD0,hd0,r0⟩:=id n1
 have I:PySem.W.InstAt s.heap x ⟨.ref C,some D,.fields fs,sl⟩ C (some oD0):=⟨hx,rfl,rfl,gD0⟩
 have SF:=PySem.F.store_object
 have su:PySem.W.Looks (model prog w) s.heap (isInstance (.ref x) (.type "object")) true:=I.type.andThen (PySem.W.looks_mroIn X mo)
 refine PySem.W.set_plain X I sa (codeAny_call_builtin SF.slot.plain SF.entry (@PySem.W.check_slot (model prog w) _ _ { s with toks:=s.toks+1 } "object.__setattr__" "object" "__setattr__" (.ref x) [.str name s.toks,v] [] _ SF.kind SF.split su (SF.args (.ref x) (.str name s.toks) v) ?_))
 rw[PySem.W.osa_eq,refuse_eq]
 refine wpAny_bind (wpAny_bind (PySem.W.Looks.here (s:={ s with toks:=s.toks+1 }) I.type (wpAny_bind (wpAny_mroOf_exc hC ?_))))
 rw[refuseLoop_ref,iY _ T]
 refine wpAny_pure (wpAny_bind (PySem.W.Looks.here (s:={ s with toks:=s.toks+1 }) I.type (wpAny_bind (PySem.W.Looks.here (s:={ s with toks:=s.toks+1 }) (PySem.W.looks_findIn X na) (wpAny_bind (wpAny_pure ?_))))))
 show wpAny _ _ (Builtin.ObjectAttr.storeInOwnDict (.ref x) (.ref C) (.str name s.toks) name v false) _ _ _
 have L1:PySem.W.Looks (model prog w) s.heap (classData C) _:=(PySem.W.Looks.ld (part:=none) hC).andThen .now
 refine wpAny_bind (wpAny_pure (wpAny_bind (wpAny_bind (wpAny_loadPart hx (wpAny_bind (PySem.W.Looks.here (s:={ s with toks:=s.toks+1 }) L1 ?_))))))
 refine wpAny_pure (a:=some D) (wpAny_bind (wpAny_pure (wpAny_bind ?_)))
 refine wpAny_nsSet1 (s:={ s with toks:=s.toks+1 }) n1 fun h' hn2 hs2=>?_
 obtain⟨oD,esD,epD,hoD,hdD,hcD⟩:=hn2.count (PySem.Within.cons name v hw)
 refine wpAny_bind (wpAny_lookBehind hoD (by rw[hdD]; exact pastItsLine_dict (Nat.le_trans hcD (by rw[length_cons,sizeLine_eq]; omega))) ?_)
 exact wpAny_pure (k _ _ hn2 hs2)
end
section
variable {prog:Program}{w:World}{A:Around}{E:Value->Shared->Prop}{h:Heap}{g:Array GenState}{d:Drawn}{t:Nat}{os:OsState}{C N fI:Addr}{us:List Value}{oI:Obj}{mN:Str->Option Value}
variable {nm qn:Str}{bs bm:List Value}{hdc:Bool}{sn:List Str}{sub:List Value}{ab:Bool}{col:Option Bool}{dd:Option Addr}{k0 k1 k2 k3 k5:Option Value}
abbrev exTN (us:List Value):Obj:={ cls:=.type "tuple",data:=.seq us.toArray }
theorem qS {Q:Fin->Shared->Prop}(T:OwnTail h VE bm) (hC:h.get? C=some (excClassObj nm qn C N bs bm hdc sn sub ab col dd k0 k1 k2 k3 k5 "ValueError.__new__")) (hn:h.Ns N mN) (hi:mN "__init__"=some (.ref fI))
  (gf:h.get? fI=some oI) (cf:oI.cls=.type "function") (hz:us.length<=sizeLine)
  (k:wpAny (model prog w) A (call (.ref fI) (.ref (h.objs.size+1)::us)) (fun r s'=>r=.none/\Q (.done (.ret (.ref (h.objs.size+1)))) s') E ⟨(h.push (exTN us)).push { cls:=.ref C,data:=.fields (exF h.objs.size) },g,d,t,os⟩) :
  wpAny (model prog w) A (Builtin.«type.__call__» ⟨.ref C::us,[]⟩) Q E ⟨h,g,d,t,os⟩:=by
 have F:=PySem.F.excBase_ValueError
 have st:∀ b o,h.get? b=some o->((h.push (exTN us)).push { cls:=.ref C,data:=.fields (exF h.objs.size) }).get? b=some o:=fun b o e=>Heap.get?_push_of_some _ (Heap.get?_push_of_some _ e)
 have ge:((h.push (exTN us)).push { cls:=.ref C,data:=.fields (exF h.objs.size) }).get? (h.objs.size+1)=some { cls:=.ref C,data:=.fields (exF h.objs.size) }:=by
  have z:=Heap.get?_push_size (h.push (exTN us)) (o:={ cls:=.ref C,data:=.fields (exF h.objs.size) }) rfl
  rwa [Heap.size_push] at z
 have cc:(Value.ref C::bm).contains (.ref C)=true:=by rw[List.contains_cons,beq_self_eq_true,Bool.true_or]
 repeat (first | with_reducible refine wpAny_loadPart_at hC ?_ | with_reducible refine wpAny_madeBy_exc hC ?_ | wp_step)
 refine codeAny_call_builtin_code (Code.quiet_builtin _ F.quiet) (wpAny_check_new_subT F T hC (codeAny_exc_new_subT F T hC (rest:=us) (hrest:=hz) ?_))
 show wpAny _ _ _ _ _ _
 unfold isInstance
 repeat (first | with_reducible refine wpAny_loadPart_at ge ?_ | (with_reducible refine wpAny_isSubtype_exc (st _ _ hC) ?_; rw[cc]) | wp_step)
 show wpAny _ _ (typeLookup (.ref C) _) _ _ _
 refine wpAny_typeLookup_tail (st _ _ hC) (hn.keeps st) (T.keeps st) F.mroIs F.init.lookup ?_
 rw[hi]
 refine wpAny_holding (wpAny_bind ?_)
 unfold bindSpecial
 refine wpAny_bind (wpAny_typeOf (T:="function") ⟨_,st _ _ gf,cf⟩ ?_)
 rw[if_pos (by decide)]
 refine wpAny_pure (wpAny_bind (wpAny_mono k (fun r s' q=>?_) fun _ _ z=>z))
 obtain⟨rfl,q⟩:=q
 wp_walk
 exact q
theorem qm {Q:Value->Shared->Prop}(T:OwnTail h VE bm) (hC:h.get? C=some (excClassObj nm qn C N bs bm hdc sn sub ab col dd k0 k1 k2 k3 k5 "ValueError.__new__")) (hn:h.Ns N mN) (hi:mN "__init__"=some (.ref fI))
  (gf:h.get? fI=some oI) (cf:oI.cls=.type "function") (hz:us.length<=sizeLine)
  (k:wpAny (model prog w) (A.under (.builtin "type.__call__" ⟨.ref C::us,[]⟩)) (call (.ref fI) (.ref (h.objs.size+1)::us)) (fun r s'=>r=.none/\Q (.ref (h.objs.size+1)) s') E ⟨(h.push (exTN us)).push { cls:=.ref C,data:=.fields (exF h.objs.size) },g,d,t,os⟩) :
  wpAny (model prog w) A (call (.ref C) us) Q E ⟨h,g,d,t,os⟩:=by
 have f1:=tc_lookup
 have f2:=tc_bind (.ref C)
 have tT:(⟨h,g,d,t,os⟩:Shared).TypeIs (.ref C) "type":=⟨_,hC,rfl⟩
 refine wpAny_call (codeAny_of_tree ?_)
 show wpAny _ _ (callAny (.ref C) _) _ _ _
 repeat (any_goals (first | assumption | with_reducible refine wpAny_loadPart_at hC ?_ | wp_step))
 exact⟨rfl,codeAny_call_builtin_at (Code.quiet_builtin _ (by decide +kernel)) entry_typeCall (wpAny_check_type_call_sub hC (qS T hC hn hi gf cf hz k))⟩
end
structure XCl (K:Frag) (C fI:Addr):Prop where
 ef:pX K C fI=true
 sa:findIn K (.ref C) "__setattr__"=some (some (.builtin "object.__setattr__"))
 mo:mroIn K C (.type "object")=some true
 fn:typeIn K (.ref fI)=some (.type "function")
 kp:keepIn K (.ref C)=true
def sXs1 (K:Frag) (ta tv:TE) (f:Str):TS:=fun D σ H=>tv σ H fun y H1=>ta σ H1 fun x H2=>∃ e C t fI,x=.ref e/\H2 e=some (xO e C t none)/\XCl K C fI/\NoAttr K C f/\∀ d,H2 d=none->d≠e->D.nx σ (upd (upd H2 d (xW d [(f,y)])) e (xO e C t (some d)))
def sXs2 (K:Frag) (ta tv:TE) (f:Str):TS:=fun D σ H=>tv σ H fun y H1=>ta σ H1 fun x H2=>∃ e C t fI d fs,x=.ref e/\H2 e=some (xO e C t (some d))/\H2 d=some (xW d fs)/\XCl K C fI/\NoAttr K C f/\fs.length<=100/\D.nx σ (upd H2 d (xW d ((f,y)::fs)))
section
variable {X:Cx}{f:Str}{o value:Expr}{ta tv:TE}{pos pos':Pos}
theorem qL (ha:PE X o ta) (hv:PE X value tv) (hs:swapsWith value (some (.Attribute o f pos')) pos.line X.env=pure false):PS X (.Assign [.Attribute o f pos'] value pos) (sXs1 X.K ta tv f):=by
 intro pins s σ H D I h
 refine plainObj_wpAny_Assign_Attribute (thn (hv pins s σ H _ I h) fun u s1 ⟨y,H1,I1,ry,q⟩=>thn (ha pins s1 σ H1 _ I1 q) fun ov s2 ⟨x,H2,I2,rx,e,C,t,fI,ex,he,c,na,q2⟩=>?_) hs
 subst ex
 obtain rfl:ov=Value.ref e:=rx
 have ge:s2.heap.get? e=some ⟨.ref C,none,.fields (exF t),#[]⟩:=(I2.hok e _ he).1
 obtain⟨bm,N,nm,qn,bs,sn,sub,ab,col,dd,k0,k1,k2,k3,k5,mN,gC,_,_,T⟩:=rR I2.kIn c.ef
 refine set_exc I2.kIn ge gC T c.sa na c.mo fun h' t' g1 n1 kp=>?_
 have hd:H2 s2.heap.objs.size=none:=I2.hok.fresh (le_refl _)
 have dne:s2.heap.objs.size≠e:=fun z=>by rw[z,he] at hd; cases hd
 obtain⟨od,es,ep,gd,hda,rest⟩:=n1
 have gd1:(s2.heap.push od).get? s2.heap.objs.size=some od:=Heap.get?_push_size _ (by
  obtain⟨c1,c2,c3,c4⟩:=od
  cases (show c3=.dict es ep from hda)
  rfl)
 have I3:=I2.laid (a:=s2.heap.objs.size) (o:=xW s2.heap.objs.size [(f,y)]) (h':=s2.heap.push od) (t':=s2.toks) (fun b u q=>Heap.get?_push_of_some _ q) (le_refl _) (xW_ok ⟨od,es,ep,gd1,hda,rest⟩ (fun g=>by
  by_cases hg:g=f
  ·subst hg
   rw[if_pos rfl,List.lookup_cons_self]
   exact ry
  ·rw[if_neg hg,lookup_cons,beq_eq_false_iff_ne.mpr hg]
   exact True.intro) (PySem.Within.cons f u PySem.Within.nil))
 have I4:=I3.write (x:=e) (e:=e) (o:=xO e C t (some s2.heap.objs.size)) (h':=h') (t':=t') (by rw[af (Ne.symm dne),he]; exact True.intro) (.inl rfl) (fun b v hb z=>by
  by_cases hz:b=s2.heap.objs.size
  ·subst hz
   have z1:=gd1.symm.trans z
   cases z1
   exact gd
  ·rw[Heap.get?_push_ne _ _ _ hz] at z
   exact kp b v hb z) ⟨_,g1⟩ (xO_ok g1)
 exact⟨σ,_,I4,q2 _ hd dne⟩
theorem qU (ha:PE X o ta) (hv:PE X value tv) (hs:swapsWith value (some (.Attribute o f pos')) pos.line X.env=pure false):PS X (.Assign [.Attribute o f pos'] value pos) (sXs2 X.K ta tv f):=by
 intro pins s σ H D I h
 refine plainObj_wpAny_Assign_Attribute (thn (hv pins s σ H _ I h) fun u s1 ⟨y,H1,I1,ry,q⟩=>thn (ha pins s1 σ H1 _ I1 q) fun ov s2 ⟨x,H2,I2,rx,e,C,t,fI,d,fs,ex,he,hd,c,na,hl,q2⟩=>?_) hs
 subst ex
 obtain rfl:ov=Value.ref e:=rx
 have ge:s2.heap.get? e=some ⟨.ref C,some d,.fields (exF t),#[]⟩:=(I2.hok e _ he).1
 obtain⟨mA,n1,r,wi⟩:∃ mA,s2.heap.Ns1 d mA/\(∀ f,RelO (fs.lookup f) (mA f))/\PySem.Within mA (fs.map (·.1)):=(I2.hok d _ hd).1
 obtain⟨bm,N,nm,qn,bs,sn,sub,ab,col,dd,k0,k1,k2,k3,k5,mN,gC,_,_,T⟩:=rR I2.kIn c.ef
 refine set_exc2 I2.kIn ge gC T c.sa na c.mo n1 wi (by rw[length_map]; exact hl) fun h' t' n2 sb=>?_
 have I3:=I2.write (x:=d) (e:=d) (o:=xW d ((f,y)::fs)) (h':=h') (t':=t') (by rw[hd]; exact True.intro) (.inl rfl) (fun b v hb z=>(sb.2 b hb).trans z) (by obtain⟨o,es,ep,e',_⟩:=n2; exact⟨o,e'⟩) (xW_ok n2 (fun g=>by
  by_cases hg:g=f
  ·subst hg
   rw[if_pos rfl,List.lookup_cons_self]
   exact ry
  ·rw[if_neg hg,lookup_cons,beq_eq_false_iff_ne.mpr hg]
   exact r g) (PySem.Within.cons f u wi))
 exact⟨σ,_,I3,q2⟩
end
def spXN (fl:List Str) (C:Addr):Sp:=fun vs H Q _=>∃ (e t:Addr) (us:List V),vs=.ref e::us/\us.length=fl.length/\H e=some (xO e C t none)/\∀ d fs H',H d=none->d≠e->H' d=some (xW d fs)->(∀ g,fs.lookup g=(fl.zip us).lookup g)->H' e=some (xO e C t (some d))->(∀ b,b≠d->b≠e->H' b=H b)->Q .non H'
structure XMk (P:Program) (w:World) (K:Frag) (mg:Str->Option Value) (base:Heap) (k:Nat) (x:Str) (C:Addr) (ps fl:List Str):Prop where
 ex:∃ (fI:Addr) (fd:FuncData),FnOk P w K mg base CX0 k fI fd ps (spXN fl C)/\Binds K fd ps []/\XCl K C fI/\mg x=some (.ref C)/\ps.length=fl.length+1
section
variable {X:Cx}
end
end Ow
namespace Ow
open PySem PySem.Spec PyProof.Rows L2
theorem nl {f g:Str}{x y:V}(h:g≠f) (z:Str):[(g,y),(f,x)].lookup z=([f,g].zip [x,y]).lookup z:=by
 show List.lookup z [(g,y),(f,x)]=List.lookup z [(f,x),(g,y)]
 by_cases a:z=g
 ·subst a
  rw[List.lookup_cons_self,lookup_cons,beq_eq_false_iff_ne.mpr h]
  exact List.lookup_cons_self.symm
 ·rw[lookup_cons,beq_eq_false_iff_ne.mpr a]
  by_cases b:z=f
  ·subst b
   show List.lookup z [(z,x)]=_
   rw[List.lookup_cons_self,List.lookup_cons_self]
  ·show List.lookup z [(f,x)]=List.lookup z [(f,x),(g,y)]
   rw[lookup_cons,lookup_cons,beq_eq_false_iff_ne.mpr b]
   show none=List.lookup z [(g,y)]
   rw[lookup_cons,beq_eq_false_iff_ne.mpr a]
   rfl
end Ow
namespace Ow
open PySem PySem.Spec PyProof.Rows L2
def qQ (K:Frag) (j:Nat) (D:Ends) (σ':L2.St):List (Addr×(Addr->Obj->TS))->XK
 | []=>fun _ _ _=>False
 | (C₁,ts)::r=>fun cls dd H2=>(exmOne K cls (.ref C₁)=some true/\∀ (a:Addr) (oe:Obj),oe.cls=cls->oe.dict=dd->PySem.W.notCls oe=true->H2 a=none->ts a oe (endsK j D) (σ'.set j (some (.ref a))) H2)\/(exmOne K cls (.ref C₁)=some false/\qQ K j D σ' r cls dd H2)
inductive HsOk (X:Cx) (n:Str):List ExceptHandler->List (Addr×(Addr->Obj->TS))->Prop where
 | nil {hs:List ExceptHandler}:HsOk X n hs []
 | cons {c:Str} {C₁:Addr} {b₀:Stmt} {suite:List Stmt} {ts:Addr->Obj->TS} {np hpos:Pos} {hs:List ExceptHandler} {l:List (Addr×(Addr->Obj->TS))} (hgc:Gl X c) (hmc:X.mg c=some (.ref C₁)) (hb:∀ (a:Addr) (oe:Obj),Ctx0 oe->PSs (jh X a oe) (b₀::suite) (ts a oe)) (r:HsOk X n hs l) (hdc:(c == ("__debug__":Str))=false:=by decide) :
   HsOk X n (.ExceptHandler (some (.Name c np)) (some n) (b₀::suite) hpos::hs) ((C₁,ts)::l)
section
variable {X:Cx}{j:Nat}{n:Str}
theorem handL {pins:List (Addr×Obj)}{σ:L2.St}{D:Ends}{H2:Hp}{B h5:Heap}{s1 s':Shared}{a:Addr}{a0 cls:Value}{dd:Option Addr}(I:Inv X pins σ H2 { s' with heap:=h5 }) (hst:X.stack=X.env::X.outer) (hfr:X.env.frame=some X.env.locals) (hN:X.N.Nodup) (hj:X.N[j]?=some n) (hnl:X.env.scope.names.lookup n=some .local) (hno:X.xe=fun _ _=>False)
  (inv:∀ (hh:Heap) (sx:Shared),sx.heap=hh->sx.os=s1.os->AllBare sx.gens->B.StaysIn hh->Slots (frs (X.env::X.outer)) s1.heap hh->Inv X pins σ H2 sx) (hos:s'.os=s1.os) (hba:AllBare s'.gens) (noT:∀ hh:Heap,Heap.FlyingW B (X.env::X.outer) a cls a0 hh->a≠X.env.locals/\a∉X.fs) (fl5:Heap.FlyingW B (X.env::X.outer) a cls a0 h5) (D5:OwnD true h5 a dd) (sl5:Slots (frs (X.env::X.outer)) s1.heap h5) (ha0:H2 a=none) :
  ∀ {hs:List ExceptHandler} {l:List (Addr×(Addr->Obj->TS))},HsOk X n hs l->qQ X.K j D σ l cls dd H2->wpAny (model X.prog X.w) X.A (handleBy (.ref a) X.env hs) (SP X pins D) X.xe { s' with heap:=h5 }
 | _,_,.nil,z=>z.elim
 | _,_,.cons (c:=c) (C₁:=C₁) (ts:=tb) hgc hmc hb r hdc,z=>by
  obtain⟨o5,ob5,oc5⟩:=fl5.there
  obtain⟨_,w5,ob5',_,od5,_⟩:=fl5.first
  have I5c:Inv (jh X a o5) pins σ H2 { s' with heap:=h5 }:=jM I ob5 ha0 (noT h5 fl5).1 (noT h5 fl5).2 (fun v z=>by
   rw[ob5] at ob5'
   cases ob5'
   rw[od5] at z
   cases z)
  refine wpAny_handleBy_cons (codeAny_handlers_test (dU I5c hgc hmc ?_ hdc)) (by intro z; cases z)
  have LT:PySem.W.Looks (model X.prog X.w) h5 (typeOf (.ref a)) cls:=oc5 ▸ (PySem.W.Looks.ld ob5).andThen .now
  rcases z with ⟨hm,hsu⟩ | ⟨hm,z⟩
  ·refine(PySem.W.exm_one (K:=X.K) I.kIn LT hm).here ?_
   refine codeAny_handlers_suite_as ?_
   refine eJ (s:={ s' with heap:=h5 }) fl5.1 fl5.2.1 fl5.2.2.1 fl5.2.2.2 D5 fun h6 fl6 D6 up6=>?_
   have I6:Inv X pins σ H2 { s' with heap:=h6 }:=inv h6 _ rfl hos hba fl6.1 (sl5.on fl5.2.2.1 up6)
   obtain⟨o6,w6,ob6,oc6,od6,_⟩:=fl6.first
   obtain⟨dd6,cc6⟩:o6.dict=dd/\Ctx0 o6:=by
    obtain⟨o7,e7,d7,c7⟩:=D6
    rw[ob6] at e7
    cases e7
    exact⟨d7,c7 rfl⟩
   have I6c:Inv (jh X a o6) pins σ H2 { s' with heap:=h6 }:=jM I6 ob6 ha0 (noT h6 fl6).1 (noT h6 fl6).2 (fun v z=>by rw[od6] at z; cases z)
   refine eM (X:=jh X a o6) I6c hN hj (.inl hnl) (v:=.ref a) rfl (fun s7 I7=>?_) (.inr hnl)
   refine wpAny_mono (hb a o6 cc6 pins s7 _ H2 _ I7 (hsu a o6 oc6 dd6 (by unfold PySem.W.notCls; rw[od6]) ha0)) (fun fw s8 q8=>?_) fun ex s8 q8=>?_
   ·cases fw with
    | ret u =>
     obtain⟨v,σ8,H8,I8,r8,q8⟩:=q8
     obtain⟨m8,n8,_⟩:=I8.loc
     refine wpAny_nameGoes (env:=X.env) hnl n8 (by rw[I.ok.kind]; rfl) fun h9 m9 n9 sb=>?_
     exact⟨v,_,H8,rf I8 I.ok n9 sb,r8,q8⟩
    | next =>
     obtain⟨σ8,H8,I8,q8⟩:=q8
     obtain⟨m8,n8,l8⟩:=I8.loc
     refine wpAny_nameGoes_keeps (env:=X.env) hnl n8 (by rw[I.ok.kind]; rfl) fun h9 v9 n9 sb=>?_
     exact⟨_,H8,pw I8 I.ok hN hj l8 n9 sb,q8⟩
    | brk=>obtain⟨_,_,_,z⟩:=q8; exact False.elim z
    | cont=>obtain⟨_,_,_,z⟩:=q8; exact False.elim z
   ·have z:X.xe ex s8:=q8
    rw[hno] at z
    exact False.elim z
  ·refine(PySem.W.exm_one (K:=X.K) I.kIn LT hm).here ?_
   exact handL I hst hfr hN hj hnl hno inv hos hba noT fl5 D5 sl5 ha0 r z
theorem landL {pins:List (Addr×Obj)}{σ:L2.St}{H1:Hp}{s1 s':Shared}{D:Ends}{ev:Value}{hs:List ExceptHandler}{l:List (Addr×(Addr->Obj->TS))}(I:Inv X pins σ H1 s1) (hq:CX2c true X.prog X.w X.base X.stack H1 s1 (qQ X.K j D σ l) ev s') (hst:X.stack=X.env::X.outer) (hfr:X.env.frame=some X.env.locals)
  (hN:X.N.Nodup) (hj:X.N[j]?=some n) (hnl:X.env.scope.names.lookup n=some .local) (hok:HsOk X n hs l) (hno:X.xe=fun _ _=>False) :
  wpAny (model X.prog X.w) X.A (noteFrame ev X.env) (fun _ s₂=>wpAny (model X.prog X.w) X.A (setFlight ev none) (fun _ s₃=>wpAny (model X.prog X.w) X.A (handleBy ev X.env hs) (SP X pins D) X.xe s₃) X.xe s₂) X.xe s':=by
 obtain⟨a,cls,a0,B,H2,dd,rfl,hos,hba,G,sl,fl,ha0,D0,hw⟩:=hq
 have frm:X.A.frames=some (X.env::X.outer):=hst ▸ I.ok.frames
 rw[hst] at fl
 have sl':Slots (frs (X.env::X.outer)) s1.heap s'.heap:=hst ▸ sl
 refine oR frm hfr fl D0 fun h4 hd4 D4 up4=>?_
 refine eJ hd4.1 hd4.2.1 hd4.2.2.1 hd4.2.2.2 D4 fun h5 fl5 D5 up5=>?_
 have sl5:=(sl'.on fl.2.2.1 up4).on hd4.2.2.1 up5
 have inv:∀ (hh:Heap) (sx:Shared),sx.heap=hh->sx.os=s1.os->AllBare sx.gens->B.StaysIn hh->Slots (frs (X.env::X.outer)) s1.heap hh->Inv X pins σ H2 sx:=fun hh sx e1 e2 e3 e4 e5=>by
  refine I.call' (ch:=[]) e2 ?_ ?_ e3 fun b z=>nomatch z
  ·rw[e1]; exact G.un e4 (hst ▸ e5)
  ·rw[e1]; exact G.hok.kept e4
 have I5:Inv X pins σ H2 { s' with heap:=h5 }:=inv h5 _ rfl hos hba fl5.1 sl5
 have noT:∀ hh:Heap,Heap.FlyingW B (X.env::X.outer) a cls a0 hh->a≠X.env.locals/\a∉X.fs:=fun hh flx=>by
  obtain⟨oe,ws,e1,_,e2,_⟩:=flx.first
  have key:∀ b∈frs (X.env::X.outer),a≠b:=fun b hb z=>by
   obtain⟨_,o,e3,d⟩:=flx.2.2.1.mem hb
   rw[<- z,e1] at e3
   cases e3
   exact d _ e2
  have mL:X.env.locals∈frs (X.env::X.outer):=List.mem_filterMap.mpr ⟨X.env,mem_cons_self ..,hfr⟩
  refine⟨key _ mL,fun z=>key a ?_ rfl⟩
  obtain⟨en,he,hf⟩:=List.mem_filterMap.mp z
  exact List.mem_filterMap.mpr ⟨en,mem_cons_of_mem _ he,hf⟩
 exact handL I5 hst hfr hN hj hnl hno inv hos hba noT fl5 D5 sl5 ha0 hok hw
end
def tTryL (K:Frag) (j:Nat) (l:List (Addr×(Addr->Obj->TS))) (tb:(L2.St->XK)->TS):TS:=fun D σ H=>tb (fun σ'=>qQ K j D σ' l) D σ H
theorem ps_tryYL {X:Cx}{j:Nat}{n:Str}{h₀:ExceptHandler}{hs:List ExceptHandler}{l:List (Addr×(Addr->Obj->TS))}{body:List Stmt}{tb:(L2.St->XK)->TS}{tpos:Pos}(hbd:∀ pins E,PSs (tryCy X pins E) body (tb E)) (hN:X.N.Nodup)
  (hj:X.N[j]?=some n) (hnl:X.env.scope.names.lookup n=some .local) (hok:HsOk X n (h₀::hs) l) (hno:X.xe=fun _ _=>False:=by rfl) (hst:X.stack=X.env::X.outer:=by rfl) (hfr:X.env.frame=some X.env.locals:=by rfl):PS X (.Try body (h₀::hs) [] [] tpos) (tTryL X.K j l tb):=by
 intro pins s σ H D I ht
 refine wpAny_Try_except (wpAny_mono (hbd pins (fun σ'=>qQ X.K j D σ' l) [] s σ H D ((p7 I).wish _) ht) (fun fl s1 q=>?_) fun ev s1 q=>?_)
 ·cases fl with
  | next=>obtain⟨σ',H',I',q⟩:=q; exact wpAny_execs_nil ⟨σ',H',d5 I.ok I'.unwish,q⟩
  | brk=>obtain⟨σ',H',I',q⟩:=q; exact⟨σ',H',d5 I.ok I'.unwish,q⟩
  | cont=>obtain⟨σ',H',I',q⟩:=q; exact⟨σ',H',d5 I.ok I'.unwish,q⟩
  | ret u=>obtain⟨v,σ',H',I',r,q⟩:=q; exact⟨v,σ',H',d5 I.ok I'.unwish,r,q⟩
 ·obtain⟨pins2,σ2,H2,s2,I2,hq⟩:=q
  exact landL (d5 I.ok I2) hq hst hfr hN hj hnl hok hno
end Ow
namespace Ow
open PySem PySem.Spec PyProof.Rows L2
theorem iZ {K:Frag}{C D:Addr}(h1:isClsIn K D=true) (h2:typeIn K (.ref D)=some (.type "type")) (h3:mroIn K C (.ref D)=some false) (h4:mroIn K D (.type "BaseException")=some true):exmOne K (.ref C) (.ref D)=some false:=by
 unfold exmOne
 have e:PySem.W.subIn K (.ref D) (.type "BaseException")=some true:=h4
 rw[e,if_pos (by rw[beq_self_eq_true])]
 exact rJ h1 h2 h3
theorem slE {X:Cx}{b:List Stmt}{R:TS->Prop}(h:∃ t,Sl (PSs X b t)/\R t):∃ t,PSs X b t/\R t:=let ⟨t,a,r⟩:=h; ⟨t,a.out,r⟩
end Ow
namespace Ow
open PySem PySem.Spec PyProof.Rows L2
theorem cC {p:Prop}(h:p):Sl p:=⟨h⟩
section
variable {X:Cx}{st:Stmt}{rest body:List Stmt}{t u tb:TS}{e:Expr}{es:List Expr}{te:TE}{ta:TA}{pos:Pos}
theorem be:Sl (PSs X [] tNext):=⟨aB⟩
theorem aI (h:Sl (PS X st t)):Sl (PSs X [st] t):=⟨aq h.out⟩
theorem ax (h1:Sl (PS X st t)) (h2:Sl (PSs X rest u)):Sl (PSs X (st::rest) (tSeq t u)):=⟨ah h1.out h2.out⟩
theorem dP (h1:Sl (PS X st t)) (h2:Sl (PSs X rest u)):Sl (PSs X (st::rest) (tJoin t u)):=⟨gg h1.out h2.out⟩
theorem cG {c:Expr}{a b:List Stmt}{tc:TT}(hc:PT X c tc) (ha:Sl (PSs X a t)) (hb:Sl (PSs X b u)):Sl (PS X (.If c a b pos) (tIfS tc t u)):=⟨aV hc ha.out hb.out⟩
theorem dE {tg iter:Expr}{wi:TI}{g:TG}(hp:PassesOwn (model X.prog X.w) X.A X.env X.xe) (hc:X.calm=true) (hi:PI X tg iter wi) (hg:PG X tg g) (hb:Sl (PSs X body tb)) (hs:∀ x,foldedSetIterable iter X.env x=pure x:=by intro _; rfl):Sl (PS X (.For tg iter body [] pos) (tFor wi g tb)):=⟨d6 hp hc hi hg hb.out hs⟩
theorem j9 (he:Sl (PE X e te)) (hs:swapsWith e none pos.line X.env=pure false:=by rfl):Sl (PS X (.Expr e pos) (tDrop te)):=⟨bf he.out hs⟩
theorem oF {T id:String}{name:Str}{o:Expr}{to:TE}{r:V->List V->Hp->(V->Hp->Prop)->Prop}{cpos apos:Pos}(pa:PlainAttrs T) (slot:Slot T name id) (hty:typeOf (.builtin id)=pure (.type "method_descriptor")) (hm:MtR X id r) (ho:PE X o to) (ha:Sl (PA X (e::es) ta))
  (hbase:attributeBase o name X.env (eval o X.env)=eval o X.env:=by rfl)
  (hfew:((backTo cpos (starEach (e::es) X.env)).all (fun x=>!x.1)&&(backToKw cpos (keywordEach [] X.env)).all (fun x=>x.1.isSome)
  &&decide ((e::es).length+([]:List Keyword).length+(if ([]:List Keyword).isEmpty then 0 else 1)<30))=true:=by rfl)
  (hline:(apos.endLine == cpos.line)=true:=by rfl) (hs:starEach (e::es) X.env=(false,eval e X.env)::starEach es X.env:=by rfl) (hplain:(backTo cpos (starEach es X.env)).any (·.1)=false:=by rfl) :
  Sl (PE X (.Call (.Attribute o name apos) (e::es) [] cpos) (tBM X.K T r to ta)):=⟨dO pa slot hty hm ho ha.out hbase hfew hline hs hplain⟩
theorem bR (ha:Sl (PE X e te)) (hr:Sl (PA X es ta)) (hn:jW e=true:=by rfl):Sl (PA X (e::es) (tCons te ta)):=⟨aO ha.out hr.out hn⟩
theorem fB {x1:Nat}(h:Sl (PA X es ta)):Sl (PE X (.Tuple es x1 pos) (tTup ta)):=⟨aP h.out⟩
theorem gu {a b:Expr}{op:Operator}{r:R2}{t1 t2:TE}(hr:OpR X (binaryOp op) r) (ha:Sl (PE X a t1)) (hb:Sl (PE X b t2)):Sl (PE X (.BinOp a op b pos) (tOp r t1 t2)):=⟨aJ hr ha.out hb.out⟩
end
end Ow
namespace Ow
open PySem PySem.Spec PyProof.Rows L2
theorem comp_str {z:Str}{D:Addr}{te':TE}{tl:L2.St}{G:Hp->Prop}{H1:Hp}(Pv:Nat->Hp->Prop) (h0:Pv 0 (upd H1 D (.lst [])))
  (hs:∀ i c H,z.cps[i]?=some c->Pv i H->te' (some (.str ⟨#[c]⟩)::tl) H fun y H2=>∃ ys,H2 D=some (.lst ys)/\ys.length<sizeLine/\∃ m',m'<z.cps.size-i/\(m'=z.cps.size-(i+1)/\i+1<=z.cps.size/\Pv (i+1) (upd H2 D (.lst (ys++[y])))))
  (hd:∀ H,Pv z.cps.size H->G H) :
  ∃ W:Nat->Nat->Hp->Prop,(∃ m,W 0 m (upd H1 D (.lst [])))/\∀ i m H,W i m H ->
   ((Its z).stop i H/\G H)\/((Its z).go i H/\∀ x H',(Its z).yld i H x H'->te' (some x::tl) H' fun y H2=>∃ ys,H2 D=some (.lst ys)/\ys.length<sizeLine/\∃ m',m'<m/\W (i+1) m' (upd H2 D (.lst (ys++[y])))):=by
 refine⟨fun i m H=>m=z.cps.size-i/\i<=z.cps.size/\Pv i H,⟨z.cps.size,by simp,zero_le _,h0⟩,?_⟩
 rintro i m H ⟨rfl,hi,p⟩
 by_cases hlt:i<z.cps.size
 ·refine .inr ⟨hlt,fun x H' y=>?_⟩
  obtain⟨e,c,hc,ex⟩:=y
  subst e ex
  exact hs i c _ hc p
 ·have e:i=z.cps.size:=by omega
  subst e
  exact .inl ⟨le_refl _,hd H p⟩
theorem pe_globS {X:Cx}{x v:Str}{pos:Pos}(hg:Gl X x) (hm:∃ t,X.mg x=some (.str v t)) (hd:(x == ("__debug__":Str))=false:=by decide):PE X (.Name x pos) (tC (.str v)):=by
 obtain⟨t,h⟩:=hm
 exact nK (v:=.str v) hg h ⟨t,rfl⟩ hd
end Ow
namespace Ow
open PySem PySem.Spec PyProof.Rows L2
section
variable {X:Cx}
end
end Ow
namespace Ow
open PySem PySem.Spec PyProof.Rows L2
theorem iH {X:Cx}{x:Str}{v:Int}{pos:Pos}(hg:Gl X x) (hm:∃ t,X.mg x=some (.int v t)) (hd:(x == ("__debug__":Str))=false:=by decide):PE X (.Name x pos) (tC (.int v)):=by
 obtain⟨t,h⟩:=hm
 exact nK (v:=.int v) hg h ⟨t,rfl⟩ hd
end Ow
namespace Ow
open PySem PySem.Spec PyProof.Rows L2
end Ow
namespace Ow
open PySem PySem.Spec PyProof.Rows L2
section
variable {X:Cx}
theorem mt_find:MtM X "str.find" (fun x vs H Q=>∃ z y:Str,x=.str z/\vs=[.str y]/\Q (.int (Txt.find z y)) H):=by
 intro pins s σ H x vs v us Q I rx rv h
 obtain⟨z,y,rfl,rfl,q⟩:=h
 obtain⟨t,rfl⟩:=rx
 obtain⟨u,rfl,t2,rfl⟩:=rv.one
 exact SC.find ⟨.int _,H,I.tok _,⟨_,rfl⟩,q⟩
theorem mt_part:MtM X "str.partition" (fun x vs H Q=>∃ z y:Str,x=.str z/\vs=[.str y]/\(y.length == 0)=false/\z.length<=sizeLine/\∀ t,H t=none->Q (.ref t) (upd H t (.tup [.str (Txt.partition z y).1,.str (Txt.partition z y).2.1,.str (Txt.partition z y).2.2]))):=by
 intro pins s σ H x vs v us Q I rx rv h
 obtain⟨z,y,rfl,rfl,hy,hz,q⟩:=h
 obtain⟨t,rfl⟩:=rx
 obtain⟨u,rfl,t2,rfl⟩:=rv.one
 have key:∀ (p1 p2 p3:Str) (ta tb tc k:Nat),(∀ a,H a=none->Q (.ref a) (upd H a (.tup [.str p1,.str p2,.str p3])))->EP X pins σ Q (.ref s.heap.objs.size) { s with heap:=s.heap.push { cls:=.type "tuple",data:=.seq [.str p1 ta,.str p2 tb,.str p3 tc].toArray },toks:=k }:=fun p1 p2 p3 ta tb tc k q =>
  ⟨.ref s.heap.objs.size,_,I.laid (a:=s.heap.objs.size) (o:=.tup [.str p1,.str p2,.str p3]) (t':=k) (fun b o e=>Heap.get?_push_of_some _ e) (le_refl _) ⟨by show 3<=sizeLine; decide,_,.cons ⟨_,rfl⟩ (.cons ⟨_,rfl⟩ (.cons ⟨_,rfl⟩ .nil)),_,Heap.get?_push_size _ rfl,rfl,_,rfl⟩,rfl,q _ (I.hok.fresh (le_refl _))⟩
 refine call_meets PySem.F.slot_str_partition (typeIs_str _ _ _) PySem.F.entry_str_partition (PySem.F.args_str_partition_2 _ _) (meets_str_partition z y t t2 hy hz) ?_
 revert q
 unfold Txt.partition
 cases Builtin.Str.occurrences z y 0 z.length 1 with
 | nil=>intro q; exact key _ _ _ _ _ _ _ q
 | cons i r=>intro q; exact key _ _ _ _ _ _ _ q
theorem dm:fD X (.type "str") (fun xs H Q=>∃ i:Int,xs=[.int i]/\-1000000000000000000<=i/\i<=1000000000000000000/\Q (.str (Str.ofString (toString i))) H):=by
 intro pins s σ H xs us Q I r h
 obtain⟨i,rfl,i0,i1,q⟩:=h
 obtain⟨u,rfl,t,rfl⟩:=kM r
 exact str_of_int_fit (N:=4611686018427387904) (by split <;> omega) (by omega) fun _=>⟨.str _,H,I.tok _,⟨_,rfl⟩,q⟩
end
end Ow
namespace Ow
open PySem PySem.Spec PyProof.Rows L2
def FB (K:Frag) (x q:Str) (st:Stmt) (f:Addr):Prop:=∃ (oc kV dc pm cd ct:Value) (od an:Option Addr) (sl:Array (Option Value)),K.lookup f=some ⟨oc,od,.func (fnOf x q (eu st) (c9 st) (av st) .none kV dc pm an cd ct),sl⟩/\codeIn K cd q=true/\keepIn K (.ref f)=true
theorem FB.of {K:Frag}{x q:Str}{st:Stmt}{f:Addr}{oc kV dc pm cd ct:Value}{od an:Option Addr}{sl:Array (Option Value)}(a:K.lookup f=some ⟨oc,od,.func (fnOf x q (eu st) (c9 st) (av st) .none kV dc pm an cd ct),sl⟩) (b:codeIn K cd q=true) (c:keepIn K (.ref f)=true):FB K x q st f:=⟨oc,kV,dc,pm,cd,ct,od,an,sl,a,b,c⟩
theorem FB.fn {K:Frag}{x q:Str}{st:Stmt}{f:Addr}(h:FB K x q st f):∃ fd,Fun K x q st f fd/\keepIn K (.ref f)=true:=by
 obtain⟨oc,kV,dc,pm,cd,ct,od,an,sl,l,c,k⟩:=h
 exact⟨_,fun_mk (st:=st) l c k,k⟩
def AllV:Nat->(List Value->Prop)->Prop
 | 0,p=>p []
 | n+1,p=>∀ u,AllV n fun us=>p (u::us)
theorem allV:∀ (n:Nat) (p:List Value->Prop),AllV n p->∀ us:List Value,us.length=n->p us
 | 0,_,h,[],_=>h
 | n+1,_,h,u::us,e=>allV n _ (h u) us (Nat.succ.inj e)
theorem FB.bs {K:Frag}{x q:Str}{st:Stmt}{f:Addr}(l:FB K x q st f) (ps:List Str) (h:∀ (kV doc pm:Value) (an:Option Addr) (cdv ct:Value),AllV ps.length fun us=>bindArgs (fnOf x q (eu st) (c9 st) (av st) .none kV doc pm an cdv ct) ⟨us,[]⟩=pure (ps.zip us)):∃ fd,Fun K x q st f fd/\keepIn K (.ref f)=true/\Binds K fd ps []:=by
 obtain ⟨fd,F,k⟩:=l.fn
 exact ⟨fd,F,k,F.binds fun kV d p an cd ct us hl=>allV _ _ (h kV d p an cd ct) us hl⟩
end Ow
namespace L2
open PySem PySem.Spec PyProof.Rows
theorem gk:∀ (ys:List Str) (k:Nat),Vals (ys.map V.str) (strsFrom k ys)
 | [],_=>.nil
 | _::r,k=>.cons ⟨_,rfl⟩ (gk r (k+1))
theorem jc {X:Cx}:MtM X "str.split" (fun x vs H Q=>∃ z y:Str,x=.str z/\vs=[.str y]/\y.length≠0/\z.length+2<=sizeLine/\∀ l,H l=none->Q (.ref l) (upd H l (.lst ((Txt.split z y).map V.str)))):=by
 intro pins s σ H x vs v us Q I rx rv h
 obtain⟨z,y,rfl,rfl,hy,hz,q⟩:=h
 obtain⟨t,rfl⟩:=rx
 obtain⟨u,rfl,ru⟩:=rv.one
 obtain⟨t',rfl⟩:=ru
 have hy':(y.length == 0)=false:=beq_eq_false_iff_ne.mpr hy
 have lens:(Txt.split z y).length<=z.length+2:=by
  have:=len_le_of_split (l:=(Txt.split z y).map fun x=>(x,0)) (x:=z) (y:=y) (by rw[map_map]; exact List.map_id' _)
  rw[length_map] at this
  exact this
 have fin:∀ (ys:List Str) (tk:Nat),ys=Txt.split z y->∀ vals,Vals (ys.map V.str) vals->∃ (x:V) (H':Hp),Inv X pins σ H' { s with heap:=s.heap.push { cls:=Value.type "list",data:=Data.seq vals.toArray },toks:=tk }/\RelV x (.ref s.heap.objs.size)/\Q x H':=by
  intro ys tk e vals rvs
  subst e
  exact⟨.ref s.heap.objs.size,_,I.laid (t':=tk) (fun b o e=>Heap.get?_push_of_some _ e) (le_refl _) (show ObjOk X.prog X.w _ _ _ (.lst _) from ⟨by rw[length_map]; omega,_,0,rvs,Heap.get?_push_size _ rfl⟩),rfl,q _ (I.hok.fresh (le_refl _))⟩
 by_cases c1:(decide (z.length<y.length) || decide (Builtin.Str.strKind z<Builtin.Str.strKind y))=true
 ·refine call_meets F.slot_str_split (typeIs_str s z t) F.entry_str_split (F.args_str_split_2 _ _) (meets_str_split_cannot_occur z y t t' c1) ?_
  exact fin [z] s.toks (by unfold Txt.split; rw[if_pos c1]) [.str z t] (.cons ⟨_,rfl⟩ .nil)
 ·have c1':=Bool.eq_false_iff.mpr c1
  by_cases c2:(Builtin.Str.occurrences z y 0 z.length (z.length+1)).isEmpty=true
  ·refine call_meets F.slot_str_split (typeIs_str s z t) F.entry_str_split (F.args_str_split_2 _ _) (meets_str_split_not_found z y t t' c1' hy' c2) ?_
   exact fin [z] s.toks (by unfold Txt.split; rw[if_neg c1,if_pos c2]) [.str z t] (.cons ⟨_,rfl⟩ .nil)
  ·have e:Txt.split z y=Builtin.Str.partsBetween z (Builtin.Str.occurrences z y 0 z.length (z.length+1)) y.length:=by unfold Txt.split; rw[if_neg c1,if_neg c2]
   refine call_meets F.slot_str_split (typeIs_str s z t) F.entry_str_split (F.args_str_split_2 _ _) (meets_str_split_sep z y t t' c1' hy' (Bool.eq_false_iff.mpr c2) (by omega) (by rw[<- e]; omega)) ?_
   exact fin _ _ e.symm _ (gk _ _)
end L2
namespace Ow
open PySem
theorem fE {a b:Str}(h:a.cps.toList=b.cps.toList):a=b:=by
 cases a; cases b
 exact congrArg Str.mk (Array.toList_inj.mp h)
theorem sj {c:Nat}:∀ {p q a b:List Nat},c∉p->c∉q->p++c::a=q++c::b->p=q/\a=b
 | [],[],_,_,_,_,e=>⟨rfl,by injection e⟩
 | [],y::q,_,_,_,hq,e=>by injection e with e1 _; exact absurd (by rw[e1]; exact mem_cons_self ..) hq
 | x::p,[],_,_,hp,_,e=>by injection e with e1 _; exact absurd (by rw[<- e1]; exact mem_cons_self ..) hp
 | x::p,y::q,a,b,hp,hq,e=>by
  injection e with e1 e2
  obtain⟨h1,h2⟩:=sj (fun z=>hp (mem_cons_of_mem _ z)) (fun z=>hq (mem_cons_of_mem _ z)) e2
  exact⟨by rw[e1,h1],h2⟩
theorem cu (s y z:Str) (r:List Str):(s.join (y::z::r)).cps.toList=y.cps.toList++(s.cps.toList++(s.join (z::r)).cps.toList):=by
 show ((y.cps++s.cps)++(s.join (z::r)).cps).toList=_
 simp
theorem o9 {c:Nat}:∀ {ps qs:List Str},ps≠[]->qs≠[]->(∀ p∈ps,c∉p.cps.toList)->(∀ p∈qs,c∉p.cps.toList)->(Str.join ⟨#[c]⟩ ps).cps.toList=(Str.join ⟨#[c]⟩ qs).cps.toList->ps=qs
 | [],_,h,_,_,_,_=>absurd rfl h
 | _,[],_,h,_,_,_=>absurd rfl h
 | [p],[q],_,_,_,_,e=>by rw[fE (show p.cps.toList=q.cps.toList from e)]
 | [p],q::z::r,_,_,hp,_,e=>by
  rw[cu] at e
  exact absurd (by rw[show p.cps.toList=_ from e]; simp) (hp p (mem_cons_self ..))
 | p::z::r,[q],_,_,_,hq,e=>by
  rw[cu] at e
  exact absurd (by rw[<- show _=q.cps.toList from e]; simp) (hq q (mem_cons_self ..))
 | p::y::r,q::z::t,_,_,hp,hq,e=>by
  rw[cu,cu] at e
  obtain⟨h1,h2⟩:=sj (hp p (mem_cons_self ..)) (hq q (mem_cons_self ..)) (show p.cps.toList++c::_=q.cps.toList++c::_ from e)
  rw[fE h1,o9 (by simp) (by simp) (fun w hw=>hp w (mem_cons_of_mem _ hw)) (fun w hw=>hq w (mem_cons_of_mem _ hw)) h2]
theorem io {c:Nat}{ps:List Str}(hne:ps≠[]) (hf:∀ p∈ps,c∉p.cps.toList):Txt.split (Txt.join ⟨#[c]⟩ ps) ⟨#[c]⟩=ps:=by
 have e:Txt.join ⟨#[c]⟩ ps=Str.join ⟨#[c]⟩ ps:=PySem.StrLaws.glued_eq_join _ _
 have j:=PySem.StrLaws.join_split (Txt.join ⟨#[c]⟩ ps) ⟨#[c]⟩
 refine o9 ?_ hne (fun p hp=>PySem.StrLaws.split_free _ c p hp) hf ?_
 ·have:=PyProof.Rows.split_pos (Txt.join ⟨#[c]⟩ ps) ⟨#[c]⟩
  intro z
  rw[z] at this
  cases this
 ·rw[j,e]
end Ow
namespace L2
open PySem PySem.Spec PyProof.Rows Ow
def rEqLS (K:Frag) (neg:Bool):R2:=fun x y H Q=>∃ (p q:Addr) (as bs:List Str),x=.ref p/\y=.ref q/\SqL K H p (as.map V.str)/\SqL K H q (bs.map V.str)/\Q (.bl (if neg then !decide (as=bs) else decide (as=bs))) H
theorem lW (as:List Str) (j:Nat) (h:j<as.length):eS ((as.map V.str).getD j .non)=true:=by
 rw[getD_eq_getElem?_getD,List.getElem?_map,List.getElem?_eq_getElem h]; rfl
theorem eq_strs {as bs:List Str}(h:as.length=bs.length):(List.range (as.map V.str).length).all (fun j=>eqV ((as.map V.str).getD j .non) ((bs.map V.str).getD j .non))=decide (as=bs):=by
 rw[length_map]
 by_cases e:as=bs
 ·subst e
  rw[decide_eq_true rfl,List.all_eq_true]
  intro j hj
  have hj:=List.mem_range.mp hj
  rw[getD_eq_getElem?_getD,List.getElem?_map,List.getElem?_eq_getElem hj]
  simp[eqV]
 ·rw[decide_eq_false e]
  refine Bool.eq_false_iff.mpr fun z=>e (List.ext_getElem h fun j h1 h2=>?_)
  have:=List.all_eq_true.mp z j (List.mem_range.mpr h1)
  rw[getD_eq_getElem?_getD,getD_eq_getElem?_getD,List.getElem?_map,List.getElem?_map,List.getElem?_eq_getElem h1,List.getElem?_eq_getElem h2] at this
  simpa [eqV] using this
theorem kx {X:Cx}(hu:X.A.units<cLine):OpR X (compareOp .Eq) (rEqLS X.K false):=by
 intro pins s σ H x y v u Q I rx ry h
 obtain⟨p,q,as,bs,rfl,rfl,hp,hq,k⟩:=h
 cases rx
 cases ry
 obtain⟨its,r,pl,_⟩:=I.list hp
 obtain⟨its2,r2,pl2,_⟩:=I.list hq
 have hl:=r.length
 have hl2:=r2.length
 by_cases hle:as.length=bs.length
 ·refine SeqAt.eq_listAt (e:=fun j=>eqV ((as.map V.str).getD j .non) ((bs.map V.str).getD j .non)) pl.isList pl2.isList (by simp only[size_toArray]; rw[length_map] at hl hl2; omega) hu (fun j h1 h2=>?_) ⟨.bl _,H,I,rfl,?_⟩
  ·have h1':j<its.length:=by simpa using h1
   have h2':j<its2.length:=by simpa using h2
   rw[length_map] at hl hl2
   have z:=qW (A:=X.A.in1) (s:=s) (df r h1') (df r2 h2') (lW as j (by omega)) (lW bs j (by omega))
   simpa using z
  ·simp only[size_toArray,<- hl]
   rw[eq_strs hle]
   exact k
 ·refine SeqAt.eq_list_lengthsAt pl.isList pl2.isList (by simp only[size_toArray]; rw[length_map] at hl hl2; exact bne_iff_ne.mpr (by omega)) hu ⟨.bl _,H,I,rfl,?_⟩
  have e:decide (as=bs)=false:=decide_eq_false fun z=>hle (by rw[z])
  rw[if_neg Bool.false_ne_true,e] at k
  exact k
end L2
namespace L2
open PySem PySem.Spec PyProof.Rows
theorem Inv.retell {X:Cx}{pins:List (Addr×Obj)}{σ:St}{H:Hp}{s:Shared}{a:Addr}{φ:Heap->Prop}{o:HO}(I:Inv X pins σ H s) (ha:H a=some (.ext φ)) (new:ObjOk X.prog X.w (upd H a o) s.heap a o):Inv X pins σ (upd H a o) s :=
 I.call' (ch:=[]) rfl
  ⟨fun _ _ q _ _ _=>q,fun _ u q _ _ _=>⟨u.slots,q⟩,fun b _ _ n _=>by rw[af (fun z=>by rw[z,ha] at n; cases n)]; exact n,fun _ u q _=>⟨u,q⟩,
   fun b xs q=>by rw[af (fun z=>by rw[z,ha] at q; cases q)]; exact q,fun b u xs q=>by rw[af (fun z=>by rw[z,ha] at q; cases q)]; exact q,
   fun b ps q=>⟨#[],by rw[af (fun z=>by rw[z,ha] at q; cases q),q]; simp⟩⟩
  (fun b u e=>by
   by_cases hb:b=a
   ·subst hb; rw[ac] at e; cases e; exact new
   ·rw[af hb] at e
    exact(I.hok b u e).stay (fun c v _ q=>q) (fun c q=>by rw[af (fun z=>by rw[z,ha] at q; cases q)]; exact q) fun c xs q=>by rw[af (fun z=>by rw[z,ha] at q; cases q)]; exact q) I.bare fun b z=>nomatch z
end L2
namespace Ow
open PySem PySem.Spec PyProof.Rows L2
section
variable {P:Program}{w:World}{K:Frag}{mg:Str->Option Value}{base:Heap}{N:List Str}{qual:Str}{scope:Scope}{fa:Addr}{cdv:Value}{A:Around}{outer:List Env}{s₀:Shared}{H₀:Hp}{E:XK}
def tRaiseN (C:Addr) (fl:List Str) (E:XK) (ta:TA):TS:=fun _ σ H=>ta σ H fun vs H1=>vs.length=fl.length/\vs.length<=100/\∀ d,H1 d=none->E (.ref C) (some d) (upd H1 d (.xd (fl.zip vs)))
theorem dq {k:Nat}{x:Str}{C:Addr}{ps fl:List Str}{np cpos pos:Pos}{e1:Expr}{es:List Expr}{ta:TA}(h:XMk P w K mg base k x C ps fl) (hr:Room (k+1) (gW (CX2 P w base) P w K mg base N qual scope fa cdv A outer s₀ H₀ E).A) (hg:Gl (gW (CX2 P w base) P w K mg base N qual scope fa cdv A outer s₀ H₀ E) x)
  (ha:PA (gW (CX2 P w base) P w K mg base N qual scope fa cdv A outer s₀ H₀ E) (e1::es) ta) (hdb:(x == ("__debug__":Str))=false:=by decide)
  (hst:starEach (e1::es) (gW (CX2 P w base) P w K mg base N qual scope fa cdv A outer s₀ H₀ E).env=(false,eval e1 (gW (CX2 P w base) P w K mg base N qual scope fa cdv A outer s₀ H₀ E).env)::starEach es (gW (CX2 P w base) P w K mg base N qual scope fa cdv A outer s₀ H₀ E).env:=by rfl)
  (hpl:(backTo cpos (starEach es (gW (CX2 P w base) P w K mg base N qual scope fa cdv A outer s₀ H₀ E).env)).any (·.1)=false:=by rfl) :
  PS (gW (CX2 P w base) P w K mg base N qual scope fa cdv A outer s₀ H₀ E) (.Raise (some (.Call (.Name x np) (e1::es) [] cpos)) none pos) (tRaiseN C fl E ta):=by
 intro pins s σ H D I ht
 obtain⟨fI,fd,F,hb,c,hm,hps⟩:=h.ex
 obtain⟨bm,N',nm,qn,bs,sn,sub,ab,col,dd,k0,k1,k2,k3,k5,mN,gC,gN,gi,T⟩:=rR I.ok.mod.kin c.ef
 rw[arm_exec_Raise]
 refine wpAny_bind (wpAny_standAt (pA (C:=C) (nm:=nm) (qn:=qn) (N:=N') (bs:=bs) (bm:=bm) (hdc:=true) (sn:=sn) (sub:=sub) (ab:=ab) (col:=col) (dd:=dd) (k0:=k0) (k1:=k1) (k2:=k2) (k3:=k3) (k5:=k5) (nid:="ValueError.__new__")
  (T.hasType PySem.F.excBase_ValueError.hasBase) (I.ok.hd rfl) (wpAny_bind (wpAny_mono (Q:=fun v s1=>∃ (e t:Addr) (od:Option Addr),v=.ref e/\s1.heap.get? C=some (excClassObj nm qn C N' bs bm true sn sub ab col dd k0 k1 k2 k3 k5 "ValueError.__new__")/\s1.heap.get? e=some ⟨.ref C,od,.fields (exF t),#[]⟩/\(gW (CX2 P w base) P w K mg base N qual scope fa cdv A outer s₀ H₀ E).xe (.ref e) s1) ?_ (fun v s3 h3=>wpAny_bind (wpAny_standAt (wpAny_pure h3))) fun _ _ z=>z))))
 refine wpAny_Call_Name_kw (dU I hg hm ?_ hdb)
 refine PySem.W.callWith_K (h₀:=base) I.ok.mod.kin c.kp (thn (ha cpos pins s σ H _ I ht) fun us s1 ⟨vs,H1,I1,r1,hl,hz,q1⟩=>⟨I1.kIn,?_⟩) hst hpl
 have st1:=I1.bk
 obtain⟨oI,gf,cf⟩:∃ oI,s1.heap.get? fI=some oI/\oI.cls=.type "function":=by
  obtain⟨oI,e1,e2⟩:=Option.map_eq_some_iff.mp c.fn
  exact⟨oI,I1.kIn _ _ e1,e2⟩
 obtain⟨hh,g,dr,tk,os⟩:=s1
 have ge:((hh.push (exTN us)).push { cls:=.ref C,data:=.fields (exF hh.objs.size) }).get? (hh.objs.size+1)=some { cls:=.ref C,data:=.fields (exF hh.objs.size) }:=by
  have z:=Heap.get?_push_size (hh.push (exTN us)) (o:={ cls:=.ref C,data:=.fields (exF hh.objs.size) }) rfl
  rwa [Heap.size_push] at z
 have He:H1 (hh.objs.size+1)=none:=I1.hok.fresh (Nat.le_succ _)
 have I2:=I1.laid (a:=hh.objs.size+1) (o:=xO (hh.objs.size+1) C hh.objs.size none) (h':=(hh.push (exTN us)).push { cls:=.ref C,data:=.fields (exF hh.objs.size) }) (t':=tk) (fun b o q=>Heap.get?_push_of_some _ (Heap.get?_push_of_some _ q)) (Nat.le_succ _) (xO_ok ge)
 have lus:us.length=fl.length:=by rw[<- r1.length]; exact hl
 have bd:=hb _ (.ref (hh.objs.size+1)::us) I2.kIn (by rw[append_nil,length_cons,lus,hps])
 rw[append_nil] at bd
 refine qm (us:=us) (T.keeps st1) (st1 _ _ gC) (gN.keeps st1) gi gf cf (by rw[sizeLine_eq]; have:=r1.length; omega) (wpAny_call (codeAny_mono (F.run _ (gW (CX2 P w base) P w K mg base N qual scope fa cdv A outer s₀ H₀ E).stack _ _ ⟨.ref (hh.objs.size+1)::us,[]⟩ (.ref (hh.objs.size+1)::us) (.ref (hh.objs.size+1)::vs)
  (fun y H3=>y=.non/\∃ d fs,H1 d=none/\d≠hh.objs.size+1/\H3 d=some (xW d fs)/\(∀ g,fs.lookup g=(fl.zip vs).lookup g)/\H3 (hh.objs.size+1)=some (xO (hh.objs.size+1) C hh.objs.size (some d))/\∀ b,b≠d->b≠hh.objs.size+1->H3 b=H1 b) E0 (hr.make C us [])
  (I2.env0.make C us []) bd (.cons rfl r1) ⟨_,_,vs,rfl,hl,ac ..,fun d fs H' hd ne h1 h2 h3 h4=>⟨rfl,d,fs,by rw[af ne] at hd; exact hd,ne,h1,h2,h3,fun b b1 b2=>by rw[h4 b b1 b2,af b2]⟩⟩) fun r s' hq=>?_))
 cases r with
 | error e=>exact False.elim hq
 | ok fl' =>
  cases fl' with
  | ret u' =>
   obtain⟨y,H3,I3,ry,rfl,d,fs,hd,ne,h1,h2,h3,h4⟩:=I2.after hq
   obtain⟨mA,n1,rel,_⟩:=(I3.hok d _ h1).1
   have I4:=I3.retell (o:=.xd (fl.zip vs)) h1 ⟨mA,n1,fun g=>by rw[<- h2 g]; exact rel g⟩
   have he4:upd H3 d (.xd (fl.zip vs)) (hh.objs.size+1)=some (xO (hh.objs.size+1) C hh.objs.size (some d)):=by rw[af (Ne.symm ne)]; exact h3
   refine⟨ry,hh.objs.size+1,hh.objs.size,some d,rfl,I3.bk _ _ gC,(I3.hok _ _ h3).1,?_⟩
   refine pI I4 he4 ?_ ?_
   ·refine Heap.get?_none_of_le (Nat.le_trans I1.sz (Nat.le_succ _))
   ·have e3:drop (upd H3 d (.xd (fl.zip vs))) (hh.objs.size+1)=upd H1 d (.xd (fl.zip vs)):=by
     funext b
     by_cases hb:b=hh.objs.size+1
     ·rw[hb,fZ,af (Ne.symm ne),He]
     ·rw[kJ hb]
      by_cases hbd:b=d
      ·rw[hbd,ac,ac]
      ·rw[af hbd,af hbd,h4 b hbd hb]
    rw[e3]
    exact q1 d hd
  | next=>exact False.elim hq
  | brk=>exact False.elim hq
  | cont=>exact False.elim hq
end
end Ow
namespace L2
open PySem PySem.Spec PyProof.Rows
theorem sw {X:Cx}:fD X (.builtin "len") (fun xs H Q=>∃ a kvs,xs=[V.ref a]/\H a=some (.dK kvs)/\Q (.int kvs.length) H):=by
 intro pins s σ H xs us Q I r ⟨a,kvs,ex,ha,q⟩
 subst ex
 obtain⟨u,rfl,ru⟩:=r.one
 cases (show u=Value.ref a from ru)
 exact d_len I (.inl ha) fun t s' I'=>⟨.int kvs.length,H,I',⟨t,rfl⟩,q⟩
end L2
namespace L2
open PySem PySem.Spec PyProof.Rows
abbrev cg (h:Heap) (z TI TO:Addr) (f0 f1:Value):Prop:=h.get? z=some { cls:=.type "zip",dict:=none,data:=.fields #[f0,f1,.bool false,.ref TI,.ref TO],slots:=#[] }
section
variable {prog:Program}{w:World}{A:Around}{E:Value->Shared->Prop}{s:Shared}
theorem mB {a:Addr}{h:Heap}:Heap.SameBut a h h:=⟨rfl,fun _ _=>rfl⟩
theorem nu {a:Addr}{Q:Option Obj->Shared->Prop}(h:Q (s.heap.get? a) s):wpAny (model prog w) A (loadIfAlive a) Q E s:=fun _ _ _=>h
theorem ib {z TI TO:Addr}{f0 f1:Value}{Q:Value->Shared->Prop}(hz:cg s.heap z TI TO f0 f1) (h:Q (.ref z) s):wpAny (model prog w) A (pyIter (.ref z)) Q E s:=by
 have hT:s.TypeIs (.ref z) "zip":=⟨_,hz,rfl⟩
 refine wpAny_pyIter_slot hT F.slot_zip_iter (wpAny_call_entry F.slot_zip_iter hT F.entry_zip_iter ?_ (F.args_zip_iter_1 _))
 show wpAny _ _ (ret (.ref z)) _ _ s
 exact wpAny_pure ⟨_,rfl, "zip",_,hT,F.slot_zip_next.lookup,h⟩
theorem jS {z TI TO:Addr}{f0:Value}{b:Bool}{Q:Bool->Shared->Prop}(hf:f0=.none\/∃ a:Addr,f0=rawInt a) (hz:cg s.heap z TI TO f0 (.bool b)) (h1:Q true s)
  (h2:∀ h',cg h' z TI TO f0 (.bool true)->Heap.SameBut z s.heap h'->Q false { s with heap:=h' }):wpAny (model prog w) A (Builtin.SmallTypes.ownedTupleIsFree (.ref z)) Q E s:=by
 unfold Builtin.SmallTypes.ownedTupleIsFree
 refine wpAny_bind (wpAny_field hz rfl (x:=f0) rfl ?_)
 rcases hf with rfl | ⟨a,rfl⟩
 ·exact wpAny_pure h1
 ·show wpAny _ _ (loadIfAlive _ >>= _) _ _ s
  refine wpAny_bind (nu ?_)
  cases e:s.heap.get? (Int.toNat (a:Int)) with
  | none=>exact wpAny_pure h1
  | some o =>
   show wpAny _ _ (field (.ref z) 1 >>= _) _ _ s
   refine wpAny_bind (wpAny_field hz rfl (x:=.bool b) rfl ?_)
   cases b with
   | true=>exact wpAny_pure (h2 s.heap hz mB)
   | false=>exact wpAny_bind (wpAny_setField_rec hz (by simp) fun h' z' sb=>wpAny_pure (h2 h' z' sb))
theorem sC {z TI TO i1 i2 l1 l2:Addr}{k:Nat}{xs ys:Array Value}{x y a b f0:Value}{f1:Bool}{Q:Value->Shared->Prop}(D:ZipApart z TI TO i1 i2 l1 l2) (hf:f0=.none\/∃ a:Addr,f0=rawInt a)
  (hz:cg s.heap z TI TO f0 (.bool f1)) (hTI:IsPair s.heap TI (.ref i1) (.ref i2)) (hTO:IsPair s.heap TO a b) (h1:s.heap.IsTupleIter i1 l1 k) (h2:s.heap.IsListIter i2 l2 k) (t1:s.heap.IsTuple l1 xs) (t2:s.heap.IsList l2 ys) (hx:xs[k]?=some x) (hy:ys[k]?=some y)
  (hQ:∀ h' g0 g1,(g0=.none\/∃ a:Addr,g0=rawInt a)->cg h' z TI TO g0 (.bool g1)->(∃ u v,IsPair h' TO u v)->h'.IsTupleIter i1 l1 (k+1)->h'.IsListIter i2 l2 (k+1)->IsPair h' s.heap.objs.size x y->h'.objs.size=s.heap.objs.size+1 ->
   (∀ c o,c≠z->c≠TO->c≠i1->c≠i2->s.heap.get? c=some o->h'.get? c=some o)->Q (.ref s.heap.objs.size) { s with heap:=h' }) :
  wpAny (model prog w) A (Builtin.«zip.__next__» ⟨[.ref z],[]⟩) (fun fin s'=>∃ v,fin=.done (.ret v)/\Q v s') E s:=by
 show wpAny _ _ (field (.ref z) 2 >>= _) _ _ _
 refine wpAny_bind (wpAny_field hz rfl (x:=.bool false) rfl ?_)
 show wpAny _ _ (field (.ref z) 3 >>= _) _ _ _
 refine wpAny_bind (wpAny_field hz rfl (x:=.ref TI) rfl (wpAny_bind (wpAny_seqItems hTI rfl ?_)))
 show wpAny _ _ (Builtin.SmallTypes.ownedTupleIsFree (.ref z) >>= _) _ _ _
 refine wpAny_bind (jS hf hz ?_ fun g0 z0 b0=>?_)
 ·simp only[if_true]
  refine wpAny_bind (wpAny_rule (wpAny_bind (wpAny_field hz rfl (x:=.ref TO) rfl (wpAny_bind (wpAny_setField_rec hz (by simp) fun g1 z1 b1=>?_)))))
  replace z1:cg g1 z TI TO .ellipsis (.bool f1):=z1
  refine wpAny_bind ?_
  simp only[List.zipIdx_cons,List.zipIdx_nil,List.forIn_cons,List.forIn_nil]
  have k1:=b1.extBut
  refine wpAny_bind (wpAny_bind (wpAny_onRaise ?_))
  show wpAny _ _ (Builtin.SmallTypes.nextOf (.ref i1) >>= _) _ _ _
  refine wpAny_bind (jR (h1.extBut k1 D.i1z) (t1.extBut k1 D.l1z) hx fun g2 u2 b2=>wpAny_pure ?_)
  have k2:=b2.extBut
  have o2:IsPair g2 TO a b:=k2 _ _ D.TOi1 (k1 _ _ D.TOz hTO)
  refine wpAny_bind (wpAny_seqItems o2 rfl (wpAny_bind (wpAny_updateSeq_pair o2 fun g3 o3 b3=>wpAny_bind (wpAny_letGo (wpAny_pure ?_)))))
  replace o3:IsPair g3 TO x b:=o3
  have k3:=b3.extBut
  refine wpAny_bind (wpAny_bind (wpAny_onRaise ?_))
  show wpAny _ _ (Builtin.SmallTypes.nextOf (.ref i2) >>= _) _ _ _
  refine wpAny_bind (wpAny_nextOf_list_item (((h2.extBut k1 D.i2z).extBut k2 D.i12.symm).extBut k3 D.TOi2.symm) (((t2.extBut k1 D.l2z).extBut k2 D.l2i1).extBut k3 D.l2TO) hy fun g4 u4 b4=>wpAny_pure ?_)
  have k4:=b4.extBut
  have o4:IsPair g4 TO x b:=k4 _ _ D.TOi2 o3
  refine wpAny_bind (wpAny_seqItems o4 rfl (wpAny_bind (wpAny_updateSeq_pair o4 fun g5 o5 b5=>wpAny_bind (wpAny_letGo (wpAny_pure (wpAny_pure ?_))))))
  replace o5:IsPair g5 TO x y:=o5
  have k5:=b5.extBut
  refine wpAny_bind (wpAny_seqItems o5 rfl (wpAny_bind (wpAny_newTuple ?_)))
  have sz:g5.objs.size=s.heap.objs.size:=by rw[b5.1,b4.1,b3.1,b2.1,b1.1]
  have z5:cg g5 z TI TO .ellipsis (.bool f1):=k5 _ _ D.TOz.symm (k4 _ _ D.i2z.symm (k3 _ _ D.TOz.symm (k2 _ _ D.i1z.symm z1)))
  have all5:∀ c o,c≠z->c≠TO->c≠i1->c≠i2->s.heap.get? c=some o->g5.get? c=some o:=fun c o c1 c2 c3 c4 e=>k5 _ _ c2 (k4 _ _ c4 (k3 _ _ c2 (k2 _ _ c3 (k1 _ _ c1 e))))
  have v1:g5.IsTupleIter i1 l1 (k+1):=((u2.extBut k3 D.TOi1.symm).extBut k4 D.i12).extBut k5 D.TOi1.symm
  have v2:g5.IsListIter i2 l2 (k+1):=u4.extBut k5 D.TOi2.symm
  have zl:z<g5.objs.size:=Heap.lt_size z5
  show wpAny _ _ (Builtin.SmallTypes.ownedTupleHandOut (.ref z) (.ref g5.objs.size) >>= _) _ _ _
  refine wpAny_bind ?_
  unfold Builtin.SmallTypes.ownedTupleHandOut
  have z6:cg (g5.push { cls:=.type "tuple",data:=.seq #[x,y] }) z TI TO .ellipsis (.bool f1):=Heap.get?_push_of_some _ z5
  refine wpAny_bind (wpAny_setField_rec z6 (by simp) fun g7 z7 b7=>?_)
  replace z7:cg g7 z TI TO (rawInt g5.objs.size) (.bool f1):=z7
  refine wpAny_setField_rec z7 (by simp) fun g8 z8 b8=>?_
  replace z8:cg g8 z TI TO (rawInt g5.objs.size) (.bool false):=z8
  have up:∀ c o,c≠z->(g5.push { cls:=.type "tuple",data:=.seq #[x,y] }).get? c=some o->g8.get? c=some o:=fun c o c1 e=>b8.extBut _ _ c1 (b7.extBut _ _ c1 e)
  have p8:IsPair g8 g5.objs.size x y:=up _ _ (ne_of_gt zl) (Heap.get?_push_size _ rfl)
  have s8:g8.objs.size=g5.objs.size+1:=by rw[b8.1,b7.1,Heap.size_push]
  rw[sz] at z8 p8 s8
  refine wpAny_pure ⟨_,rfl,?_⟩
  show Q (.ref g5.objs.size) _
  rw[sz]
  exact hQ g8 _ _ (.inr ⟨_,rfl⟩) z8 ⟨_,_,up _ _ D.TOz (Heap.get?_push_of_some _ o5)⟩ (v1.at fun o e=>up _ o D.i1z (Heap.get?_push_of_some _ e)) (v2.at fun o e=>up _ o D.i2z (Heap.get?_push_of_some _ e)) p8 s8 fun c o c1 c2 c3 c4 e=>up c o c1 (Heap.get?_push_of_some _ (all5 c o c1 c2 c3 c4 e))
 ·simp only[Bool.false_eq_true,if_false]
  have k0:=b0.extBut
  refine wpAny_bind ?_
  simp only[List.forIn_toArray,List.forIn_cons,List.forIn_nil]
  refine wpAny_bind (wpAny_bind (wpAny_holding ?_))
  show wpAny _ _ (Builtin.SmallTypes.nextOf (.ref i1) >>= _) _ _ _
  refine wpAny_bind (jR (h1.extBut k0 D.i1z) (t1.extBut k0 D.l1z) hx fun g2 u2 b2=>wpAny_pure (wpAny_pure ?_))
  have k2:=b2.extBut
  refine wpAny_bind (wpAny_bind (wpAny_holding ?_))
  show wpAny _ _ (Builtin.SmallTypes.nextOf (.ref i2) >>= _) _ _ _
  refine wpAny_bind (wpAny_nextOf_list_item ((h2.extBut k0 D.i2z).extBut k2 D.i12.symm) ((t2.extBut k0 D.l2z).extBut k2 D.l2i1) hy fun g4 u4 b4=>wpAny_pure (wpAny_pure (wpAny_pure ?_)))
  have k4:=b4.extBut
  have sz:g4.objs.size=s.heap.objs.size:=by rw[b4.1,b2.1,b0.1]
  refine wpAny_bind (wpAny_newTuple (hsz:=by show 2<=sizeLine; decide) ?_)
  refine wpAny_pure ⟨_,rfl,?_⟩
  have up:∀ c o,g4.get? c=some o->(g4.push { cls:=.type "tuple",data:=.seq #[x,y] }).get? c=some o:=fun c o e=>Heap.get?_push_of_some _ e
  have p8:IsPair (g4.push { cls:=.type "tuple",data:=.seq #[x,y] }) g4.objs.size x y:=Heap.get?_push_size _ rfl
  show Q (.ref g4.objs.size) _
  rw[sz] at p8 ⊢
  exact hQ _ _ _ hf (up _ _ (k4 _ _ D.i2z.symm (k2 _ _ D.i1z.symm z0))) ⟨_,_,up _ _ (k4 _ _ D.TOi2 (k2 _ _ D.TOi1 (k0 _ _ D.TOz hTO)))⟩ ((u2.extBut k4 D.i12).at fun o e=>up _ o e) (u4.at fun o e=>up _ o e) p8 (by rw[Heap.size_push,sz])
   fun c o c1 c2 c3 c4 e=>up c o (k4 _ _ c4 (k2 _ _ c3 (k0 _ _ c1 e)))
theorem zipN_end {z TI TO i1 i2 l1 l2:Addr}{k:Nat}{xs:Array Value}{a b f0:Value}{f1:Bool}{Q:PySem.Fin->Shared->Prop}(hh:A.handled=none) (D:ZipApart z TI TO i1 i2 l1 l2) (hf:f0=.none\/∃ a:Addr,f0=rawInt a)
  (hz:cg s.heap z TI TO f0 (.bool f1)) (hTI:IsPair s.heap TI (.ref i1) (.ref i2)) (hTO:IsPair s.heap TO a b) (h1:s.heap.IsTupleIter i1 l1 k) (t1:s.heap.IsTuple l1 xs) (hx:xs[k]?=none)
  (hE:∀ h' e,(∀ c o,c≠z->c≠TO->c≠i1->c≠i2->s.heap.get? c=some o->h'.get? c=some o)->(∃ o,h'.get? e=some o/\o.cls=.type "StopIteration")->E (.ref e) { s with heap:=h' }) :
  wpAny (model prog w) A (Builtin.«zip.__next__» ⟨[.ref z],[]⟩) Q E s:=by
 show wpAny _ _ (field (.ref z) 2 >>= _) _ _ _
 refine wpAny_bind (wpAny_field hz rfl (x:=.bool false) rfl ?_)
 show wpAny _ _ (field (.ref z) 3 >>= _) _ _ _
 refine wpAny_bind (wpAny_field hz rfl (x:=.ref TI) rfl (wpAny_bind (wpAny_seqItems hTI rfl ?_)))
 show wpAny _ _ (Builtin.SmallTypes.ownedTupleIsFree (.ref z) >>= _) _ _ _
 refine wpAny_bind (jS hf hz ?_ fun g0 z0 b0=>?_)
 ·simp only[if_true]
  refine wpAny_bind (wpAny_rule (wpAny_bind (wpAny_field hz rfl (x:=.ref TO) rfl (wpAny_bind (wpAny_setField_rec hz (by simp) fun g1 z1 b1=>?_)))))
  replace z1:cg g1 z TI TO .ellipsis (.bool f1):=z1
  refine wpAny_bind ?_
  simp only[List.zipIdx_cons,List.zipIdx_nil,List.forIn_cons,List.forIn_nil]
  refine wpAny_bind (wpAny_bind (wpAny_onRaise ?_))
  show wpAny _ _ (Builtin.SmallTypes.nextOf (.ref i1) >>= _) _ _ _
  refine wpAny_bind (gB hh (h1.extBut b1.extBut D.i1z) (t1.extBut b1.extBut D.l1z) hx fun g2 e k2 he=>?_)
  obtain⟨oe,hoe,hce⟩:=he
  have z2:cg g2 z TI TO .ellipsis (.bool f1):=k2 _ _ D.i1z.symm z1
  have ez:e≠z:=fun q=>by subst q; rw[z2] at hoe; cases hoe; simp at hce
  exact wpAny_setField_rec z2 (by simp) fun g3 _ b3=>hE g3 e (fun c o c1 _ c3 _ q=>b3.extBut _ _ c1 (k2 _ _ c3 (b1.extBut _ _ c1 q))) ⟨oe,b3.extBut _ _ ez hoe,hce⟩
 ·simp only[Bool.false_eq_true,if_false]
  refine wpAny_bind ?_
  simp only[List.forIn_toArray,List.forIn_cons,List.forIn_nil]
  refine wpAny_bind (wpAny_bind (wpAny_holding ?_))
  show wpAny _ _ (Builtin.SmallTypes.nextOf (.ref i1) >>= _) _ _ _
  refine wpAny_bind (gB hh (h1.extBut b0.extBut D.i1z) (t1.extBut b0.extBut D.l1z) hx fun g2 e k2 he=>?_)
  exact hE g2 e (fun c o c1 _ c3 _ q=>k2 _ _ c3 (b0.extBut _ _ c1 q)) he
theorem ni {z TI TO i1 i2 l1 l2:Addr}{k:Nat}{xs ys:Array Value}{x y a b f0:Value}{f1:Bool}{Q:Option Value->Shared->Prop}(D:ZipApart z TI TO i1 i2 l1 l2) (hf:f0=.none\/∃ a:Addr,f0=rawInt a)
  (hz:cg s.heap z TI TO f0 (.bool f1)) (hTI:IsPair s.heap TI (.ref i1) (.ref i2)) (hTO:IsPair s.heap TO a b) (h1:s.heap.IsTupleIter i1 l1 k) (h2:s.heap.IsListIter i2 l2 k) (t1:s.heap.IsTuple l1 xs) (t2:s.heap.IsList l2 ys) (hx:xs[k]?=some x) (hy:ys[k]?=some y)
  (hQ:∀ h' g0 g1,(g0=.none\/∃ a:Addr,g0=rawInt a)->cg h' z TI TO g0 (.bool g1)->(∃ u v,IsPair h' TO u v)->h'.IsTupleIter i1 l1 (k+1)->h'.IsListIter i2 l2 (k+1)->IsPair h' s.heap.objs.size x y->h'.objs.size=s.heap.objs.size+1 ->
   (∀ c o,c≠z->c≠TO->c≠i1->c≠i2->s.heap.get? c=some o->h'.get? c=some o)->Q (some (.ref s.heap.objs.size)) { s with heap:=h' }):wpAny (model prog w) A (pyNext (.ref z)) Q E s:=by
 have ty:s.TypeIs (.ref z) "zip":=⟨_,hz,rfl⟩
 unfold pyNext
 exact wpAny_bind (wpAny_attempt (wpAny_callSpecial?_slot (name:=Str.ofString "__next__") ty F.slot_zip_next (wpAny_call_entry F.slot_zip_next ty F.entry_zip_next
  (sC D hf hz hTI hTO h1 h2 t1 t2 hx hy fun h' g0 g1 q0 q1 q2 q3 q4 q5 q6 q7=>wpAny_pure (hQ h' g0 g1 q0 q1 q2 q3 q4 q5 q6 q7)) (F.args_zip_next_1 _))))
theorem jm {z TI TO i1 i2 l1 l2:Addr}{k:Nat}{xs:Array Value}{a b f0:Value}{f1:Bool}{Q:Option Value->Shared->Prop}(hh:A.handled=none) (D:ZipApart z TI TO i1 i2 l1 l2) (hf:f0=.none\/∃ a:Addr,f0=rawInt a)
  (hz:cg s.heap z TI TO f0 (.bool f1)) (hTI:IsPair s.heap TI (.ref i1) (.ref i2)) (hTO:IsPair s.heap TO a b) (h1:s.heap.IsTupleIter i1 l1 k) (t1:s.heap.IsTuple l1 xs) (hx:xs[k]?=none)
  (hQ:∀ h',(∀ c o,c≠z->c≠TO->c≠i1->c≠i2->s.heap.get? c=some o->h'.get? c=some o)->Q none { s with heap:=h' }):wpAny (model prog w) A (pyNext (.ref z)) Q E s:=by
 have ty:s.TypeIs (.ref z) "zip":=⟨_,hz,rfl⟩
 unfold pyNext
 refine wpAny_bind (wpAny_attempt (wpAny_callSpecial?_slot (name:=Str.ofString "__next__") ty F.slot_zip_next (wpAny_call_entry F.slot_zip_next ty F.entry_zip_next
  (zipN_end hh D hf hz hTI hTO h1 t1 hx fun h' e hk he=>?_) (F.args_zip_next_1 _))))
 obtain⟨o,ho,hc⟩:=he
 exact wpAny_bind (wpAny_isInstance (T:="StopIteration") (b:=true) ⟨o,ho,hc⟩ isSubtype_stop (wpAny_pure (hQ _ hk)))
abbrev zN (h:Heap) (l1 l2:Addr):Heap :=
 ((((h.push { cls:=.type "tuple_iterator",data:=.fields #[.ref l1,.int 0 0] }).push { cls:=.type "list_iterator",data:=.fields #[.ref l2,.int 0 0] }).push { cls:=.type "tuple",data:=.seq #[.ref h.objs.size,.ref (h.objs.size+1)] }).push { cls:=.type "tuple",data:=.seq #[.none,.none] }).push { cls:=.type "zip",data:=.fields #[.none,.bool false,.bool false,.ref (h.objs.size+2),.ref (h.objs.size+3)] }
theorem pF (l1 l2:Addr) (xs ys:Array Value) :
  Meets (Builtin.«zip.__new__» ⟨[.type "zip",.ref l1,.ref l2],[]⟩) (fun _ R s=>s.heap.IsTuple l1 xs/\s.heap.IsList l2 ys/\R (.ok (.ret (.ref (s.heap.objs.size+4)))) { s with heap:=zN s.heap l1 l2 }) :=
 .of_wp fun prog w A R s h=>by
  obtain⟨hp,g,d,tk,os⟩:=s; obtain⟨hl1,hl2,h⟩:=h
  have hsub:=PySem.sub_zip
  have hL1:Heap.IsTuple (Shared.heap ⟨hp,g,d,tk,os⟩) l1 xs:=hl1
  have hL2:Heap.IsList (Shared.heap ⟨hp.push { cls:=.type "tuple_iterator",data:=.fields #[.ref l1,.int 0 0] },g,d,tk,os⟩) l2 ys:=Heap.IsList.push hl2 _
  wp_walk using wpAny_pyIter_tuple hL1,wpAny_pyIter_list hL2
  simp only[Heap.size_push] at h ⊢
  exact⟨_,rfl,h⟩
theorem oK (h:Heap) (a b:Addr):cg (zN h a b) (h.objs.size+4) (h.objs.size+2) (h.objs.size+3) .none (.bool false)/\IsPair (zN h a b) (h.objs.size+2) (.ref h.objs.size) (.ref (h.objs.size+1))/\IsPair (zN h a b) (h.objs.size+3) .none .none /\
  (zN h a b).IsTupleIter h.objs.size a 0/\(zN h a b).IsListIter (h.objs.size+1) b 0/\∀ c o,h.get? c=some o->(zN h a b).get? c=some o:=by
 have at':∀ (g:Heap) (o:Obj) (n:Nat),g.objs.size=n->o.isFreed=false->(g.push o).get? n=some o:=fun g o n e f=>by subst e; exact Heap.get?_push_size _ f
 have up:∀ (g:Heap) (o o':Obj) (c:Addr),g.get? c=some o'->(g.push o).get? c=some o':=fun g o o' c e=>Heap.get?_push_of_some _ e
 refine⟨at' _ _ _ (by simp only[Heap.size_push]) rfl,up _ _ _ _ (up _ _ _ _ (at' _ _ _ (by simp only[Heap.size_push]) rfl)),up _ _ _ _ (at' _ _ _ (by simp only[Heap.size_push]) rfl),
  ⟨_,up _ _ _ _ (up _ _ _ _ (up _ _ _ _ (up _ _ _ _ (at' _ _ _ rfl rfl)))),rfl,rfl⟩,⟨_,up _ _ _ _ (up _ _ _ _ (up _ _ _ _ (at' _ _ _ (by simp only[Heap.size_push]) rfl))),rfl,rfl⟩,fun c o e=>up _ _ _ _ (up _ _ _ _ (up _ _ _ _ (up _ _ _ _ (up _ _ _ _ e))))⟩
theorem sy {l1 l2:Addr}{xs ys:Array Value}{Q:Value->Shared->Prop}(t1:s.heap.IsTuple l1 xs) (t2:s.heap.IsList l2 ys) (h:Q (.ref (s.heap.objs.size+4)) { s with heap:=zN s.heap l1 l2 }) :
  wpAny (model prog w) A (call (.type "zip") [.ref l1,.ref l2]) Q E s:=by
 refine callType_new F.called_zip (by decide) (F.typeCall_zip_2 _ _) (F.newCall_zip_2 _ _) (fun obj=>F.args_object_init_3 obj _ _) F.entry_zip_new (pF l1 l2 xs ys) ⟨t1,t2,?_⟩
 exact⟨⟨_,(oK s.heap l1 l2).1,rfl⟩,h⟩
end
section
variable {X:Cx}
def ItzN (K:Frag) (a b:Addr):It :=
 ⟨fun i H=>∃ xs ys x y,SqT K H a xs/\SqL K H b ys/\xs[i]?=some x/\ys[i]?=some y,
  fun i H v H'=>∀ xs ys x y,SqT K H a xs->SqL K H b ys->xs[i]?=some x->ys[i]?=some y->∃ T,v=.ref T/\H T=none/\H'=upd H T (.tup [x,y]),
  fun i H=>∃ xs,SqT K H a xs/\xs.length<=i⟩
theorem qB {P:Program}{w:World}{K:Frag}{nm:Str}{tp:Pos}{z TI TO i1 i2 a b:Addr}(D:ZipApart z TI TO i1 i2 a b) :
  Turn P w K (.Name nm tp) (ItzN K a b) [z,TO,i1,i2,TI] z (fun i h=>(∃ f0 f1,(f0=.none\/∃ a:Addr,f0=rawInt a)/\cg h z TI TO f0 (.bool f1))/\IsPair h TI (.ref i1) (.ref i2)/\(∃ u v,IsPair h TO u v)/\h.IsTupleIter i1 a i/\h.IsListIter i2 b i) where
 mem:=by simp
 obj:=fun i h st c hc=>by
  obtain⟨⟨f0,f1,_,q1⟩,q2,⟨u,v,q3⟩,⟨o1,e1,_,d1⟩,⟨o2,e2,_,d2⟩⟩:=st
  simp only[mem_cons,not_mem_nil,or_false] at hc
  rcases hc with rfl | rfl | rfl | rfl | rfl
  ·exact⟨_,q1,fun v z=>by cases z⟩
  ·exact⟨_,q3,fun v z=>by cases z⟩
  ·exact⟨_,e1,fun v z=>by rw[d1] at z; cases z⟩
  ·exact⟨_,e2,fun v z=>by rw[d2] at z; cases z⟩
  ·exact⟨_,q2,fun v z=>by cases z⟩
 keep:=fun i h h' st k=>by
  obtain⟨⟨f0,f1,hf,q1⟩,q2,⟨u,v,q3⟩,q4,q5⟩:=st
  exact⟨⟨f0,f1,hf,k z (by simp) _ q1⟩,k TI (by simp) _ q2,⟨u,v,k TO (by simp) _ q3⟩,q4.at fun o e=>k i1 (by simp) o e,q5.at fun o e=>k i2 (by simp) o e⟩
 item:=by
  intro X hP hw hK hc i pins s σ H E I hf st hg
  subst hP hw hK
  obtain⟨xs,ys,x,y,ha,hb,hx,hy⟩:=hg
  obtain⟨⟨f0,f1,hf0,q1⟩,q2,⟨u,v,q3⟩,q4,q5⟩:=st
  obtain⟨its,rv,p,_⟩:=I.tuple ha
  obtain⟨jts,rw',p',_⟩:=I.list hb
  obtain⟨ux,hux,rx⟩:=rv.get hx
  obtain⟨uy,huy,ry⟩:=rw'.get hy
  refine ni D hf0 q1 q2 q3 q4 q5 (show s.heap.IsTuple a its.toArray from p) (show s.heap.IsList b jts.toArray from p'.isList) (x:=ux) (y:=uy) (by simpa using hux) (by simpa using huy) fun h' g0 g1 hg0 z1 o1 v1 v2 pr sz all=>?_
  refine⟨_,rfl,wpAny_pure ?_⟩
  have zl:z<s.heap.objs.size:=Heap.lt_size q1
  have hT:H s.heap.objs.size=none:=I.hok.fresh (le_refl _)
  have kept:∀ c o,c∉[z,TO,i1,i2]->s.heap.get? c=some o->h'.get? c=some o:=fun c o n e=>by
   simp only[mem_cons,not_mem_nil,or_false,not_or] at n
   exact all c o n.1 n.2.1 n.2.2.1 n.2.2.2 e
  have sub:∀ c∈[z,TO,i1,i2],c∈[z,TO,i1,i2,TI]:=fun c h=>by
   simp only[mem_cons,not_mem_nil,or_false] at h ⊢
   rcases h with h | h | h | h <;> simp[h]
  have trk:∀ c u,H c=some u->c∉[z,TO,i1,i2]:=fun c u e n=>by
   have:=(hf c (sub c n)).1
   rw[e] at this; cases this
  refine⟨.ref s.heap.objs.size,upd H s.heap.objs.size (.tup [x,y]),?_,rfl,fun xs' ys' x' y' ha' hb' hx' hy'=>?_,⟨⟨_,_,hg0,z1⟩,all _ _ D.TIz D.TITO D.TIi1 D.TIi2 q2,o1,v1,v2⟩,fun c hc=>?_⟩
  ·refine Inv.step (s:=s) (h':=h') (g':=s.gens) (d':=s.drawn) (t':=s.toks) (ch:=[z,TO,i1,i2]) I (fun c n=>let q:=hf c (sub c n); ⟨q.2.2.2.1,q.2.1,q.2.2.2.2.1,q.2.2.2.2.2⟩) (fun c o _ _ n e _=>kept c o n e) (fun c o _ _ n e _=>⟨o.slots,kept c o n e⟩)
    (fun c o _ e n=>by rw[af (ne_of_lt (Heap.lt_size e))]; exact n) (fun c o n e=>⟨o,kept c o n e⟩) (fun c zs e=>by rw[af (az e hT)]; exact e) (fun c o u e=>by rw[af (az e hT)]; exact e) (fun c ps e=>⟨#[],by rw[af (az e hT),e]; simp⟩) (fun m hm=>?_) (fun c u e=>?_) I.bare
   ·obtain⟨o,es,ep,ho,r⟩:=hm
    refine⟨o,es,ep,kept _ o (fun n=>?_) ho,r⟩
    exact(hf _ (sub _ n)).2.1 rfl
   ·by_cases q:c=s.heap.objs.size
    ·subst q
     rw[ac] at e; cases e
     exact⟨by show 2<=sizeLine; decide,[ux,uy],.cons rx (.cons ry .nil),⟨_,pr,rfl,_,rfl⟩⟩
    ·rw[af q] at e
     refine(I.hok c u e).stay (fun c' v hc' e'=>kept c' v ?_ e') (fun c' e'=>by rw[af (az e' hT)]; exact e') fun c' zs e'=>by rw[af (az e' hT)]; exact e'
     rcases hc' with z' | z'
     ·rw[z']; exact trk c u e
     ·exact trk c' _ z'
  ·rw[I.tuple_inj ha' ha] at hx'
   rw[I.list_inj hb' hb] at hy'
   rw[hx] at hx'; rw[hy] at hy'
   cases hx'; cases hy'
   exact⟨_,rfl,hT,rfl⟩
  ·have q:=hf c hc
   have hl:c≠s.heap.objs.size:=by
    simp only[mem_cons,not_mem_nil,or_false] at hc
    obtain⟨_,e4,_⟩:=q4
    obtain⟨_,e5,_⟩:=q5
    rcases hc with rfl | rfl | rfl | rfl | rfl
    ·exact ne_of_lt zl
    ·exact ne_of_lt (Heap.lt_size q3)
    ·exact ne_of_lt (Heap.lt_size e4)
    ·exact ne_of_lt (Heap.lt_size e5)
    ·exact ne_of_lt (Heap.lt_size q2)
   rw[af hl]
   exact q.1
 done:=by
  intro X hP hw hK hc i pins s σ H E I hf st hg
  subst hP hw hK
  obtain⟨xs,ha,hx⟩:=hg
  obtain⟨⟨f0,f1,hf0,q1⟩,q2,⟨u,v,q3⟩,q4,q5⟩:=st
  obtain⟨its,rv,p,_⟩:=I.tuple ha
  have hl:=rv.length
  have sub:∀ c∈[z,TO,i1,i2],c∈[z,TO,i1,i2,TI]:=fun c h=>by
   simp only[mem_cons,not_mem_nil,or_false] at h ⊢
   rcases h with h | h | h | h <;> simp[h]
  refine jm (I.ok.hd hc) D hf0 q1 q2 q3 q4 (show s.heap.IsTuple a its.toArray from p) (by simp; omega) fun h' all=>⟨rfl,?_⟩
  have kept:∀ c o,c∉[z,TO,i1,i2]->s.heap.get? c=some o->h'.get? c=some o:=fun c o n e=>by
   simp only[mem_cons,not_mem_nil,or_false,not_or] at n
   exact all c o n.1 n.2.1 n.2.2.1 n.2.2.2 e
  have trk:∀ c u,H c=some u->c∉[z,TO,i1,i2]:=fun c u e n=>by
   have:=(hf c (sub c n)).1
   rw[e] at this; cases this
  refine Inv.step (s:=s) (h':=h') (g':=s.gens) (d':=s.drawn) (t':=s.toks) (ch:=[z,TO,i1,i2]) I (fun c n=>let q:=hf c (sub c n); ⟨q.2.2.2.1,q.2.1,q.2.2.2.2.1,q.2.2.2.2.2⟩) (fun c o _ _ n e _=>kept c o n e) (fun c o _ _ n e _=>⟨o.slots,kept c o n e⟩)
    (fun c o _ e n=>n) (fun c o n e=>⟨o,kept c o n e⟩) (fun c zs e=>e) (fun c o u e=>e) (fun c ps e=>⟨#[],by rw[e]; simp⟩) (fun m hm=>?_) (fun c u e=>?_) I.bare
  ·obtain⟨o,es,ep,ho,r⟩:=hm
   exact⟨o,es,ep,kept _ o (fun n=>(hf _ (sub _ n)).2.1 rfl) ho,r⟩
  ·refine(I.hok c u e).stay (fun c' v hc' e'=>kept c' v ?_ e') (fun c' e'=>e') fun c' zs e'=>e'
   rcases hc' with z' | z'
   ·rw[z']; exact trk c u e
   ·exact trk c' _ z'
 self:=fun _ _ _ _ _ st h=>by
  obtain⟨⟨f0,f1,_,q1⟩,_⟩:=st
  exact ib q1 h
def iZipN (K:Frag) (ta:TA):TI:=fun σ H R=>ta σ H fun vs H1=>∃ a b xs ys,vs=[.ref a,.ref b]/\SqT K H1 a xs/\SqL K H1 b ys/\R (ItzN K a b) H1
theorem pi_zipN {e1 e2:Expr}{ta:TA}{p pos:Pos}{nm:Str}{tp:Pos}(hg:Gl X "zip") (hm:X.mg "zip"=none) (ha:PA X [e1,e2] ta) (hs:starEach [e1,e2] X.env=(false,eval e1 X.env)::starEach [e2] X.env:=by rfl) (hpl:(backTo pos (starEach [e2] X.env)).any (·.1)=false:=by rfl) :
  PI X (.Name nm tp) (.Call (.Name "zip" p) [e1,e2] [] pos) (iZipN X.K ta):=by
 intro pins s σ H R I h
 refine Call_ (gQ I hg hm PyProof.Rows.boot_zip (PyProof.Rows.callWith_type1 (thn (ha pos pins s σ H _ I h) fun us s1 ⟨vs,H1,I1,r1,q1⟩=>?_) hs hpl))
 obtain⟨a,b,xs,ys,e,hqa,hqb,q⟩:=q1
 subst e
 cases r1 with
 | cons r rr =>
  cases rr with
  | cons r' rr' =>
   cases rr'
   cases r
   cases r'
   obtain⟨its,rv,pl,_⟩:=I1.tuple hqa
   obtain⟨jts,rw',pl',_⟩:=I1.list hqb
   refine sy (show s1.heap.IsTuple a its.toArray from pl) (show s1.heap.IsList b jts.toArray from pl'.isList) ?_
   obtain⟨z1,z2,z3,z4,z5,z6⟩:=oK s1.heap a b
   have I2:Inv X pins σ H1 { s1 with heap:=zN s1.heap a b }:=I1.kept (t':=s1.toks) z6
   have la:a<s1.heap.objs.size:=by obtain⟨o,e,_⟩:=pl; exact Heap.lt_size e
   have lb:b<s1.heap.objs.size:=by obtain⟨o,e,_⟩:=pl'.isList; exact Heap.lt_size e
   refine wpAny_pyIter_zip z1 ?_
   refine⟨s1.heap.objs.size+4,[s1.heap.objs.size+4,s1.heap.objs.size+3,s1.heap.objs.size,s1.heap.objs.size+1,s1.heap.objs.size+2],_,_,H1,rfl,I2,qB (zipApart_new la lb),⟨⟨_,_,.inl rfl,z1⟩,z2,⟨_,_,z3⟩,z4,z5⟩,fun c hc=>?_,q⟩
   have le:s1.heap.objs.size<=c:=by
    simp only[mem_cons,not_mem_nil,or_false] at hc
    rcases hc with h | h | h | h | h <;> rw[h]
    ·exact le_add_right _ _
    ·exact le_add_right _ _
    ·exact le_refl _
    ·exact le_add_right _ _
    ·exact le_add_right _ _
   exact I1.fpOk le (I1.hok.fresh le)
end
end L2
namespace Ow
open PySem PySem.Spec PyProof.Rows L2
section
variable {X:Cx}{elt iter cc:Expr}{x y:Str}{px py pos tp:Pos}{kk:Nat}{scope:Scope}{wi:TI}{tc:TT}{te:TE}{N:List Str}{cl:List (Str×Addr)}{cap:L2.St->L2.St}
end
section
variable {X:Cx}{elt iter cc:Expr}{x y0:Str}{px py pos tp:Pos}{kk:Nat}{scope:Scope}{wi:TI}{tc:TT}{te:TE}{cl:List (Str×Addr)}
end
theorem rF {K:Frag}{a b D:Addr}{xs ys:List V}{te':TE}{tl:L2.St}{G:Hp->Prop}{H1:Hp}(Pv:Nat->Hp->Prop) (h0:Pv 0 (upd H1 D (.lst []))) (hl:∀ i H,i<=xs.length->Pv i H->SqT K H a xs/\SqL K H b ys) (hle:xs.length=ys.length)
  (hs:∀ i x y H,xs[i]?=some x->ys[i]?=some y->Pv i H->∀ T,H T=none->te' (some (.ref T)::tl) (upd H T (.tup [x,y])) fun z H2=>∃ zs,H2 D=some (.lst zs)/\zs.length<sizeLine/\∃ m',m'<xs.length-i/\(m'=xs.length-(i+1)/\i+1<=xs.length/\Pv (i+1) (upd H2 D (.lst (zs++[z])))))
  (hd:∀ H,Pv xs.length H->G H) :
  ∃ W:Nat->Nat->Hp->Prop,(∃ m,W 0 m (upd H1 D (.lst [])))/\∀ i m H,W i m H ->
   ((ItzN K a b).stop i H/\G H)\/((ItzN K a b).go i H/\∀ x H',(ItzN K a b).yld i H x H'->te' (some x::tl) H' fun y H2=>∃ ys,H2 D=some (.lst ys)/\ys.length<sizeLine/\∃ m',m'<m/\W (i+1) m' (upd H2 D (.lst (ys++[y])))):=by
 refine⟨fun i m H=>m=xs.length-i/\i<=xs.length/\Pv i H,⟨xs.length,by simp,zero_le _,h0⟩,?_⟩
 rintro i m H ⟨rfl,hi,p⟩
 have q:=hl i H hi p
 by_cases hlt:i<xs.length
 ·have ex:xs[i]?=some xs[i]:=List.getElem?_eq_getElem hlt
  have ey:ys[i]?=some (ys[i]'(by omega)):=List.getElem?_eq_getElem (by omega)
  refine .inr ⟨⟨xs,ys,_,_,q.1,q.2,ex,ey⟩,fun x H' y=>?_⟩
  obtain⟨T,rfl,hT,rfl⟩:=y xs ys _ _ q.1 q.2 ex ey
  exact hs i _ _ H ex ey p T hT
 ·have e:i=xs.length:=by omega
  subst e
  exact .inl ⟨⟨xs,q.1,le_refl _⟩,hd H p⟩
def tGD2 (a:Addr) (vs:List (Key×Value)) (tO ti tf:TE):TE:=fun σ H Q=>tO σ H fun x H1=>x=.ref a/\ti σ H1 fun y H2=>tf σ H2 fun _ H3=>∃ k b,y=.str k/\valueAt vs (.inr k)=some (.ref b)/\Q (.ref b) H3
theorem qD {X:Cx}{a:Addr}{vs:List (Key×Value)}{o i f:Expr}{tO ti tf:TE}{apos cpos:Pos}(g:GD X.K X.prog X.w a vs) (nd:(a == sysModules)=false) (ho:PE X o tO) (hi:PE X i ti) (hf:PE X f tf) (m:M2 X o "get" apos i f cpos) :
  PE X (.Call (.Attribute o "get" apos) [i,f] [] cpos) (tGD2 a vs tO ti tf):=by
 intro pins s σ H Q I h
 refine wpAny_Call_method m.base m.few m.line PySem.F.plainAttrs_dict PySem.F.slot_dict_get PySem.F.type_dict_get (thn (ho pins s σ H _ I h) fun u s1 ⟨x,H1,I1,rx,ex,q1⟩=>?_)
 subst ex
 obtain rfl:u=Value.ref a:=rx
 obtain⟨oo,es,ep,lk,xd,dt,ko,pr,nd'⟩:=g.ex
 have dd1:s1.heap.DictOf (bb X.prog X.w) a vs:=⟨oo,es,ep,I1.kIn _ _ lk,xd,dt,ko,pr,nd'⟩
 refine⟨dd1.typeIs,fun b q=>?_,?_⟩
 ·cases q
  exact⟨oo,I1.kIn _ _ lk,xd.2.1⟩
 rw[m.trees]
 refine Calls.callWith_builtin rfl (Calls.evalArgs_plain (Calls.spliced_cons (thn (hi pins s1 σ H1 _ I1 q1) fun iv s2 ⟨y,H2,I2,ry,q2⟩ =>
  Calls.spliced_cons (thn (hf pins s2 σ H2 _ I2 q2) fun fv s3 ⟨z,H3,I3,rz,k,b,ey,hv,q3⟩=>Calls.spliced_nil ?_))))
 subst ey
 have dd:s3.heap.DictOf (bb X.prog X.w) a vs:=⟨oo,es,ep,I3.kIn _ _ lk,xd,dt,ko,pr,nd'⟩
 refine call_meetsIn PySem.F.slot_dict_get dd.typeIs PySem.F.entry_dict_get (PySem.F.args_dict_get_3 _ _ _) (meets_dict_get_default (bb X.prog X.w) a (mC (k:=.inr k) ry) nd fv) ⟨_,dd.mapOf,?_⟩
 refine⟨.ref b,H3,I3.tok _,?_,q3⟩
 show RelV _ ((valueAt vs (.inr k)).getD fv)
 rw[hv]
 rfl
end Ow
namespace Ow
open PySem PySem.Spec PyProof.Rows L2
end Ow
namespace L2
open PySem PySem.Spec PyProof.Rows
def rDIn (neg:Bool):R2:=fun y x H Q=>∃ a o,x=.ref a/\DGet H a y o/\Q (.bl (if neg=true then !o.isSome else o.isSome)) H
theorem lB {X:Cx}(hu:X.A.units+1<cLine):OpR X (compareOp .In) (rDIn false):=by
 intro pins s σ H y x v u Q I ry rx h
 obtain⟨a,ov,ex,g,q⟩:=h
 subst ex
 obtain rfl:u=Value.ref a:=rx
 exact d_in hu I g ry fun s3 I3=>⟨.bl ov.isSome,H,I3,rfl,q⟩
theorem gO {X:Cx}(hu:X.A.units+1<cLine):OpR X (compareOp .NotIn) (rDIn true):=by
 intro pins s σ H y x v u Q I ry rx h
 obtain⟨a,ov,ex,g,q⟩:=h
 subst ex
 obtain rfl:u=Value.ref a:=rx
 exact d_notIn hu I g ry fun s3 I3=>⟨.bl (!ov.isSome),H,I3,rfl,q⟩
end L2
namespace Ow
open PySem PySem.Spec PyProof.Rows L2
def rUpd:V->List V->Hp->VK->Prop:=fun x vs H Q=>∃ (a b:Addr) (kvs more:List (Key×V)),x=.ref a/\vs=[.ref b]/\H a=some (.dK kvs)/\H b=some (.dK more)/\a≠b/\kvs.length+more.length<=1000/\Q .non (upd H a (.dK (ck kvs more)))
theorem p9 {X:Cx}:MtM X "dict.update" rUpd:=by
 intro pins s σ H x vs v us Q I rx rv h
 obtain⟨a,b,kvs,more,rfl,rfl,ha,hb,ne,ln,q⟩:=h
 cases rx
 obtain⟨u,rfl,ru⟩:=rv.one
 cases (show u=Value.ref b from ru)
 obtain⟨za,hda,xa,ra,da⟩:=dk_of I.hok ha
 obtain⟨zb,hdb,xb,rb,db⟩:=dk_of I.hok hb
 have la:=ra.length
 have lb:=rb.length
 refine wpAny_call (codeAny_call_builtin PySem.F.slot_dict_update.plain PySem.F.entry_dict_update (PySem.F.slot_dict_update.check _ _ _ _ _ _ _ _ da.typeIs (PySem.F.args_dict_update_2 _ _) ?_))
 unfold Builtin.«dict.update»
 refine wpAny_bind ?_
 unfold Builtin.Dict.selfAndRest
 refine wpAny_bind (wpAny_notOrdered_dict da.typeIs ?_)
 show wpAny _ _ (pure (a,[Value.ref b])) _ _ _
 refine wpAny_pure ?_
 show wpAny _ _ (Builtin.Dict.updateFrom "dict.update" a (.ref b) [] .none) _ _ _
 unfold Builtin.Dict.updateFrom
 refine wpAny_bind (wpAny_typeOf db.typeIs ?_)
 rw[if_neg (by decide)]
 refine wpAny_bind ?_
 unfold Builtin.Dict.merge
 refine wpAny_bind ?_
 unfold Builtin.Dict.readDirectly
 refine wpAny_bind (wpAny_isInstance db.typeIs isSubtype_dict_dict ?_)
 simp only[Bool.not_true,Bool.false_eq_true,if_false]
 refine wpAny_bind (wpAny_specialOf db.typeIs F.slot_dict_iter.lookup (wpAny_pure ?_))
 simp only[beq_self_eq_true,if_true]
 refine wpAny_bind (wpAny_pure ?_)
 refine wpAny_mergeDict (hsz:=by rw[sizeLine_eq]; omega) ne hdb da db fun h' hd' _ hs'=>?_
 show wpAny _ _ (Builtin.Dict.addKeywords a [] >>= _) _ _ _
 refine wpAny_bind (wpAny_pure (wpAny_pure ⟨.non,_,?_,rfl,q⟩))
 have hz:(ck kvs more).length<=sizeLine:=by
  have h1:=cR more kvs
  rw[sizeLine_eq]; omega
 have he:∃ q,h'.get? a=some q:=let ⟨q,_,_,hq,_⟩:=hd'; ⟨q,hq⟩
 exact ky I (by rw[ha]; exact True.intro) hs' he (rK hz hda (rb.merge ra) hd')
end Ow
namespace Ow
open PySem PySem.Spec PyProof.Rows L2
open Builtin.Int (intBits)
def top (i:Nat):Stmt:=PySem.Challenge.pw_overwise_k63_names_and_kinds_refused.main.body.getD i (.Pass ⟨0,0,0,0⟩)
abbrev bY:Stmt:=ba (top 9) 0
theorem fA:FnScope ["self","line","name"] ["self","line","name"] (av bY):=⟨rfl,rfl,rfl,by decide +kernel,rfl,by decide +kernel,by decide +kernel⟩
abbrev bF:Stmt:=ba (top 10) 0
theorem dZ:FnScope ["self","line","name"] ["self","line","name"] (av bF):=⟨rfl,rfl,rfl,by decide +kernel,rfl,by decide +kernel,by decide +kernel⟩
abbrev cP:Stmt:=ba (top 11) 0
theorem h8:FnScope ["self","line","name"] ["self","line","name"] (av cP):=⟨rfl,rfl,rfl,by decide +kernel,rfl,by decide +kernel,by decide +kernel⟩
abbrev hV:Stmt:=top 13
theorem nH:FnScope ["thing"] ["thing"] (av hV):=⟨rfl,rfl,rfl,by decide +kernel,rfl,by decide +kernel,by decide +kernel⟩
abbrev eB:Stmt:=top 14
theorem kj:FnScope ["thing","low","high"] ["thing","low","high"] (av eB):=⟨rfl,rfl,rfl,by decide +kernel,rfl,by decide +kernel,by decide +kernel⟩
abbrev dR:Stmt:=top 15
theorem ke:FnScope ["width"] ["width"] (av dR):=⟨rfl,rfl,rfl,by decide +kernel,rfl,by decide +kernel,by decide +kernel⟩
abbrev cV:Stmt:=ba (top 19) 0
theorem iF:FnScope ["self","width","point"] ["self","width","point"] (av cV):=⟨rfl,rfl,rfl,by decide +kernel,rfl,by decide +kernel,by decide +kernel⟩
abbrev cN:Stmt:=ba (top 20) 0
theorem hG:FnScope ["self","width"] ["self","width"] (av cN):=⟨rfl,rfl,rfl,by decide +kernel,rfl,by decide +kernel,by decide +kernel⟩
abbrev cw:Stmt:=ba (top 21) 0
theorem gw:FnScope ["self","width"] ["self","width"] (av cw):=⟨rfl,rfl,rfl,by decide +kernel,rfl,by decide +kernel,by decide +kernel⟩
abbrev bP:Stmt:=ba (top 22) 0
theorem fK:FnScope ["self","width","point"] ["self","width","point"] (av bP):=⟨rfl,rfl,rfl,by decide +kernel,rfl,by decide +kernel,by decide +kernel⟩
abbrev d8:Stmt:=ba (top 20) 1
theorem j5:FnScope ["self"] ["self"] (av d8):=⟨rfl,rfl,rfl,by decide +kernel,rfl,by decide +kernel,by decide +kernel⟩
abbrev dI:Stmt:=ba (top 21) 1
theorem jJ:FnScope ["self"] ["self"] (av dI):=⟨rfl,rfl,rfl,by decide +kernel,rfl,by decide +kernel,by decide +kernel⟩
abbrev de:Stmt:=ba (top 22) 1
theorem iS:FnScope ["self"] ["self"] (av de):=⟨rfl,rfl,rfl,by decide +kernel,rfl,by decide +kernel,by decide +kernel⟩
abbrev fu:Stmt:=top 23
theorem kZ:FnScope ["one","other"] ["one","other"] (av fu):=⟨rfl,rfl,rfl,by decide +kernel,rfl,by decide +kernel,by decide +kernel⟩
abbrev rC:Stmt:=top 24
theorem sc_half:FnScope ["width"] ["width"] (av rC):=⟨rfl,rfl,rfl,by decide +kernel,rfl,by decide +kernel,by decide +kernel⟩
abbrev fN:Stmt:=top 27
theorem sc_number_in:FnScope ["figures","number","figure","worth"] ["figures"] (av fN):=⟨rfl,rfl,rfl,by decide +kernel,rfl,by decide +kernel,by decide +kernel⟩
abbrev gX:Stmt:=top 29
theorem nO:FnScope ["word","most"] ["word","most"] (av gX):=⟨rfl,rfl,rfl,by decide +kernel,rfl,by decide +kernel,by decide +kernel⟩
abbrev gZ:Stmt:=top 32
theorem mZ:FnScope [] [] (av gZ):=⟨rfl,rfl,rfl,by decide +kernel,rfl,by decide +kernel,by decide +kernel⟩
abbrev dh:Stmt:=ba (top 40) 0
theorem iW:FnScope ["self","line","deed","goals"] ["self","line","deed","goals"] (av dh):=⟨rfl,rfl,rfl,by decide +kernel,rfl,by decide +kernel,by decide +kernel⟩
abbrev cq:Stmt:=ba (top 41) 0
theorem gq:FnScope ["self","line","times"] ["self","line","times"] (av cq):=⟨rfl,rfl,rfl,by decide +kernel,rfl,by decide +kernel,by decide +kernel⟩
abbrev cK:Stmt:=ba (top 42) 0
theorem ir:FnScope ["self","width"] ["self","width"] (av cK):=⟨rfl,rfl,rfl,by decide +kernel,rfl,by decide +kernel,by decide +kernel⟩
abbrev dF:Stmt:=ba (top 42) 1
theorem jz:FnScope ["self","line","words"] ["self","line","words"] (av dF):=⟨rfl,rfl,rfl,by decide +kernel,rfl,by decide +kernel,by decide +kernel⟩
abbrev cQ:Stmt:=ba (top 42) 2
theorem sc_Draft_takes_in:FnScope ["self","line","words","kind"] ["self","line","words"] (av cQ):=⟨rfl,rfl,rfl,by decide +kernel,rfl,by decide +kernel,by decide +kernel⟩
abbrev cA:Stmt:=ba (top 42) 3
theorem fV:FnScope ["self","line","words"] ["self","line","words"] (av cA):=⟨rfl,rfl,rfl,by decide +kernel,rfl,by decide +kernel,by decide +kernel⟩
abbrev bE:Stmt:=ba (top 42) 4
theorem sc_Draft_takes_repeat:FnScope ["self","line","words","times","loop"] ["self","line","words"] (av bE):=⟨rfl,rfl,rfl,by decide +kernel,rfl,by decide +kernel,by decide +kernel⟩
abbrev cy:Stmt:=ba (top 42) 5
theorem gM:FnScope ["self"] ["self"] (av cy):=⟨rfl,rfl,rfl,by decide +kernel,rfl,by decide +kernel,by decide +kernel⟩
abbrev cr:Stmt:=ba (top 42) 6
theorem sc_Draft_takes_row:FnScope ["self","line","words","pair","name"] ["self","line","words"] (av cr):=⟨rfl,rfl,rfl,by decide +kernel,rfl,by decide +kernel,by decide +kernel⟩
abbrev cz:Stmt:=ba (top 42) 7
theorem gj:FnScope ["self"] ["self"] (av cz):=⟨rfl,rfl,rfl,by decide +kernel,rfl,by decide +kernel,by decide +kernel⟩
abbrev bL:Stmt:=ba (top 42) 8
theorem eP:FnScope ["self"] ["self"] (av bL):=⟨rfl,rfl,rfl,by decide +kernel,rfl,by decide +kernel,by decide +kernel⟩
abbrev jd:Stmt:=top 43
theorem pC:FnScope ["word"] ["word"] (av jd):=⟨rfl,rfl,rfl,by decide +kernel,rfl,by decide +kernel,by decide +kernel⟩
abbrev dJ:Stmt:=top 44
theorem sc_number_told:FnScope ["word","low","high","number"] ["word","low","high"] (av dJ):=⟨rfl,rfl,rfl,by decide +kernel,rfl,by decide +kernel,by decide +kernel⟩
abbrev fm:Stmt:=top 45
theorem sc_kind_told:FnScope ["width","words","point"] ["width","words"] (av fm):=⟨rfl,rfl,rfl,by decide +kernel,rfl,by decide +kernel,by decide +kernel⟩
abbrev h7:Stmt:=top 46
theorem sc_row_told:FnScope ["width","line","words","many","goals","row","things","shape"] ["width","line","words"] (av h7):=⟨rfl,rfl,rfl,by decide +kernel,rfl,by decide +kernel,by decide +kernel⟩
abbrev ia:Stmt:=top 48
theorem sc_put_into:FnScope ["width","row","part","word","low","high","number"] ["width","row","part","word"] (av ia):=⟨rfl,rfl,rfl,by decide +kernel,rfl,by decide +kernel,by decide +kernel⟩
abbrev cX:Stmt:=top 49
theorem sc_fraction_told:FnScope ["width","word","parts","bottom","top"] ["width","word"] (av cX):=⟨rfl,rfl,rfl,by decide +kernel,rfl,by decide +kernel,by decide +kernel⟩
abbrev eG:Stmt:=top 50
theorem sc_first_walk:FnScope ["text","lines","words","width","draft","line"] ["text"] (av eG):=⟨rfl,rfl,rfl,by decide +kernel,rfl,by decide +kernel,by decide +kernel⟩
abbrev bV:Stmt:=ba (top 55) 0
theorem fL:FnScope ["self","draft","kinds","source"] ["self","draft","kinds","source"] (av bV):=⟨rfl,rfl,rfl,by decide +kernel,rfl,by decide +kernel,by decide +kernel⟩
abbrev eE:Stmt:=top 57
theorem j4:FnScope ["rows"] ["rows"] (av eE):=⟨rfl,rfl,rfl,by decide +kernel,rfl,by decide +kernel,by decide +kernel⟩
abbrev dB:Stmt:=top 58
theorem sc_not_of_word:FnScope ["names","kinds","word","name"] ["names","kinds","word"] (av dB):=⟨rfl,rfl,rfl,by decide +kernel,rfl,by decide +kernel,by decide +kernel⟩
abbrev cZ:Stmt:=top 59
theorem sc_wrongly_read:FnScope ["width","row","kinds","wrong"] ["width","row","kinds"] (av cZ):=⟨rfl,rfl,rfl,by decide +kernel,rfl,by decide +kernel,by decide +kernel⟩
abbrev ik:Stmt:=top 60
theorem mO:FnScope ["width","row","told","kinds"] ["width","row","told","kinds"] (av ik):=⟨rfl,rfl,rfl,by decide +kernel,rfl,by decide +kernel,by decide +kernel⟩
abbrev il:Stmt:=top 61
theorem sc_need_row:FnScope ["width","row","told","kinds","name","wrong","kind"] ["width","row","told","kinds"] (av il):=⟨rfl,rfl,rfl,by decide +kernel,rfl,by decide +kernel,by decide +kernel⟩
abbrev fe:Stmt:=top 62
theorem sc_need_outs:FnScope ["outs","kinds","met","out"] ["outs","kinds"] (av fe):=⟨rfl,rfl,rfl,by decide +kernel,rfl,by decide +kernel,by decide +kernel⟩
abbrev dC:Stmt:=top 63
theorem sc_second_walk:FnScope ["draft","kinds","thing","pair"] ["draft"] (av dC):=⟨rfl,rfl,rfl,by decide +kernel,rfl,by decide +kernel,by decide +kernel⟩
abbrev c8:Stmt:=top 64
theorem sc_read_program:FnScope ["text","draft","kinds"] ["text"] (av c8):=⟨rfl,rfl,rfl,by decide +kernel,rfl,by decide +kernel,by decide +kernel⟩
abbrev fF:Stmt:=top 66
theorem lK:FnScope ["_law_script","_law_k"] ["_law_script","_law_k"] (av fF):=⟨rfl,rfl,rfl,by decide +kernel,rfl,by decide +kernel,by decide +kernel⟩
abbrev ii:Stmt:=top 67
theorem mX:FnScope ["_law_cell_here"] ["_law_cell_here"] (av ii):=⟨rfl,rfl,rfl,by decide +kernel,rfl,by decide +kernel,by decide +kernel⟩
abbrev fj:Stmt:=top 68
theorem sc__law_take:FnScope ["_law_box_here","_law_many","_law_digit","_law_number"] ["_law_box_here","_law_many"] (av fj):=⟨rfl,rfl,rfl,by decide +kernel,rfl,by decide +kernel,by decide +kernel⟩
abbrev eY:Stmt:=top 69
theorem sc__law_spec:FnScope ["_law_box_here","_law_width","_law_word"] ["_law_box_here","_law_width"] (av eY):=⟨rfl,rfl,rfl,by decide +kernel,rfl,by decide +kernel,by decide +kernel⟩
abbrev cm:Stmt:=top 70
theorem gH:FnScope ["_law_spec_here"] ["_law_spec_here"] (av cm):=⟨rfl,rfl,rfl,by decide +kernel,rfl,by decide +kernel,by decide +kernel⟩
abbrev fG:Stmt:=top 71
theorem lZ:FnScope ["_law_box_here","_law_names"] ["_law_box_here","_law_names"] (av fG):=⟨rfl,rfl,rfl,by decide +kernel,rfl,by decide +kernel,by decide +kernel⟩
abbrev hX:Stmt:=top 72
theorem sc__law_row:FnScope ["_law_box_here","_law_width","_law_names","_law_deeds","_law_deed","_law_many","_law_reads","_law_goals","_law_half","_law_number","_law_words","_law_text"] ["_law_box_here","_law_width","_law_names"] (av hX):=⟨rfl,rfl,rfl,by decide +kernel,rfl,by decide +kernel,by decide +kernel⟩
abbrev fP:Stmt:=top 73
theorem sc__law_made:FnScope ["_law_row_here","_law_kinds","_law_width","_law_text","_law_deed","_law_reads","_law_goals","_law_number","_law_name","_law_some_here","_law_kind","_law_put"] ["_law_row_here","_law_kinds","_law_width"] (av fP):=⟨rfl,rfl,rfl,by decide +kernel,rfl,by decide +kernel,by decide +kernel⟩
abbrev dH:Stmt:=top 74
theorem sc__law_looped:FnScope ["_law_box_here","_law_rows","_law_lines","_law_places","_law_at","_law_end","_law_inner"] ["_law_box_here","_law_rows"] (av dH):=⟨rfl,rfl,rfl,by decide +kernel,rfl,by decide +kernel,by decide +kernel⟩
abbrev gY:Stmt:=top 75
theorem sc__law_due:FnScope ["_law_ins","_law_rows","_law_places","_law_outs","_law_behind","_law_width","_law_kinds","_law_k","_law_name","_law_kind","_law_row_here","_law_found"] ["_law_ins","_law_rows","_law_places","_law_outs","_law_behind","_law_width"] (av gY):=⟨rfl,rfl,rfl,by decide +kernel,rfl,by decide +kernel,by decide +kernel⟩
abbrev fH:Stmt:=top 76
theorem sc__law_told:FnScope ["_law_text","_law_told_here","e"] ["_law_text"] (av fH):=⟨rfl,rfl,rfl,by decide +kernel,rfl,by decide +kernel,by decide +kernel⟩
abbrev kH:Stmt:=top 77
theorem sc_law:FnScope ["_law_script","_law_k","_law_box_here","_law_width","_law_ins","_law_names","_law_rows","_law_outs","_law_lines","_law_name","_law_kind","_law_middle","_law_places","_law_text","_law_due_here"] ["_law_script"] (av kH):=⟨rfl,rfl,rfl,by decide +kernel,rfl,by decide +kernel,by decide +kernel⟩
structure Ad where
 Kind:Addr
 Plain:Addr
 Signed:Addr
 Pointed:Addr
 Row:Addr
 Repeat:Addr
 Draft:Addr
 Program:Addr
 Unknown:Addr
 WrongKind:Addr
 Twice:Addr
 WiseError:Addr
 WAY_WORDS:Addr
 RESERVED:Addr
 READ_PLAIN:Addr
 READ_ALIKE:Addr
 SHAPES:Addr
structure Txt (K:Frag) (mg:Str->Option Value) (c:Ad):Prop where
 n_isinstance:mg "isinstance"=none
 n_int:mg "int"=none
 n_bool:mg "bool"=none
 n_str:mg "str"=none
 n_list:mg "list"=none
 n_tuple:mg "tuple"=none
 n_dict:mg "dict"=none
 n_len:mg "len"=none
 n_max:mg "max"=none
 n_min:mg "min"=none
 n_range:mg "range"=none
 n_all:mg "all"=none
 n_sum:mg "sum"=none
 n_zip:mg "zip"=none
 n_enumerate:mg "enumerate"=none
 g_Kind:mg "Kind"=some (.ref c.Kind)
 cl_Kind:Cls K c.Kind
 g_Plain:mg "Plain"=some (.ref c.Plain)
 cl_Plain:Cls K c.Plain
 na_Plain_width:NoAttr K c.Plain "width"
 na_Plain_point:NoAttr K c.Plain "point"
 g_Signed:mg "Signed"=some (.ref c.Signed)
 cl_Signed:Cls K c.Signed
 na_Signed_width:NoAttr K c.Signed "width"
 na_Signed_point:NoAttr K c.Signed "point"
 g_Pointed:mg "Pointed"=some (.ref c.Pointed)
 cl_Pointed:Cls K c.Pointed
 na_Pointed_width:NoAttr K c.Pointed "width"
 na_Pointed_point:NoAttr K c.Pointed "point"
 g_Row:mg "Row"=some (.ref c.Row)
 cl_Row:Cls K c.Row
 na_Row_line:NoAttr K c.Row "line"
 na_Row_deed:NoAttr K c.Row "deed"
 na_Row_goals:NoAttr K c.Row "goals"
 na_Row_reads:NoAttr K c.Row "reads"
 na_Row_numbers:NoAttr K c.Row "numbers"
 na_Row_way:NoAttr K c.Row "way"
 g_Repeat:mg "Repeat"=some (.ref c.Repeat)
 cl_Repeat:Cls K c.Repeat
 na_Repeat_line:NoAttr K c.Repeat "line"
 na_Repeat_times:NoAttr K c.Repeat "times"
 na_Repeat_rows:NoAttr K c.Repeat "rows"
 g_Draft:mg "Draft"=some (.ref c.Draft)
 cl_Draft:Cls K c.Draft
 na_Draft_width:NoAttr K c.Draft "width"
 na_Draft_inputs:NoAttr K c.Draft "inputs"
 na_Draft_rows:NoAttr K c.Draft "rows"
 na_Draft_outs:NoAttr K c.Draft "outs"
 na_Draft_row_pairs:NoAttr K c.Draft "row_pairs"
 na_Draft_loops:NoAttr K c.Draft "loops"
 na_Draft_met:NoAttr K c.Draft "met"
 g_Program:mg "Program"=some (.ref c.Program)
 cl_Program:Cls K c.Program
 na_Program_width:NoAttr K c.Program "width"
 na_Program_inputs:NoAttr K c.Program "inputs"
 na_Program_rows:NoAttr K c.Program "rows"
 na_Program_outs:NoAttr K c.Program "outs"
 na_Program_kinds:NoAttr K c.Program "kinds"
 na_Program_source:NoAttr K c.Program "source"
 g_Unknown:mg "Unknown"=some (.ref c.Unknown)
 g_WrongKind:mg "WrongKind"=some (.ref c.WrongKind)
 g_Twice:mg "Twice"=some (.ref c.Twice)
 g_WiseError:mg "WiseError"=some (.ref c.WiseError)
 g_WAY_WORDS:mg "WAY_WORDS"=some (.ref c.WAY_WORDS)
 q_WAY_WORDS:∀ H,SqT K H c.WAY_WORDS [.str "down",.str "up",.str "cut",.str "near"]
 g_RESERVED:mg "RESERVED"=some (.ref c.RESERVED)
 q_RESERVED:∀ H,SqT K H c.RESERVED [.str "width",.str "in",.str "out",.str "plain",.str "signed",.str "point",.str "set",.str "copy",.str "add",.str "sub",.str "addstop",.str "substop",.str "low",.str "high",.str "left",.str "right",.str "less",.str "same",.str "pick",.str "div",.str "rest",.str "over",.str "times",.str "mul",.str "part",.str "repeat",.str "end",.str "down",.str "up",.str "cut",.str "near"]
 g_READ_PLAIN:mg "READ_PLAIN"=some (.ref c.READ_PLAIN)
 q_READ_PLAIN:∀ H,SqT K H c.READ_PLAIN [.str "low",.str "high",.str "over",.str "rest",.str "part"]
 g_READ_ALIKE:mg "READ_ALIKE"=some (.ref c.READ_ALIKE)
 q_READ_ALIKE:∀ H,SqT K H c.READ_ALIKE [.str "add",.str "sub",.str "addstop",.str "substop",.str "less",.str "same",.str "mul",.str "pick"]
 g_SHAPES:mg "SHAPES"=some (.ref c.SHAPES)
 g_LETTERS:∃ t,mg "LETTERS"=some (.str "abcdefghijklmnopqrstuvwxyz" t)
 g_MOST_LINES:∃ t,mg "MOST_LINES"=some (.int 60 t)
 g_MOST_NAMES:∃ t,mg "MOST_NAMES"=some (.int 30 t)
 g_MOST_LOOPS:∃ t,mg "MOST_LOOPS"=some (.int 3 t)
 g_MOST_ROWS:∃ t,mg "MOST_ROWS"=some (.int 600 t)
 kf_og:PySem.W.specialIn K (.builtin "object.__class__") "__get__"=some (some (.builtin "getset_descriptor.__get__"))
 kf_ot:PySem.W.takesIn K (.builtin "object.__class__")=some true
 kf_fcA:findIn K (.ref c.Row) "__class__"=some (some (.builtin "object.__class__"))
 kf_fcB:findIn K (.ref c.Repeat) "__class__"=some (some (.builtin "object.__class__"))
 kf_moA:mroIn K c.Row (.type "object")=some true
 kf_moB:mroIn K c.Repeat (.type "object")=some true
 kf_if:isClsIn K c.Repeat=true
 kf_tf:typeIn K (.ref c.Repeat)=some (.type "type")
 kf_mAB:mroIn K c.Row (.ref c.Repeat)=some false
 kf_mAA:mroIn K c.Row (.ref c.Row)=some true
 kf_mBB:mroIn K c.Repeat (.ref c.Repeat)=some true
 kf_kr_SHAPES:(c.SHAPES == PySem.sysModules)=false
 kf_if_Unknown:isClsIn K c.Unknown=true
 kf_tf_Unknown:typeIn K (.ref c.Unknown)=some (.type "type")
 kf_mf_Unknown:mroIn K c.Unknown (.ref c.Unknown)=some true
 kf_wb_Unknown:mroIn K c.Unknown (.type "BaseException")=some true
 kf_ga_Unknown:findIn K (.ref c.Unknown) "__getattribute__"=some (some (.builtin "BaseException.__getattribute__"))
 kf_gn_Unknown:findIn K (.ref c.Unknown) "__getattr__"=some none
 kf_gc_Unknown:findIn K (.ref c.Unknown) "__class__"=some (some (.builtin "object.__class__"))
 kf_mo_Unknown:mroIn K c.Unknown (.type "object")=some true
 kf_mb_Unknown:mroIn K c.Unknown (.type "BaseException")=some true
 kf_hd_Unknown:hasDictIn K c.Unknown=true
 kf_nf_Unknown:findIn K (.ref c.Unknown) "line"=some none
 kf_nn_Unknown:findIn K (.ref c.Unknown) "name"=some none
 kf_if_WrongKind:isClsIn K c.WrongKind=true
 kf_tf_WrongKind:typeIn K (.ref c.WrongKind)=some (.type "type")
 kf_mf_WrongKind:mroIn K c.WrongKind (.ref c.WrongKind)=some true
 kf_wb_WrongKind:mroIn K c.WrongKind (.type "BaseException")=some true
 kf_ga_WrongKind:findIn K (.ref c.WrongKind) "__getattribute__"=some (some (.builtin "BaseException.__getattribute__"))
 kf_gn_WrongKind:findIn K (.ref c.WrongKind) "__getattr__"=some none
 kf_gc_WrongKind:findIn K (.ref c.WrongKind) "__class__"=some (some (.builtin "object.__class__"))
 kf_mo_WrongKind:mroIn K c.WrongKind (.type "object")=some true
 kf_mb_WrongKind:mroIn K c.WrongKind (.type "BaseException")=some true
 kf_hd_WrongKind:hasDictIn K c.WrongKind=true
 kf_nf_WrongKind:findIn K (.ref c.WrongKind) "line"=some none
 kf_nn_WrongKind:findIn K (.ref c.WrongKind) "name"=some none
 kf_if_Twice:isClsIn K c.Twice=true
 kf_tf_Twice:typeIn K (.ref c.Twice)=some (.type "type")
 kf_mf_Twice:mroIn K c.Twice (.ref c.Twice)=some true
 kf_wb_Twice:mroIn K c.Twice (.type "BaseException")=some true
 kf_ga_Twice:findIn K (.ref c.Twice) "__getattribute__"=some (some (.builtin "BaseException.__getattribute__"))
 kf_gn_Twice:findIn K (.ref c.Twice) "__getattr__"=some none
 kf_gc_Twice:findIn K (.ref c.Twice) "__class__"=some (some (.builtin "object.__class__"))
 kf_mo_Twice:mroIn K c.Twice (.type "object")=some true
 kf_mb_Twice:mroIn K c.Twice (.type "BaseException")=some true
 kf_hd_Twice:hasDictIn K c.Twice=true
 kf_nf_Twice:findIn K (.ref c.Twice) "line"=some none
 kf_nn_Twice:findIn K (.ref c.Twice) "name"=some none
 kf_m_WrongKind_Unknown:mroIn K c.WrongKind (.ref c.Unknown)=some false
 kf_m_Twice_Unknown:mroIn K c.Twice (.ref c.Unknown)=some false
 kf_m_Twice_WrongKind:mroIn K c.Twice (.ref c.WrongKind)=some false
theorem dj {w:Int}(h1:4<=w) (h2:w<=32):16<=(2:Int)^w.toNat/\(2:Int)^w.toNat<=4294967296:=by
 have a:(2:Int)^4<=2^w.toNat:=p_mono (by lia)
 have b:(2:Int)^w.toNat<=2^32:=p_mono (by lia)
 exact⟨a,b⟩
theorem mG {m:Int}(h0:0<m) (h:m<2^64):m.natAbs.log2<9000:=by
 have h1:m.natAbs≠0:=by lia
 have h2:m.natAbs<2^64:=by lia
 have:=(Nat.log2_lt h1).mpr h2
 lia
theorem nB {w:Int}(h1:0<=w) (h2:w<=100000):CPow 1 w:=⟨h1,by lia,by decide⟩
theorem oX {x y m:Int}(h0:0<m) (h:m<=2^64):CMul (x%m) y:=by
 have a:=Int.emod_nonneg x (show m≠0 by lia)
 have b:=Int.emod_lt_of_pos x h0
 exact .inl ⟨by lia,by lia⟩
def nZ:Sp:=fun vs H Q _=>∃ i:Int,vs=[.int i]/\Q (.bl true) H
def gz:Sp:=fun vs H Q _=>∃ i lo hi:Int,vs=[.int i,.int lo,.int hi]/\lo<=i/\i<=hi/\Q (.bl true) H
def iT:Sp:=fun vs H Q _=>∃ i:Int,vs=[.int i]/\4<=i/\i<=32/\Q .non H
def spLaw (K:Frag):Sp:=fun vs H Q _=>∃ (a:Addr) (ns:List Int),vs=[.ref a]/\SqL K H a (ns.map V.int)/\ns.length<=63/\∀ H',Q (.bl true) H'
def rW (K:Frag):Sp:=fun vs H Q _=>∃ (a:Addr) (ns:List Int) (k:Int),vs=[.ref a,.int k]/\SqL K H a (ns.map V.int)/\0<=k/\∀ c:Int,Q (.int c) H
def spBox:Sp:=fun vs H Q _=>∃ c:Int,vs=[.int c]/\∀ p H',H p=none->Box H' p->Same H H'->Q (.ref p) H'
def iX:Sp:=fun vs H Q _=>∃ (p:Addr) (m:Int),vs=[.ref p,.int m]/\Box H p/\0<m/\m<2^64/\∀ (d:Int) H',0<=d->d<m->Box H' p->SameX p H H'->Q (.int d) H'
def cOf (c:Ad):Nat->Addr
 | 0=>c.Plain
 | 1=>c.Signed
 | _=>c.Pointed
def wd:Nat->Str
 | 0=>"plain"
 | 1=>"signed"
 | _=>"point"
def KO (c:Ad) (H:Hp) (x:Addr) (kd:Nat) (w pt:Int):Prop:=∃ dx,H x=some (.ins (cOf c kd) dx [("width",.int w),("point",.int pt)])
theorem KO.same {c:Ad}{H H':Hp}{x:Addr}{kd:Nat}{w pt:Int}(k:KO c H x kd w pt) (s:Same H H'):KO c H' x kd w pt:=by
 obtain⟨dx,h⟩:=k
 exact⟨dx,s _ _ h⟩
def sf:Sp:=fun vs H Q _=>∃ w:Int,vs=[.int w]/\4<=w/\w<=32/\Q (.int (1*2^(w-1).toNat)) H
def iO (K:Frag):Sp:=fun vs H Q _=>∃ (x C dx:Addr) (w p:Int),vs=[.ref x,.int w,.int p]/\H x=some (.ins C dx [])/\Cls K C/\NoAttr K C "width"/\NoAttr K C "point"/\∀ H',SameX x H H'->H' x=some (.ins C dx [("width",.int w),("point",.int p)])->Q .non H'
def jt (c:Ad) (kd:Nat):Sp:=fun vs H Q _=>∃ (x dx:Addr) (w:Int),vs=[.ref x,.int w]/\H x=some (.ins (cOf c kd) dx [])/\4<=w/\w<=32/\∀ H',SameX x H H'->KO c H' x kd w 0->Q .non H'
def nS (c:Ad):Sp:=fun vs H Q _=>∃ (x dx:Addr) (w p:Int),vs=[.ref x,.int w,.int p]/\H x=some (.ins (cOf c 2) dx [])/\4<=w/\w<=32/\1<=p/\p<=w-1/\∀ H',SameX x H H'->KO c H' x 2 w p->Q .non H'
theorem ph {w:Int}(h1:4<=w):(2:Int)^w.toNat=2*2^(w-1).toNat:=by
 have e:w.toNat=(w-1).toNat+1:=by lia
 rw[e,Int.pow_succ,Int.mul_comm]
theorem pQ {i j:Nat}(hi:i<3) (hj:j<3) (h:i≠j):¬ (V.str (wd i)=V.str (wd j)):=by
 rcases(by lia:i=0\/i=1\/i=2) with rfl | rfl | rfl <;> rcases(by lia:j=0\/j=1\/j=2) with rfl | rfl | rfl <;> first | (exact absurd rfl h) | (intro z; injection z with z; revert z; decide +kernel)
theorem eqV_int (i:Int):eqV (V.int i) (V.int i)=true:=by show (i == i)=true; exact beq_self_eq_true i
theorem Txt.cls {K:Frag}{mg:Str->Option Value}{c:Ad}(T:Txt K mg c) (kd:Nat):Cls K (cOf c kd):=match kd with
 | 0=>T.cl_Plain
 | 1=>T.cl_Signed
 | _+2=>T.cl_Pointed
theorem Txt.naw {K:Frag}{mg:Str->Option Value}{c:Ad}(T:Txt K mg c) (kd:Nat):NoAttr K (cOf c kd) "width":=match kd with
 | 0=>T.na_Plain_width
 | 1=>T.na_Signed_width
 | _+2=>T.na_Pointed_width
theorem Txt.nap {K:Frag}{mg:Str->Option Value}{c:Ad}(T:Txt K mg c) (kd:Nat):NoAttr K (cOf c kd) "point":=match kd with
 | 0=>T.na_Plain_point
 | 1=>T.na_Signed_point
 | _+2=>T.na_Pointed_point
theorem oN {p t:Addr}{H H':Hp}(hb:Box H' p) (x:SameX p H H') (ht:H' t=none):H t=none:=by
 cases h:H t with
 | none=>rfl
 | some o =>
  by_cases e:t=p
  ·obtain⟨r,s,c,hb⟩:=hb
   rw[e,hb] at ht
   cases ht
  ·rw[x t o e h] at ht
   cases ht
theorem aQ {x dx C:Addr}{H H':Hp}(hx:H x=none) (hd:H dx=none) (s:SameX x (upd (upd H dx (.own x)) x (.ins C dx [])) H'):Same H H':=fun b o h=>s b o (az h hx) (by rw[af (az h hx),af (az h hd)]; exact h)
theorem kP {c A B:Prop} [Decidable c] (h1:¬ c->A) (h2:c->B):if (!decide c)=true then A else B:=by
 by_cases h:c
 ·exact eN h (h2 h)
 ·exact iteN h (h1 h)
local macro_rules | `(tactic| walk_at "s")=>`(tactic| first
 | lia | assumption | exact ty_int | exact rfl | (dsimp only; lia) | exact nB (by lia) (by lia) | exact⟨by decide,by decide⟩ | exact⟨by lia,mG (by lia) (by lia)⟩
 | exact .inr ⟨by decide,by decide⟩ | exact .inl ⟨by decide,by decide⟩ | exact .inl ⟨by lia,by lia⟩ | exact .inr ⟨by lia,by lia⟩ | exact⟨b200 (by lia) (by lia),b200 (by lia) (by lia)⟩
 | exact⟨by decide,by decide,by decide⟩ | exact Nat.le_of_ble_eq_true rfl)
local macro_rules | `(tactic| walk_at "q")=>`(tactic| first | exact SqT.of (by first | assumption | exact ac) | exact SqL.of (by first | assumption | exact ac) | assumption)
local macro_rules | `(tactic| walk_at "o")=>`(tactic| repeat (first
 | refine⟨_,rfl,?_⟩ | refine⟨_,_,rfl,rfl,?_⟩ | with_reducible refine di ?_ | with_reducible refine gU ?_
 | refine⟨_,_,_,_,rfl,rfl,(by walk_at "q"),rfl,?_⟩
 | refine And.intro (by walk_at "s") ?_
 | refine⟨_,_,rfl,?_⟩ | refine⟨_,_,_,rfl,?_⟩
 | refine⟨_,_,_,_,_,rfl,rfl,TyOf.int _,iV _,?_⟩ | refine⟨_,_,_,_,_,rfl,rfl,TyOf.int _,iu _,?_⟩
 | refine⟨_,_,_,_,_,rfl,rfl,TyOf.bl _,rfl,?_⟩
 | refine⟨_,_,_,_,_,rfl,rfl,TyOf.tup (by assumption),rfl,?_⟩
 | refine⟨_,_,rfl,.inr (SqT.of (by assumption)),?_⟩ | refine⟨_,_,rfl,.inl (SqL.of (by assumption)),?_⟩
 | with_reducible refine dw (by lia) ?_ | with_reducible refine aN (by lia) ?_ | with_reducible refine iteN (by lia) ?_ | with_reducible refine eN (by lia) ?_
 | with_reducible refine eN rfl ?_))
local macro_rules | `(tactic| walk_at "c")=>`(tactic| first | with_reducible refine iteI ?_ ?_ | with_reducible refine iteIN ?_ ?_ | with_reducible refine iteC ?_ ?_ | with_reducible refine kP ?_ ?_ | refine ite2 ?_ ?_)
local macro_rules | `(tactic| walk_at "n")=>`(tactic| (intro z; injection z with z; revert z; decide +kernel))
open PySem.NumText (AllDigits digitsVal)
theorem mK:∀ (cs:List Nat) (a:Nat),cs.foldl (fun acc c=>acc*10+(c-48)) a=a*10^cs.length+digitsVal cs
 | [],a=>by simp[digitsVal]
 | c::cs,a=>by
  show cs.foldl _ (a*10+(c-48))=a*10^(cs.length+1)+cs.foldl _ (0*10+(c-48))
  rw[mK cs (a*10+(c-48)),mK cs (0*10+(c-48)),Nat.zero_mul,Nat.zero_add,Nat.add_mul,Nat.pow_succ,Nat.mul_assoc a 10,Nat.mul_comm 10 (10^cs.length)]
  lia
theorem dv_cons (c:Nat) (cs:List Nat):digitsVal (c::cs)=(c-48)*10^cs.length+digitsVal cs:=by
 show cs.foldl _ (0*10+(c-48))=_
 rw[mK,Nat.zero_mul,Nat.zero_add]
theorem dv_lt:∀ {cs:List Nat},AllDigits cs->digitsVal cs<10^cs.length
 | [],_=>by decide
 | c::cs,h=>by
  have:=dv_lt h.tail
  have hc:=h.head
  rw[dv_cons,length_cons,Nat.pow_succ]
  have:(c-48)*10^cs.length<=9*10^cs.length:=Nat.mul_le_mul_right _ (by lia)
  lia
def dgs (k:Nat):List Nat:=(Nat.toDigits 10 k).map Char.toNat
structure Canon (W:List Nat):Prop where
 dig:AllDigits W
 ne:W≠[]
 lead:W.head?=some 48->W.length=1
theorem gp {k:Nat}(h:k<10):dgs k=[48+k]:=by
 unfold dgs
 rw[Nat.toDigits_of_lt_base h]
 have a:∀ k∈List.range 10,[Nat.digitChar k].map Char.toNat=[48+k]:=by decide
 exact a k (List.mem_range.mpr h)
theorem oQ {k:Nat}(h:10<=k):dgs k=dgs (k/10)++[48+k%10]:=by
 have e:=Nat.toDigits_append_toDigits (b:=10) (n:=k/10) (d:=k%10) (by decide) (by lia) (Nat.mod_lt _ (by decide))
 rw[show 10*(k/10)+k%10=k by lia] at e
 have:dgs k=dgs (k/10)++dgs (k%10):=by unfold dgs; rw[<- e,map_append]
 rw[this,gp (Nat.mod_lt _ (by decide))]
theorem dgs_ok:∀ k:Nat,Canon (dgs k)/\digitsVal (dgs k)=k/\(k≠0->(dgs k).head?≠some 48):=by
 intro k
 induction k using Nat.strongRecOn with
 | _ k ih =>
  by_cases h:k<10
  ·rw[gp h]
   refine⟨⟨fun c hc=>?_,by simp,fun _=>rfl⟩,?_,fun h0=>?_⟩
   ·rw[List.mem_singleton.mp hc]; lia
   ·show 0*10+(48+k-48)=k; lia
   ·show some (48+k)≠some 48
    intro z; injection z; lia
  ·obtain⟨⟨i1,i2,i3⟩,i4,i5⟩:=ih (k/10) (by lia)
   rw[oQ (by lia)]
   have hd:(dgs (k/10)++[48+k%10]).head?=(dgs (k/10)).head?:=by
    cases e:dgs (k/10) with
    | nil=>exact absurd e i2
    | cons a t=>rfl
   refine⟨⟨fun c hc=>?_,by simp,fun z=>?_⟩,?_,fun _=>?_⟩
   ·rcases List.mem_append.mp hc with hc | hc
    ·exact i1 c hc
    ·rw[List.mem_singleton.mp hc]; lia
   ·rw[hd] at z; exact absurd z (i5 (by lia))
   ·rw[PySem.NumText.digitsVal_snoc,i4]; lia
   ·rw[hd]; exact i5 (by lia)
theorem dgs_len:∀ (n k:Nat),k<10^(n+1)->(dgs k).length<=n+1:=by
 intro n
 induction n with
 | zero=>intro k h; rw[gp (by simpa using h)]; exact le_refl _
 | succ n ih =>
  intro k h
  by_cases c:k<10
  ·rw[gp c]; simp
  ·rw[oQ (by lia),length_append]
   have:=ih (k/10) (by rw[Nat.pow_succ] at h; lia)
   simp
   lia
def oV:Option Int->V
 | some v=>.int v
 | none=>.non
theorem rY {α:Type}{l:List α}{j:Nat}{x:α}(h:l[j]?=some x):l.take (j+1)=l.take j++[x]:=by rw[take_add_one,h]; rfl
theorem find_dig (ch:Nat):Txt.find (Str.ofString "0123456789") ⟨#[ch]⟩=if 48<=ch/\ch<=57 then ((ch-48:Nat):Int) else -1:=by
 by_cases c:48<=ch/\ch<=57
 ·rw[if_pos c]
  have a:∀ d∈List.range 58,48<=d->Txt.find (Str.ofString "0123456789") ⟨#[d]⟩=((d-48:Nat):Int):=by decide +kernel
  exact a ch (List.mem_range.mpr (by lia)) c.1
 ·rw[if_neg c]
  have f:=PySem.StrLaws.found_one (Str.ofString "0123456789") ch
  rw[decide_eq_false (fun m=>c ?_)] at f
  ·unfold Txt.find
   cases e:Builtin.Str.occurrences (Str.ofString "0123456789") ⟨#[ch]⟩ 0 (Str.ofString "0123456789").length 1 with
   | nil=>rfl
   | cons a r=>rw[e] at f; cases f
  ·have a:∀ d∈(Str.ofString "0123456789").cps.toList,48<=d/\d<=57:=by decide +kernel
   exact a ch m
theorem Same.updL {H H':Hp}{l:Addr}{o:HO}(s:Same H H') (hl:H l=none):Same H (upd H' l o):=fun b u e=>by rw[af (az e hl)]; exact s b u e
theorem bA (z:Str):z.cps.toList.length=z.length:=Array.length_toList
def qo:Sp:=fun vs H Q _=>∃ z:Str,vs=[.str z]/\z.length<=43/\∀ o:Option Int,(PySem.NumText.AllDigits z.cps.toList->o=some ((digitsVal z.cps.toList:Nat):Int))->(∀ n,o=some n->0<=n/\n<10^43)->Q (oV o) H
theorem str_nat (k:Nat):(Str.ofString (toString ((k:Nat):Int))).cps.toList=dgs k:=by
 rw[PySem.Str.ofString_eq_toList]
 show ((toString k).toList.map Char.toNat)=dgs k
 unfold dgs
 rw[show (toString k)=String.ofList (Nat.toDigits 10 k) from rfl,String.toList_ofList]
def Num (z:Str):Prop:=PySem.NumText.AllDigits z.cps.toList/\1<=z.length/\z.length<=10/\(z.cps[0]?=some 48->z = "0")
def nV (z:Str):Int:=((digitsVal z.cps.toList:Nat):Int)
def qM:Sp:=fun vs H Q _=>∃ z:Str,vs=[.str z,.int 10]/\Num z/\Q (.int (nV z)) H
def jp:Sp:=fun vs H Q _=>∃ (z:Str) (lo hi:Int),vs=[.str z,.int lo,.int hi]/\Num z/\Q (if lo<=nV z/\nV z<=hi then .int (nV z) else .non) H
def inS (j i:Str):Bool:=!(Builtin.Str.occurrences j i 0 j.length 1).isEmpty
def LT:Str:="abcdefghijklmnopqrstuvwxyz"
def resW:List Str:=["width","in","out","plain","signed","point","set","copy","add","sub","addstop","substop","low","high","left","right","less","same","pick","div","rest","over","times","mul","part","repeat","end","down","up","cut","near"]
def Nm (z:Str):Prop:=1<=z.length/\z.length<=6/\(z.cps.toList.all fun n=>inS LT ⟨#[n]⟩)=true/\resW.contains z=false
def spNm:Sp:=fun vs H Q _=>∃ z:Str,vs=[.str z]/\Nm z/\∀ H',Same H H'->Q (.bl true) H'
theorem m6 {z:Str}{xs:List Str}:inV (.str z) (xs.map V.str)=xs.contains z:=by
 unfold inV
 rw[List.any_map]
 induction xs with
 | nil=>rfl
 | cons y r ih =>
  rw[any_cons,List.contains_cons,ih]
  congr 1
  show decide _=_
  by_cases e:z=y
  ·subst e; simp
  ·rw[beq_eq_false_iff_ne.mpr e]; simp[Ne.symm e]
theorem cH (xs:List Str):(xs.map V.str).all eS=true:=by
 rw[List.all_map]
 exact List.all_eq_true.mpr fun _ _=>rfl
def tt (n:Nat):Str:=Str.ofString (toString ((n:Nat):Int))
theorem kr {n:Nat}(h:n<10^10):Num (tt n)/\nV (tt n)=n:=by
 obtain⟨⟨a,b,_⟩,e,f⟩:=dgs_ok n
 have t:(tt n).cps.toList=dgs n:=str_nat n
 refine⟨⟨by rw[t]; exact a,?_,?_,fun z=>?_⟩,?_⟩
 ·rw[<- bA,t]; exact List.length_pos_iff.mpr b
 ·rw[<- bA,t]; exact dgs_len 9 n h
 ·have z':(dgs n).head?=some 48:=by rw[<- t,List.head?_eq_getElem?,Array.getElem?_toList]; exact z
  have n0:n=0:=Decidable.byContradiction fun q=>f q z'
  rw[n0]; decide +kernel
 ·unfold nV; rw[t,e]
theorem bD (a b:Str):(a++b:Str).cps.toList=a.cps.toList++b.cps.toList:=by show (a.cps++b.cps).toList=_; rw[Array.toList_append]
def frT (n:Nat):Str:=(Str.ofString "1/":Str)++tt n
theorem part_sl (n:Nat):(Txt.partition (frT n) (Str.ofString "/")).1 = "1"/\(Txt.partition (frT n) (Str.ofString "/")).2.2=tt n:=by
 have ed:Str.ofString "/"=⟨#[47]⟩:=by decide
 have ez:(frT n).cps.toList=49::47::(tt n).cps.toList:=by unfold frT; rw[bD]; rfl
 rw[ed]
 unfold Txt.partition
 rcases PySem.StrLaws.occ_head_from (frT n) ⟨#[47]⟩ 0 1 (le_refl 1) with ⟨h0,hn⟩ | ⟨k,r,h0,hlo,hk,hn⟩
 ·exact absurd ((PySem.StrLaws.subAt_one (frT n) 47 1).mpr (by rw[ez]; rfl)) (hn 1 (zero_le _))
 ·rw[h0]
  have hm:=(PySem.StrLaws.subAt_one (frT n) 47 k).mp hk
  have k1:k=1:=by
   rcases(by lia:k=0\/k=1\/1<k) with rfl | h | h
   ·rw[ez] at hm; cases hm
   ·exact h
   ·exact absurd ((PySem.StrLaws.subAt_one (frT n) 47 1).mpr (by rw[ez]; rfl)) (hn 1 (zero_le _) h)
  subst k1
  refine⟨fE ?_,fE ?_⟩
  ·show ((frT n).cps.extract 0 1).toList=_
   rw[Array.toList_extract,ez]
   rfl
  ·show ((frT n).cps.extract 2 (frT n).cps.size).toList=_
   rw[Array.toList_extract,<- Array.length_toList,ez]
   simp
   exact List.take_of_length_le (by rw[Array.length_toList]; exact le_refl _)
theorem none_of {H H':Hp}(s:Same H H') {b:Addr}(e:H' b=none):H b=none:=by
 cases z:H b with
 | none=>rfl
 | some o=>rw[s _ _ z] at e; cases e
theorem cJ {H:Hp}{p:Addr}(h:H p=none) (o:HO):∃ G,upd H p o=G/\Same H G/\G p=some o:=⟨_,rfl,aj h _,ac⟩
theorem num1:Num "1"/\nV "1"=1:=⟨⟨by unfold PySem.NumText.AllDigits; decide +kernel,by decide +kernel,by decide +kernel,fun z=>absurd z (by decide +kernel)⟩,by decide +kernel⟩
theorem num0:Num "0"/\nV "0"=0:=⟨⟨by unfold PySem.NumText.AllDigits; decide +kernel,by decide +kernel,by decide +kernel,fun _=>rfl⟩,by decide +kernel⟩
theorem re {n:Nat}(h:n<10^10):(frT n).length<=12:=by
 have e:(frT n).cps.toList.length=2+(tt n).cps.toList.length:=by unfold frT; rw[bD,length_append]; rfl
 rw[bA,bA] at e
 have:=(kr h).1.2.2.1
 lia
def dnL:List Str:=["copy","add","sub","addstop","substop","low","high","left","right","less","same","pick","div","rest","over","times","mul","part"]
def dn (k:Nat):Str:=dnL.getD k ""
def pP (k n:Nat):List Int:=match k with
 | 7=>[1] | 8=>[0] | 12=>[n] | 13=>[n] | 15=>[1,n] | 17=>[n] | _=>[]
def ex (k n:Nat):List (Str×Str):=match k with
 | 7=>[("shift","1")] | 8=>[("shift","0")] | 12=>[("divisor",tt n),("way","up")] | 13=>[("divisor",tt n)] | 15=>[("fraction",frT n),("way","cut")] | 16=>[("way","near")] | 17=>[("divisor",tt n)] | _=>[]
def nrd (k:Nat):Nat:=if k=11 then 3 else if k∈([0,7,8,12,13,15,17]:List Nat) then 1 else 2
def shp (k:Nat):List Str:=List.replicate (nrd k) ("name":Str)++(ex k 0).map (·.1)
abbrev KS:Type:=Nat×Int
def KG (w:Int) (κ:KS):Prop:=κ.1<3/\(κ.1=2->1<=κ.2/\κ.2<=w-1)/\(κ.1≠2->κ.2=0)
def kwS (κ:KS):List Str:=if κ.1=2 then [wd 2,tt κ.2.toNat] else [wd κ.1]
def spWd (i:Nat):Sp:=fun vs H Q _=>∃ x:Addr,vs=[.ref x]/\Q (.str (wd i)) H
def pc (c:Ad):Sp:=fun vs H Q _=>∃ (x y:Addr) (w:Int) (κ μ:KS),vs=[.ref x,.ref y]/\KO c H x κ.1 w κ.2/\KO c H y μ.1 w μ.2/\κ.1<3/\μ.1<3/\Q (.bl (decide (κ=μ))) H
def waysL:List Str:=["down","up","cut","near"]
def rN:Sp:=fun vs H Q _=>vs=[]/\∀ l,H l=none->Q (.ref l) (upd H l (.lst (waysL.map V.str)))
def spFrT:Sp:=fun vs H Q _=>∃ (w:Int) (n:Nat),vs=[.int w,.str (frT n)]/\4<=w/\w<=32/\1<=(n:Int)/\(n:Int)<=2^w.toNat-1/\∀ l H',H l=none->H' l=some (.lst [.int 1,.int n])->Same H H'->Q (.ref l) H'
def spKT (c:Ad):Sp:=fun vs H Q _=>∃ (w:Int) (l:Addr) (κ:KS),vs=[.int w,.ref l]/\H l=some (.lst ((kwS κ).map V.str))/\4<=w/\w<=32/\KG w κ/\∀ k H',H k=none->KO c H' k κ.1 w κ.2->Same H H'->Q (.ref k) H'
section
variable {P:Program}{w:World}{K:Frag}{mg:Str->Option Value}{base:Heap}{c:Ad}
theorem og {f:Addr}{fd:FuncData}(F:Fun K "is_whole" "is_whole" hV f fd) (T:Txt K mg c) :FnOk P w K mg base CX0 1 f fd ["thing"] nZ:=by
 refine F.ok nH (fun vs H Q E h=>?_) (fun cdv A outer s H vs Q E hr h=>?_)
 ·obtain⟨i,rfl,_⟩:=h
  rfl
 obtain⟨i,rfl,q⟩:=h
 refine⟨_,(aq (aA (jK (aG dA rfl T.n_isinstance boot_isinstance (aa (pv 0) (aa (pe_ty rfl T.n_int boot_int) ae))) (lC (pe_not (aG dA rfl T.n_isinstance boot_isinstance (aa (pv 0) (aa (pe_ty rfl T.n_bool boot_bool) ae)))))))),?_⟩
 refine⟨_,rfl,_,_,_,_,_,rfl,rfl,TyOf.int _,iV _,_,rfl,gU ?_⟩
 refine⟨_,rfl,_,_,_,_,_,rfl,rfl,TyOf.int _,iu _,_,rfl,?_⟩
 exact q
theorem kA {f:Addr}{fd:FuncData}(F:Fun K "is_between" "is_between" eB f fd) (T:Txt K mg c) (H_is_whole:Has P w K mg base 1 "is_whole" ["thing"] nZ):FnOk P w K mg base CX0 2 f fd ["thing","low","high"] gz:=by
 refine F.ok kj (fun vs H Q E h=>?_) (fun cdv A outer s H vs Q E hr h=>?_)
 ·obtain⟨i,lo,hi,rfl,_⟩:=h
  rfl
 obtain⟨i,lo,hi,rfl,h1,h2,q⟩:=h
 refine⟨_,(aq (aA (jK (aM H_is_whole (hr.mono (by lia)) rfl (aa (pv 0) ae)) (lC (oZ mm mm (pv 1) (pv 0) (pv 2)))))),?_⟩
 refine⟨_,rfl,_,rfl,_,rfl,gU ?_⟩
 refine⟨_,rfl,_,rfl,_,_,rfl,rfl,_,rfl,dw h1 ?_⟩
 refine⟨_,rfl,_,_,rfl,rfl,?_⟩
 exact ret_true h2 q
theorem mq {f:Addr}{fd:FuncData}(F:Fun K "_law_cell" "_law_cell" fF f fd) (T:Txt K mg c) :FnOk P w K mg base CX0 1 f fd ["_law_script","_law_k"] (rW K):=by
 refine F.ok lK (fun vs H Q E h=>?_) (fun cdv A outer s H vs Q E hr h=>?_)
 ·obtain⟨a,ns,k,rfl,_⟩:=h
  rfl
 obtain⟨a,ns,k,rfl,hS,h0,q⟩:=h
 refine⟨_,(ah (aV (au op_lt (pv 1) (aG aE rfl T.n_len boot_len (aa (pv 0) ae)) (ay _))
   (aq (aA (aH aD (pv 0) (pv 1) (fun _ _=>rfl))))
   aB)
  (aq (aA (aJ bq (aJ fY ai (pv 1)) ai)))),?_⟩
 have hl:(ns.map V.int).length=ns.length:=length_map _
 refine⟨_,rfl,_,rfl,a,_,rfl,.inl hS,_,_,rfl,rfl,_,rfl,?_⟩
 by_cases hc:k<(((ns.map V.int).length:Nat):Int)
 ·refine dw hc ?_
  rw[hl] at hc
  have e:k=((k.toNat:Nat):Int):=by lia
  have g:=getI ns k.toNat (by lia)
  rw[<- e] at g
  exact⟨_,rfl,_,rfl,a,_,_,_,rfl,rfl,hS,g,q _⟩
 ·refine aN hc ?_
  exact⟨_,rfl,_,_,rfl,rfl,.inl ⟨by decide,by decide⟩,_,_,rfl,rfl,q _⟩
theorem nN {f:Addr}{fd:FuncData}(F:Fun K "_law_box" "_law_box" ii f fd) (T:Txt K mg c) :FnOk P w K mg base CX0 1 f fd ["_law_cell_here"] spBox:=by
 refine F.ok mX (fun vs H Q E h=>?_) (fun cdv A outer s H vs Q E hr h=>?_)
 ·obtain⟨c,rfl,_⟩:=h
  rfl
 obtain⟨c,rfl,q⟩:=h
 refine⟨_,(aq (aA (aS (aa (aG (lA rfl) rfl T.n_max boot_max (aa ai (aa (aJ dN (pv 0) (aJ op_pow ai ai)) ae))) (aa (aJ jV (pv 0) ai) (aa ai ae)))))),?_⟩
 refine⟨_,rfl,_,_,rfl,rfl,⟨by decide,by decide,by decide⟩,_,_,rfl,rfl,_,_,rfl,?_⟩
 refine⟨_,rfl,_,_,rfl,rfl,(by show (0:Int)<2147483647; decide),(by show 3<=sizeLine; decide),fun p hp=>?_⟩
 exact q p _ hp ⟨_,_,_,ac⟩ (aj hp _)
theorem lU {f:Addr}{fd:FuncData}(F:Fun K "_law_take" "_law_take" fj f fd) (T:Txt K mg c) :FnOk P w K mg base CX0 1 f fd ["_law_box_here","_law_many"] iX:=by
 refine F.ok sc__law_take (fun vs H Q E h=>?_) (fun cdv A outer s H vs Q E hr h=>?_)
 ·obtain⟨p,m,rfl,_⟩:=h
  rfl
 obtain⟨p,m,rfl,⟨r,s1,c,hp⟩,h1,h2,q⟩:=h
 refine⟨_,(ah (aV (au m4 (aH aD (pv 0) ai (fun _ _=>rfl)) ai (ay _))
   (ah (aF (i:=2) sc__law_take.nd rfl (Or.inl rfl) (aJ jV (aH aD (pv 0) ai (fun _ _=>rfl)) (pv 1)))
   (ah (oP (aJ oU (aH aD (pv 0) ai (fun _ _=>rfl)) (pv 1)) (pg_sub (pv 0) ai o8))
   (aq (aA (pv 2)))))
   aB)
  (ah (oP (aJ bq (aH aD (pv 0) ai (fun _ _=>rfl)) ai) (pg_sub (pv 0) ai o8))
  (ah (aF (i:=3) sc__law_take.nd rfl (Or.inl rfl) (aJ jV (aJ fY (aJ bq (aJ bq (aH aD (pv 0) ai (fun _ _=>rfl)) (aJ fY ai (aH aD (pv 0) ai (fun _ _=>rfl)))) ai) ai) ai))
  (ah (aF (i:=3) sc__law_take.nd rfl (Or.inl rfl) (aJ jV (aJ bq (aJ bq (aJ fY (pv 3) (pv 3)) (aJ fY ai (aH aD (pv 0) ai (fun _ _=>rfl)))) ai) ai))
  (aq (aA (aJ jV (aJ oU (aJ jV (aJ fY (pv 3) (aJ bq (pv 3) ai)) ai) ai) (pv 1)))))))),?_⟩
 refine⟨_,rfl,p,_,_,_,rfl,rfl,SqL.of hp,rfl,_,_,rfl,rfl,_,rfl,?_⟩
 by_cases hc:0<r
 ·refine dw hc ?_
  refine⟨_,rfl,p,_,_,_,rfl,rfl,SqL.of hp,rfl,_,rfl,_,_,rfl,rfl,h1,?_⟩
  refine⟨_,rfl,p,_,_,_,rfl,rfl,SqL.of hp,rfl,_,rfl,_,_,rfl,rfl,⟨h1,mG h1 h2⟩,?_⟩
  refine⟨_,rfl,p,_,_,_,rfl,rfl,hp,rfl,?_⟩
  refine⟨_,rfl,?_⟩
  exact q _ _ (Int.emod_nonneg _ (by lia)) (Int.emod_lt_of_pos _ h1) ⟨_,_,_,ac⟩ SameX.upd
 ·refine aN hc ?_
  refine⟨_,rfl,p,_,_,_,rfl,rfl,SqL.of hp,rfl,_,_,rfl,rfl,?_⟩
  refine⟨_,rfl,p,_,_,_,rfl,rfl,hp,rfl,?_⟩
  refine⟨_,rfl,p,_,_,_,rfl,rfl,SqL.of ac,rfl,_,rfl,p,_,_,_,rfl,rfl,SqL.of ac,rfl,_,_,rfl,rfl,.inl ⟨by decide,by decide⟩,_,_,rfl,rfl,_,_,rfl,rfl,_,_,rfl,rfl,.inr ⟨by decide,by decide⟩,_,_,rfl,rfl,(by show (0:Int)<2147483629; decide),?_⟩
  refine⟨_,rfl,_,rfl,_,_,rfl,rfl,oX (by decide) (by decide),_,rfl,p,_,_,_,rfl,rfl,SqL.of ac,rfl,_,_,rfl,rfl,.inl ⟨by decide,by decide⟩,_,_,rfl,rfl,_,_,rfl,rfl,_,_,rfl,rfl,(by show (0:Int)<2147483587; decide),?_⟩
  refine⟨_,rfl,_,rfl,_,_,rfl,rfl,_,_,rfl,rfl,oX (by decide) (by decide),_,_,rfl,rfl,(by show (0:Int)<2147483647; decide),_,_,rfl,rfl,⟨by decide,by decide⟩,_,rfl,_,_,rfl,rfl,h1,?_⟩
  exact q _ _ (Int.emod_nonneg _ (by lia)) (Int.emod_lt_of_pos _ h1) ⟨_,_,_,ac⟩ SameX.upd
theorem ok_half {f:Addr}{fd:FuncData}(F:Fun K "half" "half" rC f fd) (T:Txt K mg c) :FnOk P w K mg base CX0 1 f fd ["width"] sf:=by
 refine F.ok sc_half (fun vs H Q E h=>?_) (fun cdv A outer s H vs Q E hr h=>?_)
 ·obtain⟨w0,rfl,_⟩:=h
  rfl
 obtain⟨w0,rfl,h1,h2,q⟩:=h
 refine⟨_,(aq (aA (aJ lL ai (aJ dN (pv 0) ai)))),?_⟩
 exact⟨_,rfl,_,_,rfl,rfl,_,_,rfl,rfl,nB (by lia) (by lia),q⟩
theorem iE {f:Addr}{fd:FuncData}(F:Fun K "__init__" "Kind.__init__" cV f fd) (T:Txt K mg c) :FnOk P w K mg base CX0 1 f fd ["self","width","point"] (iO K):=by
 refine F.ok iF (fun vs H Q E h=>?_) (fun cdv A outer s H vs Q E hr h=>?_)
 ·obtain⟨x,C,dx,w0,p,rfl,_⟩:=h
  rfl
 obtain⟨x,C,dx,w0,p,rfl,hx,cl,n1,n2,q⟩:=h
 refine⟨_,(ah (bt (pv 0) (pv 1) rfl)
  (aq (bt (pv 0) (pv 2) rfl))),?_⟩
 refine⟨_,rfl,_,rfl,x,C,dx,_,rfl,hx,cl,n1,by decide,?_⟩
 refine⟨_,rfl,_,rfl,x,C,dx,_,rfl,ac,cl,n2,(by show 1<1000; decide),?_⟩
 exact q _ (SameX.upd.trans SameX.upd) ac
theorem ip {f:Addr}{fd:FuncData}(F:Fun K "__init__" "Plain.__init__" cN f fd) (T:Txt K mg c) (H_need_width:Has P w K mg base 3 "need_width" ["width"] iT) (B_Kind___init__:BHas P w K mg base 1 "Kind" "__init__" ["self","width","point"] (iO K)):FnOk P w K mg base CX0 4 f fd ["self","width"] (jt c 0):=by
 refine F.ok hG (fun vs H Q E h=>?_) (fun cdv A outer s H vs Q E hr h=>?_)
 ·obtain⟨x,dx,w0,rfl,_⟩:=h
  rfl
 obtain⟨x,dx,w0,rfl,hx,h1,h2,q⟩:=h
 refine⟨_,(ah (bf (aM H_need_width (hr.mono (by lia)) rfl (aa (pv 1) ae)))
  (aq (bf (nJ B_Kind___init__ (hr.mono (by lia)) rfl (aa (pv 0) (aa (pv 1) (aa ai ae))))))),?_⟩
 refine⟨_,rfl,_,rfl,h1,h2,?_⟩
 refine⟨_,rfl,_,rfl,x,_,dx,_,_,rfl,hx,T.cls 0,T.naw 0,T.nap 0,fun H' s' h'=>?_⟩
 exact q H' s' ⟨dx,h'⟩
theorem gy {f:Addr}{fd:FuncData}(F:Fun K "__init__" "Signed.__init__" cw f fd) (T:Txt K mg c) (H_need_width:Has P w K mg base 3 "need_width" ["width"] iT) (B_Kind___init__:BHas P w K mg base 1 "Kind" "__init__" ["self","width","point"] (iO K)):FnOk P w K mg base CX0 4 f fd ["self","width"] (jt c 1):=by
 refine F.ok gw (fun vs H Q E h=>?_) (fun cdv A outer s H vs Q E hr h=>?_)
 ·obtain⟨x,dx,w0,rfl,_⟩:=h
  rfl
 obtain⟨x,dx,w0,rfl,hx,h1,h2,q⟩:=h
 refine⟨_,(ah (bf (aM H_need_width (hr.mono (by lia)) rfl (aa (pv 1) ae)))
  (aq (bf (nJ B_Kind___init__ (hr.mono (by lia)) rfl (aa (pv 0) (aa (pv 1) (aa ai ae))))))),?_⟩
 refine⟨_,rfl,_,rfl,h1,h2,?_⟩
 refine⟨_,rfl,_,rfl,x,_,dx,_,_,rfl,hx,T.cls 1,T.naw 1,T.nap 1,fun H' s' h'=>?_⟩
 exact q H' s' ⟨dx,h'⟩
theorem fJ {f:Addr}{fd:FuncData}(F:Fun K "__init__" "Pointed.__init__" bP f fd) (T:Txt K mg c) (H_need_width:Has P w K mg base 3 "need_width" ["width"] iT) (H_is_between:Has P w K mg base 2 "is_between" ["thing","low","high"] gz) (B_Kind___init__:BHas P w K mg base 1 "Kind" "__init__" ["self","width","point"] (iO K)):FnOk P w K mg base CX0 4 f fd ["self","width","point"] (nS c):=by
 refine F.ok fK (fun vs H Q E h=>?_) (fun cdv A outer s H vs Q E hr h=>?_)
 ·obtain⟨x,dx,w0,p,rfl,_⟩:=h
  rfl
 obtain⟨x,dx,w0,p,rfl,hx,h1,h2,p1,p2,q⟩:=h
 refine⟨_,(ah (bf (aM H_need_width (hr.mono (by lia)) rfl (aa (pv 1) ae)))
  (ah (aV (dY (dL (aM H_is_between (hr.mono (by lia)) rfl (aa (pv 2) (aa ai (aa (aJ dN (pv 1) ai) ae))))))
   bQ
   aB)
  (aq (bf (nJ B_Kind___init__ (hr.mono (by lia)) rfl (aa (pv 0) (aa (pv 1) (aa (pv 2) ae)))))))),?_⟩
 refine⟨_,rfl,_,rfl,h1,h2,?_⟩
 refine⟨_,rfl,_,rfl,_,_,rfl,rfl,_,_,_,rfl,p1,p2,_,rfl,di ?_⟩
 refine⟨_,rfl,_,rfl,_,rfl,x,_,dx,_,_,rfl,hx,T.cls 2,T.naw 2,T.nap 2,fun H' s' h'=>?_⟩
 exact q H' s' ⟨dx,h'⟩
theorem j7 {f:Addr}{fd:FuncData}(F:Fun K "need_width" "need_width" dR f fd) (T:Txt K mg c) (H_is_between:Has P w K mg base 2 "is_between" ["thing","low","high"] gz):FnOk P w K mg base CX0 3 f fd ["width"] iT:=by
 refine F.ok ke (fun vs H Q E h=>?_) (fun cdv A outer s H vs Q E hr h=>?_)
 ·obtain⟨i,rfl,_⟩:=h
  rfl
 obtain⟨i,rfl,h1,h2,q⟩:=h
 refine⟨_,(aq (aV (dY (dL (aM H_is_between (hr.mono (by lia)) rfl (aa (pv 0) (aa ai (aa ai ae))))))
   bQ
   aB)),?_⟩
 refine⟨_,rfl,_,_,_,rfl,h1,h2,_,rfl,di ?_⟩
 exact q
theorem kI {f:Addr}{fd:FuncData}(F:Fun K "word" "Plain.word" d8 f fd) (T:Txt K mg c) :FnOk P w K mg base CX0 1 f fd ["self"] (spWd 0):=by
 refine F.ok j5 (fun vs H Q E h=>?_) (fun cdv A outer s H vs Q E hr h=>?_)
 ·obtain⟨x,rfl,_⟩:=h
  rfl
 obtain⟨x,rfl,q⟩:=h
 refine⟨_,(aq (aA ak)),?_⟩
 exact q
theorem jB {f:Addr}{fd:FuncData}(F:Fun K "word" "Signed.word" dI f fd) (T:Txt K mg c) :FnOk P w K mg base CX0 1 f fd ["self"] (spWd 1):=by
 refine F.ok jJ (fun vs H Q E h=>?_) (fun cdv A outer s H vs Q E hr h=>?_)
 ·obtain⟨x,rfl,_⟩:=h
  rfl
 obtain⟨x,rfl,q⟩:=h
 refine⟨_,(aq (aA ak)),?_⟩
 exact q
theorem jo {f:Addr}{fd:FuncData}(F:Fun K "word" "Pointed.word" de f fd) (T:Txt K mg c) :FnOk P w K mg base CX0 1 f fd ["self"] (spWd 2):=by
 refine F.ok iS (fun vs H Q E h=>?_) (fun cdv A outer s H vs Q E hr h=>?_)
 ·obtain⟨x,rfl,_⟩:=h
  rfl
 obtain⟨x,rfl,q⟩:=h
 refine⟨_,(aq (aA ak)),?_⟩
 exact q
theorem lY {f:Addr}{fd:FuncData}(F:Fun K "same_kind" "same_kind" fu f fd) (T:Txt K mg c)  (MW:∀ i,i<3->MHas P w K mg base 1 (cOf c i) "word" ["self"] (spWd i)):FnOk P w K mg base CX0 2 f fd ["one","other"] (pc c):=by
 refine F.ok kZ (fun vs H Q E h=>?_) (fun cdv A outer s H vs Q E hr h=>?_)
 ·obtain⟨x,y,w',κ,μ,rfl,_⟩:=h
  rfl
 obtain⟨x,y,w',κ,μ,rfl,⟨dx,hx⟩,⟨dy,hy⟩,k3,m3,q⟩:=h
 refine⟨_,(aq (aA (jK (bU ce (cE (k:=1) (pv 0) (hr.mono (by lia))) (cE (k:=1) (pv 1) (hr.mono (by lia))) (ay _)) (jK (bU ce (aC (pv 0) rfl) (aC (pv 1) rfl) (ay _)) (lC (bU ce (aC (pv 0) rfl) (aC (pv 1) rfl) (ay _))))))),?_⟩
 refine⟨_,rfl,x,_,dx,_,_,_,rfl,hx,rfl,MW _ k3,x,rfl,_,rfl,y,_,dy,_,_,_,rfl,hy,rfl,MW _ m3,y,rfl,rfl,_,rfl,?_⟩
 by_cases c1:κ.1=μ.1
 ·refine dw (by rw[c1]) ⟨_,rfl,x,_,dx,_,_,rfl,hx,T.cls κ.1,T.naw κ.1,rfl,_,rfl,y,_,dy,_,_,rfl,hy,T.cls μ.1,T.naw μ.1,rfl,rfl,_,rfl,dw rfl ?_⟩
  refine⟨_,rfl,x,_,dx,_,_,rfl,hx,T.cls κ.1,T.nap κ.1,rfl,_,rfl,y,_,dy,_,_,rfl,hy,T.cls μ.1,T.nap μ.1,rfl,rfl,?_⟩
  have e:decide (V.int κ.2=V.int μ.2)=decide (κ=μ):=decide_eq_decide.mpr ⟨fun z=>by injection z with z; exact Prod.ext c1 z,fun z=>by rw[z]⟩
  rw[<- e] at q
  exact q
 ·rw[decide_eq_false (fun z=>c1 (by rw[z]))] at q
  exact aN (pQ k3 m3 c1) q
theorem mR {f:Addr}{fd:FuncData}(F:Fun K "all_ways" "all_ways" gZ f fd) (T:Txt K mg c) :FnOk P w K mg base CX0 1 f fd [] rN:=by
 refine F.ok mZ (fun vs H Q E h=>?_) (fun cdv A outer s H vs Q E hr h=>?_)
 ·obtain⟨rfl,_⟩:=h
  rfl
 obtain⟨rfl,q⟩:=h
 refine⟨_,(aq (aA (bw kR rfl T.n_list boot_list (aa (jL rfl T.g_WAY_WORDS) ae)))),?_⟩
 exact⟨c.WAY_WORDS,_,rfl,.inr (T.q_WAY_WORDS _),q⟩
theorem mr {f:Addr}{fd:FuncData}(F:Fun K "number_in" "number_in" fN f fd) (T:Txt K mg c) :FnOk P w K mg base CX0 1 f fd ["figures"] qo:=by
 refine F.ok sc_number_in (fun vs H Q E h=>?_) (fun cdv A outer s H vs Q E hr h=>?_)
 ·obtain⟨z,rfl,_⟩:=h
  rfl
 obtain⟨z,rfl,hz,q⟩:=h
 refine⟨_,(ah (aF (i:=1) sc_number_in.nd rfl (Or.inl rfl) ai)
  (ah (d6 PassesOwn.never rfl (pi_str (pv 0)) (aK (i:=2) sc_number_in.nd rfl (Or.inl rfl))
   (ah (aF (i:=3) sc_number_in.nd rfl (Or.inl rfl) (dO PySem.F.plainAttrs_str PySem.F.slot_str_find PySem.F.type_str_find mt_find ak (aa (pv 2) ae)))
   (ah (aV (au op_lt (pv 3) ai (ay _))
    (aq (aA aZ))
    aB)
   (aq (aF (i:=1) sc_number_in.nd rfl (Or.inl rfl) (aJ bq (aJ fY (pv 1) ai) (pv 3)))))))
  (aq (aA (pv 1))))),?_⟩
 have L1000:(1000:Nat)<=sizeLine:=by decide
 refine⟨_,rfl,z,rfl,for_str (z:=z) (fun i σ G=>∃ (n:Nat) (y1 y2:Option V),σ=[some (.str z),some (.int (n:Int)),y1,y2]/\G=H/\PySem.NumText.AllDigits (z.cps.toList.take i)/\n=PySem.NumText.digitsVal (z.cps.toList.take i)) ⟨0,_,_,rfl,rfl,(fun _ h=>nomatch h),rfl⟩ ?_ ?_⟩
 ·rintro i ch σ G hc ⟨n,y1,y2,rfl,rfl,ad,en⟩
  have hc':z.cps.toList[i]?=some ch:=by rw[Array.getElem?_toList]; exact hc
  have tk:=rY hc'
  refine⟨jq,_,rfl,_,_,rfl,rfl,?_⟩
  have fd:=find_dig ch
  have mem:ch∈z.cps.toList:=mem_of_getElem? hc'
  by_cases c1:48<=ch/\ch<=57
  ·rw[if_pos c1] at fd
   rw[fd]
   refine⟨_,rfl,_,_,rfl,rfl,_,rfl,aN (by lia) ?_⟩
   refine⟨_,rfl,_,_,rfl,rfl,.inr ⟨by decide,by decide⟩,_,rfl,_,_,rfl,rfl,?_⟩
   refine⟨n*10+(ch-48),some (.str ⟨#[ch]⟩),some (.int ((ch-48:Nat):Int)),?_,rfl,?_,?_⟩
   ·show [some (V.str z),some (V.int ((n:Int)*10+((ch-48:Nat):Int))),some (V.str ⟨#[ch]⟩),some (V.int ((ch-48:Nat):Int))]=_
    rw[show (n:Int)*10+((ch-48:Nat):Int)=((n*10+(ch-48):Nat):Int) by lia]
   ·rw[tk]
    intro d hd
    rcases List.mem_append.mp hd with hd | hd
    ·exact ad d hd
    ·rw[List.mem_singleton.mp hd]; exact c1
   ·rw[tk,PySem.NumText.digitsVal_snoc,en]
  ·rw[if_neg c1] at fd
   rw[fd]
   refine⟨_,rfl,_,_,rfl,rfl,_,rfl,dw (by decide) ?_⟩
   exact q none (fun a=>absurd (a ch mem) c1) (fun n e=>nomatch e)
 ·rintro σ G ⟨n,y1,y2,rfl,rfl,ad,en⟩
  rw[show z.cps.toList.take z.cps.size=z.cps.toList by rw[<- Array.length_toList,take_length]] at ad en
  refine⟨_,rfl,q (some (n:Int)) (fun _=>by rw[en]) fun m e=>?_⟩
  injection e with e
  subst e
  have:=dv_lt ad
  have l:z.cps.toList.length<=43:=by rw[bA]; exact hz
  have:(10:Nat)^z.cps.toList.length<=10^43:=Nat.pow_le_pow_right (by decide) l
  rw[<- en] at *
  refine⟨by lia,?_⟩
  have h2:n<10^43:=by lia
  exact_mod_cast h2
theorem m5 {f:Addr}{fd:FuncData}(F:Fun K "whole_in" "whole_in" gX f fd) (T:Txt K mg c) (H_number_in:Has P w K mg base 1 "number_in" ["figures"] qo):FnOk P w K mg base CX0 2 f fd ["word","most"] qM:=by
 refine F.ok nO (fun vs H Q E h=>?_) (fun cdv A outer s H vs Q E hr h=>?_)
 ·obtain⟨z,rfl,_⟩:=h
  rfl
 obtain⟨z,rfl,⟨ad,l1,l2,n0⟩,q⟩:=h
 refine⟨_,(ah (aV (PW.pt (eO (dY (ox mm mm ai (aG iz rfl T.n_len boot_len (aa (pv 0) ae)) (pv 1))) (dM (PW.pt (cW (au ce (aH ix_str (pv 0) ai (fun _ _=>rfl)) ak (ay _)) (cx (au op_ne (pv 0) ak (ay _))))))))
   (aq (aA aZ))
   aB)
  (aq (aA (aM H_number_in (hr.mono (by lia)) rfl (aa (pv 0) ae))))),?_⟩
 have L1000:(1000:Nat)<=sizeLine:=by decide
 have hz:z.length<=sizeLine:=by lia
 refine⟨_,rfl,z,rfl,hz,_,_,rfl,rfl,_,rfl,dw (show (1:Int)<=(z.length:Int) by lia) ⟨_,rfl,_,_,rfl,rfl,_,rfl,eN (show (z.length:Int)<=10 by lia) ?_⟩⟩
 have lz:z.length=z.cps.size:=rfl
 have e0:z.cps[0]?=some z.cps[0]:=Array.getElem?_eq_getElem (by lia)
 have a0:atI z.cps.toList 0=some z.cps[0]:=bC (j:=0) (by rw[Array.getElem?_toList]; exact e0)
 have fin:∀ o:Option Int,(PySem.NumText.AllDigits z.cps.toList->o=some ((PySem.NumText.digitsVal z.cps.toList:Nat):Int))->(∀ n,o=some n->0<=n/\n<10^43)->Q (oV o) H:=fun o h1 _=>by rw[h1 ad]; exact q
 refine⟨_,rfl,z,0,_,rfl,rfl,hz,a0,rfl,_,rfl,?_⟩
 by_cases c0:z.cps[0]=48
 ·have ez:z = "0":=n0 (by rw[e0,c0])
  refine dw (congrArg V.str (show (⟨#[z.cps[0]]⟩:Str) = "0" by rw[c0]; rfl)) ⟨_,rfl,rfl,_,rfl,eN (congrArg V.str ez) ?_⟩
  exact⟨_,rfl,z,rfl,by lia,fin⟩
 ·refine aN (fun e=>c0 ?_) ?_
  ·injection e with e
   have e':(⟨#[z.cps[0]]⟩:Str).cps=("0":Str).cps:=congrArg Str.cps e
   exact congrArg (fun a:Array Nat=>a.getD 0 0) e'
  ·exact⟨_,rfl,z,rfl,by lia,fin⟩
theorem jG {f:Addr}{fd:FuncData}(F:Fun K "number_told" "number_told" dJ f fd) (T:Txt K mg c) (H_whole_in:Has P w K mg base 2 "whole_in" ["word","most"] qM):FnOk P w K mg base CX0 3 f fd ["word","low","high"] jp:=by
 refine F.ok sc_number_told (fun vs H Q E h=>?_) (fun cdv A outer s H vs Q E hr h=>?_)
 ·obtain⟨z,lo,hi,rfl,_⟩:=h
  rfl
 obtain⟨z,lo,hi,rfl,nm,q⟩:=h
 refine⟨_,(ah (aF (i:=3) sc_number_told.nd rfl (Or.inl rfl) (aM H_whole_in (hr.mono (by lia)) rfl (aa (pv 0) (aa ai ae))))
  (aq (aA (cB (PW.pt (cW (au jj (pv 3) aZ (ay _)) (cx (ox mm mm (pv 1) (pv 3) (pv 2))))) (pv 3) aZ)))),?_⟩
 refine⟨_,rfl,z,rfl,nm,?_⟩
 refine⟨_,rfl,rfl,_,rfl,gU ?_⟩
 refine⟨_,rfl,_,rfl,_,_,rfl,rfl,_,rfl,?_⟩
 by_cases c1:lo<=nV z
 ·refine dw c1 ⟨_,rfl,_,_,rfl,rfl,_,rfl,?_⟩
  by_cases c2:nV z<=hi
  ·rw[if_pos ⟨c1,c2⟩] at q
   exact dw c2 ⟨_,rfl,q⟩
  ·rw[if_neg (fun z=>c2 z.2)] at q
   exact aN c2 q
 ·rw[if_neg (fun z=>c1 z.1)] at q
  exact aN c1 ⟨_,rfl,di q⟩
theorem pO {f:Addr}{fd:FuncData}(F:Fun K "is_name" "is_name" jd f fd) (T:Txt K mg c) :FnOk P w K mg base CX0 1 f fd ["word"] spNm:=by
 refine F.ok pC (fun vs H Q E h=>?_) (fun cdv A outer s H vs Q E hr h=>?_)
 ·obtain⟨z,rfl,_⟩:=h
  rfl
 obtain⟨z,rfl,⟨l1,l2,al,nr⟩,q⟩:=h
 refine⟨_,(aq (aA (jK (oZ mm mm ai (aG iz rfl T.n_len boot_len (aa (pv 0) ae)) ai) (jK (aG (fo rfl) rfl T.n_all boot_all (aa (eK rfl (by first | rfl | with_unfolding_all rfl) (by decide +kernel) rfl (by decide +kernel) rfl (pi_str (pv 0)) (fun C s2 H2 fp=>(bU qK (pv 0) (pe_globS rfl T.g_LETTERS) (by with_unfolding_all rfl)))) ae)) (lC (bU lV (pv 0) (jL rfl T.g_RESERVED) (by with_unfolding_all rfl))))))),?_⟩
 have L1000:(1000:Nat)<=sizeLine:=by decide
 have hz:z.length<=sizeLine:=by lia
 refine⟨_,rfl,z,rfl,hz,_,_,rfl,rfl,_,rfl,dw (show (1:Int)<=(z.length:Int) by lia) ?_⟩
 refine⟨_,_,rfl,rfl,_,rfl,dw (show (z.length:Int)<=6 by lia) ?_⟩
 have lz:z.length=z.cps.size:=rfl
 refine⟨_,rfl,z,rfl,fun D hD=>?_⟩
 refine comp_str (z:=z) (fun j HJ=>HJ D=some (.lst (((z.cps.toList.take j).map fun n=>inS LT ⟨#[n]⟩).map V.bl))/\Same H HJ) ⟨ac,aj hD _⟩ ?_ ?_
 ·rintro j n HJ hn ⟨hy,sJ⟩
  have jl:=(Array.getElem?_eq_some_iff.mp hn).1
  refine⟨_,rfl,_,_,rfl,rfl,_,hy,(by rw[length_map,length_map,length_take]; lia),_,(show z.cps.size-(j+1)<_ by lia),rfl,(by lia),?_,Same.updL sJ hD⟩
  rw[ac,take_add_one,show z.cps.toList[j]?=some n by rw[Array.getElem?_toList]; exact hn,Option.toList_some,map_append,map_append]
  rfl
 ·rintro HJ ⟨hy,sJ⟩
  rw[show z.cps.toList.take z.cps.size=z.cps.toList by rw[<- Array.length_toList,take_length]] at hy
  refine⟨D,_,rfl,SqL.of hy,_,rfl,?_⟩
  rw[List.all_map,show (id ∘ fun n=>inS LT ⟨#[n]⟩)=fun n=>inS LT ⟨#[n]⟩ from rfl,al]
  refine gU ⟨_,rfl,_,_,rfl,.inr (T.q_RESERVED _),rfl,cH resW,?_⟩
  have e:(if true=true then !inV (.str z) (resW.map V.str) else inV (.str z) (resW.map V.str))=true:=by rw[m6,nr]; rfl
  have:=q HJ sJ
  rw[<- e] at this
  exact this
theorem updX {H:Hp}{x:Addr}{o:HO}:SameX x H (upd H x o):=fun b u n e=>by rw[af n]; exact e
theorem newX {H:Hp}{l x:Addr}{o:HO}(h:H l=none):SameX x H (upd H l o):=fun b u _ e=>by rw[af (az e h)]; exact e
def dfl (w:Int) (Li Lr Lo Lp Ll M:Addr):List (Str×V):=[("width",.int w),("inputs",.ref Li),("rows",.ref Lr),("outs",.ref Lo),("row_pairs",.ref Lp),("loops",.ref Ll),("met",.ref M)]
def rfl6 (line:Int) (deed:Str) (g r n:Addr) (way:V):List (Str×V):=[("line",.int line),("deed",.str deed),("goals",.ref g),("reads",.ref r),("numbers",.ref n),("way",way)]
def pfl (line times:Int) (l:Addr):List (Str×V):=[("line",.int line),("times",.int times),("rows",.ref l)]
def rV (c:Ad):Sp:=fun vs H Q _=>∃ (x dx:Addr) (line times:Int),vs=[.ref x,.int line,.int times]/\H x=some (.ins c.Repeat dx [])/\∀ l H',H l=none->H' x=some (.ins c.Repeat dx (pfl line times l))->H' l=some (.lst [])->SameX x H H'->Q .non H'
def qc (c:Ad):Sp:=fun vs H Q _=>∃ (x dx:Addr) (line:Int) (deed:Str) (g:Addr),vs=[.ref x,.int line,.str deed,.ref g]/\H x=some (.ins c.Row dx [])/\∀ r n H',H r=none->H n=none->r≠n->H' x=some (.ins c.Row dx (rfl6 line deed g r n (.str "")))->H' r=some (.lst [])->H' n=some (.lst [])->SameX x H H'->Q .non H'
def spDrI (c:Ad):Sp:=fun vs H Q _=>∃ (x dx:Addr) (w:Int),vs=[.ref x,.int w]/\H x=some (.ins c.Draft dx [])/\∀ Li Lr Lo Lp Ll M H',(∀ a∈[Li,Lr,Lo,Lp,Ll,M],H a=none)->[x,Li,Lr,Lo,Lp,Ll,M].Nodup->H' x=some (.ins c.Draft dx (dfl w Li Lr Lo Lp Ll M))->(∀ a∈[Li,Lr,Lo,Lp,Ll],H' a=some (.lst []))->H' M=some (.dK [])->SameX x H H'->Q .non H'
theorem gm {f:Addr}{fd:FuncData}(F:Fun K "__init__" "Repeat.__init__" cq f fd) (T:Txt K mg c) :FnOk P w K mg base CX0 1 f fd ["self","line","times"] (rV c):=by
 refine F.ok gq (fun vs H Q E h=>?_) (fun cdv A outer s H vs Q E hr h=>?_)
 ·obtain⟨x,dx,line,times,rfl,_⟩:=h
  rfl
 obtain⟨x,dx,line,times,rfl,hx,q⟩:=h
 refine⟨_,(ah (bt (pv 0) (pv 1) rfl)
  (ah (bt (pv 0) (pv 2) rfl)
  (aq (bt (pv 0) (aS ae) rfl)))),?_⟩
 refine⟨_,rfl,_,rfl,x,c.Repeat,dx,_,rfl,hx,T.cl_Repeat,T.na_Repeat_line,(by show 0<1000; decide),?_⟩
 refine⟨_,rfl,_,rfl,x,c.Repeat,dx,_,rfl,ac,T.cl_Repeat,T.na_Repeat_times,(by show 1<1000; decide),?_⟩
 refine⟨(by show 0<=sizeLine; decide),fun l hl=>?_⟩
 have nx:x≠l:=fun z=>by rw[<- z,ac] at hl; cases hl
 have h0:H l=none:=by rw[af (Ne.symm nx),af (Ne.symm nx)] at hl; exact hl
 refine⟨_,rfl,x,c.Repeat,dx,_,rfl,(by rw[af nx]; exact ac),T.cl_Repeat,T.na_Repeat_rows,(by show 2<1000; decide),?_⟩
 refine q l _ h0 ac (by rw[af (Ne.symm nx)]; exact ac) fun b o hb e=>?_
 rw[af hb,af (az e h0),af hb,af hb]
 exact e
theorem iQ {f:Addr}{fd:FuncData}(F:Fun K "__init__" "Row.__init__" dh f fd) (T:Txt K mg c) :FnOk P w K mg base CX0 1 f fd ["self","line","deed","goals"] (qc c):=by
 refine F.ok iW (fun vs H Q E h=>?_) (fun cdv A outer s H vs Q E hr h=>?_)
 ·obtain⟨x,dx,line,deed,g,rfl,_⟩:=h
  rfl
 obtain⟨x,dx,line,deed,g,rfl,hx,q⟩:=h
 refine⟨_,(ah (bt (pv 0) (pv 1) rfl)
  (ah (bt (pv 0) (pv 2) rfl)
  (ah (bt (pv 0) (pv 3) rfl)
  (ah (bt (pv 0) (aS ae) rfl)
  (ah (bt (pv 0) (aS ae) rfl)
  (aq (bt (pv 0) ak rfl))))))),?_⟩
 refine⟨_,rfl,_,rfl,x,c.Row,dx,_,rfl,hx,T.cl_Row,T.na_Row_line,(by show 0<1000; decide),?_⟩
 refine⟨_,rfl,_,rfl,x,c.Row,dx,_,rfl,ac,T.cl_Row,T.na_Row_deed,(by show 1<1000; decide),?_⟩
 refine⟨_,rfl,_,rfl,x,c.Row,dx,_,rfl,ac,T.cl_Row,T.na_Row_goals,(by show 2<1000; decide),?_⟩
 have s3:SameX x H (upd (upd (upd H x (.ins c.Row dx [("line",.int line)])) x (.ins c.Row dx [("line",.int line),("deed",.str deed)])) x (.ins c.Row dx [("line",.int line),("deed",.str deed),("goals",.ref g)])):=updX.trans (updX.trans updX)
 have x3:upd (upd (upd H x (.ins c.Row dx [("line",.int line)])) x (.ins c.Row dx [("line",.int line),("deed",.str deed)])) x (.ins c.Row dx [("line",.int line),("deed",.str deed),("goals",.ref g)]) x=some (.ins c.Row dx [("line",.int line),("deed",.str deed),("goals",.ref g)]):=ac
 have n3:∀ b,b≠x->upd (upd (upd H x (.ins c.Row dx [("line",.int line)])) x (.ins c.Row dx [("line",.int line),("deed",.str deed)])) x (.ins c.Row dx [("line",.int line),("deed",.str deed),("goals",.ref g)]) b=H b:=fun b n=>by rw[af n,af n,af n]
 refine⟨(by show 0<=sizeLine; decide),fun r hr'=>?_⟩
 have nr:x≠r:=fun z=>by rw[<- z] at hr'; exact absurd (x3.symm.trans hr') (by nofun)
 have r0:H r=none:=(n3 r (Ne.symm nr)).symm.trans hr'
 refine⟨_,rfl,x,c.Row,dx,_,rfl,(by rw[af nr]; exact ac),T.cl_Row,T.na_Row_reads,(by show 3<1000; decide),?_⟩
 refine⟨(by show 0<=sizeLine; decide),fun n hn=>?_⟩
 have nn:x≠n:=fun z=>by rw[<- z,ac] at hn; cases hn
 rw[af (Ne.symm nn)] at hn
 have nrn:r≠n:=fun z=>by rw[<- z,ac] at hn; cases hn
 rw[af (Ne.symm nrn)] at hn
 have n0:H n=none:=(n3 n (Ne.symm nn)).symm.trans hn
 refine⟨_,rfl,x,c.Row,dx,_,rfl,(by rw[af nn]; exact ac),T.cl_Row,T.na_Row_numbers,(by show 4<1000; decide),?_⟩
 refine⟨_,rfl,x,c.Row,dx,_,rfl,ac,T.cl_Row,T.na_Row_way,(by show 5<1000; decide),?_⟩
 refine q r n _ r0 n0 nrn ac ?_ ?_ fun b o hb e=>?_
 ·rw[af (Ne.symm nr),af (Ne.symm nr),af nrn,af (Ne.symm nr),ac]
 ·rw[af (Ne.symm nn),af (Ne.symm nn),ac]
 ·rw[af hb,af hb,af (az e n0),af hb,af (az e r0)]
  exact s3 b o hb e
theorem ij {f:Addr}{fd:FuncData}(F:Fun K "__init__" "Draft.__init__" cK f fd) (T:Txt K mg c) :FnOk P w K mg base CX0 1 f fd ["self","width"] (spDrI c):=by
 refine F.ok ir (fun vs H Q E h=>?_) (fun cdv A outer s H vs Q E hr h=>?_)
 ·obtain⟨x,dx,w',rfl,_⟩:=h
  rfl
 obtain⟨x,dx,w',rfl,hx,q⟩:=h
 refine⟨_,(ah (bt (pv 0) (pv 1) rfl)
  (ah (bt (pv 0) (aS ae) rfl)
  (ah (bt (pv 0) (aS ae) rfl)
  (ah (bt (pv 0) (aS ae) rfl)
  (ah (bt (pv 0) (aS ae) rfl)
  (ah (bt (pv 0) (aS ae) rfl)
  (aq (bt (pv 0) iJ rfl)))))))),?_⟩
 refine⟨_,rfl,_,rfl,x,c.Draft,dx,_,rfl,hx,T.cl_Draft,T.na_Draft_width,(by show 0<1000; decide),?_⟩
 have z5:(0:Nat)<=sizeLine:=by decide
 have nx:∀ {G:Hp} {fs:List (Str×V)} {a:Addr},G x=some (.ins c.Draft dx fs)->G a=none->x≠a:=fun h1 h2 z=>by rw[<- z,h1] at h2; cases h2
 refine⟨z5,fun a1 h1=>?_⟩
 have x1:x≠a1:=nx ac h1
 have y1:a1≠x:=Ne.symm x1
 refine⟨_,rfl,x,c.Draft,dx,_,rfl,(by rw[af x1]; exact ac),T.cl_Draft,T.na_Draft_inputs,(by show 1<1000; decide),?_⟩
 refine⟨z5,fun a2 h2=>?_⟩
 have x2:x≠a2:=nx ac h2
 have y2:a2≠x:=Ne.symm x2
 have m12:a1≠a2:=fun z=>by rw[<- z] at h2; simp[upd,y1,x1] at h2
 have n12:=Ne.symm m12
 refine⟨_,rfl,x,c.Draft,dx,_,rfl,(by rw[af x2]; exact ac),T.cl_Draft,T.na_Draft_rows,(by show 2<1000; decide),?_⟩
 refine⟨z5,fun a3 h3=>?_⟩
 have x3:x≠a3:=nx ac h3
 have y3:a3≠x:=Ne.symm x3
 have m13:a1≠a3:=fun z=>by rw[<- z] at h3; simp[upd,y1,y2,x1,x2,m12,n12] at h3
 have n13:=Ne.symm m13
 have m23:a2≠a3:=fun z=>by rw[<- z] at h3; simp[upd,y1,y2,x1,x2,m12,n12] at h3
 have n23:=Ne.symm m23
 refine⟨_,rfl,x,c.Draft,dx,_,rfl,(by rw[af x3]; exact ac),T.cl_Draft,T.na_Draft_outs,(by show 3<1000; decide),?_⟩
 refine⟨z5,fun a4 h4=>?_⟩
 have x4:x≠a4:=nx ac h4
 have y4:a4≠x:=Ne.symm x4
 have m14:a1≠a4:=fun z=>by rw[<- z] at h4; simp[upd,y1,y2,y3,x1,x2,x3,m12,m13,m23,n12,n13,n23] at h4
 have n14:=Ne.symm m14
 have m24:a2≠a4:=fun z=>by rw[<- z] at h4; simp[upd,y1,y2,y3,x1,x2,x3,m12,m13,m23,n12,n13,n23] at h4
 have n24:=Ne.symm m24
 have m34:a3≠a4:=fun z=>by rw[<- z] at h4; simp[upd,y1,y2,y3,x1,x2,x3,m12,m13,m23,n12,n13,n23] at h4
 have n34:=Ne.symm m34
 refine⟨_,rfl,x,c.Draft,dx,_,rfl,(by rw[af x4]; exact ac),T.cl_Draft,T.na_Draft_row_pairs,(by show 4<1000; decide),?_⟩
 refine⟨z5,fun a5 h5=>?_⟩
 have x5:x≠a5:=nx ac h5
 have y5:a5≠x:=Ne.symm x5
 have m15:a1≠a5:=fun z=>by rw[<- z] at h5; simp[upd,y1,y2,y3,y4,x1,x2,x3,x4,m12,m13,m14,m23,m24,m34,n12,n13,n14,n23,n24,n34] at h5
 have n15:=Ne.symm m15
 have m25:a2≠a5:=fun z=>by rw[<- z] at h5; simp[upd,y1,y2,y3,y4,x1,x2,x3,x4,m12,m13,m14,m23,m24,m34,n12,n13,n14,n23,n24,n34] at h5
 have n25:=Ne.symm m25
 have m35:a3≠a5:=fun z=>by rw[<- z] at h5; simp[upd,y1,y2,y3,y4,x1,x2,x3,x4,m12,m13,m14,m23,m24,m34,n12,n13,n14,n23,n24,n34] at h5
 have n35:=Ne.symm m35
 have m45:a4≠a5:=fun z=>by rw[<- z] at h5; simp[upd,y1,y2,y3,y4,x1,x2,x3,x4,m12,m13,m14,m23,m24,m34,n12,n13,n14,n23,n24,n34] at h5
 have n45:=Ne.symm m45
 refine⟨_,rfl,x,c.Draft,dx,_,rfl,(by rw[af x5]; exact ac),T.cl_Draft,T.na_Draft_loops,(by show 5<1000; decide),?_⟩
 refine fun a6 h6=>?_
 have x6:x≠a6:=nx ac h6
 have y6:a6≠x:=Ne.symm x6
 have m16:a1≠a6:=fun z=>by rw[<- z] at h6; simp[upd,y1,y2,y3,y4,y5,x1,x2,x3,x4,x5,m12,m13,m14,m15,m23,m24,m25,m34,m35,m45,n12,n13,n14,n15,n23,n24,n25,n34,n35,n45] at h6
 have n16:=Ne.symm m16
 have m26:a2≠a6:=fun z=>by rw[<- z] at h6; simp[upd,y1,y2,y3,y4,y5,x1,x2,x3,x4,x5,m12,m13,m14,m15,m23,m24,m25,m34,m35,m45,n12,n13,n14,n15,n23,n24,n25,n34,n35,n45] at h6
 have n26:=Ne.symm m26
 have m36:a3≠a6:=fun z=>by rw[<- z] at h6; simp[upd,y1,y2,y3,y4,y5,x1,x2,x3,x4,x5,m12,m13,m14,m15,m23,m24,m25,m34,m35,m45,n12,n13,n14,n15,n23,n24,n25,n34,n35,n45] at h6
 have n36:=Ne.symm m36
 have m46:a4≠a6:=fun z=>by rw[<- z] at h6; simp[upd,y1,y2,y3,y4,y5,x1,x2,x3,x4,x5,m12,m13,m14,m15,m23,m24,m25,m34,m35,m45,n12,n13,n14,n15,n23,n24,n25,n34,n35,n45] at h6
 have n46:=Ne.symm m46
 have m56:a5≠a6:=fun z=>by rw[<- z] at h6; simp[upd,y1,y2,y3,y4,y5,x1,x2,x3,x4,x5,m12,m13,m14,m15,m23,m24,m25,m34,m35,m45,n12,n13,n14,n15,n23,n24,n25,n34,n35,n45] at h6
 have n56:=Ne.symm m56
 refine⟨_,rfl,x,c.Draft,dx,_,rfl,(by rw[af x6]; exact ac),T.cl_Draft,T.na_Draft_met,(by show 6<1000; decide),?_⟩
 have f0:∀ a∈[a1,a2,a3,a4,a5,a6],H a=none:=by
  intro a ha
  simp only[mem_cons,not_mem_nil,or_false] at ha
  rcases ha with rfl | rfl | rfl | rfl | rfl | rfl
  ·simpa [upd,y1,y2,y3,y4,y5,y6,x1,x2,x3,x4,x5,x6,m12,m13,m14,m15,m16,m23,m24,m25,m26,m34,m35,m36,m45,m46,m56,n12,n13,n14,n15,n16,n23,n24,n25,n26,n34,n35,n36,n45,n46,n56] using h1
  ·simpa [upd,y1,y2,y3,y4,y5,y6,x1,x2,x3,x4,x5,x6,m12,m13,m14,m15,m16,m23,m24,m25,m26,m34,m35,m36,m45,m46,m56,n12,n13,n14,n15,n16,n23,n24,n25,n26,n34,n35,n36,n45,n46,n56] using h2
  ·simpa [upd,y1,y2,y3,y4,y5,y6,x1,x2,x3,x4,x5,x6,m12,m13,m14,m15,m16,m23,m24,m25,m26,m34,m35,m36,m45,m46,m56,n12,n13,n14,n15,n16,n23,n24,n25,n26,n34,n35,n36,n45,n46,n56] using h3
  ·simpa [upd,y1,y2,y3,y4,y5,y6,x1,x2,x3,x4,x5,x6,m12,m13,m14,m15,m16,m23,m24,m25,m26,m34,m35,m36,m45,m46,m56,n12,n13,n14,n15,n16,n23,n24,n25,n26,n34,n35,n36,n45,n46,n56] using h4
  ·simpa [upd,y1,y2,y3,y4,y5,y6,x1,x2,x3,x4,x5,x6,m12,m13,m14,m15,m16,m23,m24,m25,m26,m34,m35,m36,m45,m46,m56,n12,n13,n14,n15,n16,n23,n24,n25,n26,n34,n35,n36,n45,n46,n56] using h5
  ·simpa [upd,y1,y2,y3,y4,y5,y6,x1,x2,x3,x4,x5,x6,m12,m13,m14,m15,m16,m23,m24,m25,m26,m34,m35,m36,m45,m46,m56,n12,n13,n14,n15,n16,n23,n24,n25,n26,n34,n35,n36,n45,n46,n56] using h6
 have nd:[x,a1,a2,a3,a4,a5,a6].Nodup:=by simp[y1,y2,y3,y4,y5,y6,x1,x2,x3,x4,x5,x6,m12,m13,m14,m15,m16,m23,m24,m25,m26,m34,m35,m36,m45,m46,m56,n12,n13,n14,n15,n16,n23,n24,n25,n26,n34,n35,n36,n45,n46,n56]
 refine q a1 a2 a3 a4 a5 a6 _ f0 nd ac ?_ ?_ fun b o hb e=>?_
 ·intro a ha
  simp only[mem_cons,not_mem_nil,or_false] at ha
  rcases ha with rfl | rfl | rfl | rfl | rfl <;> simp[upd,y1,y2,y3,y4,y5,y6,x1,x2,x3,x4,x5,x6,m12,m13,m14,m15,m16,m23,m24,m25,m26,m34,m35,m36,m45,m46,m56,n12,n13,n14,n15,n16,n23,n24,n25,n26,n34,n35,n36,n45,n46,n56]
 ·simp[upd,y1,y2,y3,y4,y5,y6,x1,x2,x3,x4,x5,x6,m12,m13,m14,m15,m16,m23,m24,m25,m26,m34,m35,m36,m45,m46,m56,n12,n13,n14,n15,n16,n23,n24,n25,n26,n34,n35,n36,n45,n46,n56]
 ·have nb:∀ a∈[a1,a2,a3,a4,a5,a6],b≠a:=fun a ha=>az e (f0 a ha)
  have b1:=nb a1 (by simp)
  have b2:=nb a2 (by simp)
  have b3:=nb a3 (by simp)
  have b4:=nb a4 (by simp)
  have b5:=nb a5 (by simp)
  have b6:=nb a6 (by simp)
  simp[upd,hb,b1,b2,b3,b4,b5,b6,e]
theorem iD {f:Addr}{fd:FuncData}(F:Fun K "fraction_told" "fraction_told" cX f fd) (T:Txt K mg c) (H_number_told:Has P w K mg base 3 "number_told" ["word","low","high"] jp):FnOk P w K mg base CX0 4 f fd ["width","word"] spFrT:=by
 refine F.ok sc_fraction_told (fun vs H Q E h=>?_) (fun cdv A outer s H vs Q E hr h=>?_)
 ·obtain⟨w',n,rfl,_⟩:=h
  rfl
 obtain⟨w',n,rfl,w0,w1,n1,n2,q⟩:=h
 refine⟨_,(ah (aF (i:=2) sc_fraction_told.nd rfl (Or.inl rfl) (dO PySem.F.plainAttrs_str PySem.F.slot_str_partition PySem.F.type_str_partition mt_part (pv 1) (aa ak ae)))
  (ah (aF (i:=3) sc_fraction_told.nd rfl (Or.inl rfl) (aM H_number_told (hr.mono (by lia)) rfl (aa (aH bj (pv 2) ai (fun _ _=>rfl)) (aa ai (aa (aJ dN (aJ lL ai (pv 0)) ai) ae)))))
  (ah (aV (au iy (pv 3) aZ (ay _))
   (aq (aA (aS ae)))
   aB)
  (ah (aF (i:=4) sc_fraction_told.nd rfl (Or.inl rfl) (aM H_number_told (hr.mono (by lia)) rfl (aa (aH bj (pv 2) ai (fun _ _=>rfl)) (aa ai (aa (pv 3) ae)))))
  (aq (aA (cB (au iy (pv 4) aZ (ay _)) (aS ae) (aS (aa (pv 4) (aa (pv 3) ae)))))))))),?_⟩
 have pb:=dj w0 w1
 have n3:n<10^10:=by lia
 obtain⟨nt,nv⟩:=kr n3
 obtain⟨p1,p2⟩:=part_sl n
 have fl:=re n3
 have L1000:(1000:Nat)<=sizeLine:=by decide
 refine⟨_,rfl,jq,_,_,rfl,rfl,(by decide),(by lia),fun t ht=>?_⟩
 rw[show (Txt.partition (frT n) (Str.ofString "/")).1 = "1" from p1,show (Txt.partition (frT n) (Str.ofString "/")).2.2=tt n from p2]
 obtain⟨G1,e1,s1,g1⟩:=cJ ht (.tup [V.str "1",V.str (Txt.partition (frT n) (Str.ofString "/")).2.1,V.str (tt n)])
 rw[e1]
 refine⟨_,rfl,t,_,_,_,rfl,rfl,SqT.of g1,rfl,_,rfl,_,_,rfl,rfl,nB (by lia) (by lia),_,_,rfl,rfl,tt n,1,_,rfl,nt,?_⟩
 rw[nv,if_pos ⟨n1,by lia⟩]
 refine⟨_,rfl,rfl,_,rfl,aN (by nofun) ?_⟩
 refine⟨_,rfl,t,_,_,_,rfl,rfl,SqT.of g1,rfl,_,rfl, "1",0,_,rfl,num1.1,?_⟩
 rw[num1.2,if_pos ⟨by decide,n1⟩]
 exact⟨_,rfl,rfl,_,rfl,aN (by nofun) ⟨_,rfl,_,rfl,(by show 2<=sizeLine; decide),fun l hl=>q l _ (none_of s1 hl) ac (s1.trans (aj hl _))⟩⟩
def cM (H:Hp) (L:List Addr):Hp:=fun b=>if b∈L then none else H b
theorem jZ {H:Hp}{L:List Addr}{a:Addr}{o:HO}(ha:a∈L):cM (upd H a o) L=cM H L:=funext fun b=>by
 unfold cM
 by_cases hb:b∈L
 ·rw[if_pos hb,if_pos hb]
 ·rw[if_neg hb,if_neg hb,af (fun z=>hb (by rw[z]; exact ha))]
theorem bB {H:Hp}{L:List Addr}:Same (cM H L) H:=fun b o e=>by
 unfold cM at e
 split at e
 ·cases e
 ·exact e
theorem jk {H H':Hp}{L:List Addr}(s:Same H H'):Same (cM H L) (cM H' L):=fun b o e=>by
 unfold cM at e ⊢
 split at e
 ·cases e
 ·rename_i c; rw[if_neg c]; exact s _ _ e
theorem d4 {H:Hp}{L:List Addr}{b:Addr}{o:HO}(h:H b=some o) (n:b∉L):cM H L b=some o:=by unfold cM; rw[if_neg n]; exact h
structure RwD where
 line:Int
 k:Nat
 goals:List Str
 reads:List Str
 num:Nat
structure DS where
 w:Int
 ins:List (Int×Str×KS)
 outs:List (Int×Str)
 prs:List RwD
 top:List Int
 lps:List (Int×List Int)
 met:List Str
def InAt (c:Ad) (w:Int) (G:Hp) (p:Addr) (y:Int×Str×KS):Prop:=∃ k,G p=some (.tup [.int y.1,.str y.2.1,.ref k])/\KO c G k y.2.2.1 w y.2.2.2
def OuAt (G:Hp) (p:Addr) (y:Int×Str):Prop:=G p=some (.tup [.int y.1,.str y.2])
def RwAt (c:Ad) (G:Hp) (x:Addr) (r:RwD):Prop:=∃ dx g rd n way,G x=some (.ins c.Row dx (rfl6 r.line (dn r.k) g rd n way))/\G g=some (.lst (r.goals.map V.str))/\G rd=some (.lst (r.reads.map V.str))/\G n=some (.lst ((pP r.k r.num).map V.int))
def PrAt (c:Ad) (G:Hp) (p:Addr) (y:RwD):Prop:=∃ x,G p=some (.tup [.ref x,.non])/\RwAt c G x y
def Ls {α:Type}(R:Hp->Addr->α->Prop) (G:Hp) (ps:List Addr) (ys:List α):Prop:=ps.length=ys.length/\∀ (i:Nat) p y,ps[i]?=some p->ys[i]?=some y->R G p y
theorem Ls.mono {α:Type}{R:Hp->Addr->α->Prop}{G G':Hp}{ps:List Addr}{ys:List α}(h:Ls R G ps ys) (f:∀ p y,R G p y->R G' p y):Ls R G' ps ys:=⟨h.1,fun i p y a b=>f _ _ (h.2 i p y a b)⟩
theorem Ls.nil {α:Type}{R:Hp->Addr->α->Prop}{G:Hp}:Ls R G [] ([]:List α):=⟨rfl,fun i p y a _=>by simp at a⟩
theorem Ls.snoc {α:Type}{R:Hp->Addr->α->Prop}{G:Hp}{ps:List Addr}{ys:List α}{p:Addr}{y:α}(h:Ls R G ps ys) (r:R G p y):Ls R G (ps++[p]) (ys++[y]):=by
 refine⟨by rw[length_append,length_append,h.1]; rfl,fun i q z a b=>?_⟩
 by_cases hi:i<ps.length
 ·rw[List.getElem?_append_left hi] at a
  rw[List.getElem?_append_left (by rw[<- h.1]; exact hi)] at b
  exact h.2 i q z a b
 ·rw[List.getElem?_append_right (by lia)] at a
  rw[List.getElem?_append_right (by rw[<- h.1]; lia),<- h.1] at b
  cases e:i-ps.length with
  | zero=>rw[e] at a b; cases a; cases b; exact r
  | succ n=>rw[e] at a; simp at a
def ItAt (c:Ad):Nat->Hp->Addr->Int->Prop
 | 0,G,x,n=>n=1/\∃ dx fs,G x=some (.ins c.Row dx fs)
 | d+1,G,x,n=>(n=1/\∃ dx fs,G x=some (.ins c.Row dx fs))\/∃ (dx:Addr) (line t:Int) (l:Addr) (ps:List Addr) (ns:List Int),G x=some (.ins c.Repeat dx (pfl line t l))/\G l=some (.lst (ps.map V.ref))/\ps.length=ns.length/\(∀ (i:Nat) p m,ps[i]?=some p->ns[i]?=some m->ItAt c d G p m)/\n=t*ns.sum/\0<=t/\t<=100/\ns.length<=200
theorem ItAt.same {c:Ad}{G G':Hp}(s:Same G G'):∀ {d:Nat}{x:Addr}{n:Int},ItAt c d G x n->ItAt c d G' x n
 | 0,_,_,⟨h,dx,fs,e⟩=>⟨h,dx,fs,s _ _ e⟩
 | _+1,_,_,.inl ⟨h,dx,fs,e⟩=>.inl ⟨h,dx,fs,s _ _ e⟩
 | _+1,_,_,.inr ⟨dx,line,t,l,ps,ns,e1,e2,e3,e4,e5⟩=>.inr ⟨dx,line,t,l,ps,ns,s _ _ e1,s _ _ e2,e3,fun i p m a b=>(e4 i p m a b).same s,e5⟩
structure Lp where
 o:Addr
 l:Addr
 t:Int
 ns:List Int
def LvAt (c:Ad) (H G:Hp):(d:Nat)->(l:Addr)->(ns:List Int)->List Lp->Prop
 | d,l,ns,[]=>∃ ps:List Addr,H l=some (.lst (ps.map V.ref))/\Ls (ItAt c d) G ps ns
 | d,l,ns,y::r=>∃ ps:List Addr,H l=some (.lst ((ps++[y.o]).map V.ref))/\Ls (ItAt c d) G ps ns/\(∃ dx line,G y.o=some (.ins c.Repeat dx (pfl line y.t y.l)))/\LvAt c H G (d-1) y.l y.ns r
def bz (Lr:Addr):List Lp->Addr
 | []=>Lr
 | y::r=>bz y.l r
structure DrAt (c:Ad) (H:Hp) (x:Addr) (S:DS) (Li Lr Lo Lp' Ll M:Addr) (ys:List Lp):Prop where
 nd:([x,Li,Lr,Lo,Lp',Ll,M]++ys.map (·.l)).Nodup
 hx:∃ dx,H x=some (.ins c.Draft dx (dfl S.w Li Lr Lo Lp' Ll M))
 ins:∃ ps:List Addr,H Li=some (.lst (ps.map V.ref))/\Ls (InAt c S.w) (cM H ([x,Li,Lr,Lo,Lp',Ll,M]++ys.map (·.l))) ps S.ins
 outs:∃ ps:List Addr,H Lo=some (.lst (ps.map V.ref))/\Ls OuAt (cM H ([x,Li,Lr,Lo,Lp',Ll,M]++ys.map (·.l))) ps S.outs
 prs:∃ ps:List Addr,H Lp'=some (.lst (ps.map V.ref))/\Ls (PrAt c) (cM H ([x,Li,Lr,Lo,Lp',Ll,M]++ys.map (·.l))) ps S.prs
 lps:H Ll=some (.lst (ys.map fun y=>V.ref y.o))/\ys.map (fun y=>(y.t,y.ns))=S.lps
 lv:LvAt c H (cM H ([x,Li,Lr,Lo,Lp',Ll,M]++ys.map (·.l))) 5 Lr S.top ys
 met:H M=some (.dK (S.met.map fun z=>(.inr z,.bl true)))
theorem qd {c:Ad}{H G:Hp}:∀ {r:List Lp}{d:Nat}{l:Addr}{ns:List Int}{y:Lp},LvAt c H G d l ns (y::r)->∃ (zs:List Lp) (z:Lp),y::r=zs++[z]/\z.l=bz l (y::r)/\∃ dx line,G z.o=some (.ins c.Repeat dx (pfl line z.t z.l))
 | [],_,_,_,y,h=>by
  obtain⟨ps,_,_,⟨dx,line,e⟩,_⟩:=h
  exact⟨[],y,rfl,rfl,dx,line,e⟩
 | u::r,d,_,_,y,h=>by
  obtain⟨ps,_,_,_,h'⟩:=h
  obtain⟨zs,z,e1,e2,e3⟩:=qd h'
  exact⟨y::zs,z,by rw[e1]; rfl,e2,e3⟩
def mh (c:Ad):Sp:=fun vs H Q _=>∃ (x:Addr) (S:DS) (Li Lr Lo Lp' Ll M:Addr) (ys:List Lp),vs=[.ref x]/\DrAt c H x S Li Lr Lo Lp' Ll M ys/\S.lps.length<=100/\∀ H',Same H H'->Q (.ref (bz Lr ys)) H'
theorem gL {f:Addr}{fd:FuncData}(F:Fun K "rows_here" "Draft.rows_here" cz f fd) (T:Txt K mg c) :FnOk P w K mg base CX0 1 f fd ["self"] (mh c):=by
 refine F.ok gj (fun vs H Q E h=>?_) (fun cdv A outer s H vs Q E hr h=>?_)
 ·obtain⟨x,S,Li,Lr,Lo,Lp',Ll,M,ys,rfl,_⟩:=h
  rfl
 obtain⟨x,S,Li,Lr,Lo,Lp',Ll,M,ys,rfl,D,ln,q⟩:=h
 refine⟨_,(aq (aA (cB (au (oY (lt_of_succ_lt (bc hr))) (aC (pv 0) rfl) (aS ae) (ay _)) (aC (pv 0) rfl) (aC (aH aD (aC (pv 0) rfl) (jw dS ai) (fun _ _=>rfl)) rfl)))),?_⟩
 obtain⟨dx,hx⟩:=D.hx
 refine⟨_,rfl,x,c.Draft,dx,_,_,rfl,hx,T.cl_Draft,T.na_Draft_loops,rfl,(by show 0<=sizeLine; decide),fun l hl=>?_⟩
 have sl:=aj hl (.lst [])
 have hLl:=sl _ _ D.lps.1
 refine⟨Ll,l,_,rfl,rfl,SqL.of hLl,SqL.of ac,_,rfl,?_⟩
 have lv:=D.lv
 have hx':=sl _ _ hx
 cases ys with
 | nil=>exact gU ⟨_,rfl,x,c.Draft,dx,_,_,rfl,hx',T.cl_Draft,T.na_Draft_rows,rfl,q _ sl⟩
 | cons y r =>
  obtain⟨zs,z,e1,e2,dz,line,e3⟩:=qd lv
  rw[e1,map_append] at hLl
  refine di ⟨_,rfl,x,c.Draft,dx,_,_,rfl,hx',T.cl_Draft,T.na_Draft_loops,rfl,_,rfl,Ll,_,_,_,rfl,rfl,SqL.of hLl,oy _ _,z.o,c.Repeat,dz,_,_,rfl,sl _ _ (bB _ _ e3),T.cl_Repeat,T.na_Repeat_rows,rfl,?_⟩
  rw[e2]
  exact q _ sl
def qJ (c:Ad):Sp:=fun vs H Q _=>∃ (x:Addr) (S:DS) (Li Lr Lo Lp' Ll M:Addr) (ys:List Lp),vs=[.ref x]/\DrAt c H x S Li Lr Lo Lp' Ll M ys/\Q (.bl (decide (30<S.met.length) || decide (3<S.lps.length))) H
theorem eU {f:Addr}{fd:FuncData}(F:Fun K "is_too_much" "Draft.is_too_much" bL f fd) (T:Txt K mg c) :FnOk P w K mg base CX0 1 f fd ["self"] (qJ c):=by
 refine F.ok eP (fun vs H Q E h=>?_) (fun cdv A outer s H vs Q E hr h=>?_)
 ·obtain⟨x,S,Li,Lr,Lo,Lp',Ll,M,ys,rfl,_⟩:=h
  rfl
 obtain⟨x,S,Li,Lr,Lo,Lp',Ll,M,ys,rfl,D,q⟩:=h
 refine⟨_,(aq (aA (pe_or (bU m4 (aG sw rfl T.n_len boot_len (aa (aC (pv 0) rfl) ae)) (iH rfl T.g_MOST_NAMES) (ay _)) (lC (bU m4 (aG aE rfl T.n_len boot_len (aa (aC (pv 0) rfl) ae)) (iH rfl T.g_MOST_LOOPS) (ay _)))))),?_⟩
 obtain⟨dx,hx⟩:=D.hx
 have el:S.lps.length=ys.length:=by rw[<- D.lps.2,length_map]
 refine⟨_,rfl,x,c.Draft,dx,_,_,rfl,hx,T.cl_Draft,T.na_Draft_met,rfl,M,_,rfl,D.met,_,_,rfl,rfl,_,rfl,?_⟩
 rw[length_map]
 by_cases c1:30<S.met.length
 ·rw[decide_eq_true c1,Bool.true_or] at q
  exact dw (show (30:Int)<(S.met.length:Int) by lia) q
 ·rw[decide_eq_false c1,Bool.false_or] at q
  refine aN (show ¬ (30:Int)<(S.met.length:Int) by lia) ⟨_,rfl,x,c.Draft,dx,_,_,rfl,hx,T.cl_Draft,T.na_Draft_loops,rfl,Ll,_,rfl,.inl (SqL.of D.lps.1),_,_,rfl,rfl,?_⟩
  rw[length_map,<- el]
  have e3:decide ((3:Int)<(S.lps.length:Int))=decide (3<S.lps.length):=decide_eq_decide.mpr (by lia)
  rw[<- e3] at q
  exact q
def DS.out (S:DS) (y:Int×Str):DS:={ S with outs:=S.outs++[y] }
theorem mH {L:List Addr}{i j:Nat}{a b:Addr}(h:L.Nodup) (ha:L[i]?=some a) (hb:L[j]?=some b) (n:i≠j):a≠b:=fun z=>by
 subst z
 obtain⟨hi,ei⟩:=List.getElem?_eq_some_iff.mp ha
 obtain⟨hj,ej⟩:=List.getElem?_eq_some_iff.mp hb
 have key:=List.pairwise_iff_getElem.mp h
 rcases Nat.lt_or_gt_of_ne n with q | q
 ·exact key i j hi hj q (ei.trans ej.symm)
 ·exact key j i hj hi q (ej.trans ei.symm)
abbrev bg (x Li Lr Lo Lp' Ll M:Addr) (ys:List Lp):List Addr:=[x,Li,Lr,Lo,Lp',Ll,M]++ys.map (·.l)
theorem InAt.same {c:Ad}{w:Int}{G G':Hp}(s:Same G G') {p:Addr}{y:Int×Str×KS}(h:InAt c w G p y):InAt c w G' p y:=by
 obtain⟨k,a,dx,b⟩:=h
 exact⟨k,s _ _ a,dx,s _ _ b⟩
theorem RwAt.same {c:Ad}{G G':Hp}(s:Same G G') {p:Addr}{y:RwD}(h:RwAt c G p y):RwAt c G' p y:=by
 obtain⟨dx,g,rd,n,way,a,b,d,e⟩:=h
 exact⟨dx,g,rd,n,way,s _ _ a,s _ _ b,s _ _ d,s _ _ e⟩
theorem PrAt.same {c:Ad}{G G':Hp}(s:Same G G') {p:Addr}{y:RwD}(h:PrAt c G p y):PrAt c G' p y:=by
 obtain⟨x,a,b⟩:=h
 exact⟨x,s _ _ a,b.same s⟩
theorem LvAt.mono {c:Ad}{H H' G G':Hp}(s:Same G G'):∀ {r:List Lp}{d:Nat}{l:Addr}{ns:List Int},(∀ y∈r,H' y.l=H y.l)->H' l=H l->LvAt c H G d l ns r->LvAt c H' G' d l ns r
 | [],_,_,_,_,hl,⟨ps,a,b⟩=>⟨ps,hl.trans a,b.mono fun _ _ q=>q.same s⟩
 | y::r,_,_,_,hr,hl,⟨ps,a,b,⟨dx,line,e⟩,t⟩=>⟨ps,hl.trans a,b.mono fun _ _ q=>q.same s,⟨dx,line,s _ _ e⟩,t.mono s (fun z hz=>hr z (mem_cons_of_mem _ hz)) (hr y (mem_cons_self ..))⟩
theorem DrAt.same {c:Ad}{H H':Hp}{x:Addr}{S:DS}{Li Lr Lo Lp' Ll M:Addr}{ys:List Lp}(D:DrAt c H x S Li Lr Lo Lp' Ll M ys) (s:Same H H'):DrAt c H' x S Li Lr Lo Lp' Ll M ys:=by
 have sg:=jk (L:=bg x Li Lr Lo Lp' Ll M ys) s
 obtain⟨nd,⟨dx,hx⟩,⟨p1,a1,b1⟩,⟨p2,a2,b2⟩,⟨p3,a3,b3⟩,⟨a4,b4⟩,lv,mt⟩:=D
 refine⟨nd,⟨dx,s _ _ hx⟩,⟨p1,s _ _ a1,b1.mono fun _ _ q=>q.same sg⟩,⟨p2,s _ _ a2,b2.mono fun _ _ q=>sg _ _ q⟩,⟨p3,s _ _ a3,b3.mono fun _ _ q=>q.same sg⟩,⟨s _ _ a4,b4⟩,?_,s _ _ mt⟩
 have key:∀ {r:List Lp} {d:Nat} {l:Addr} {ns:List Int},LvAt c H (cM H (bg x Li Lr Lo Lp' Ll M ys)) d l ns r->LvAt c H' (cM H' (bg x Li Lr Lo Lp' Ll M ys)) d l ns r:=by
  intro r
  induction r with
  | nil=>rintro d l ns ⟨ps,a,b⟩; exact⟨ps,s _ _ a,b.mono fun _ _ q=>q.same sg⟩
  | cons y r ih=>rintro d l ns ⟨ps,a,b,⟨dx,line,e⟩,t⟩; exact⟨ps,s _ _ a,b.mono fun _ _ q=>q.same sg,⟨dx,line,sg _ _ e⟩,ih t⟩
 exact key lv
section
variable {c:Ad}{H:Hp}{x:Addr}{S:DS}{Li Lr Lo Lp' Ll M:Addr}{ys:List Lp}
theorem DrAt.far (D:DrAt c H x S Li Lr Lo Lp' Ll M ys) {i j:Nat}{a b:Addr}(ha:(bg x Li Lr Lo Lp' Ll M ys)[i]?=some a) (hb:(bg x Li Lr Lo Lp' Ll M ys)[j]?=some b) (n:i≠j):a≠b:=mH D.nd ha hb n
theorem DrAt.loop {y:Lp}(hy:y∈ys):∃ k,(bg x Li Lr Lo Lp' Ll M ys)[7+k]?=some y.l:=by
 obtain⟨k,hk,e⟩:=List.mem_iff_getElem.mp hy
 refine⟨k,?_⟩
 rw[List.getElem?_append_right (by show 7<=7+k; lia)]
 show (ys.map (·.l))[7+k-7]?=some y.l
 rw[show 7+k-7=k by lia,List.getElem?_map,List.getElem?_eq_getElem hk,e]
 rfl
theorem DrAt.fresh (D:DrAt c H x S Li Lr Lo Lp' Ll M ys) {t:Addr}(ht:H t=none):t∉bg x Li Lr Lo Lp' Ll M ys:=fun m=>by
 have ne:H t≠none:=by
  rcases List.mem_append.mp m with m | m
  ·simp only[mem_cons,not_mem_nil,or_false] at m
   obtain⟨dx,hx⟩:=D.hx
   obtain⟨p1,a1,_⟩:=D.ins
   obtain⟨p2,a2,_⟩:=D.outs
   obtain⟨p3,a3,_⟩:=D.prs
   rcases m with rfl | rfl | rfl | rfl | rfl | rfl | rfl
   ·rw[hx]; nofun
   ·rw[a1]; nofun
   ·have lv:=D.lv
    cases ys with
    | nil=>obtain⟨ps,a,_⟩:=lv; rw[a]; nofun
    | cons y r=>obtain⟨ps,a,_⟩:=lv; rw[a]; nofun
   ·rw[a2]; nofun
   ·rw[a3]; nofun
   ·rw[D.lps.1]; nofun
   ·rw[D.met]; nofun
  ·obtain⟨z,hz,rfl⟩:=List.mem_map.mp m
   have key:∀ {r:List Lp} {d:Nat} {l:Addr} {ns:List Int},LvAt c H (cM H (bg x Li Lr Lo Lp' Ll M ys)) d l ns r->∀ z∈r,H z.l≠none:=by
    intro r
    induction r with
    | nil=>rintro d l ns _ z hz; cases hz
    | cons u r ih =>
     rintro d l ns ⟨ps,_,_,_,t⟩ z hz
     rcases List.mem_cons.mp hz with rfl | hz
     ·cases r with
      | nil=>obtain⟨ps,a,_⟩:=t; rw[a]; nofun
      | cons v r=>obtain⟨ps,a,_⟩:=t; rw[a]; nofun
     ·exact ih t z hz
   exact key D.lv z hz
 exact ne ht
theorem DrAt.addOut (D:DrAt c H x S Li Lr Lo Lp' Ll M ys) {t:Addr}{y:Int×Str}{ps:List Addr}(ht:H t=none) (hp:H Lo=some (.lst (ps.map V.ref))) :
  DrAt c (upd (upd H t (.tup [.int y.1,.str y.2])) Lo (.lst (ps.map V.ref++[.ref t]))) x (S.out y) Li Lr Lo Lp' Ll M ys:=by
 have sn:=aj ht (.tup [V.int y.1,.str y.2])
 have D1:=D.same sn
 have tn:=D.fresh ht
 have hid:cM (upd (upd H t (.tup [V.int y.1,.str y.2])) Lo (.lst (ps.map V.ref++[.ref t]))) (bg x Li Lr Lo Lp' Ll M ys)=cM (upd H t (.tup [V.int y.1,.str y.2])) (bg x Li Lr Lo Lp' Ll M ys):=jZ (by simp)
 obtain⟨nd,⟨dx,hx⟩,⟨p1,a1,b1⟩,⟨p2,a2,b2⟩,⟨p3,a3,b3⟩,⟨a4,b4⟩,lv,mt⟩:=D1
 have e2:p2=ps:=by
  have e:=(sn _ _ hp).symm.trans a2
  injection e with e
  injection e with e
  exact(List.map_inj_right (fun a b h=>by injection h)).mp e.symm
 subst e2
 have nx:x≠Lo:=mH nd (i:=0) (j:=3) rfl rfl (by decide)
 have n1:Li≠Lo:=mH nd (i:=1) (j:=3) rfl rfl (by decide)
 have n2:Lr≠Lo:=mH nd (i:=2) (j:=3) rfl rfl (by decide)
 have n4:Lp'≠Lo:=mH nd (i:=4) (j:=3) rfl rfl (by decide)
 have n5:Ll≠Lo:=mH nd (i:=5) (j:=3) rfl rfl (by decide)
 have n6:M≠Lo:=mH nd (i:=6) (j:=3) rfl rfl (by decide)
 refine⟨nd,⟨dx,by rw[af nx]; exact hx⟩,⟨p1,by rw[af n1]; exact a1,by rw[hid]; exact b1⟩,⟨p2++[t],by rw[ac,map_append]; rfl,by rw[hid]; exact b2.snoc (d4 ac tn)⟩,⟨p3,by rw[af n4]; exact a3,by rw[hid]; exact b3⟩,⟨by rw[af n5]; exact a4,b4⟩,?_,by rw[af n6]; exact mt⟩
 rw[hid]
 refine lv.mono (fun _ _ q=>q) (fun y hy=>?_) (by rw[af n2])
 obtain⟨k,hk⟩:=DrAt.loop (x:=x) (Li:=Li) (Lr:=Lr) (Lo:=Lo) (Lp':=Lp') (Ll:=Ll) (M:=M) hy
 exact af (mH nd hk (j:=3) rfl (by lia))
end
def SameL (L:List Addr) (H H':Hp):Prop:=∀ b u,b∉L->H b=some u->H' b=some u
def spOut (c:Ad):Sp:=fun vs H Q _=>∃ (x:Addr) (S:DS) (Li Lr Lo Lp' Ll M:Addr) (ys:List Lp) (line:Int) (wl:Addr) (z:Str),vs=[.ref x,.int line,.ref wl]/\DrAt c H x S Li Lr Lo Lp' Ll M ys/\H wl=some (.lst [.str "out",.str z])/\wl∉bg x Li Lr Lo Lp' Ll M ys/\Nm z/\S.outs.length<=200/\S.lps=[] /\
 ∀ H',DrAt c H' x (S.out (line,z)) Li Lr Lo Lp' Ll M ys->SameL (bg x Li Lr Lo Lp' Ll M ys) H H'->Q (.bl true) H'
theorem gF {f:Addr}{fd:FuncData}(F:Fun K "takes_out" "Draft.takes_out" cA f fd) (T:Txt K mg c) (H_is_name:Has P w K mg base 1 "is_name" ["word"] spNm):FnOk P w K mg base CX0 2 f fd ["self","line","words"] (spOut c):=by
 refine F.ok fV (fun vs H Q E h=>?_) (fun cdv A outer s H vs Q E hr h=>?_)
 ·obtain⟨x,S,Li,Lr,Lo,Lp',Ll,M,ys,line,wl,z,rfl,_⟩:=h
  rfl
 obtain⟨x,S,Li,Lr,Lo,Lp',Ll,M,ys,line,wl,z,rfl,D,hw,nw,nm,ln,l0,qt⟩:=h
 refine⟨_,(ah (aV (PW.pt (eO (au op_ne (aG aE rfl T.n_len boot_len (aa (pv 2) ae)) ai (ay _)) (eO (dY (dL (aM H_is_name (hr.mono (by lia)) rfl (aa (aH aD (pv 2) ai (fun _ _=>rfl)) ae)))) (dM (au (iP (lt_of_succ_lt (bc hr))) (aC (pv 0) rfl) (aS ae) (ay _))))))
   (aq (aA fO))
   aB)
  (ah (bf (dO PySem.F.plainAttrs_list PySem.F.slot_list_append PySem.F.type_list_append aY (aC (pv 0) rfl) (aa (aP (aa (pv 1) (aa (aH aD (pv 2) ai (fun _ _=>rfl)) ae))) ae)))
  (aq (aA fO)))),?_⟩
 refine⟨_,rfl,wl,_,rfl,.inl (SqL.of hw),rfl,_,rfl,eN rfl ?_⟩
 refine⟨_,rfl,wl,_,_,_,rfl,rfl,SqL.of hw,rfl,z,rfl,nm,fun H1 s1=>⟨_,rfl,di ?_⟩⟩
 have D1:=D.same s1
 obtain⟨dx,hx⟩:=D1.hx
 refine⟨_,rfl,x,c.Draft,dx,_,_,rfl,hx,T.cl_Draft,T.na_Draft_loops,rfl,(by show 0<=sizeLine; decide),fun l hl=>?_⟩
 have sl:=aj hl (.lst [])
 have D2:=D1.same sl
 have s2:=s1.trans sl
 refine⟨Ll,l,_,rfl,rfl,SqL.of D2.lps.1,SqL.of ac,_,rfl,?_⟩
 generalize upd H1 l (.lst [])=H2 at D2 s2 ⊢
 have e5:=D2.lps.2
 cases ys with
 | cons y r=>exact absurd (e5.trans l0) (by nofun)
 | nil =>
  refine di ?_
  obtain⟨dx2,hx2⟩:=D2.hx
  obtain⟨ps,a2,b2⟩:=D2.outs
  refine⟨_,rfl,x,c.Draft,dx2,_,_,rfl,hx2,T.cl_Draft,T.na_Draft_outs,rfl,.inl ⟨rfl,_,SqL.of a2⟩,_,rfl,_,rfl,wl,_,_,_,rfl,rfl,SqL.of (s2 _ _ hw),rfl,(by show 2<=sizeLine; decide),fun t ht=>?_⟩
  have st:=aj ht (.tup [V.int line,.str z])
  refine⟨Lo,_,_,rfl,rfl,st _ _ a2,(by rw[length_map,b2.1]; exact lt_of_le_of_lt ln (by decide)),?_⟩
  refine qt _ (D2.addOut (y:=(line,z)) ht a2) fun b u nb e=>?_
  rw[af (fun q=>nb (by rw[q]; simp))]
  exact st _ _ (s2 _ _ e)
theorem lP {f:Addr}{fd:FuncData}(F:Fun K "kind_told" "kind_told" fm f fd) (T:Txt K mg c) (H_number_told:Has P w K mg base 3 "number_told" ["word","low","high"] jp) (C_Plain:CHas P w K mg base 4 c.Plain "Plain" ["self","width"] (jt c 0)) (C_Signed:CHas P w K mg base 4 c.Signed "Signed" ["self","width"] (jt c 1)) (C_Pointed:CHas P w K mg base 4 c.Pointed "Pointed" ["self","width","point"] (nS c)):FnOk P w K mg base CX0 6 f fd ["width","words"] (spKT c):=by
 refine F.ok sc_kind_told (fun vs H Q E h=>?_) (fun cdv A outer s H vs Q E hr h=>?_)
 ·obtain⟨w',l,κ,rfl,_⟩:=h
  rfl
 obtain⟨w',l,κ,rfl,hl,w1,w2,kg,q⟩:=h
 refine⟨_,(ah (aV (au (kx (lt_of_succ_lt (bc hr))) (pv 1) (aS (aa ak ae)) (ay _))
   (aq (aA (iw C_Plain (hr.mono (by lia)) rfl (aa (pv 0) ae))))
   aB)
  (ah (aV (au (kx (lt_of_succ_lt (bc hr))) (pv 1) (aS (aa ak ae)) (ay _))
   (aq (aA (iw C_Signed (hr.mono (by lia)) rfl (aa (pv 0) ae))))
   aB)
  (ah (aV (PW.pt (eO (au op_ne (aG aE rfl T.n_len boot_len (aa (pv 1) ae)) ai (ay _)) (dM (au op_ne (aH aD (pv 1) ai (fun _ _=>rfl)) ak (ay _)))))
   (aq (aA aZ))
   aB)
  (ah (aF (i:=2) sc_kind_told.nd rfl (Or.inl rfl) (aM H_number_told (hr.mono (by lia)) rfl (aa (aH aD (pv 1) ai (fun _ _=>rfl)) (aa ai (aa (aJ dN (pv 0) ai) ae)))))
  (aq (aA (cB (au iy (pv 2) aZ (ay _)) aZ (iw C_Pointed (hr.mono (by lia)) rfl (aa (pv 0) (aa (pv 2) ae)))))))))),?_⟩
 have k1:1<=sizeLine:=by decide
 refine⟨_,rfl,k1,fun l2 h2=>?_⟩
 have s2:=aj h2 (.lst [V.str "plain"])
 have n2:∀ {x:Addr} {G:Hp},Same H G->G x=none->H x=none:=fun s e=>none_of s e
 obtain⟨i,p⟩:=κ
 obtain⟨k3,kp,kz⟩:=kg
 rcases(by have:i<3:=k3; lia:i=0\/i=1\/i=2) with rfl | rfl | rfl
 ·obtain rfl:p=0:=kz (fun z=>nomatch z)
  refine⟨l,l2,["plain"],["plain"],rfl,rfl,SqL.of (s2 _ _ hl),SqL.of ac,_,rfl,gU ?_⟩
  exact⟨_,rfl,fun x dx hx hdx hne=>⟨x,dx,w',rfl,ac,w1,w2,fun H' s' ko=>⟨rfl,q x H' (n2 s2 hx) ko (s2.trans (aQ hx hdx s'))⟩⟩⟩
 ·obtain rfl:p=0:=kz (fun z=>nomatch z)
  have e0:([Str.ofString "signed"]:List Str)≠[Str.ofString "plain"]:=by decide +kernel
  refine⟨l,l2,[Str.ofString "signed"],["plain"],rfl,rfl,SqL.of (s2 _ _ hl),SqL.of ac,_,rfl,aN e0 ?_⟩
  refine⟨_,rfl,k1,fun l3 h3=>?_⟩
  have s3:=s2.trans (aj h3 (.lst [V.str "signed"]))
  refine⟨l,l3,["signed"],["signed"],rfl,rfl,SqL.of (s3 _ _ hl),SqL.of ac,_,rfl,gU ?_⟩
  exact⟨_,rfl,fun x dx hx hdx hne=>⟨x,dx,w',rfl,ac,w1,w2,fun H' s' ko=>⟨rfl,q x H' (n2 s3 hx) ko (s3.trans (aQ hx hdx s'))⟩⟩⟩
 ·have pp:=kp rfl
  obtain⟨n,rfl⟩:∃ n:Nat,p=(n:Int):=⟨p.toNat,by have:=pp.1; dsimp only at this; lia⟩
  have p1:1<=(n:Int):=pp.1
  have p2:(n:Int)<=w'-1:=pp.2
  have hl':H l=some (.lst (([Str.ofString "point",tt n]:List Str).map V.str)):=hl
  obtain⟨nt,nv⟩:=kr (n:=n) (by lia)
  have e1:([Str.ofString "point",tt n]:List Str)≠[Str.ofString "plain"]:=fun z=>by cases z
  have e2:([Str.ofString "point",tt n]:List Str)≠[Str.ofString "signed"]:=fun z=>by cases z
  refine⟨l,l2,_,["plain"],rfl,rfl,SqL.of (s2 _ _ hl'),SqL.of ac,_,rfl,aN e1 ?_⟩
  refine⟨_,rfl,k1,fun l3 h3=>?_⟩
  have s3:=s2.trans (aj h3 (.lst [V.str "signed"]))
  refine⟨l,l3,_,["signed"],rfl,rfl,SqL.of (s3 _ _ hl'),SqL.of ac,_,rfl,aN e2 ?_⟩
  have hl3:=s3 _ _ hl'
  generalize upd (upd H l2 (.lst [V.str "plain"])) l3 (.lst [V.str "signed"])=H3 at s3 hl3 ⊢
  refine⟨_,rfl,l,_,rfl,.inl (SqL.of hl3),rfl,_,rfl,eN rfl ⟨_,rfl,l,_,_,_,rfl,rfl,SqL.of hl3,rfl,rfl,_,rfl,eN rfl ?_⟩⟩
  refine⟨_,rfl,l,_,_,_,rfl,rfl,SqL.of hl3,rfl,_,rfl,_,_,rfl,rfl,tt n,1,w'-1,rfl,nt,?_⟩
  rw[nv,if_pos ⟨p1,p2⟩]
  refine⟨_,rfl,rfl,_,rfl,aN (by nofun) ?_⟩
  exact⟨_,rfl,_,rfl,fun x dx hx hdx hne=>⟨x,dx,w',(n:Int),rfl,ac,w1,w2,p1,p2,fun H' s' ko=>⟨rfl,q x H' (n2 s3 hx) ko (s3.trans (aQ hx hdx s'))⟩⟩⟩
def pE (ms:List Str) (z:Str):List Str:=if z∈ms then ms else ms++[z]
theorem nY (ms:List Str) (z:Str):ig (ms.map fun z=>((Sum.inr z:Key),V.bl true)) (.inr z) (.bl true)=(pE ms z).map fun z=>((Sum.inr z:Key),V.bl true):=by
 unfold ig pE
 have an:((ms.map fun z=>((Sum.inr z:Key),V.bl true)).any fun kv=>decide (kv.1=Sum.inr z))=decide (z∈ms):=by
  rw[List.any_map]
  by_cases h:z∈ms
  ·rw[decide_eq_true h]
   exact List.any_eq_true.mpr ⟨z,h,by simp⟩
  ·rw[decide_eq_false h]
   refine Bool.eq_false_iff.mpr fun q=>h ?_
   obtain⟨y,hy,e⟩:=List.any_eq_true.mp q
   have:(Sum.inr y:Key)=Sum.inr z:=by simpa using e
   injection this with this
   rw[<- this]; exact hy
 rw[an]
 by_cases h:z∈ms
 ·rw[decide_eq_true h,if_pos rfl,if_pos h,map_map]
  refine List.map_congr_left fun y _=>?_
  show (if (Sum.inr y:Key)=Sum.inr z then _ else _)=_
  split <;> rfl
 ·rw[decide_eq_false h,if_neg Bool.false_ne_true,if_neg h,map_append]
  rfl
def DS.inn (S:DS) (y:Int×Str×KS):DS:={ S with ins:=S.ins++[y],met:=pE S.met y.2.1 }
section
variable {c:Ad}{H:Hp}{x:Addr}{S:DS}{Li Lr Lo Lp' Ll M:Addr}{ys:List Lp}
theorem DrAt.own (D:DrAt c H x S Li Lr Lo Lp' Ll M ys) {i:Nat}{a:Addr}{o:HO}(ha:(bg x Li Lr Lo Lp' Ll M ys)[i]?=some a):cM (upd H a o) (bg x Li Lr Lo Lp' Ll M ys)=cM H (bg x Li Lr Lo Lp' Ll M ys)/\∀ {j:Nat}{b:Addr},(bg x Li Lr Lo Lp' Ll M ys)[j]?=some b->j≠i->upd H a o b=H b :=
 ⟨jZ (mem_of_getElem? ha),fun hb n=>af (D.far hb ha n)⟩
theorem DrAt.addIn (D:DrAt c H x S Li Lr Lo Lp' Ll M ys) {t k:Addr}{y:Int×Str×KS}{ps:List Addr}(hk:KO c (cM H (bg x Li Lr Lo Lp' Ll M ys)) k y.2.2.1 S.w y.2.2.2) (ht:H t=none) (hp:H Li=some (.lst (ps.map V.ref))) :
  DrAt c (upd (upd (upd H t (.tup [.int y.1,.str y.2.1,.ref k])) Li (.lst (ps.map V.ref++[.ref t]))) M (.dK (ig (S.met.map fun z=>((Sum.inr z:Key),V.bl true)) (.inr y.2.1) (.bl true)))) x (S.inn y) Li Lr Lo Lp' Ll M ys:=by
 have sn:=aj ht (.tup [V.int y.1,.str y.2.1,.ref k])
 have D1:=D.same sn
 have tn:=D.fresh ht
 have sg:=jk (L:=bg x Li Lr Lo Lp' Ll M ys) sn
 have tg:cM (upd H t (.tup [V.int y.1,.str y.2.1,.ref k])) (bg x Li Lr Lo Lp' Ll M ys) t=_:=d4 ac tn
 generalize upd H t (.tup [V.int y.1,.str y.2.1,.ref k])=H1 at sn D1 sg tg ⊢
 obtain⟨h1,f1⟩:=D1.own (i:=1) (a:=Li) (o:=.lst (ps.map V.ref++[.ref t])) rfl
 have hM:∀ {j:Nat} {b:Addr},(bg x Li Lr Lo Lp' Ll M ys)[j]?=some b->j≠6->upd (upd H1 Li (.lst (ps.map V.ref++[.ref t]))) M (.dK (ig (S.met.map fun z=>((Sum.inr z:Key),V.bl true)) (.inr y.2.1) (.bl true))) b=upd H1 Li (.lst (ps.map V.ref++[.ref t])) b:=fun hb n=>af (D1.far hb (j:=6) rfl n)
 have hid:cM (upd (upd H1 Li (.lst (ps.map V.ref++[.ref t]))) M (.dK (ig (S.met.map fun z=>((Sum.inr z:Key),V.bl true)) (.inr y.2.1) (.bl true)))) (bg x Li Lr Lo Lp' Ll M ys)=cM H1 (bg x Li Lr Lo Lp' Ll M ys):=(jZ (by simp)).trans h1
 have at':∀ {j:Nat} {b:Addr},(bg x Li Lr Lo Lp' Ll M ys)[j]?=some b->j≠1->j≠6->upd (upd H1 Li (.lst (ps.map V.ref++[.ref t]))) M (.dK (ig (S.met.map fun z=>((Sum.inr z:Key),V.bl true)) (.inr y.2.1) (.bl true))) b=H1 b:=fun hb n1 n6=>(hM hb n6).trans (f1 hb n1)
 obtain⟨nd,⟨dx,hx⟩,⟨p1,a1,b1⟩,⟨p2,a2,b2⟩,⟨p3,a3,b3⟩,⟨a4,b4⟩,lv,mt⟩:=D1
 have e1:p1=ps:=by
  have e:=(sn _ _ hp).symm.trans a1
  injection e with e
  injection e with e
  exact(List.map_inj_right (fun a b h=>by injection h)).mp e.symm
 subst e1
 obtain⟨dk,hk⟩:=hk
 refine⟨nd,⟨dx,(at' (j:=0) rfl (by decide) (by decide)).trans hx⟩,⟨p1++[t],by rw[hM (j:=1) rfl (by decide),ac,map_append]; rfl,by rw[hid]; exact b1.snoc ⟨k,tg,dk,sg _ _ hk⟩⟩,⟨p2,(at' (j:=3) rfl (by decide) (by decide)).trans a2,by rw[hid]; exact b2⟩,⟨p3,(at' (j:=4) rfl (by decide) (by decide)).trans a3,by rw[hid]; exact b3⟩,⟨(at' (j:=5) rfl (by decide) (by decide)).trans a4,b4⟩,?_,by rw[ac,nY]; rfl⟩
 rw[hid]
 refine lv.mono (fun _ _ q=>q) (fun u hu=>?_) (at' (j:=2) rfl (by decide) (by decide))
 obtain⟨n,hn⟩:=DrAt.loop (x:=x) (Li:=Li) (Lr:=Lr) (Lo:=Lo) (Lp':=Lp') (Ll:=Ll) (M:=M) hu
 exact at' hn (by lia) (by lia)
end
def spIn (c:Ad):Sp:=fun vs H Q _=>∃ (x:Addr) (S:DS) (Li Lr Lo Lp' Ll M:Addr) (ys:List Lp) (line:Int) (wl:Addr) (z:Str) (κ:KS),vs=[.ref x,.int line,.ref wl]/\DrAt c H x S Li Lr Lo Lp' Ll M ys/\H wl=some (.lst (V.str "in"::V.str z::(kwS κ).map V.str))/\wl∉bg x Li Lr Lo Lp' Ll M ys/\Nm z/\KG S.w κ/\4<=S.w/\S.w<=32/\S.ins.length<=200/\S.met.length<=200/\(S.top=[]/\ys=[]/\S.outs=[]) /\
 ∀ H',DrAt c H' x (S.inn (line,z,κ)) Li Lr Lo Lp' Ll M ys->SameL (bg x Li Lr Lo Lp' Ll M ys) H H'->Q (.bl true) H'
theorem cut_two {a b:V}{r:List V}:kN (a::b::r) (some 2) none=r:=by
 unfold kN
 have e:HT.sIx (a::b::r).length 0 (some 2)=2:=by
  unfold HT.sIx
  simp
 have e2:HT.sIx (a::b::r).length (a::b::r).length none=r.length+2:=rfl
 rw[e,e2]
 show r.take _=r
 exact List.take_of_length_le (by lia)
theorem hU {f:Addr}{fd:FuncData}(F:Fun K "takes_in" "Draft.takes_in" cQ f fd) (T:Txt K mg c) (H_kind_told:Has P w K mg base 6 "kind_told" ["width","words"] (spKT c)) (H_is_name:Has P w K mg base 1 "is_name" ["word"] spNm):FnOk P w K mg base CX0 7 f fd ["self","line","words"] (spIn c):=by
 refine F.ok sc_Draft_takes_in (fun vs H Q E h=>?_) (fun cdv A outer s H vs Q E hr h=>?_)
 ·obtain⟨x,S,Li,Lr,Lo,Lp',Ll,M,ys,line,wl,z,κ,rfl,_⟩:=h
  rfl
 obtain⟨x,S,Li,Lr,Lo,Lp',Ll,M,ys,line,wl,z,κ,rfl,D,hw,nw,nm,kg,w1,w2,ln,lm,c0,qt⟩:=h
 refine⟨_,(ah (aF (i:=3) sc_Draft_takes_in.nd rfl (Or.inl rfl) (aM H_kind_told (hr.mono (by lia)) rfl (aa (aC (pv 0) rfl) (aa (cS dG (pv 2) (cT ai) fq) ae))))
  (ah (aV (PW.pt (eO (au iy (pv 3) aZ (ay _)) (eO (dY (dL (aM H_is_name (hr.mono (by lia)) rfl (aa (aH aD (pv 2) ai (fun _ _=>rfl)) ae)))) (eO (au (iP (lt_of_succ_lt (bc hr))) (aC (pv 0) rfl) (aS ae) (ay _)) (dM (au (iP (lt_of_succ_lt (bc hr))) (aC (pv 0) rfl) (aS ae) (ay _)))))))
   (aq (aA fO))
   aB)
  (ah (bf (dO PySem.F.plainAttrs_list PySem.F.slot_list_append PySem.F.type_list_append aY (aC (pv 0) rfl) (aa (aP (aa (pv 1) (aa (aH aD (pv 2) ai (fun _ _=>rfl)) (aa (pv 3) ae)))) ae)))
  (ah (fM (bc hr) (aC (pv 0) rfl) (aH aD (pv 2) ai (fun _ _=>rfl)) fO rfl)
  (aq (aA fO)))))),?_⟩
 obtain⟨dx,hx⟩:=D.hx
 refine⟨_,rfl,x,c.Draft,dx,_,_,rfl,hx,T.cl_Draft,T.na_Draft_width,rfl,_,rfl,_,rfl,wl,_,rfl,SqL.of hw,fun l hl=>?_⟩
 rw[cut_two]
 have s1:=aj hl (.lst ((kwS κ).map V.str))
 refine⟨S.w,l,κ,rfl,(show upd H l (.lst ((kwS κ).map V.str)) l=_ from ac),w1,w2,kg,fun k H2 hk ko s2=>?_⟩
 have s12:=s1.trans s2
 have D2:=D.same s12
 have kn:k∉bg x Li Lr Lo Lp' Ll M ys:=(D.same s1).fresh hk
 obtain⟨dk,kz⟩:=ko
 have kg:=d4 kz kn
 refine⟨_,rfl,rfl,_,rfl,aN (by nofun) ?_⟩
 refine⟨_,rfl,wl,_,_,_,rfl,rfl,SqL.of (s12 _ _ hw),bC (j:=1) rfl,z,rfl,nm,fun H3 s3=>⟨_,rfl,di ?_⟩⟩
 have s13:=s12.trans s3
 have D3:=D.same s13
 obtain⟨dx3,hx3⟩:=D3.hx
 refine⟨_,rfl,x,c.Draft,dx3,_,_,rfl,hx3,T.cl_Draft,T.na_Draft_rows,rfl,(by show 0<=sizeLine; decide),fun l4 h4=>?_⟩
 have s4:=aj h4 (.lst [])
 have s14:=s13.trans s4
 have D4:=D.same s14
 obtain⟨qs,a4,e4⟩:∃ qs:List V,upd H3 l4 (.lst []) Lr=some (.lst qs)/\(qs.isEmpty=true ↔ S.top=[]/\ys=[]):=by
  have lv:=D4.lv
  cases ys with
  | nil =>
   obtain⟨ps,a,b⟩:=lv
   refine⟨_,a,?_⟩
   rw[isEmpty_iff,map_eq_nil_iff]
   refine⟨fun z=>⟨eq_nil_of_length_eq_zero (by rw[<- b.1,z]; rfl),rfl⟩,fun z=>eq_nil_of_length_eq_zero (by rw[b.1,z.1]; rfl)⟩
  | cons y r =>
   obtain⟨ps,a,_⟩:=lv
   refine⟨_,a,?_⟩
   rw[isEmpty_iff,map_eq_nil_iff]
   exact⟨fun z=>by simp at z,fun z=>by cases z.2⟩
 refine⟨Lr,l4,qs,rfl,rfl,SqL.of a4,SqL.of ac,_,rfl,?_⟩
 generalize upd H3 l4 (.lst [])=H4 at s14 s4 D4 a4 ⊢
 have c1:S.top=[]/\ys=[]:=⟨c0.1,c0.2.1⟩
 rw[e4.mpr c1]
 refine di ?_
 obtain⟨dx4,hx4⟩:=D4.hx
 refine⟨_,rfl,x,c.Draft,dx4,_,_,rfl,hx4,T.cl_Draft,T.na_Draft_outs,rfl,(by show 0<=sizeLine; decide),fun l5 h5=>?_⟩
 have s5:=aj h5 (.lst [])
 have s15:=s14.trans s5
 have D5:=D.same s15
 have k5:KO c (cM (upd H4 l5 (.lst [])) (bg x Li Lr Lo Lp' Ll M ys)) k κ.1 S.w κ.2:=⟨dk,jk ((s3.trans s4).trans s5) _ _ kg⟩
 obtain⟨p5,a5,b5⟩:=D5.outs
 refine⟨Lo,l5,_,rfl,rfl,SqL.of a5,SqL.of ac,_,rfl,?_⟩
 generalize upd H4 l5 (.lst [])=H5 at s15 D5 a5 b5 k5 ⊢
 have e5:(p5.map V.ref).isEmpty=true ↔ S.outs=[]:=by
  rw[isEmpty_iff,map_eq_nil_iff]
  exact⟨fun z=>eq_nil_of_length_eq_zero (by rw[<- b5.1,z]; rfl),fun z=>eq_nil_of_length_eq_zero (by rw[b5.1,z]; rfl)⟩
 have c2:=c0.2.2
 rw[e5.mpr c2]
 refine di ?_
 obtain⟨dx5,hx5⟩:=D5.hx
 obtain⟨p6,a6,b6⟩:=D5.ins
 have hw5:=s15 _ _ hw
 refine⟨_,rfl,x,c.Draft,dx5,_,_,rfl,hx5,T.cl_Draft,T.na_Draft_inputs,rfl,.inl ⟨rfl,_,SqL.of a6⟩,_,rfl,_,rfl,wl,_,_,_,rfl,rfl,SqL.of hw5,bC (j:=1) rfl,_,rfl,(by show 3<=sizeLine; decide),fun t ht=>?_⟩
 have st:=aj ht (.tup [V.int line,.str z,.ref k])
 refine⟨Li,_,_,rfl,rfl,st _ _ a6,(by rw[length_map,b6.1]; exact lt_of_le_of_lt ln (by decide)),?_⟩
 have D6:=D5.same st
 obtain⟨dx6,hx6⟩:=D6.hx
 have nx:x≠Li:=D6.far (i:=0) (j:=1) rfl rfl (by decide)
 have nM:M≠Li:=D6.far (i:=6) (j:=1) rfl rfl (by decide)
 have nwL:wl≠Li:=fun q=>nw (by rw[q]; simp)
 refine⟨_,rfl,x,c.Draft,dx6,_,_,rfl,(by rw[af nx]; exact hx6),T.cl_Draft,T.na_Draft_met,rfl,_,rfl,wl,_,_,_,rfl,rfl,SqL.of (by rw[af nwL]; exact st _ _ hw5),bC (j:=1) rfl,M,_,rfl,DPut.k (k:=.inr z) (by rw[af nM]; exact D6.met) (by rw[length_map]; exact lt_of_le_of_lt lm (by decide)),?_⟩
 refine qt _ (D5.addIn (y:=(line,z,κ)) k5 ht a6) fun b u nb e=>?_
 rw[af (fun q=>nb (by rw[q]; simp)),af (fun q=>nb (by rw[q]; simp))]
 exact st _ _ (s15 _ _ e)
theorem gS:∀ (l:Addr) (ys:List Lp),bz l ys∈l::ys.map (·.l)
 | l,[]=>mem_cons_self ..
 | l,y::r=>mem_cons_of_mem _ (gS y.l r)
theorem qw {c:Ad}{H H' G G':Hp}(sg:Same G G') {o l:Addr}{t:Int}(ho:∃ dx line,G' o=some (.ins c.Repeat dx (pfl line t l))) (hl:H' l=some (.lst [])):∀ {ys:List Lp}{d:Nat}{l0:Addr}{ns:List Int},
  (∀ qs,H (bz l0 ys)=some (.lst qs)->H' (bz l0 ys)=some (.lst (qs++[.ref o])))->(∀ b∈l0::ys.map (·.l),b≠bz l0 ys->∀ u,H b=some u->H' b=some u)->(l0::ys.map (·.l)).Nodup->LvAt c H G d l0 ns ys->LvAt c H' G' d l0 ns (ys++[⟨o,l,t,[]⟩])
 | [],d,l0,ns,hi,_,_,⟨ps,a,b⟩=>⟨ps,by rw[map_append]; exact hi _ a,b.mono fun _ _ q=>q.same sg,ho,[],hl,Ls.nil⟩
 | y::r,d,l0,ns,hi,hb,nd,⟨ps,a,b,⟨dx,line,e⟩,tl⟩=>by
  have nd':=List.nodup_cons.mp nd
  have ne:l0≠bz l0 (y::r):=fun z=>nd'.1 (by rw[z]; exact gS y.l r)
  exact⟨ps,hb l0 (mem_cons_self ..) ne _ a,b.mono fun _ _ q=>q.same sg,⟨dx,line,sg _ _ e⟩,qw sg ho hl (ys:=r) (l0:=y.l) hi (fun b hm n=>hb b (mem_cons_of_mem _ hm) n) nd'.2 tl⟩
theorem o0 {c:Ad}{H G:Hp}:∀ {ys:List Lp}{d:Nat}{l0:Addr}{ns:List Int},LvAt c H G d l0 ns ys->∃ (ps:List Addr) (ms:List Int),H (bz l0 ys)=some (.lst (ps.map V.ref))/\ps.length=ms.length/\(ms=ns\/∃ y∈ys,ms=y.ns)
 | [],_,_,_,⟨ps,a,b⟩=>⟨ps,_,a,b.1,.inl rfl⟩
 | y::r,_,_,_,⟨_,_,_,_,t⟩=>by
  obtain⟨ps,ms,a,b,e⟩:=o0 (ys:=r) t
  refine⟨ps,ms,a,b,.inr ?_⟩
  rcases e with e | ⟨z,hz,e⟩
  ·exact⟨y,mem_cons_self ..,e⟩
  ·exact⟨z,mem_cons_of_mem _ hz,e⟩
def DS.rep (S:DS) (t:Int):DS:={ S with lps:=S.lps++[(t,[])] }
section
variable {c:Ad}{H0 H:Hp}{x:Addr}{S:DS}{Li Lr Lo Lp' Ll M:Addr}{ys:List Lp}
theorem iM (Li Lr Lo Lp' Ll M x:Addr) (ys:List Lp):∃ i,(bg x Li Lr Lo Lp' Ll M ys)[i]?=some (bz Lr ys)/\(i=2\/7<=i):=by
 cases ys with
 | nil=>exact⟨2,rfl,.inl rfl⟩
 | cons y r =>
  have m:=gS y.l r
  have m':bz Lr (y::r)∈(y::r).map (·.l):=m
  obtain⟨z,hz,e⟩:=List.mem_map.mp m'
  obtain⟨k,hk⟩:=DrAt.loop (x:=x) (Li:=Li) (Lr:=Lr) (Lo:=Lo) (Lp':=Lp') (Ll:=Ll) (M:=M) hz
  exact⟨7+k,by rw[hk,e],.inr (by lia)⟩
theorem DrAt.addLoop (D:DrAt c H0 x S Li Lr Lo Lp' Ll M ys) (s:Same H0 H) {o l dx:Addr}{line t:Int}{qs:List V}(ho0:H0 o=none) (hl0:H0 l=none) (ho:H o=some (.ins c.Repeat dx (pfl line t l))) (hl:H l=some (.lst [])) (hq:H (bz Lr ys)=some (.lst qs)) :
  DrAt c (upd (upd H (bz Lr ys) (.lst (qs++[.ref o]))) Ll (.lst (ys.map (fun y=>V.ref y.o)++[.ref o]))) x (S.rep t) Li Lr Lo Lp' Ll M (ys++[⟨o,l,t,[]⟩]):=by
 have D1:=D.same s
 have lo:=D.fresh ho0
 have ll:=D.fresh hl0
 obtain⟨iI,hI,cI⟩:=iM Li Lr Lo Lp' Ll M x ys
 have eL:bg x Li Lr Lo Lp' Ll M (ys++[⟨o,l,t,[]⟩])=bg x Li Lr Lo Lp' Ll M ys++[l]:=by
  show [x,Li,Lr,Lo,Lp',Ll,M]++(ys++[(⟨o,l,t,[]⟩:Lp)]).map (fun y=>y.l)=[x,Li,Lr,Lo,Lp',Ll,M]++ys.map (·.l)++[l]
  rw[map_append,append_assoc]
  rfl
 have mI:bz Lr ys∈bg x Li Lr Lo Lp' Ll M ys:=mem_of_getElem? hI
 have mL:Ll∈bg x Li Lr Lo Lp' Ll M ys:=by simp
 have out:∀ b,b∉bg x Li Lr Lo Lp' Ll M ys->upd (upd H (bz Lr ys) (.lst (qs++[.ref o]))) Ll (.lst (ys.map (fun y=>V.ref y.o)++[.ref o])) b=H b:=fun b nb=>by rw[af (fun z=>nb (by rw[z]; exact mL)),af (fun z=>nb (by rw[z]; exact mI))]
 have at':∀ {j:Nat} {b:Addr},(bg x Li Lr Lo Lp' Ll M ys)[j]?=some b->j≠5->j≠iI->upd (upd H (bz Lr ys) (.lst (qs++[.ref o]))) Ll (.lst (ys.map (fun y=>V.ref y.o)++[.ref o])) b=H b:=fun hb n5 nI=>by rw[af (D1.far hb (j:=5) rfl n5),af (D1.far hb hI nI)]
 have sg:Same (cM H0 (bg x Li Lr Lo Lp' Ll M ys)) (cM (upd (upd H (bz Lr ys) (.lst (qs++[.ref o]))) Ll (.lst (ys.map (fun y=>V.ref y.o)++[.ref o]))) (bg x Li Lr Lo Lp' Ll M (ys++[⟨o,l,t,[]⟩]))):=fun b u e=>by
  have nb:b∉bg x Li Lr Lo Lp' Ll M ys:=fun m=>by unfold cM at e; rw[if_pos m] at e; cases e
  have e0:H0 b=some u:=bB _ _ e
  rw[eL]
  refine d4 ?_ ?_
  ·rw[out b nb]; exact s _ _ e0
  ·intro m
   rcases List.mem_append.mp m with m | m
   ·exact nb m
   ·rw[List.mem_singleton.mp m,hl0] at e0; cases e0
 have ne:o≠l:=fun z=>by rw[z,hl] at ho; cases ho
 have go:cM (upd (upd H (bz Lr ys) (.lst (qs++[.ref o]))) Ll (.lst (ys.map (fun y=>V.ref y.o)++[.ref o]))) (bg x Li Lr Lo Lp' Ll M (ys++[⟨o,l,t,[]⟩])) o=some (.ins c.Repeat dx (pfl line t l)):=by
  rw[eL]
  refine d4 (by rw[out o lo]; exact ho) fun m=>?_
  rcases List.mem_append.mp m with m | m
  ·exact lo m
  ·exact ne (List.mem_singleton.mp m)
 have i5:iI≠5:=by rcases cI with h | h <;> lia
 have gI:upd (upd H (bz Lr ys) (.lst (qs++[.ref o]))) Ll (.lst (ys.map (fun y=>V.ref y.o)++[.ref o])) (bz Lr ys)=some (.lst (qs++[.ref o])):=by rw[af (D1.far hI (j:=5) rfl i5),ac]
 obtain⟨nd,⟨dx0,hx⟩,⟨p1,a1,b1⟩,⟨p2,a2,b2⟩,⟨p3,a3,b3⟩,⟨a4,b4⟩,lv,mt⟩:=D
 have no:∀ j,j<7->j≠2->j≠iI:=fun j h1 h2 h3=>by rcases cI with h | h <;> lia
 refine⟨?_,⟨dx0,(at' (j:=0) rfl (by decide) (no 0 (by decide) (by decide))).trans (s _ _ hx)⟩,⟨p1,(at' (j:=1) rfl (by decide) (no 1 (by decide) (by decide))).trans (s _ _ a1),b1.mono fun _ _ q=>q.same sg⟩,⟨p2,(at' (j:=3) rfl (by decide) (no 3 (by decide) (by decide))).trans (s _ _ a2),b2.mono fun _ _ q=>sg _ _ q⟩,⟨p3,(at' (j:=4) rfl (by decide) (no 4 (by decide) (by decide))).trans (s _ _ a3),b3.mono fun _ _ q=>q.same sg⟩,⟨by rw[ac,map_append]; rfl,by rw[map_append,b4]; rfl⟩,?_,(at' (j:=6) rfl (by decide) (no 6 (by decide) (by decide))).trans (s _ _ mt)⟩
 ·show (bg x Li Lr Lo Lp' Ll M (ys++[⟨o,l,t,[]⟩])).Nodup
  rw[eL]
  exact List.nodup_append.mpr ⟨nd,by simp,fun a ha b hb z=>ll (by rw[<- List.mem_singleton.mp hb,<- z]; exact ha)⟩
 ·refine qw sg ⟨dx,line,go⟩ (by rw[out l ll]; exact hl) (fun rs e=>?_) (fun b hm n=>?_) ?_ lv
  ·have e':=s _ _ e
   rw[hq] at e'
   injection e' with e'
   injection e' with e'
   rw[<- e']
   exact gI
  ·intro u e
   have hj:∃ j,(bg x Li Lr Lo Lp' Ll M ys)[j]?=some b/\(j=2\/7<=j):=by
    rcases List.mem_cons.mp hm with rfl | hm
    ·exact⟨2,rfl,.inl rfl⟩
    ·obtain⟨z,hz,rfl⟩:=List.mem_map.mp hm
     obtain⟨k,hk⟩:=DrAt.loop (x:=x) (Li:=Li) (Lr:=Lr) (Lo:=Lo) (Lp':=Lp') (Ll:=Ll) (M:=M) hz
     exact⟨7+k,hk,.inr (by lia)⟩
   obtain⟨j,hj,cj⟩:=hj
   have nj:j≠iI:=fun z=>n (by rw[z,hI] at hj; injection hj with hj; exact hj.symm)
   rw[at' hj (by rcases cj with h | h <;> lia) nj]
   exact s _ _ e
  ·exact nd.sublist (List.Sublist.append_right (List.singleton_sublist.mpr (by simp)) _)
end
def sq (S:DS):Prop:=S.top.length<=200/\S.lps.length<=100/\∀ p∈S.lps,p.2.length<=200
def spRep (c:Ad):Sp:=fun vs H Q _=>∃ (x:Addr) (S:DS) (Li Lr Lo Lp' Ll M:Addr) (ys:List Lp) (line:Int) (wl:Addr) (z:Str),vs=[.ref x,.int line,.ref wl]/\DrAt c H x S Li Lr Lo Lp' Ll M ys/\H wl=some (.lst [.str "repeat",.str z])/\wl∉bg x Li Lr Lo Lp' Ll M ys/\Num z/\1<=nV z/\nV z<=32/\sq S/\S.outs=[] /\
 ∀ o l H',H l=none->DrAt c H' x (S.rep (nV z)) Li Lr Lo Lp' Ll M (ys++[⟨o,l,nV z,[]⟩])->SameL (bg x Li Lr Lo Lp' Ll M ys) H H'->Q (.bl true) H'
theorem DrAt.small {c:Ad}{H:Hp}{x:Addr}{S:DS}{Li Lr Lo Lp' Ll M:Addr}{ys:List Lp}(D:DrAt c H x S Li Lr Lo Lp' Ll M ys) (sm:sq S):∃ ps:List Addr,H (bz Lr ys)=some (.lst (ps.map V.ref))/\ps.length<=200:=by
 obtain⟨ps,ms,a,b,e⟩:=o0 D.lv
 refine⟨ps,a,?_⟩
 rw[b]
 rcases e with rfl | ⟨y,hy,rfl⟩
 ·exact sm.1
 ·exact sm.2.2 (y.t,y.ns) (by rw[<- D.lps.2]; exact List.mem_map.mpr ⟨y,hy,rfl⟩)
theorem d3 {f:Addr}{fd:FuncData}(F:Fun K "takes_repeat" "Draft.takes_repeat" bE f fd) (T:Txt K mg c) (H_number_told:Has P w K mg base 3 "number_told" ["word","low","high"] jp) (C_Repeat:CHas P w K mg base 1 c.Repeat "Repeat" ["self","line","times"] (rV c)) (MH:MHas P w K mg base 1 c.Draft "rows_here" ["self"] (mh c)):FnOk P w K mg base CX0 4 f fd ["self","line","words"] (spRep c):=by
 refine F.ok sc_Draft_takes_repeat (fun vs H Q E h=>?_) (fun cdv A outer s H vs Q E hr h=>?_)
 ·obtain⟨x,S,Li,Lr,Lo,Lp',Ll,M,ys,line,wl,z,rfl,_⟩:=h
  rfl
 obtain⟨x,S,Li,Lr,Lo,Lp',Ll,M,ys,line,wl,z,rfl,D,hw,nw,num,z1,z2,sm,c2,qt⟩:=h
 refine⟨_,(ah (aF (i:=3) sc_Draft_takes_repeat.nd rfl (Or.inl rfl) (cB (au ce (aG aE rfl T.n_len boot_len (aa (pv 2) ae)) ai (ay _)) (aM H_number_told (hr.mono (by lia)) rfl (aa (aH aD (pv 2) ai (fun _ _=>rfl)) (aa ai (aa ai ae)))) aZ))
  (ah (aV (PW.pt (eO (au iy (pv 3) aZ (ay _)) (dM (au (iP (lt_of_succ_lt (bc hr))) (aC (pv 0) rfl) (aS ae) (ay _)))))
   (aq (aA fO))
   aB)
  (ah (aF (i:=4) sc_Draft_takes_repeat.nd rfl (Or.inl rfl) (iw C_Repeat (hr.mono (by lia)) rfl (aa (pv 1) (aa (pv 3) ae))))
  (ah (bf (dO PySem.F.plainAttrs_list PySem.F.slot_list_append PySem.F.type_list_append aY (cE (k:=1) (pv 0) (hr.mono (by lia))) (aa (pv 4) ae)))
  (ah (bf (dO PySem.F.plainAttrs_list PySem.F.slot_list_append PySem.F.type_list_append aY (aC (pv 0) rfl) (aa (pv 4) ae)))
  (aq (aA fO))))))),?_⟩
 refine⟨_,rfl,wl,_,rfl,.inl (SqL.of hw),rfl,_,rfl,dw rfl ⟨_,rfl,wl,_,_,_,rfl,rfl,SqL.of hw,rfl,z,1,32,rfl,num,?_⟩⟩
 rw[if_pos ⟨z1,z2⟩]
 refine⟨_,rfl,rfl,_,rfl,aN (by nofun) ?_⟩
 obtain⟨dx,hx⟩:=D.hx
 refine⟨_,rfl,x,c.Draft,dx,_,_,rfl,hx,T.cl_Draft,T.na_Draft_outs,rfl,(by show 0<=sizeLine; decide),fun l1 h1=>?_⟩
 have s1:=aj h1 (.lst [])
 have D1:=D.same s1
 obtain⟨p1,a1,b1⟩:=D1.outs
 refine⟨Lo,l1,_,rfl,rfl,SqL.of a1,SqL.of ac,_,rfl,?_⟩
 generalize upd H l1 (.lst [])=H1 at s1 D1 a1 b1 ⊢
 have e1:(p1.map V.ref).isEmpty=true ↔ S.outs=[]:=by
  rw[isEmpty_iff,map_eq_nil_iff]
  exact⟨fun z=>eq_nil_of_length_eq_zero (by rw[<- b1.1,z]; rfl),fun z=>eq_nil_of_length_eq_zero (by rw[b1.1,z]; rfl)⟩
 rw[e1.mpr c2]
 refine di ?_
 refine⟨_,rfl,_,rfl,fun o do' ho hdo hne=>⟨o,do',line,nV z,rfl,ac,fun l H2 hl g1 g2 s2'=>⟨rfl,?_⟩⟩⟩
 have s2:=aQ ho hdo s2'
 have hl1:H1 l=none:=by
  cases e:H1 l with
  | none=>rfl
  | some u=>rw[aQ ho hdo (fun _ _ _ q=>q) _ _ e] at hl; cases hl
 have D2:=D1.same s2
 obtain⟨dx2,hx2⟩:=D2.hx
 refine⟨_,rfl,x,_,dx2,_,_,_,rfl,hx2,rfl,MH,x,S,Li,Lr,Lo,Lp',Ll,M,ys,rfl,D2,sm.2.1,fun H3 s3=>?_⟩
 have s13:=s2.trans s3
 have D3:=D1.same s13
 obtain⟨ps,hq,lq⟩:=D3.small sm
 refine⟨.inl ⟨rfl,_,SqL.of hq⟩,_,rfl,bz Lr ys,_,_,rfl,rfl,hq,(by rw[length_map]; exact lt_of_le_of_lt lq (by decide)),?_⟩
 obtain⟨dx3,hx3⟩:=D3.hx
 obtain⟨iI,hI,cI⟩:=iM Li Lr Lo Lp' Ll M x ys
 have nx:x≠bz Lr ys:=D3.far (i:=0) rfl hI (by rcases cI with h | h <;> lia)
 have nL:Ll≠bz Lr ys:=D3.far (i:=5) rfl hI (by rcases cI with h | h <;> lia)
 have g5:upd H3 (bz Lr ys) (.lst (ps.map V.ref++[.ref o])) Ll=some (.lst (ys.map fun y=>V.ref y.o)):=by rw[af nL]; exact D3.lps.1
 have ly:ys.length=S.lps.length:=by rw[<- D3.lps.2,length_map]
 have hx3':upd H3 (bz Lr ys) (.lst (ps.map V.ref++[.ref o])) x=some (.ins c.Draft dx3 (dfl S.w Li Lr Lo Lp' Ll M)):=by rw[af nx]; exact hx3
 refine⟨_,rfl,x,c.Draft,dx3,_,_,rfl,hx3',T.cl_Draft,T.na_Draft_loops,rfl,.inl ⟨rfl,_,SqL.of g5⟩,_,rfl,Ll,_,_,rfl,rfl,g5,(by rw[length_map,ly]; exact lt_of_le_of_lt sm.2.1 (by decide)),?_⟩
 refine qt o l _ (none_of s1 hl1) (D1.addLoop s13 ho hl1 (s3 _ _ g1) (s3 _ _ g2) hq) fun b u nb e=>?_
 rw[af (fun q=>nb (by rw[q]; simp)),af (fun q=>nb (by rw[q]; exact mem_of_getElem? hI))]
 exact s13 _ _ (s1 _ _ e)
def eX (n:Int):List Int->List Lp->List Int×List Lp
 | ns,[]=>(ns++[n],[])
 | ns,y::r=>(ns,{ y with ns:=(eX n y.ns r).1 }::(eX n y.ns r).2)
def jy (n:Int):List Int->List (Int×List Int)->List Int×List (Int×List Int)
 | ns,[]=>(ns++[n],[])
 | ns,y::r=>(ns,(y.1,(jy n y.2 r).1)::(jy n y.2 r).2)
theorem addYP (n:Int):∀ (ys:List Lp) (ns:List Int),(eX n ns ys).1=(jy n ns (ys.map fun y=>(y.t,y.ns))).1/\(eX n ns ys).2.map (fun y=>(y.t,y.ns))=(jy n ns (ys.map fun y=>(y.t,y.ns))).2
 | [],_=>⟨rfl,rfl⟩
 | y::r,ns=>by
  obtain⟨a,b⟩:=addYP n r y.ns
  refine⟨rfl,?_⟩
  show (y.t,(eX n y.ns r).1)::(eX n y.ns r).2.map (fun y=>(y.t,y.ns))=_
  rw[a,b]
  rfl
theorem oC (n:Int):∀ (ys:List Lp) (ns:List Int),(eX n ns ys).2.map (·.l)=ys.map (·.l)/\(eX n ns ys).2.map (fun y=>V.ref y.o)=ys.map (fun y=>V.ref y.o)
 | [],_=>⟨rfl,rfl⟩
 | y::r,ns=>by
  obtain⟨a,b⟩:=oC n r y.ns
  exact⟨by show y.l::_=y.l::_; rw[a],by show V.ref y.o::_=V.ref y.o::_; rw[b]⟩
theorem lv_pop {c:Ad}{H H' G G':Hp}(sg:Same G G') {z:Lp}(hz:∀ u,H z.l=some u->G' z.l=some u) (ht:0<=z.t/\z.t<=100/\z.ns.length<=200):∀ {zs:List Lp}{d:Nat}{l0:Addr}{ns:List Int},zs.length<d->(∀ b∈l0::zs.map (·.l),∀ u,H b=some u->H' b=some u) ->
  LvAt c H G d l0 ns (zs++[z])->LvAt c H' G' d l0 (eX (z.t*z.ns.sum) ns zs).1 (eX (z.t*z.ns.sum) ns zs).2
 | [],d,l0,ns,hd,hb,⟨ps,a,b,⟨dx,line,e⟩,pz,a2,b2⟩=>by
  refine⟨ps++[z.o],hb l0 (mem_cons_self ..) _ a,(b.mono fun _ _ q=>q.same sg).snoc ?_⟩
  obtain⟨d,rfl⟩:∃ e,d=e+1:=⟨d-1,by lia⟩
  exact .inr ⟨dx,line,z.t,z.l,pz,z.ns,sg _ _ e,hz _ a2,b2.1,fun i p m q1 q2=>(b2.2 i p m q1 q2).same sg,rfl,ht⟩
 | y::r,d,l0,ns,hd,hb,⟨ps,a,b,⟨dx,line,e⟩,t⟩=>by
  refine⟨ps,hb l0 (mem_cons_self ..) _ a,b.mono fun _ _ q=>q.same sg,⟨dx,line,sg _ _ e⟩,?_⟩
  exact lv_pop sg hz ht (zs:=r) (d:=d-1) (l0:=y.l) (by simp only[length_cons] at hd; lia) (fun b hm=>hb b (mem_cons_of_mem _ hm)) t
def DS.close (S:DS) (lps:List (Int×List Int)) (n:Int):DS:={ S with top:=(jy n S.top lps).1,lps:=(jy n S.top lps).2 }
theorem DrAt.endLoop {c:Ad}{H:Hp}{x:Addr}{S:DS}{Li Lr Lo Lp' Ll M:Addr}{zs:List Lp}{z:Lp}(D:DrAt c H x S Li Lr Lo Lp' Ll M (zs++[z])) (hd:zs.length<5) (ht:0<=z.t/\z.t<=100/\z.ns.length<=200) :
  DrAt c (upd H Ll (.lst (zs.map fun y=>V.ref y.o))) x (S.close (zs.map fun y=>(y.t,y.ns)) (z.t*z.ns.sum)) Li Lr Lo Lp' Ll M (eX (z.t*z.ns.sum) S.top zs).2:=by
 obtain⟨y1,y2⟩:=oC (z.t*z.ns.sum) zs S.top
 obtain⟨y3,y4⟩:=addYP (z.t*z.ns.sum) zs S.top
 have eL:bg x Li Lr Lo Lp' Ll M (zs++[z])=bg x Li Lr Lo Lp' Ll M zs++[z.l]:=by
  show [x,Li,Lr,Lo,Lp',Ll,M]++(zs++[z]).map (fun y=>y.l)=[x,Li,Lr,Lo,Lp',Ll,M]++zs.map (fun y=>y.l)++[z.l]
  rw[map_append,append_assoc]
  rfl
 have eL':bg x Li Lr Lo Lp' Ll M (eX (z.t*z.ns.sum) S.top zs).2=bg x Li Lr Lo Lp' Ll M zs:=by
  show [x,Li,Lr,Lo,Lp',Ll,M]++(eX (z.t*z.ns.sum) S.top zs).2.map (·.l)=_
  rw[y1]
 have ndL:(bg x Li Lr Lo Lp' Ll M zs++[z.l]).Nodup:=by rw[<- eL]; exact D.nd
 obtain⟨nd1,_,nd3⟩:=List.nodup_append.mp ndL
 have zn:z.l∉bg x Li Lr Lo Lp' Ll M zs:=fun m=>nd3 _ m _ (List.mem_singleton.mpr rfl) rfl
 have nLl:z.l≠Ll:=fun q=>zn (by rw[q]; simp)
 have sg:Same (cM H (bg x Li Lr Lo Lp' Ll M (zs++[z]))) (cM (upd H Ll (.lst (zs.map fun y=>V.ref y.o))) (bg x Li Lr Lo Lp' Ll M zs)):=fun b u e=>by
  have nb:b∉bg x Li Lr Lo Lp' Ll M (zs++[z]):=fun m=>by unfold cM at e; rw[if_pos m] at e; cases e
  rw[eL] at nb
  have nb':b∉bg x Li Lr Lo Lp' Ll M zs:=fun m=>nb (mem_append_left _ m)
  exact d4 (by rw[af (fun q=>nb' (by rw[q]; simp))]; exact bB _ _ e) nb'
 have far:∀ {j:Nat} {b:Addr},(bg x Li Lr Lo Lp' Ll M (zs++[z]))[j]?=some b->j≠5->upd H Ll (.lst (zs.map fun y=>V.ref y.o)) b=H b:=fun hb n=>af (D.far hb (j:=5) rfl n)
 obtain⟨nd,⟨dx,hx⟩,⟨p1,a1,b1⟩,⟨p2,a2,b2⟩,⟨p3,a3,b3⟩,⟨a4,b4⟩,lv,mt⟩:=D
 refine⟨?_,⟨dx,(far (j:=0) rfl (by decide)).trans hx⟩,⟨p1,(far (j:=1) rfl (by decide)).trans a1,?_⟩,⟨p2,(far (j:=3) rfl (by decide)).trans a2,?_⟩,⟨p3,(far (j:=4) rfl (by decide)).trans a3,?_⟩,⟨by rw[ac,y2],y4⟩,?_,(far (j:=6) rfl (by decide)).trans mt⟩
 ·show (bg x Li Lr Lo Lp' Ll M (eX (z.t*z.ns.sum) S.top zs).2).Nodup
  rw[eL']; exact nd1
 ·show Ls _ (cM _ (bg x Li Lr Lo Lp' Ll M (eX (z.t*z.ns.sum) S.top zs).2)) _ _
  rw[eL']; exact b1.mono fun _ _ q=>q.same sg
 ·show Ls _ (cM _ (bg x Li Lr Lo Lp' Ll M (eX (z.t*z.ns.sum) S.top zs).2)) _ _
  rw[eL']; exact b2.mono fun _ _ q=>sg _ _ q
 ·show Ls _ (cM _ (bg x Li Lr Lo Lp' Ll M (eX (z.t*z.ns.sum) S.top zs).2)) _ _
  rw[eL']; exact b3.mono fun _ _ q=>q.same sg
 ·show LvAt c _ (cM _ (bg x Li Lr Lo Lp' Ll M (eX (z.t*z.ns.sum) S.top zs).2)) 5 Lr (jy (z.t*z.ns.sum) S.top (zs.map fun y=>(y.t,y.ns))).1 _
  rw[eL',<- y3]
  refine lv_pop sg (fun u e=>d4 (by rw[af nLl]; exact e) zn) ht hd (fun b hm u e=>?_) lv
  rcases List.mem_cons.mp hm with rfl | hm
  ·rw[far (j:=2) rfl (by decide)]; exact e
  ·obtain⟨y,hy,rfl⟩:=List.mem_map.mp hm
   obtain⟨k,hk⟩:=DrAt.loop (x:=x) (Li:=Li) (Lr:=Lr) (Lo:=Lo) (Lp':=Lp') (Ll:=Ll) (M:=M) (mem_append_left [z] hy)
   rw[far hk (by lia)]; exact e
theorem lH {c:Ad}{H G:Hp}:∀ {zs:List Lp}{z:Lp}{d:Nat}{l0:Addr}{ns:List Int},LvAt c H G d l0 ns (zs++[z])->(∃ ps:List Addr,H z.l=some (.lst (ps.map V.ref))/\ps.length=z.ns.length)/\bz l0 (zs++[z])=z.l
 | [],_,_,_,_,⟨_,_,_,_,pz,a,b⟩=>⟨⟨pz,a,b.1⟩,rfl⟩
 | y::r,z,d,l0,ns,⟨_,_,_,_,t⟩=>lH (zs:=r) t
def spEnd (c:Ad):Sp:=fun vs H Q _=>∃ (x:Addr) (S:DS) (Li Lr Lo Lp' Ll M:Addr) (zs:List Lp) (z:Lp),vs=[.ref x]/\DrAt c H x S Li Lr Lo Lp' Ll M (zs++[z])/\sq S/\zs.length<5/\z.ns≠[]/\(0<=z.t/\z.t<=100/\z.ns.length<=200) /\
 ∀ H',DrAt c H' x (S.close (zs.map fun y=>(y.t,y.ns)) (z.t*z.ns.sum)) Li Lr Lo Lp' Ll M (eX (z.t*z.ns.sum) S.top zs).2->SameL (bg x Li Lr Lo Lp' Ll M (zs++[z])) H H'->Q (.bl true) H'
theorem fT {f:Addr}{fd:FuncData}(F:Fun K "takes_end" "Draft.takes_end" cy f fd) (T:Txt K mg c)  (MH:MHas P w K mg base 1 c.Draft "rows_here" ["self"] (mh c)):FnOk P w K mg base CX0 2 f fd ["self"] (spEnd c):=by
 refine F.ok gM (fun vs H Q E h=>?_) (fun cdv A outer s H vs Q E hr h=>?_)
 ·obtain⟨x,S,Li,Lr,Lo,Lp',Ll,M,zs,z,rfl,_⟩:=h
  rfl
 obtain⟨x,S,Li,Lr,Lo,Lp',Ll,M,zs,z,rfl,D,sm,hd,nz,tt,q⟩:=h
 refine⟨_,(ah (aV (PW.pt (eO (au (oY (lt_of_succ_lt (bc hr))) (aC (pv 0) rfl) (aS ae) (ay _)) (dM (au (oY (lt_of_succ_lt (bc hr))) (cE (k:=1) (pv 0) (hr.mono (by lia))) (aS ae) (ay _)))))
   (aq (aA fO))
   aB)
  (ah (bf (pe_bm0 PySem.F.plainAttrs_list PySem.F.slot_list_pop PySem.F.type_list_pop mt_pop (aC (pv 0) rfl)))
  (aq (aA fO)))),?_⟩
 have z5:(0:Nat)<=sizeLine:=by decide
 obtain⟨dx,hx⟩:=D.hx
 refine⟨_,rfl,x,c.Draft,dx,_,_,rfl,hx,T.cl_Draft,T.na_Draft_loops,rfl,z5,fun l1 h1=>?_⟩
 have s1:=aj h1 (.lst [])
 have D1:=D.same s1
 have e1:((zs++[z]).map fun y=>V.ref y.o).isEmpty=false:=by rw[map_append]; cases zs <;> rfl
 refine⟨Ll,l1,_,rfl,rfl,SqL.of D1.lps.1,SqL.of ac,_,rfl,?_⟩
 generalize upd H l1 (.lst [])=H1 at s1 D1 ⊢
 rw[e1]
 refine di ?_
 obtain⟨dx1,hx1⟩:=D1.hx
 refine⟨_,rfl,x,_,dx1,_,_,_,rfl,hx1,rfl,MH,x,S,Li,Lr,Lo,Lp',Ll,M,_,rfl,D1,sm.2.1,fun H2 s2=>?_⟩
 refine⟨z5,fun l3 h3=>?_⟩
 have s3:=aj h3 (.lst [])
 have s13:=s1.trans (s2.trans s3)
 have D3:=D.same s13
 obtain⟨⟨ps,a3,b3⟩,ei⟩:=lH D3.lv
 rw[ei]
 refine⟨z.l,l3,_,rfl,rfl,SqL.of a3,SqL.of ac,_,rfl,?_⟩
 generalize upd H2 l3 (.lst [])=H3 at s13 D3 a3 ⊢
 have e3:(ps.map V.ref).isEmpty=false:=by
  refine Bool.eq_false_iff.mpr fun q=>nz ?_
  rw[isEmpty_iff,map_eq_nil_iff] at q
  exact eq_nil_of_length_eq_zero (by rw[<- b3,q]; rfl)
 rw[e3]
 refine di ?_
 obtain⟨dx3,hx3⟩:=D3.hx
 have g3:=D3.lps.1
 refine⟨_,rfl,x,c.Draft,dx3,_,_,rfl,hx3,T.cl_Draft,T.na_Draft_loops,rfl,.inl ⟨rfl,_,SqL.of g3⟩,Ll,_,V.ref z.o,rfl,rfl,g3,(by rw[map_append]; simp),?_⟩
 have ed:((zs++[z]).map fun y=>V.ref y.o).dropLast=zs.map fun y=>V.ref y.o:=by rw[map_append]; exact List.dropLast_concat
 rw[ed]
 refine q _ (D3.endLoop hd tt) fun b u nb e=>?_
 rw[af (fun q=>nb (by rw[q]; simp))]
 exact s13 _ _ e
def RwS (c:Ad) (H:Hp) (x dx:Addr) (line:Int) (deed:Str) (g r nm:Addr) (way:V) (rs:List Str) (ns:List Int):Prop:=H x=some (.ins c.Row dx (rfl6 line deed g r nm way))/\H r=some (.lst (rs.map V.str))/\H nm=some (.lst (ns.map V.int))/\r≠nm
def sh (w:Int) (part z:Str) (rs:List Str) (ns:List Int) (rs':List Str) (ns':List Int):Prop :=
 (part = "name"/\Nm z/\rs'=rs++[z]/\ns'=ns)\/(part = "way"/\(z∈waysL)/\rs'=rs/\ns'=ns)\/(∃ n:Nat,part = "fraction"/\z=frT n/\1<=(n:Int)/\(n:Int)<=2^w.toNat-1/\rs'=rs/\ns'=[1,(n:Int)])\/(∃ m:Int,part = "shift"/\Num z/\nV z=m/\0<=m/\m<=w-1/\rs'=rs/\ns'=ns++[m])\/(∃ m:Int,part = "divisor"/\Num z/\nV z=m/\1<=m/\m<=2^w.toNat-1/\rs'=rs/\ns'=ns++[m])
def spPut (c:Ad):Sp:=fun vs H Q _=>∃ (w:Int) (x dx:Addr) (line:Int) (deed:Str) (g r nm:Addr) (way:V) (part z:Str) (rs:List Str) (ns:List Int) (rs':List Str) (ns':List Int),vs=[.int w,.ref x,.str part,.str z]/\RwS c H x dx line deed g r nm way rs ns/\4<=w/\w<=32/\rs.length<=100/\ns.length<=100/\sh w part z rs ns rs' ns' /\
 ∀ H' nm' way',RwS c H' x dx line deed g r nm' way' rs' ns'->(nm'=nm\/H nm'=none)->(∀ b u,b≠x->b≠r->b≠nm->H b=some u->H' b=some u)->Q (.bl true) H'
theorem in_ways {z:Str}(h:z∈waysL):inV (.str z) (waysL.map V.str)=true:=by
 rw[m6]
 exact List.contains_iff_mem.mpr h
theorem nE {f:Addr}{fd:FuncData}(F:Fun K "put_into" "put_into" ia f fd) (T:Txt K mg c) (H_number_told:Has P w K mg base 3 "number_told" ["word","low","high"] jp) (H_is_name:Has P w K mg base 1 "is_name" ["word"] spNm) (H_fraction_told:Has P w K mg base 4 "fraction_told" ["width","word"] spFrT) (H_all_ways:Has P w K mg base 1 "all_ways" [] rN):FnOk P w K mg base CX0 5 f fd ["width","row","part","word"] (spPut c):=by
 refine F.ok sc_put_into (fun vs H Q E h=>?_) (fun cdv A outer s H vs Q E hr h=>?_)
 ·obtain⟨w',x,dx,line,deed,g,r,nm,way,part,z,rs,ns,rs',ns',rfl,_⟩:=h
  rfl
 obtain⟨w',x,dx,line,deed,g,r,nm,way,part,z,rs,ns,rs',ns',rfl,⟨hx,hR,hm,rn⟩,w1,w2,lr,ln,h,q⟩:=h
 refine⟨_,(ah (aV (au ce (pv 2) ak (ay _))
   (ah (bf (dO PySem.F.plainAttrs_list PySem.F.slot_list_append PySem.F.type_list_append aY (aC (pv 1) rfl) (aa (pv 3) ae)))
   (aq (aA (aM H_is_name (hr.mono (by lia)) rfl (aa (pv 3) ae)))))
   aB)
  (ah (aV (au ce (pv 2) ak (ay _))
   (ah (bt (pv 1) (pv 3) rfl)
   (aq (aA (bU bH (pv 3) (pe_fn0 H_all_ways (hr.mono (by lia)) rfl) (by with_unfolding_all rfl)))))
   aB)
  (ah (aV (au ce (pv 2) ak (ay _))
   (ah (bt (pv 1) (aM H_fraction_told (hr.mono (by lia)) rfl (aa (pv 0) (aa (pv 3) ae))) rfl)
   (aq (aA (bU (iP (lt_of_succ_lt (bc hr))) (aC (pv 1) rfl) (aS ae) (ay _)))))
   aB)
  (ah (aF (i:=4) sc_put_into.nd rfl (Or.inl rfl) (cB (au ce (pv 2) ak (ay _)) ai ai))
  (ah (aF (i:=5) sc_put_into.nd rfl (Or.inl rfl) (cB (au ce (pv 2) ak (ay _)) (aJ dN (pv 0) ai) (aJ dN (aJ lL ai (pv 0)) ai)))
  (ah (aF (i:=6) sc_put_into.nd rfl (Or.inl rfl) (aM H_number_told (hr.mono (by lia)) rfl (aa (pv 3) (aa (pv 4) (aa (pv 5) ae)))))
  (ah (bf (dO PySem.F.plainAttrs_list PySem.F.slot_list_append PySem.F.type_list_append aY (aC (pv 1) rfl) (aa (pv 6) ae)))
  (aq (aA (bU jj (pv 6) aZ (ay _))))))))))),?_⟩
 have pb:=dj w1 w2
 have xr:x≠r:=fun e=>by rw[e,hR] at hx; cases hx
 have xn:x≠nm:=fun e=>by rw[e,hm] at hx; cases hx
 have L1000:(1000:Nat)<=sizeLine:=by decide
 rcases h with ⟨rfl,hn,rfl,rfl⟩ | ⟨rfl,hz,rfl,rfl⟩ | ⟨n,rfl,rfl,n1,n2,rfl,rfl⟩ | ⟨m,rfl,hz,hm',m1,m2,rfl,rfl⟩ | ⟨m,rfl,hz,hm',m1,m2,rfl,rfl⟩
 ·refine⟨_,rfl,rfl,_,rfl,dw rfl ?_⟩
  refine⟨_,rfl,x,c.Row,dx,_,_,rfl,hx,T.cl_Row,T.na_Row_reads,rfl,.inl ⟨rfl,_,SqL.of hR⟩,_,rfl,r,_,_,rfl,rfl,hR,(by rw[length_map]; lia),?_⟩
  refine⟨_,rfl,z,rfl,hn,fun H' s'=>q H' nm way ⟨?_,?_,?_,rn⟩ (.inl rfl) fun b o bx br bn e=>s' _ _ (by rw[af br]; exact e)⟩
  ·exact s' _ _ (by rw[af xr]; exact hx)
  ·exact s' _ _ (by rw[ac,map_append]; rfl)
  ·exact s' _ _ (by rw[af (Ne.symm rn)]; exact hm)
 ·refine⟨_,rfl,rfl,_,rfl,aN (by walk_at "n") ?_⟩
  refine⟨_,rfl,rfl,_,rfl,dw rfl ?_⟩
  refine⟨_,rfl,_,rfl,x,c.Row,dx,_,rfl,hx,T.cl_Row,T.na_Row_way,(by show 6<1000; decide),?_⟩
  refine⟨_,rfl,rfl,fun l hl=>?_⟩
  have lx:l≠x:=fun e=>by rw[e,ac] at hl; cases hl
  rw[af lx] at hl
  obtain⟨G1,e1,s1,g1⟩:=cJ (H:=upd H x (.ins c.Row dx (cY "way" (.str z) (rfl6 line deed g r nm way)))) (p:=l) (by rw[af lx]; exact hl) (.lst (waysL.map V.str))
  rw[e1]
  refine⟨l,_,rfl,.inl (SqL.of g1),rfl,cH waysL,?_⟩
  have ei:=in_ways hz
  show Q (.bl (inV (.str z) (waysL.map V.str))) G1
  rw[ei]
  refine q G1 nm (.str z) ⟨s1 _ _ ac,s1 _ _ (by rw[af (Ne.symm xr)]; exact hR),s1 _ _ (by rw[af (Ne.symm xn)]; exact hm),rn⟩ (.inl rfl) fun b o bx br bn e=>s1 _ _ (by rw[af bx]; exact e)
 ·refine⟨_,rfl,rfl,_,rfl,aN (by walk_at "n") ?_⟩
  refine⟨_,rfl,rfl,_,rfl,aN (by walk_at "n") ?_⟩
  refine⟨_,rfl,rfl,_,rfl,dw rfl ?_⟩
  refine⟨_,rfl,_,rfl,w',n,rfl,w1,w2,n1,n2,fun l H1 hl hl1 s1=>?_⟩
  have lx:l≠x:=fun e=>by rw[e,hx] at hl; cases hl
  have lr':l≠r:=fun e=>by rw[e,hR] at hl; cases hl
  refine⟨_,rfl,x,c.Row,dx,_,rfl,s1 _ _ hx,T.cl_Row,T.na_Row_numbers,(by show 6<1000; decide),?_⟩
  refine⟨_,rfl,x,c.Row,dx,_,_,rfl,ac,T.cl_Row,T.na_Row_numbers,rfl,(by show 0<=sizeLine; decide),fun l2 h2=>?_⟩
  have l2x:l2≠x:=fun e=>by rw[e,ac] at h2; cases h2
  have h20:H1 l2=none:=by rw[af l2x] at h2; exact h2
  have s2:=aj h2 (.lst [])
  have ll:l2≠l:=fun e=>by rw[e,hl1] at h20; cases h20
  refine⟨l,l2,_,rfl,rfl,SqL.of (s2 _ _ (by rw[af lx]; exact hl1)),SqL.of ac,?_⟩
  refine q _ l way ⟨s2 _ _ ac,s2 _ _ (by rw[af (Ne.symm xr)]; exact s1 _ _ hR),s2 _ _ (by rw[af lx]; exact hl1),Ne.symm lr'⟩ (.inr hl) fun b o bx br bn e=>s2 _ _ (by rw[af bx]; exact s1 _ _ e)
 ·refine⟨_,rfl,rfl,_,rfl,aN (by walk_at "n") ?_⟩
  refine⟨_,rfl,rfl,_,rfl,aN (by walk_at "n") ?_⟩
  refine⟨_,rfl,rfl,_,rfl,aN (by walk_at "n") ?_⟩
  refine⟨_,rfl,rfl,_,rfl,dw rfl ?_⟩
  refine⟨_,rfl,rfl,_,rfl,dw rfl ⟨_,rfl,_,_,rfl,rfl,?_⟩⟩
  refine⟨_,rfl,_,rfl,_,rfl,z,0,_,rfl,hz,?_⟩
  rw[hm',if_pos ⟨m1,m2⟩]
  refine⟨_,rfl,x,c.Row,dx,_,_,rfl,hx,T.cl_Row,T.na_Row_numbers,rfl,.inl ⟨rfl,_,SqL.of hm⟩,_,rfl,nm,_,_,rfl,rfl,hm,(by rw[length_map]; lia),?_⟩
  refine⟨_,rfl,rfl,q _ nm way ⟨by rw[af xn]; exact hx,by rw[af rn]; exact hR,by rw[ac,map_append]; rfl,rn⟩ (.inl rfl) fun b o bx br bn e=>by rw[af bn]; exact e⟩
 ·refine⟨_,rfl,rfl,_,rfl,aN (by walk_at "n") ?_⟩
  refine⟨_,rfl,rfl,_,rfl,aN (by walk_at "n") ?_⟩
  refine⟨_,rfl,rfl,_,rfl,aN (by walk_at "n") ?_⟩
  refine⟨_,rfl,rfl,_,rfl,aN (by walk_at "n") ?_⟩
  refine⟨_,rfl,rfl,_,rfl,aN (by walk_at "n") ⟨_,rfl,_,_,rfl,rfl,nB (by lia) (by lia),_,_,rfl,rfl,?_⟩⟩
  refine⟨_,rfl,_,rfl,_,rfl,z,1,_,rfl,hz,?_⟩
  rw[hm',if_pos ⟨m1,by lia⟩]
  refine⟨_,rfl,x,c.Row,dx,_,_,rfl,hx,T.cl_Row,T.na_Row_numbers,rfl,.inl ⟨rfl,_,SqL.of hm⟩,_,rfl,nm,_,_,rfl,rfl,hm,(by rw[length_map]; lia),?_⟩
  refine⟨_,rfl,rfl,q _ nm way ⟨by rw[af xn]; exact hx,by rw[af rn]; exact hR,by rw[ac,map_append]; rfl,rn⟩ (.inl rfl) fun b o bx br bn e=>by rw[af bn]; exact e⟩
def newP (H H':Hp):Hp:=fun b=>match H b with
 | none=>H' b
 | some _=>none
theorem fW {H H':Hp}{b:Addr}(h:H b=none):newP H H' b=H' b:=by unfold newP; rw[h]
theorem qR {H H':Hp}{b:Addr}{o:HO}(e:newP H H' b=some o):H b=none/\H' b=some o:=by
 unfold newP at e
 split at e
 ·rename_i h; exact⟨h,e⟩
 ·cases e
def GDS (K:Frag) (P:Program) (w:World) (a:Addr):Prop:=∃ vs:List (Key×Value),GD K P w a vs/\∀ k,k<18->∃ b,valueAt vs (.inr (dn k))=some (.ref b)/\∀ H,SqT K H b ((shp k).map V.str)
structure RowOk (w:Int) (r:RwD):Prop where
 k18:r.k<18
 lr:r.reads.length=nrd r.k
 nr:∀ z∈r.reads,Nm z
 lg:r.goals.length=if r.k=17 then 2 else 1
 ng:∀ z∈r.goals,Nm z
 dg:∀ a b,r.goals=[a,b]->a≠b
 n1:1<=(r.num:Int)
 n2:(r.num:Int)<=2^w.toNat-1
def RwD.ts (r:RwD):List Str:=r.reads++(ex r.k r.num).map (·.2)
def RwD.ws (r:RwD):List Str:=r.goals++(("=":Str)::dn r.k::r.ts)
def RwD.pr (r:RwD):List (Str×Str):=r.reads.map (fun z=>(("name":Str),z))++ex r.k r.num
inductive Puts (w:Int):List (Str×Str)->List Str->List Int->List Str->List Int->Prop where
 | nil {rs:List Str} {ns:List Int}:Puts w [] rs ns rs ns
 | cons {p z:Str} {ps:List (Str×Str)} {rs rs1 rs2:List Str} {ns ns1 ns2:List Int}:sh w p z rs ns rs1 ns1->Puts w ps rs1 ns1 rs2 ns2->Puts w ((p,z)::ps) rs ns rs2 ns2
theorem jP {w:Int}{ps:List (Str×Str)}{rs2:List Str}{ns ns2:List Int}:∀ {zs rs:List Str},(∀ z∈zs,Nm z)->Puts w ps (rs++zs) ns rs2 ns2->Puts w (zs.map (fun z=>(("name":Str),z))++ps) rs ns rs2 ns2
 | [],rs,_,h=>by rw[append_nil] at h; exact h
 | z::r,rs,hz,h=>.cons (.inl ⟨rfl,hz z (mem_cons_self ..),rfl,rfl⟩) (jP (fun y hy=>hz y (mem_cons_of_mem _ hy)) (by rw[append_assoc]; exact h))
theorem puts_row {w:Int}{r:RwD}(h:RowOk w r) (w1:4<=w) (w2:w<=32):Puts w r.pr [] [] r.reads (pP r.k r.num):=by
 refine jP h.nr ?_
 show Puts w (ex r.k r.num) r.reads [] r.reads (pP r.k r.num)
 have pb:=dj w1 w2
 have n1:=h.n1
 have n2:=h.n2
 obtain⟨nt,nv⟩:=kr (n:=r.num) (by lia)
 have dv:sh w "divisor" (tt r.num) r.reads [] r.reads [(r.num:Int)]:=.inr (.inr (.inr (.inr ⟨_,rfl,nt,nv,n1,n2,rfl,rfl⟩)))
 have wy:∀ (z:Str) (ns:List Int),z∈waysL->sh w "way" z r.reads ns r.reads ns:=fun z ns hz=>.inr (.inl ⟨rfl,hz,rfl,rfl⟩)
 have k18:=h.k18
 generalize r.k=k at k18
 have s7:Puts w (ex 7 r.num) r.reads [] r.reads (pP 7 r.num):=.cons (.inr (.inr (.inr (.inl ⟨_,rfl,num1.1,num1.2,by decide,by lia,rfl,rfl⟩)))) .nil
 have s8:Puts w (ex 8 r.num) r.reads [] r.reads (pP 8 r.num):=.cons (.inr (.inr (.inr (.inl ⟨_,rfl,num0.1,num0.2,by decide,by lia,rfl,rfl⟩)))) .nil
 have s12:Puts w (ex 12 r.num) r.reads [] r.reads (pP 12 r.num):=.cons dv (.cons (wy _ _ (by decide +kernel)) .nil)
 have s13:Puts w (ex 13 r.num) r.reads [] r.reads (pP 13 r.num):=.cons dv .nil
 have s15:Puts w (ex 15 r.num) r.reads [] r.reads (pP 15 r.num):=.cons (.inr (.inr (.inl ⟨_,rfl,rfl,n1,n2,rfl,rfl⟩))) (.cons (wy _ _ (by decide +kernel)) .nil)
 have s16:Puts w (ex 16 r.num) r.reads [] r.reads (pP 16 r.num):=.cons (wy _ _ (by decide +kernel)) .nil
 have s17:Puts w (ex 17 r.num) r.reads [] r.reads (pP 17 r.num):=.cons dv .nil
 match k,k18 with
 | 0,_=>exact .nil
 | 1,_=>exact .nil
 | 2,_=>exact .nil
 | 3,_=>exact .nil
 | 4,_=>exact .nil
 | 5,_=>exact .nil
 | 6,_=>exact .nil
 | 7,_=>exact s7
 | 8,_=>exact s8
 | 9,_=>exact .nil
 | 10,_=>exact .nil
 | 11,_=>exact .nil
 | 12,_=>exact s12
 | 13,_=>exact s13
 | 14,_=>exact .nil
 | 15,_=>exact s15
 | 16,_=>exact s16
 | 17,_=>exact s17
 | _+18,h=>exact absurd h (by lia)
theorem ex_fst (k n:Nat):(ex k n).map (·.1)=(ex k 0).map (·.1):=by unfold ex; split <;> rfl
theorem pr_fst {w:Int}{r:RwD}(h:RowOk w r):r.pr.map (·.1)=shp r.k:=by
 unfold RwD.pr shp
 rw[map_append,ex_fst,<- h.lr,map_map]
 congr 1
 exact List.map_const
theorem pr_snd (r:RwD):r.pr.map (·.2)=r.ts:=by
 unfold RwD.pr RwD.ts
 rw[map_append,map_map]
 congr 1
 exact List.map_id _
theorem rS (k n:Nat):(ex k n).length<=2:=by unfold ex; split <;> first | (show 1<=2; decide) | (show 2<=2; decide) | (show 0<=2; decide)
theorem iC (k:Nat):1<=nrd k/\nrd k<=3:=by unfold nrd; split <;> (try split) <;> lia
structure RowF (ws xs gs ts:List Str) (deed:Str) (m:Int):Prop where
 h34:kN (ws.map V.str) (some 3) (some 4)=xs.map V.str
 hm:(if decide (xs=(["part"]:List Str))=true then V.int 2 else V.int 1)=V.int m
 hg:kN (ws.map V.str) none (some m)=gs.map V.str
 hl:m+2<=(ws.map V.str).length
 he:atI (ws.map V.str) m=some (.str "=")
 hd:atI (ws.map V.str) (m+1)=some (.str deed)
 ht:kN (ws.map V.str) (some (m+2)) none=ts.map V.str
 hn:∀ g∈gs,Nm g
 lg:gs.length<=2
theorem nm_ne {z:Str}(h:Nm z) {y:Str}(hy:resW.contains y=true):z≠y:=fun e=>by rw[e,Nm,hy] at h; exact absurd h.2.2.2 (by decide)
theorem cut34 {a b d e:V}{r:List V}:kN (a::b::d::e::r) (some 3) (some 4)=[e]:=by
 unfold kN
 have e1:HT.sIx (a::b::d::e::r).length 0 (some 3)=3:=by unfold HT.sIx; simp
 have e2:HT.sIx (a::b::d::e::r).length (a::b::d::e::r).length (some 4)=4:=by unfold HT.sIx; simp
 rw[e1,e2]
 rfl
theorem lQ (xs:List V) (k:Nat) (hk:k<=xs.length):kN xs none (some (k:Int))=xs.take k:=by
 unfold kN
 have e:HT.sIx xs.length xs.length (some (k:Int))=k:=by
  unfold HT.sIx
  simp only[Int.toNat_natCast]
  rw[if_neg (Int.not_lt.mpr (Int.natCast_nonneg k))]
  exact Nat.min_eq_left hk
 have e0:HT.sIx xs.length 0 none=0:=rfl
 rw[e,e0,drop_zero,Nat.sub_zero]
theorem qq (xs:List V) (k:Nat) (hk:k<=xs.length):kN xs (some (k:Int)) none=xs.drop k:=by
 unfold kN
 have e:HT.sIx xs.length 0 (some (k:Int))=k:=by
  unfold HT.sIx
  simp only[Int.toNat_natCast]
  rw[if_neg (Int.not_lt.mpr (Int.natCast_nonneg k))]
  exact Nat.min_eq_left hk
 have e0:HT.sIx xs.length xs.length none=xs.length:=rfl
 rw[e,e0]
 exact List.take_of_length_le (by rw[length_drop]; lia)
theorem dn_no:∀ k,k<18->dn k≠"set"/\(dn k = "part" ↔ k=17):=by decide +kernel
theorem iteA {c A B:Prop} [Decidable c] (h:B) (f:c->B->A):if decide c=true then A else B:=by
 by_cases e:c
 ·exact dw e (f e h)
 ·exact aN e h
theorem shp_cons (k:Nat):∃ sr,shp k=("name":Str)::sr:=by
 obtain⟨n,e⟩:∃ n,nrd k=n+1:=⟨nrd k-1,by have:=iC k; lia⟩
 exact⟨_,by unfold shp; rw[e,replicate_succ]; rfl⟩
theorem rowF {w:Int}{r:RwD}(h:RowOk w r):∃ xs m,RowF r.ws xs r.goals r.ts (dn r.k) m/\(r.k=17->∃ a b,r.goals=[a,b]/\a≠b):=by
 have nb:=iC r.k
 have lg:=h.lg
 have lr:=h.lr
 have ng:=h.ng
 have nr:=h.nr
 have dg:=h.dg
 obtain⟨line,k,gs,rs,n⟩:=r
 dsimp only at nb lg lr ng nr dg
 by_cases e17:k=17
 ·subst e17
  rw[if_pos rfl] at lg
  obtain⟨g,g2,rfl⟩:∃ g g2,gs=[g,g2]:=by
   match gs,lg with
   | [g,g2],_=>exact⟨g,g2,rfl⟩
  refine⟨["part"],2,⟨cut34 (a:=V.str g) (b:=V.str g2),by rw[decide_eq_true rfl]; rfl,lQ (V.str g::V.str g2::_) 2 (by simp),?_,bC (j:=2) rfl,bC (j:=3) rfl,qq (V.str g::V.str g2::V.str _::V.str _::_) 4 (by simp),ng,by show 2<=2; decide⟩,fun _=>⟨g,g2,rfl,dg g g2 rfl⟩⟩
  show (4:Int)<=_
  simp[RwD.ws]
  lia
 ·rw[if_neg e17] at lg
  obtain⟨g,rfl⟩:∃ g,gs=[g]:=by
   match gs,lg with
   | [g],_=>exact⟨g,rfl⟩
  obtain⟨a,ra,rfl⟩:∃ a ra,rs=a::ra:=by
   match rs,lr with
   | a::ra,_=>exact⟨a,ra,rfl⟩
   | [],lr=>exact absurd lr (by show ¬ 0=nrd k; lia)
  have ea:([a]:List Str)≠([Str.ofString "part"]:List Str):=fun z=>nm_ne (nr a (mem_cons_self ..)) (y:="part") (by decide +kernel) (by injection z)
  refine⟨[a],1,⟨cut34 (a:=V.str g) (e:=V.str a),by rw[decide_eq_false ea]; rfl,lQ (V.str g::_) 1 (by simp),?_,bC (j:=1) rfl,bC (j:=2) rfl,qq (V.str g::V.str _::V.str _::_) 3 (by simp),ng,by show 1<=2; decide⟩,fun z=>absurd z e17⟩
  show (3:Int)<=_
  simp[RwD.ws]
  lia
theorem if_tC {b:Bool}{x y:V}{σ:L2.St}{H:Hp}{Q:VK}(h:Q (if b=true then x else y) H):if b=true then tC x σ H Q else tC y σ H Q:=by
 cases b
 ·exact h
 ·exact h
def spRT (c:Ad):Sp:=fun vs H Q _=>∃ (w:Int) (wl:Addr) (R:RwD),vs=[.int w,.int R.line,.ref wl]/\H wl=some (.lst (R.ws.map V.str))/\4<=w/\w<=32/\RowOk w R/\∀ m H',PrAt c (newP H H') m R->Same H H'->Q (.ref m) H'
theorem kD {w:Int}:∀ {ps:List (Str×Str)}{rs rs2:List Str}{ns ns2:List Int},Puts w ps rs ns rs2 ns2->rs.length<=rs2.length
 | _,_,_,_,_,.nil=>le_refl _
 | _,_,_,_,_,.cons h t=>by
  refine Nat.le_trans ?_ (kD t)
  rcases h with ⟨_,_,rfl,_⟩ | ⟨_,_,rfl,_⟩ | ⟨n,_,_,_,_,rfl,_⟩ | ⟨m,_,_,_,_,_,rfl,_⟩ | ⟨m,_,_,_,_,_,rfl,_⟩
  ·rw[length_append]; lia
  all_goals exact le_refl _
theorem put_len {w:Int}{p z:Str}{rs rs1:List Str}{ns ns1:List Int}(h:sh w p z rs ns rs1 ns1) {j:Nat}(l:ns.length<=2+j):ns1.length<=2+(j+1):=by
 rcases h with ⟨_,_,_,rfl⟩ | ⟨_,_,_,rfl⟩ | ⟨n,_,_,_,_,_,rfl⟩ | ⟨m,_,_,_,_,_,_,rfl⟩ | ⟨m,_,_,_,_,_,_,rfl⟩
 ·lia
 ·lia
 ·show 2<=_; lia
 ·rw[length_append]; show ns.length+1<=_; lia
 ·rw[length_append]; show ns.length+1<=_; lia
theorem m7 {f:Addr}{fd:FuncData}(F:Fun K "row_told" "row_told" h7 f fd) (T:Txt K mg c) (H_put_into:Has P w K mg base 5 "put_into" ["width","row","part","word"] (spPut c)) (H_is_name:Has P w K mg base 1 "is_name" ["word"] spNm) (C_Row:CHas P w K mg base 1 c.Row "Row" ["self","line","deed","goals"] (qc c)) (RA:GDS K P w c.SHAPES):FnOk P w K mg base CX0 6 f fd ["width","line","words"] (spRT c):=by
 refine F.ok sc_row_told (fun vs H Q E h=>?_) (fun cdv A outer s H vs Q E hr h=>?_)
 ·obtain⟨w',wl,R,rfl,_⟩:=h
  rfl
 obtain⟨w',wl,R,rfl,hw,w1,w2,ok,qs⟩:=h
 obtain⟨vs,gd_SHAPES,gds⟩:=RA
 refine⟨_,(ah (aF (i:=3) sc_row_told.nd rfl (Or.inl rfl) (cB (au (kx (lt_of_succ_lt (bc hr))) (cS dG (pv 2) (cT ai) (cT ai)) (aS (aa ak ae)) (ay _)) ai ai))
  (ah (aF (i:=4) sc_row_told.nd rfl (Or.inl rfl) (cS dG (pv 2) fq (cT (pv 3))))
  (ah (aV (PW.pt (eO (au op_lt (aG aE rfl T.n_len boot_len (aa (pv 2) ae)) (aJ bq (pv 3) ai) (ay _)) (eO (au op_ne (aH aD (pv 2) (pv 3) (fun _ _=>rfl)) ak (ay _)) (dM (dY (dL (aG (fo rfl) rfl T.n_all boot_all (aa (eK rfl (by first | rfl | with_unfolding_all rfl) (by decide +kernel) rfl (by decide +kernel) rfl (bi (pv 4)) (fun C s2 H2 fp=>(aM H_is_name (hr.mono (by lia)) rfl (aa (pv 0) ae)))) ae))))))))
   (aq (aA aZ))
   aB)
  (ah (aF (i:=5) sc_row_told.nd rfl (Or.inr rfl) (iw C_Row (hr.mono (by lia)) rfl (aa (pv 1) (aa (aH aD (pv 2) (aJ bq (pv 3) ai) (fun _ _=>rfl)) (aa (pv 4) ae)))))
  (ah (aF (i:=6) sc_row_told.nd rfl (Or.inl rfl) (cS dG (pv 2) (cT (aJ bq (pv 3) ai)) fq))
  (ah (aV (au ce (aC (pv 5) rfl) ak (ay _))
   bQ
   aB)
  (ah (aF (i:=7) sc_row_told.nd rfl (Or.inl rfl) (qD gd_SHAPES T.kf_kr_SHAPES (jL rfl T.g_SHAPES) (aC (pv 5) rfl) (aP ae) ⟨rfl,rfl,rfl,rfl⟩))
  (ah (aV (PW.pt (eO (au (op_eqTD (d:=0) (bc hr)) (pv 7) (aP ae) (ay _)) (dM (au op_ne (aG aE rfl T.n_len boot_len (aa (pv 6) ae)) (aG aE rfl T.n_len boot_len (aa (pv 7) ae)) (ay _)))))
   (aq (aA aZ))
   aB)
  (ah (aV (PW.pt (cW (au ce (aC (pv 5) rfl) ak (ay _)) (cx (au ce (aH aD (pv 4) ai (fun _ _=>rfl)) (aH aD (pv 4) (jw dS ai) (fun _ _=>rfl)) (ay _)))))
   (aq (aA aZ))
   aB)
  (ah (aV (dY (dL (aG (fo rfl) rfl T.n_all boot_all (aa (oA [0,5] ["width","row"] rfl (by first | rfl | with_unfolding_all rfl) (by rfl) (by exact(List.forall_mem_cons.mpr ⟨rfl,(List.forall_mem_cons.mpr ⟨rfl,(fun _ h=>nomatch h)⟩)⟩)) (by decide +kernel) rfl (by decide +kernel) rfl (by decide +kernel) (by exact(List.forall_mem_cons.mpr ⟨⟨by first | exact Or.inl rfl | exact Or.inr rfl,rfl⟩,(List.forall_mem_cons.mpr ⟨⟨by first | exact Or.inl rfl | exact Or.inr rfl,rfl⟩,(fun _ h=>nomatch h)⟩)⟩)) rfl (by rfl) (pi_zipN rfl T.n_zip (aa (pv 7) (aa (pv 6) ae))) (fun C s2 H2 fp=>(aM H_put_into (hr.mono (by lia)) rfl (aa (pv 1) (aa (pv 2) (aa (aH (im (K:=K) rfl) (pv 0) ai (fun _ _=>rfl)) (aa (aH (im (K:=K) rfl) (pv 0) ai (fun _ _=>rfl)) ae))))))) ae))))
   (aq (aA aZ))
   aB)
  (aq (aA (aP (aa (pv 5) (aa aZ ae))))))))))))))),?_⟩
 have z5:(0:Nat)<=sizeLine:=by decide
 have k1:(1:Nat)<=sizeLine:=by decide
 obtain⟨xs,m,F1,C1⟩:=rowF ok
 refine⟨_,rfl,_,rfl,_,rfl,wl,_,rfl,SqL.of hw,fun l1 hl1=>?_⟩
 rw[F1.h34]
 have s1:=aj hl1 (.lst (xs.map V.str))
 refine⟨k1,fun l2 hl2=>?_⟩
 have s2:=aj hl2 (.lst [V.str "part"])
 refine⟨l1,l2,xs,["part"],rfl,rfl,SqL.of (s2 _ _ ac),SqL.of ac,_,rfl,if_tC ?_⟩
 have hm':=F1.hm
 simp only[Bool.false_eq_true,if_false]
 rw[hm']
 have s12:=s1.trans s2
 generalize upd (upd H l1 (.lst (xs.map V.str))) l2 (.lst [V.str "part"])=H2 at s12 ⊢
 refine⟨_,rfl,_,rfl,_,rfl,wl,_,rfl,SqL.of (s12 _ _ hw),fun l3 hl3=>?_⟩
 rw[F1.hg]
 have s3:=aj hl3 (.lst (R.goals.map V.str))
 have s13:=s12.trans s3
 have g3:upd H2 l3 (.lst (R.goals.map V.str)) l3=some (.lst (R.goals.map V.str)):=ac
 generalize upd H2 l3 (.lst (R.goals.map V.str))=H3 at s13 g3 ⊢
 have hw3:=s13 _ _ hw
 refine⟨_,rfl,wl,_,rfl,.inl (SqL.of hw3),_,rfl,_,_,rfl,rfl,_,_,rfl,rfl,_,rfl,aN (by have:=F1.hl; lia) ?_⟩
 refine⟨_,rfl,_,rfl,wl,_,_,_,rfl,rfl,SqL.of hw3,F1.he,rfl,_,rfl,eN rfl ?_⟩
 refine⟨_,rfl,l3,rfl,⟨_,SqL.of g3⟩,fun D hD=>?_⟩
 refine cF (xs:=R.goals.map V.str) (fun j HJ=>HJ D=some (.lst ((List.replicate j true).map V.bl))/\Same H3 HJ) ⟨ac,aj hD _⟩ (fun _ _ _ q=>SqL.of (q.2 _ _ g3)) ?_ ?_
 ·rintro j y HJ hy ⟨hj,sJ⟩
  obtain⟨g,hg,rfl⟩:∃ g∈R.goals,y=V.str g:=by
   obtain⟨g,hg,e⟩:=List.mem_map.mp (mem_of_getElem? hy)
   exact⟨g,hg,e.symm⟩
  have jl:j<(R.goals.map V.str).length:=(List.getElem?_eq_some_iff.mp hy).1
  have lg:=F1.lg
  rw[length_map] at jl
  refine⟨_,rfl,g,rfl,F1.hn g hg,fun HK sK=>⟨_,sK _ _ hj,(by rw[length_map,length_replicate]; exact lt_of_lt_of_le (show j<100 by lia) (by decide)),_,(show (R.goals.map V.str).length-(j+1)<_ by rw[length_map]; lia),rfl,(by rw[length_map]; lia),?_,Same.updL (sJ.trans sK) hD⟩⟩
  rw[ac,List.replicate_succ',map_append]
  rfl
 rintro HJ ⟨hj,sJ⟩
 refine⟨D,_,rfl,SqL.of hj,_,rfl,?_⟩
 rw[show (List.replicate (R.goals.map V.str).length true).all id=true from List.all_eq_true.mpr fun x hx=>(List.mem_replicate.mp hx).2]
 refine di ?_
 have s14:=s13.trans sJ
 clear hj hD
 have hw4:=s14 _ _ hw
 have g34:=sJ _ _ g3
 have l30:H l3=none:=none_of s12 hl3
 refine⟨_,rfl,_,rfl,_,rfl,_,_,rfl,rfl,wl,_,_,_,rfl,rfl,SqL.of hw4,F1.hd,_,rfl,fun x dx hx hdx hne=>⟨x,dx,R.line,dn R.k,l3,rfl,ac,fun r nm H5 hr' hn' nrn g0 g1 g2 sx=>⟨rfl,?_⟩⟩⟩
 have s5:=aQ hx hdx sx
 have s15:=s14.trans s5
 have x0:=none_of s14 hx
 have r0:=none_of (s14.trans (aQ hx hdx (fun _ _ _ q=>q))) hr'
 have nm0:=none_of (s14.trans (aQ hx hdx (fun _ _ _ q=>q))) hn'
 have g35:=s5 _ _ g34
 have xr:x≠r:=fun e=>by rw[<- e,ac] at hr'; cases hr'
 have xnm:x≠nm:=fun e=>by rw[<- e,ac] at hn'; cases hn'
 have l3nm:l3≠nm:=fun e=>by rw[<- e,aQ hx hdx (fun _ _ _ q=>q) _ _ g34] at hn'; cases hn'
 have l3r:l3≠r:=fun e=>by rw[<- e,aQ hx hdx (fun _ _ _ q=>q) _ _ g34] at hr'; cases hr'
 have l3x:l3≠x:=fun e=>by rw[<- e,g34] at hx; cases hx
 clear hr' hn' sx hdx hx
 refine⟨_,rfl,_,rfl,_,_,rfl,rfl,_,rfl,wl,_,rfl,SqL.of (s15 _ _ hw),fun l4 hl4=>?_⟩
 rw[F1.ht]
 have s6:=aj hl4 (.lst (R.ts.map V.str))
 have s16:=s15.trans s6
 have g46:upd H5 l4 (.lst (R.ts.map V.str)) l4=some (.lst (R.ts.map V.str)):=ac
 have l4r:l4≠r:=fun e=>by rw[e,g1] at hl4; cases hl4
 have l4nm:l4≠nm:=fun e=>by rw[e,g2] at hl4; cases hl4
 generalize upd H5 l4 (.lst (R.ts.map V.str))=H6 at s6 s16 g46 ⊢
 have q0:=s6 _ _ g0
 have q1:=s6 _ _ g1
 have q2:=s6 _ _ g2
 have q3:=s6 _ _ g35
 refine⟨_,rfl,x,c.Row,dx,_,_,rfl,q0,T.cl_Row,T.na_Row_deed,rfl,rfl,_,rfl,?_⟩
 obtain⟨nset,npart⟩:=dn_no _ ok.k18
 obtain⟨bs,vb,sb⟩:=gds _ ok.k18
 refine aN (fun z=>nset (by injection z)) ?_
 refine⟨rfl,_,rfl,x,c.Row,dx,_,_,rfl,q0,T.cl_Row,T.na_Row_deed,rfl,z5,fun te hte=>⟨dn R.k,bs,rfl,vb,?_⟩⟩
 have s7:=aj hte (.tup [])
 obtain⟨sr,es⟩:=shp_cons R.k
 have sb':∀ H,SqT K H bs (V.str (Str.ofString "name")::sr.map V.str):=fun H=>by have:=sb H; rw[es] at this; exact this
 refine⟨_,rfl,z5,fun t1 ht1=>⟨bs,t1,_,[],fun _=>true,rfl,rfl,sb' _,SqT.of ac,(fun j _ z=>absurd z (Nat.not_lt_zero _)),_,rfl,?_⟩⟩
 have s8:=s7.trans (aj ht1 (.tup []))
 generalize upd (upd H6 te (.tup [])) t1 (.tup [])=H8 at s8 ⊢
 have s18:=s16.trans s8
 have p0:=s8 _ _ q0
 have p1:=s8 _ _ q1
 have p2:=s8 _ _ q2
 have p3:=s8 _ _ q3
 have p4:=s8 _ _ g46
 have ef:=pr_fst ok
 have esn:=pr_snd R
 have el:R.ts.length=(shp R.k).length:=by rw[<- ef,<- esn,length_map,length_map]
 have elr:(shp R.k).length=R.pr.length:=by rw[<- ef,length_map]
 refine di ⟨_,rfl,l4,_,rfl,.inl (SqL.of p4),_,rfl,bs,_,rfl,.inr (sb _),rfl,_,rfl,?_⟩
 refine eN (by rw[length_map,length_map,el]) ?_
 refine⟨_,rfl,x,c.Row,dx,_,_,rfl,p0,T.cl_Row,T.na_Row_deed,rfl,rfl,_,rfl,iteA ?_ (fun e b=>?_)⟩
 rotate_left
 ·obtain⟨ga,gb,eg,ne⟩:=C1 (npart.mp (by injection e))
  rw[eg] at p3
  exact⟨_,rfl,l3,_,_,_,rfl,rfl,SqL.of p3,rfl,_,rfl,_,rfl,l3,_,_,_,rfl,rfl,SqL.of p3,rfl,rfl,_,rfl,aN (fun z=>ne (by injection z)) b⟩
 refine⟨_,rfl,_,rfl,bs,l4,_,_,rfl,sb _,SqL.of p4,fun D hD=>?_⟩
 have Dn:∀ {b u},H8 b=some u->b≠D:=fun e z=>by rw[z,hD] at e; cases e
 have lp:R.pr.length<=5:=by
  rw[<- elr]
  unfold shp
  rw[length_append,length_replicate,length_map]
  have:=iC R.k
  have:=rS R.k 0
  lia
 have lrd:R.reads.length<=3:=by rw[ok.lr]; exact(iC R.k).2
 have L1000:(1000:Nat)<=sizeLine:=by decide
 refine rF (xs:=(shp R.k).map V.str) (ys:=R.ts.map V.str) (fun j HJ=>HJ D=some (.lst ((List.replicate j true).map V.bl))/\(∃ nm' way' rs ns,RwS c HJ x dx R.line (dn R.k) l3 r nm' way' rs ns/\(nm'=nm\/H8 nm'=none)/\nm'≠D/\Puts w' (R.pr.drop j) rs ns R.reads (pP R.k R.num)/\ns.length<=2+j)/\∀ b u,b≠x->b≠r->b≠nm->H8 b=some u->HJ b=some u)
  ⟨ac,⟨nm,_,[],[],⟨by rw[af (Dn p0)]; exact p0,by rw[af (Dn p1)]; exact p1,by rw[af (Dn p2)]; exact p2,nrn⟩,.inl rfl,Dn p2,by rw[drop_zero]; exact puts_row ok w1 w2,zero_le _⟩,fun b u _ _ _ e=>by rw[af (Dn e)]; exact e⟩ (fun _ _ _ q=>⟨sb _,SqL.of (q.2.2 _ _ (fun z=>by rw[z,p0] at p4; cases p4) l4r l4nm p4)⟩) (by rw[length_map,length_map,el]) ?_ ?_
 ·rintro j xv yv HJ hx hy ⟨hj,⟨nm',way',rs,ns,⟨j0,j1,j2,j3⟩,jn,jD,pj,lj⟩,sJ⟩ Tp hTp
  have jl:j<R.pr.length:=by
   have:=(List.getElem?_eq_some_iff.mp hx).1
   rw[length_map] at this
   lia
  obtain⟨⟨p,z⟩,hp⟩:∃ q,R.pr[j]?=some q:=⟨_,List.getElem?_eq_getElem jl⟩
  rw[<- ef,List.getElem?_map,List.getElem?_map,hp] at hx
  rw[<- esn,List.getElem?_map,List.getElem?_map,hp] at hy
  cases hx; cases hy
  rw[drop_eq_getElem_cons jl] at pj
  rw[List.getElem?_eq_getElem jl] at hp
  injection hp with hp
  rw[hp] at pj
  cases pj with
  | @cons _ _ _ _ rs1 _ _ ns1 _ pk pt =>
  have sT:=aj hTp (.tup [.str p,.str z])
  have tT:upd HJ Tp (.tup [.str p,.str z]) Tp=some (.tup [.str p,.str z]):=ac
  generalize upd HJ Tp (.tup [.str p,.str z])=HT at sT tT ⊢
  have l1:=kD pt
  have l2:rs.length<=rs1.length:=kD (w:=w') (.cons pk .nil)
  refine⟨_,rfl,_,rfl,_,rfl,Tp,_,_,_,rfl,rfl,SqT.of tT,rfl,_,rfl,Tp,_,_,_,rfl,rfl,SqT.of tT,rfl,w',x,dx,R.line,dn R.k,l3,r,nm',way',p,z,rs,ns,rs1,ns1,rfl,⟨sT _ _ j0,sT _ _ j1,sT _ _ j2,j3⟩,w1,w2,by lia,by lia,pk,fun H9 nm9 way9 rw9 n9 s9=>?_⟩
  have nn:∀ {b u},H8 b=some u->b≠nm->b≠nm':=fun e n q=>by
   rcases jn with jn | jn
   ·exact n (q.trans jn)
   ·rw[<- q,e] at jn; cases jn
  have d9:=s9 _ _ (Ne.symm (Dn p0)) (Ne.symm (Dn p1)) (Ne.symm jD) (sT _ _ hj)
  have D9:nm9≠D:=fun q=>by
   rcases n9 with n9 | n9
   ·exact jD (n9.symm.trans q)
   ·rw[q,sT _ _ hj] at n9; cases n9
  refine⟨_,d9,(by rw[length_map,length_replicate]; lia),_,(show ((shp R.k).map V.str).length-(j+1)<_ by rw[length_map]; lia),rfl,(by rw[length_map]; lia),?_,⟨nm9,way9,rs1,ns1,⟨?_,?_,?_,rw9.2.2.2⟩,?_,D9,pt,put_len pk lj⟩,fun b u b1 b2 b3 e=>?_⟩
  ·rw[ac,List.replicate_succ',map_append]; rfl
  ·rw[af (Dn p0)]; exact rw9.1
  ·rw[af (Dn p1)]; exact rw9.2.1
  ·rw[af D9]; exact rw9.2.2.1
  ·rcases n9 with n9 | n9
   ·rw[n9]; exact jn
   ·by_cases q:nm9=nm
    ·exact .inl q
    ·refine .inr ?_
     cases e:H8 nm9 with
     | none=>rfl
     | some u =>
      have:=sT _ _ (sJ nm9 u (fun z=>by rw[z,sT _ _ j0] at n9; cases n9) (fun z=>by rw[z,sT _ _ j1] at n9; cases n9) q e)
      rw[n9] at this; cases this
  ·rw[af (Dn e)]; exact s9 _ _ b1 b2 (nn e b3) (sT _ _ (sJ _ _ b1 b2 b3 e))
 rintro HJ ⟨hj,⟨nm',way',rs,ns,⟨j0,j1,j2,j3⟩,jn,jD,pj,lj⟩,sJ⟩
 rw[length_map,elr,List.drop_length] at pj
 cases pj
 refine⟨D,_,rfl,SqL.of hj,_,rfl,?_⟩
 rw[show (List.replicate ((shp R.k).map V.str).length true).all id=true from List.all_eq_true.mpr fun x hx=>(List.mem_replicate.mp hx).2]
 refine di ⟨_,rfl,(by show 2<=sizeLine; decide),fun p hp=>?_⟩
 have sp:=aj hp (.tup [.ref x,.non])
 have s19:Same H HJ:=fun b u e=>sJ _ _ (fun z=>by rw[z,x0] at e; cases e) (fun z=>by rw[z,r0] at e; cases e) (fun z=>by rw[z,nm0] at e; cases e) (s18 _ _ e)
 have p0':=none_of s19 hp
 have nm0':H nm'=none:=by
  rcases jn with rfl | jn
  ·exact nm0
  ·exact none_of s18 jn
 refine qs p _ ⟨x,?_,dx,l3,r,nm',way',?_,?_,?_,?_⟩ (s19.trans sp)
 ·rw[fW p0',ac]
 ·rw[fW x0]; exact sp _ _ j0
 ·rw[fW l30]; exact sp _ _ (sJ _ _ l3x l3r l3nm p3)
 ·rw[fW r0]; exact sp _ _ j1
 ·rw[fW nm0']; exact sp _ _ j2
def DS.item (S:DS):DS:={ S with top:=(jy 1 S.top S.lps).1,lps:=(jy 1 S.top S.lps).2 }
def DS.pair (S:DS) (y:RwD):DS:={ S with prs:=S.prs++[y] }
def DS.mets (S:DS) (zs:List Str):DS:={ S with met:=zs.foldl pE S.met }
theorem ItAt.row {c:Ad}{G:Hp}{x dx:Addr}{fs:List (Str×V)}(h:G x=some (.ins c.Row dx fs)):∀ d,ItAt c d G x 1
 | 0=>⟨rfl,dx,fs,h⟩
 | _+1=>.inl ⟨rfl,dx,fs,h⟩
theorem lv_add {c:Ad}{H H' G:Hp}{o:Addr}(ho:∀ d,ItAt c d G o 1):∀ {ys:List Lp}{d:Nat}{l0:Addr}{ns:List Int},
  (∀ qs,H (bz l0 ys)=some (.lst qs)->H' (bz l0 ys)=some (.lst (qs++[.ref o])))->(∀ b∈l0::ys.map (·.l),b≠bz l0 ys->∀ u,H b=some u->H' b=some u)->(l0::ys.map (·.l)).Nodup->LvAt c H G d l0 ns ys->LvAt c H' G d l0 (eX 1 ns ys).1 (eX 1 ns ys).2
 | [],d,l0,ns,hi,_,_,⟨ps,a,b⟩=>⟨ps++[o],by rw[map_append]; exact hi _ a,b.snoc (ho d)⟩
 | y::r,d,l0,ns,hi,hb,nd,⟨ps,a,b,e,tl⟩=>by
  have nd':=List.nodup_cons.mp nd
  have ne:l0≠bz l0 (y::r):=fun z=>nd'.1 (by rw[z]; exact gS y.l r)
  exact⟨ps,hb l0 (mem_cons_self ..) ne _ a,b,e,lv_add ho (ys:=r) (l0:=y.l) hi (fun b hm n=>hb b (mem_cons_of_mem _ hm) n) nd'.2 tl⟩
section
variable {c:Ad}{H:Hp}{x:Addr}{S:DS}{Li Lr Lo Lp' Ll M:Addr}{ys:List Lp}
theorem iN (n:Int) (ns:List Int):bg x Li Lr Lo Lp' Ll M (eX n ns ys).2=bg x Li Lr Lo Lp' Ll M ys:=by
 show [x,Li,Lr,Lo,Lp',Ll,M]++(eX n ns ys).2.map (·.l)=_
 rw[(oC n ys ns).1]
theorem DrAt.addItem (D:DrAt c H x S Li Lr Lo Lp' Ll M ys) {o dx:Addr}{fs:List (Str×V)}{qs:List V}(ho:cM H (bg x Li Lr Lo Lp' Ll M ys) o=some (.ins c.Row dx fs)) (hq:H (bz Lr ys)=some (.lst qs)) :
  DrAt c (upd H (bz Lr ys) (.lst (qs++[.ref o]))) x S.item Li Lr Lo Lp' Ll M (eX 1 S.top ys).2:=by
 obtain⟨iI,hI,cI⟩:=iM Li Lr Lo Lp' Ll M x ys
 obtain⟨hid,far⟩:=D.own (o:=.lst (qs++[.ref o])) hI
 have eL:=iN (x:=x) (Li:=Li) (Lr:=Lr) (Lo:=Lo) (Lp':=Lp') (Ll:=Ll) (M:=M) (ys:=ys) 1 S.top
 have no:∀ j,j<7->j≠2->j≠iI:=fun j h1 h2 h3=>by rcases cI with h | h <;> lia
 obtain⟨nd,⟨dx0,hx⟩,⟨p1,a1,b1⟩,⟨p2,a2,b2⟩,⟨p3,a3,b3⟩,⟨a4,b4⟩,lv,mt⟩:=D
 refine⟨?_,⟨dx0,(far (j:=0) rfl (no 0 (by decide) (by decide))).trans hx⟩,⟨p1,(far (j:=1) rfl (no 1 (by decide) (by decide))).trans a1,?_⟩,⟨p2,(far (j:=3) rfl (no 3 (by decide) (by decide))).trans a2,?_⟩,⟨p3,(far (j:=4) rfl (no 4 (by decide) (by decide))).trans a3,?_⟩,⟨?_,?_⟩,?_,(far (j:=6) rfl (no 6 (by decide) (by decide))).trans mt⟩
 ·show (bg x Li Lr Lo Lp' Ll M (eX 1 S.top ys).2).Nodup
  rw[eL]; exact nd
 ·show Ls _ (cM _ (bg x Li Lr Lo Lp' Ll M (eX 1 S.top ys).2)) _ _
  rw[eL,hid]; exact b1
 ·show Ls _ (cM _ (bg x Li Lr Lo Lp' Ll M (eX 1 S.top ys).2)) _ _
  rw[eL,hid]; exact b2
 ·show Ls _ (cM _ (bg x Li Lr Lo Lp' Ll M (eX 1 S.top ys).2)) _ _
  rw[eL,hid]; exact b3
 ·rw[(oC 1 ys S.top).2]
  exact(far (j:=5) rfl (no 5 (by decide) (by decide))).trans a4
 ·show _=(jy 1 S.top S.lps).2
  rw[(addYP 1 ys S.top).2,b4]
 ·show LvAt c _ (cM _ (bg x Li Lr Lo Lp' Ll M (eX 1 S.top ys).2)) 5 Lr (jy 1 S.top S.lps).1 _
  have e1:=(addYP 1 ys S.top).1
  rw[b4] at e1
  rw[eL,hid,<- e1]
  refine lv_add (fun d=>ItAt.row ho d) (fun rs e=>?_) (fun b hm n=>?_) ?_ lv
  ·rw[hq] at e
   injection e with e
   injection e with e
   rw[<- e]
   exact ac
  ·intro u e
   rw[af n]; exact e
  ·exact nd.sublist (List.Sublist.append_right (List.singleton_sublist.mpr (by simp)) _)
theorem DrAt.addPair (D:DrAt c H x S Li Lr Lo Lp' Ll M ys) {m:Addr}{y:RwD}{ps:List Addr}(hm:PrAt c (cM H (bg x Li Lr Lo Lp' Ll M ys)) m y) (hp:H Lp'=some (.lst (ps.map V.ref))) :
  DrAt c (upd H Lp' (.lst (ps.map V.ref++[.ref m]))) x (S.pair y) Li Lr Lo Lp' Ll M ys:=by
 obtain⟨hid,far⟩:=D.own (i:=4) (a:=Lp') (o:=.lst (ps.map V.ref++[.ref m])) rfl
 obtain⟨nd,⟨dx0,hx⟩,⟨p1,a1,b1⟩,⟨p2,a2,b2⟩,⟨p3,a3,b3⟩,⟨a4,b4⟩,lv,mt⟩:=D
 have e1:p3=ps:=by
  have e:=a3.symm.trans hp
  injection e with e
  injection e with e
  exact(List.map_inj_right (fun a b h=>by injection h)).mp e
 subst e1
 refine⟨nd,⟨dx0,(far (j:=0) rfl (by decide)).trans hx⟩,⟨p1,(far (j:=1) rfl (by decide)).trans a1,by rw[hid]; exact b1⟩,⟨p2,(far (j:=3) rfl (by decide)).trans a2,by rw[hid]; exact b2⟩,⟨p3++[m],by rw[ac,map_append]; rfl,by rw[hid]; exact b3.snoc hm⟩,⟨(far (j:=5) rfl (by decide)).trans a4,b4⟩,?_,(far (j:=6) rfl (by decide)).trans mt⟩
 rw[hid]
 refine lv.mono (fun _ _ q=>q) (fun u hu=>?_) (far (j:=2) rfl (by decide))
 obtain⟨n,hn⟩:=DrAt.loop (x:=x) (Li:=Li) (Lr:=Lr) (Lo:=Lo) (Lp':=Lp') (Ll:=Ll) (M:=M) hu
 exact far hn (by lia)
theorem DrAt.setMet (D:DrAt c H x S Li Lr Lo Lp' Ll M ys) (z:Str) :
  DrAt c (upd H M (.dK (ig (S.met.map fun z=>((Sum.inr z:Key),V.bl true)) (.inr z) (.bl true)))) x (S.mets [z]) Li Lr Lo Lp' Ll M ys:=by
 obtain⟨hid,far⟩:=D.own (i:=6) (a:=M) (o:=.dK (ig (S.met.map fun z=>((Sum.inr z:Key),V.bl true)) (.inr z) (.bl true))) rfl
 obtain⟨nd,⟨dx0,hx⟩,⟨p1,a1,b1⟩,⟨p2,a2,b2⟩,⟨p3,a3,b3⟩,⟨a4,b4⟩,lv,mt⟩:=D
 refine⟨nd,⟨dx0,(far (j:=0) rfl (by decide)).trans hx⟩,⟨p1,(far (j:=1) rfl (by decide)).trans a1,by rw[hid]; exact b1⟩,⟨p2,(far (j:=3) rfl (by decide)).trans a2,by rw[hid]; exact b2⟩,⟨p3,(far (j:=4) rfl (by decide)).trans a3,by rw[hid]; exact b3⟩,⟨(far (j:=5) rfl (by decide)).trans a4,b4⟩,?_,by rw[ac,nY]; rfl⟩
 rw[hid]
 refine lv.mono (fun _ _ q=>q) (fun u hu=>?_) (far (j:=2) rfl (by decide))
 obtain⟨n,hn⟩:=DrAt.loop (x:=x) (Li:=Li) (Lr:=Lr) (Lo:=Lo) (Lp':=Lp') (Ll:=Ll) (M:=M) hu
 exact far hn (by lia)
end
theorem SameL.trans {L:List Addr}{H H1 H2:Hp}(a:SameL L H H1) (b:SameL L H1 H2):SameL L H H2:=fun x u n e=>b x u n (a x u n e)
theorem SameL.of {L:List Addr}{H H1:Hp}(s:Same H H1):SameL L H H1:=fun x u _ e=>s x u e
theorem SameL.upd {L:List Addr}{H:Hp}{a:Addr}{o:HO}(h:a∈L):SameL L H (upd H a o):=fun x u n e=>by rw[af (fun z=>n (by rw[z]; exact h))]; exact e
theorem SameL.hid {L:List Addr}{H H1:Hp}(s:SameL L H H1):Same (cM H L) (cM H1 L):=fun b u e=>by
 unfold cM at e ⊢
 split at e
 ·cases e
 ·rename_i c; rw[if_neg c]; exact s _ _ c e
theorem pf (ms:List Str) (z:Str):(pE ms z).length<=ms.length+1:=by
 unfold pE
 split
 ·lia
 ·rw[length_append]; exact le_refl _
theorem iU:∀ (zs ms:List Str),(zs.foldl pE ms).length<=ms.length+zs.length
 | [],ms=>le_refl _
 | z::r,ms=>by
  have h1:=iU r (pE ms z)
  have h2:=pf ms z
  show (r.foldl pE (pE ms z)).length<=ms.length+(r.length+1)
  lia
theorem RowOk.g2 {w:Int}{r:RwD}(h:RowOk w r):r.goals.length<=2:=by
 have:=h.lg
 split at this <;> lia
theorem qI (S:DS) (a:List Str) (z:Str):(S.mets a).mets [z]=S.mets (a++[z]):=by
 unfold DS.mets
 rw[List.foldl_append]
def DS.row (S:DS) (y:RwD):DS:=((S.item).pair y).mets y.goals
def spRow (c:Ad):Sp:=fun vs H Q _=>∃ (x:Addr) (S:DS) (Li Lr Lo Lp' Ll M:Addr) (ys:List Lp) (wl:Addr) (R:RwD),vs=[.ref x,.int R.line,.ref wl]/\DrAt c H x S Li Lr Lo Lp' Ll M ys/\H wl=some (.lst (R.ws.map V.str))/\RowOk S.w R/\4<=S.w/\S.w<=32/\sq S/\S.prs.length<=200/\S.met.length<=200/\S.outs=[] /\
 ∀ H',DrAt c H' x (S.row R) Li Lr Lo Lp' Ll M (eX 1 S.top ys).2->SameL (bg x Li Lr Lo Lp' Ll M ys) H H'->Q (.bl true) H'
theorem gA {f:Addr}{fd:FuncData}(F:Fun K "takes_row" "Draft.takes_row" cr f fd) (T:Txt K mg c) (H_row_told:Has P w K mg base 6 "row_told" ["width","line","words"] (spRT c)) (MH:MHas P w K mg base 1 c.Draft "rows_here" ["self"] (mh c)):FnOk P w K mg base CX0 7 f fd ["self","line","words"] (spRow c):=by
 refine F.ok sc_Draft_takes_row (fun vs H Q E h=>?_) (fun cdv A outer s H vs Q E hr h=>?_)
 ·obtain⟨x,S,Li,Lr,Lo,Lp',Ll,M,ys,wl,Y,rfl,_⟩:=h
  rfl
 obtain⟨x,S,Li,Lr,Lo,Lp',Ll,M,ys,wl,Y,rfl,D,hw,rok,w1,w2,sm,lp,lm,c2,qt⟩:=h
 refine⟨_,(ah (aF (i:=3) sc_Draft_takes_row.nd rfl (Or.inl rfl) (aM H_row_told (hr.mono (by lia)) rfl (aa (aC (pv 0) rfl) (aa (pv 1) (aa (pv 2) ae)))))
  (ah (aV (PW.pt (eO (au iy (pv 3) aZ (ay _)) (dM (au (iP (lt_of_succ_lt (bc hr))) (aC (pv 0) rfl) (aS ae) (ay _)))))
   (aq (aA fO))
   aB)
  (ah (bf (dO PySem.F.plainAttrs_list PySem.F.slot_list_append PySem.F.type_list_append aY (cE (k:=1) (pv 0) (hr.mono (by lia))) (aa (aH bj (pv 3) ai (fun _ _=>rfl)) ae)))
  (ah (bf (dO PySem.F.plainAttrs_list PySem.F.slot_list_append PySem.F.type_list_append aY (aC (pv 0) rfl) (aa (pv 3) ae)))
  (ah (d6 PassesOwn.never rfl (bi (aC (aH bj (pv 3) ai (fun _ _=>rfl)) rfl)) (aK (i:=4) sc_Draft_takes_row.nd rfl (Or.inl rfl))
   (aq (fM (bc hr) (aC (pv 0) rfl) (pv 4) fO rfl)))
  (aq (aA fO))))))),?_⟩
 have z5:(0:Nat)<=sizeLine:=by decide
 obtain⟨dx,hx⟩:=D.hx
 refine⟨_,rfl,x,c.Draft,dx,_,_,rfl,hx,T.cl_Draft,T.na_Draft_width,rfl,_,rfl,_,rfl,S.w,wl,Y,rfl,hw,w1,w2,rok,fun m H1 pr s1=>?_⟩
 refine⟨_,rfl,rfl,_,rfl,aN (by nofun) ?_⟩
 have D1:=D.same s1
 obtain⟨dx1,hx1⟩:=D1.hx
 refine⟨_,rfl,x,c.Draft,dx1,_,_,rfl,hx1,T.cl_Draft,T.na_Draft_outs,rfl,z5,fun l2 h2=>?_⟩
 have s2:=aj h2 (.lst [])
 have D2:=D1.same s2
 have s12:=s1.trans s2
 obtain⟨p2,a2,b2⟩:=D2.outs
 refine⟨Lo,l2,_,rfl,rfl,SqL.of a2,SqL.of ac,_,rfl,?_⟩
 generalize upd H1 l2 (.lst [])=H2 at s2 s12 D2 a2 b2 ⊢
 have e2:(p2.map V.ref).isEmpty=true ↔ S.outs=[]:=by
  rw[isEmpty_iff,map_eq_nil_iff]
  exact⟨fun z=>eq_nil_of_length_eq_zero (by rw[<- b2.1,z]; rfl),fun z=>eq_nil_of_length_eq_zero (by rw[b2.1,z]; rfl)⟩
 rw[e2.mpr c2]
 refine di ?_
 obtain⟨dx2,hx2⟩:=D2.hx
 refine⟨_,rfl,x,_,dx2,_,_,_,rfl,hx2,rfl,MH,x,S,Li,Lr,Lo,Lp',Ll,M,ys,rfl,D2,sm.2.1,fun H3 s3=>?_⟩
 have s13:=s12.trans s3
 have D3:=D.same s13
 obtain⟨ps,hq,lq⟩:=D3.small sm
 have sN:Same (newP H H1) (cM H3 (bg x Li Lr Lo Lp' Ll M ys)):=fun b u e=>by
  obtain⟨e0,e1⟩:=qR e
  exact d4 (s3 _ _ (s2 _ _ e1)) (D.fresh e0)
 have pr3:=pr.same sN
 obtain⟨rx,prm,⟨rdx,rg,rrd,rn,rway,r1,r2,r3,r4⟩⟩:=id pr3
 have prm3:=bB _ _ prm
 refine⟨.inl ⟨rfl,_,SqL.of hq⟩,_,rfl,m,_,_,_,rfl,rfl,SqT.of prm3,rfl,bz Lr ys,_,_,rfl,rfl,hq,(by rw[length_map]; exact lt_of_le_of_lt lq (by decide)),?_⟩
 have D4:=D3.addItem r1 hq
 have mI:bz Lr ys∈bg x Li Lr Lo Lp' Ll M ys:=mem_of_getElem? (iM Li Lr Lo Lp' Ll M x ys).choose_spec.1
 have sl4:SameL (bg x Li Lr Lo Lp' Ll M ys) H3 (upd H3 (bz Lr ys) (.lst (ps.map V.ref++[.ref rx]))):=.upd mI
 have eL:=iN (x:=x) (Li:=Li) (Lr:=Lr) (Lo:=Lo) (Lp':=Lp') (Ll:=Ll) (M:=M) (ys:=ys) 1 S.top
 generalize upd H3 (bz Lr ys) (.lst (ps.map V.ref++[.ref rx]))=H4 at D4 sl4 ⊢
 obtain⟨dx4,hx4⟩:=D4.hx
 obtain⟨p4,a4,b4⟩:=D4.prs
 have nin:∀ {b u},cM H3 (bg x Li Lr Lo Lp' Ll M ys) b=some u->b∉bg x Li Lr Lo Lp' Ll M ys:=fun {b u} e q=>by unfold cM at e; rw[if_pos q] at e; cases e
 refine⟨_,rfl,x,c.Draft,dx4,_,_,rfl,hx4,T.cl_Draft,T.na_Draft_row_pairs,rfl,.inl ⟨rfl,_,SqL.of a4⟩,_,rfl,Lp',_,_,rfl,rfl,a4,(by rw[length_map,b4.1]; exact lt_of_le_of_lt lp (by decide)),?_⟩
 have pr4:PrAt c (cM H4 (bg x Li Lr Lo Lp' Ll M (eX 1 S.top ys).2)) m Y:=by rw[eL]; exact pr3.same sl4.hid
 have D5:=D4.addPair pr4 a4
 have sl5:SameL (bg x Li Lr Lo Lp' Ll M ys) H3 (upd H4 Lp' (.lst (p4.map V.ref++[.ref m]))):=sl4.trans (.upd (by simp))
 generalize upd H4 Lp' (.lst (p4.map V.ref++[.ref m]))=H5 at D5 sl5 ⊢
 have prm5:=sl5 _ _ (nin prm) prm3
 have r15:=sl5 _ _ (nin r1) (bB _ _ r1)
 have r25:=sl5 _ _ (nin r2) (bB _ _ r2)
 have g2:=rok.g2
 refine⟨_,rfl,m,_,_,_,rfl,rfl,SqT.of prm5,rfl,rx,c.Row,rdx,_,_,rfl,r15,T.cl_Row,T.na_Row_goals,rfl,rg,rfl,⟨_,SqL.of r25⟩,bI (xs:=Y.goals.map V.str) (fun i σ G=>(∃ y4:Option V,σ=[some (.ref x),some (.int Y.line),some (.ref wl),some (.ref m),y4])/\DrAt c G x ((S.item.pair Y).mets (Y.goals.take i)) Li Lr Lo Lp' Ll M (eX 1 S.top ys).2/\SameL (bg x Li Lr Lo Lp' Ll M ys) H5 G) ⟨⟨_,rfl⟩,D5,fun _ _ _ e=>e⟩ (fun _ _ _ _ q=>SqL.of (q.2.2 _ _ (nin r2) r25)) ?_ ?_⟩
 ·rintro i v σ G hi ⟨⟨y4,rfl⟩,DG,sG⟩
  obtain⟨dxG,hxG⟩:=DG.hx
  obtain⟨z,hz,rfl⟩:∃ z,Y.goals[i]?=some z/\v=V.str z:=by
   rw[List.getElem?_map] at hi
   obtain⟨z,hz,e⟩:=Option.map_eq_some_iff.mp hi
   exact⟨z,hz,e.symm⟩
  refine⟨_,rfl,x,c.Draft,dxG,_,_,rfl,hxG,T.cl_Draft,T.na_Draft_met,rfl,_,rfl,M,_,rfl,DPut.k (k:=.inr z) DG.met ?_,⟨_,rfl⟩,?_,sG.trans ?_⟩
  ·rw[length_map]
   have:=iU (Y.goals.take i) S.met
   rw[length_take] at this
   exact lt_of_le_of_lt (show _<=300 by show ((Y.goals.take i).foldl pE S.met).length<=300; lia) (by decide)
  ·have DZ:=DG.setMet z
   rw[qI] at DZ
   rw[take_add_one,hz]
   exact DZ
  ·exact .upd (by simp)
 ·rintro σ G ⟨⟨y4,rfl⟩,DG,sG⟩
  rw[length_map,take_length] at DG
  exact qt G DG ((SameL.of s13).trans (sl5.trans sG))
inductive LnD where
 | inn (z:Str) (κ:KS) | out (z:Str) | rep (z:Str) | fin | row (r:RwD)
def LnD.ws:LnD->List Str
 | .inn z κ=>"in"::z::kwS κ | .out z=>["out",z] | .rep z=>["repeat",z] | .fin=>["end"] | .row r=>r.ws
def LnOk (w:Int):LnD->Prop
 | .inn z κ=>Nm z/\KG w κ | .out z=>Nm z | .rep z=>Num z/\1<=nV z/\nV z<=32 | .fin=>True | .row r=>RowOk w r
def RwD.at (r:RwD) (n:Int):RwD:={ r with line:=n }
def bZ (S:DS) (line:Int):LnD->DS
 | .inn z κ=>S.inn (line,z,κ)
 | .out z=>S.out (line,z)
 | .rep z=>S.rep (nV z)
 | .fin=>match S.lps.getLast? with
  | none=>S
  | some p=>S.close S.lps.dropLast (p.1*p.2.sum)
 | .row r=>S.row (r.at line)
def StOk (S:DS):LnD->Prop
 | .inn _ _=>S.top=[]/\S.lps=[]/\S.outs=[]
 | .out _=>S.lps=[]
 | .rep _=>S.outs=[]
 | .fin=>∃ pre p,S.lps=pre++[p]/\p.2≠[]/\pre.length<5
 | .row _=>S.outs=[]
structure SzOk (S:DS):Prop where
 w1:4<=S.w
 w2:S.w<=32
 sm:sq S
 pr:S.prs.length<=200
 mt:S.met.length<=200
 is:S.ins.length<=200
 os:S.outs.length<=200
 tt:∀ p∈S.lps,0<=p.1/\p.1<=100
def mT (c:Ad):Sp:=fun vs H Q _=>∃ (x:Addr) (S:DS) (Li Lr Lo Lp' Ll M:Addr) (ys:List Lp) (line:Int) (wl:Addr) (L:LnD),vs=[.ref x,.int line,.ref wl]/\DrAt c H x S Li Lr Lo Lp' Ll M ys/\H wl=some (.lst (L.ws.map V.str))/\wl∉bg x Li Lr Lo Lp' Ll M ys/\LnOk S.w L/\SzOk S/\StOk S L /\
 (∀ ys' H',DrAt c H' x (bZ S line L) Li Lr Lo Lp' Ll M ys'->SameL (bg x Li Lr Lo Lp' Ll M ys) H H'->(∀ a∈bg x Li Lr Lo Lp' Ll M ys',a∈bg x Li Lr Lo Lp' Ll M ys\/H a=none)->Q (.bl true) H')
theorem RowOk.at {w:Int}{r:RwD}(h:RowOk w r) (n:Int):RowOk w (r.at n):=⟨h.k18,h.lr,h.nr,h.lg,h.ng,h.dg,h.n1,h.n2⟩
theorem lu {w:Int}{r:RwD}(h:RowOk w r):∃ g rs,r.ws=g::rs/\Nm g/\rs≠[]:=by
 have lg:=h.lg
 have ng:=h.ng
 unfold RwD.ws
 match e:r.goals,lg,ng with
 | g::gs,_,ng=>exact⟨g,_,rfl,ng g (mem_cons_self ..),by simp⟩
 | [],lg,_=>split at lg <;> exact absurd lg (by decide)
theorem jE {f:Addr}{fd:FuncData}(F:Fun K "takes" "Draft.takes" dF f fd) (T:Txt K mg c)  (MIn:MHas P w K mg base 7 c.Draft "takes_in" ["self","line","words"] (spIn c)) (MOu:MHas P w K mg base 2 c.Draft "takes_out" ["self","line","words"] (spOut c)) (MRe:MHas P w K mg base 4 c.Draft "takes_repeat" ["self","line","words"] (spRep c)) (MEn:MHas P w K mg base 2 c.Draft "takes_end" ["self"] (spEnd c)) (MRo:MHas P w K mg base 7 c.Draft "takes_row" ["self","line","words"] (spRow c)):FnOk P w K mg base CX0 8 f fd ["self","line","words"] (mT c):=by
 refine F.ok jz (fun vs H Q E h=>?_) (fun cdv A outer s H vs Q E hr h=>?_)
 ·obtain⟨x,S,Li,Lr,Lo,Lp',Ll,M,ys,line,wl,L,rfl,_⟩:=h
  rfl
 obtain⟨x,S,Li,Lr,Lo,Lp',Ll,M,ys,line,wl,L,rfl,D,hw,nw,ok,sz,st,qt⟩:=h
 refine⟨_,(ah (aV (au ce (aH aD (pv 2) ai (fun _ _=>rfl)) ak (ay _))
   (aq (aA (gr (k:=7) (pv 0) (hr.mono (by lia)) (aa (pv 1) (aa (pv 2) ae)))))
   aB)
  (ah (aV (au ce (aH aD (pv 2) ai (fun _ _=>rfl)) ak (ay _))
   (aq (aA (gr (k:=2) (pv 0) (hr.mono (by lia)) (aa (pv 1) (aa (pv 2) ae)))))
   aB)
  (ah (aV (au ce (aH aD (pv 2) ai (fun _ _=>rfl)) ak (ay _))
   (aq (aA (gr (k:=4) (pv 0) (hr.mono (by lia)) (aa (pv 1) (aa (pv 2) ae)))))
   aB)
  (ah (aV (au (kx (lt_of_succ_lt (bc hr))) (pv 2) (aS (aa ak ae)) (ay _))
   (aq (aA (cE (k:=2) (pv 0) (hr.mono (by lia)))))
   aB)
  (aq (aA (gr (k:=7) (pv 0) (hr.mono (by lia)) (aa (pv 1) (aa (pv 2) ae))))))))),?_⟩
 have k1:(1:Nat)<=sizeLine:=by decide
 obtain⟨dx,hx⟩:=D.hx
 have el:S.lps=[]->ys=[]:=fun e=>by
  have:=D.lps.2
  rw[e] at this
  exact List.map_eq_nil_iff.mp this
 cases L with
 | row r =>
  obtain⟨g,rs,ew,ng,nr⟩:=lu ok
  have n1:=nm_ne ng (y:="in") (by decide +kernel)
  have n2:=nm_ne ng (y:="out") (by decide +kernel)
  have n3:=nm_ne ng (y:="repeat") (by decide +kernel)
  have g0:atI ((LnD.row r).ws.map V.str) 0=some (.str g):=by show atI (r.ws.map V.str) 0=_; rw[ew]; exact bC (j:=0) rfl
  have ne:(LnD.row r).ws≠[Str.ofString "end"]:=fun z=>by
   have z':r.ws=[Str.ofString "end"]:=z
   rw[ew] at z'
   injection z' with _ z'
   exact nr z'
  refine⟨_,rfl,wl,_,_,_,rfl,rfl,SqL.of hw,g0,rfl,_,rfl,aN (fun z=>n1 (by injection z)) ?_⟩
  refine⟨_,rfl,wl,_,_,_,rfl,rfl,SqL.of hw,g0,rfl,_,rfl,aN (fun z=>n2 (by injection z)) ?_⟩
  refine⟨_,rfl,wl,_,_,_,rfl,rfl,SqL.of hw,g0,rfl,_,rfl,aN (fun z=>n3 (by injection z)) ?_⟩
  refine⟨_,rfl,k1,fun l hl=>?_⟩
  have s1:=aj hl (.lst [V.str "end"])
  have D1:=D.same s1
  refine⟨wl,l,(LnD.row r).ws,["end"],rfl,rfl,SqL.of (s1 _ _ hw),SqL.of ac,_,rfl,aN ne ?_⟩
  generalize upd H l (.lst [V.str "end"])=H1 at s1 D1 ⊢
  obtain⟨dx1,hx1⟩:=D1.hx
  refine⟨_,rfl,x,_,dx1,_,_,_,rfl,hx1,rfl,MRo,_,rfl,_,rfl,x,S,Li,Lr,Lo,Lp',Ll,M,ys,wl,r.at line,rfl,D1,s1 _ _ hw,RowOk.at ok line,sz.w1,sz.w2,sz.sm,sz.pr,sz.mt,st,fun H' D' s'=>?_⟩
  exact qt _ H' D' ((SameL.of s1).trans s') fun a ha=>.inl (by rw[iN] at ha; exact ha)
 | inn z κ =>
  have g0:atI ((LnD.inn z κ).ws.map V.str) 0=some (.str "in"):=bC (j:=0) rfl
  refine⟨_,rfl,wl,_,_,_,rfl,rfl,SqL.of hw,g0,rfl,_,rfl,dw rfl ⟨_,rfl,x,_,dx,_,_,_,rfl,hx,rfl,MIn,_,rfl,_,rfl,x,S,Li,Lr,Lo,Lp',Ll,M,ys,line,wl,z,κ,rfl,D,hw,nw,ok.1,ok.2,sz.w1,sz.w2,sz.is,sz.mt,⟨st.1,el st.2.1,st.2.2⟩,fun H' D' s'=>?_⟩⟩
  exact qt ys H' D' s' fun a ha=>.inl ha
 | out z =>
  refine⟨_,rfl,wl,_,_,_,rfl,rfl,SqL.of hw,rfl,rfl,_,rfl,aN (by walk_at "n") ?_⟩
  refine⟨_,rfl,wl,_,_,_,rfl,rfl,SqL.of hw,rfl,rfl,_,rfl,dw rfl ⟨_,rfl,x,_,dx,_,_,_,rfl,hx,rfl,MOu,_,rfl,_,rfl,x,S,Li,Lr,Lo,Lp',Ll,M,ys,line,wl,z,rfl,D,hw,nw,ok,sz.os,st,fun H' D' s'=>?_⟩⟩
  exact qt ys H' D' s' fun a ha=>.inl ha
 | rep z =>
  refine⟨_,rfl,wl,_,_,_,rfl,rfl,SqL.of hw,rfl,rfl,_,rfl,aN (by walk_at "n") ?_⟩
  refine⟨_,rfl,wl,_,_,_,rfl,rfl,SqL.of hw,rfl,rfl,_,rfl,aN (by walk_at "n") ?_⟩
  refine⟨_,rfl,wl,_,_,_,rfl,rfl,SqL.of hw,rfl,rfl,_,rfl,dw rfl ⟨_,rfl,x,_,dx,_,_,_,rfl,hx,rfl,MRe,_,rfl,_,rfl,x,S,Li,Lr,Lo,Lp',Ll,M,ys,line,wl,z,rfl,D,hw,nw,ok.1,ok.2.1,ok.2.2,sz.sm,st,fun o l H' hl D' s'=>?_⟩⟩
  refine qt _ H' D' s' fun a ha=>?_
  have ha':a∈[x,Li,Lr,Lo,Lp',Ll,M]++(ys++[(⟨o,l,nV z,[]⟩:Lp)]).map (fun y=>y.l):=ha
  rw[map_append,<- append_assoc] at ha'
  rcases List.mem_append.mp ha' with ha' | ha'
  ·exact .inl ha'
  ·cases List.mem_singleton.mp ha'
   exact .inr hl
 | fin =>
  obtain⟨pre,p,ep,pn,pl⟩:=st
  have el:=D.lps.2
  rw[ep] at el
  obtain⟨zs,z',rfl,e1,e2⟩:=List.map_eq_append_iff.mp el
  obtain⟨z,rfl,e3⟩:∃ z,z'=[z]/\(z.t,z.ns)=p:=by
   cases z' with
   | nil=>cases e2
   | cons z r =>
    cases r with
    | nil=>injection e2 with e2; exact⟨z,rfl,e2⟩
    | cons _ _=>injection e2 with _ e2; cases e2
  subst e3
  refine⟨_,rfl,wl,_,_,_,rfl,rfl,SqL.of hw,rfl,rfl,_,rfl,aN (by walk_at "n") ?_⟩
  refine⟨_,rfl,wl,_,_,_,rfl,rfl,SqL.of hw,rfl,rfl,_,rfl,aN (by walk_at "n") ?_⟩
  refine⟨_,rfl,wl,_,_,_,rfl,rfl,SqL.of hw,rfl,rfl,_,rfl,aN (by walk_at "n") ?_⟩
  refine⟨_,rfl,k1,fun l hl=>?_⟩
  have s1:=aj hl (.lst [V.str "end"])
  have D1:=D.same s1
  refine⟨wl,l,[Str.ofString "end"],["end"],rfl,rfl,SqL.of (s1 _ _ hw),SqL.of ac,_,rfl,gU ?_⟩
  generalize upd H l (.lst [V.str "end"])=H1 at s1 D1 ⊢
  obtain⟨dx1,hx1⟩:=D1.hx
  refine⟨_,rfl,x,_,dx1,_,_,_,rfl,hx1,rfl,MEn,x,S,Li,Lr,Lo,Lp',Ll,M,zs,z,rfl,D1,sz.sm,(by rw[<- e1,length_map] at pl; exact pl),pn,⟨(sz.tt (z.t,z.ns) (by rw[ep]; simp)).1,(sz.tt (z.t,z.ns) (by rw[ep]; simp)).2,sz.sm.2.2 (z.t,z.ns) (by rw[ep]; simp)⟩,fun H' D' s'=>?_⟩
  have ef:bZ S line .fin=S.close (zs.map fun y=>(y.t,y.ns)) (z.t*z.ns.sum):=by
   show (match S.lps.getLast? with | none=>S | some p=>S.close S.lps.dropLast (p.1*p.2.sum))=_
   rw[ep,List.getLast?_concat,List.dropLast_concat,<- e1]
  refine qt _ H' (by rw[ef]; exact D') ((SameL.of s1).trans s') fun a ha=>.inl ?_
  rw[iN] at ha
  show a∈[x,Li,Lr,Lo,Lp',Ll,M]++(zs++[z]).map (fun y=>y.l)
  rw[map_append,<- append_assoc]
  exact mem_append_left _ ha
theorem mU (K:Frag):kitOne K (.type "str") (.type "str")=some true:=by with_unfolding_all rfl
theorem oz {s:Str}{n:Nat}:∀ {ps:List Str},n∈(Str.join s ps).cps.toList->n∈s.cps.toList\/∃ p∈ps,n∈p.cps.toList
 | [],h=>absurd h (by show n∉(#[]:Array Nat).toList; simp)
 | [p],h=>.inr ⟨p,mem_cons_self ..,h⟩
 | y::z::r,h=>by
  rw[cu] at h
  rcases List.mem_append.mp h with h | h
  ·exact .inr ⟨y,mem_cons_self ..,h⟩
  ·rcases List.mem_append.mp h with h | h
   ·exact .inl h
   ·rcases oz h with h | ⟨p,hp,h⟩
    ·exact .inl h
    ·exact .inr ⟨p,mem_cons_of_mem _ hp,h⟩
theorem eI (s:Str) (ps:List Str):Txt.join s ps=Str.join s ps:=PySem.StrLaws.glued_eq_join _ _
theorem kl {s:Str}(hs:s.length=1):∀ {ps:List Str}{k:Nat},(∀ p∈ps,p.length<=k)->(Str.join s ps).length<=ps.length*(k+1)
 | [],_,_=>zero_le _
 | [p],k,h=>by have:=h p (mem_cons_self ..); show p.length<=1*(k+1); lia
 | y::z::r,k,h=>by
  have h1:=h y (mem_cons_self ..)
  have h2:=kl hs (ps:=z::r) (k:=k) fun p hp=>h p (mem_cons_of_mem _ hp)
  have e:(Str.join s (y::z::r)).length=y.length+(1+(Str.join s (z::r)).length):=by
   have e:=congrArg List.length (cu s y z r)
   rw[length_append,length_append,bA,bA,bA,bA,hs] at e
   exact e
  rw[e]
  simp only[length_cons] at h2 ⊢
  have:(r.length+1+1)*(k+1)=(r.length+1)*(k+1)+(k+1):=Nat.succ_mul _ _
  lia
def Wd (z:Str):Prop:=10∉z.cps.toList/\32∉z.cps.toList/\z.length<=12
theorem Nm.wd {z:Str}(h:Nm z):Wd z:=by
 have k10:inS LT ⟨#[10]⟩=false:=by decide +kernel
 have k32:inS LT ⟨#[32]⟩=false:=by decide +kernel
 have al:=List.all_eq_true.mp h.2.2.1
 refine⟨fun m=>?_,fun m=>?_,Nat.le_trans h.2.1 (by decide)⟩
 ·have:=al _ m; rw[k10] at this; cases this
 ·have:=al _ m; rw[k32] at this; cases this
theorem rp {z:Str}(h:PySem.NumText.AllDigits z.cps.toList) (l:z.length<=10):Wd z:=⟨fun m=>absurd (h _ m).1 (by decide),fun m=>absurd (h _ m).1 (by decide),Nat.le_trans l (by decide)⟩
def kwL:List Str:=["in","plain","signed","point","out","repeat","end","=","1","0","up","cut","near"]
theorem kw_wd:∀ p∈(kwL++dnL),Wd p:=by unfold Wd; decide +kernel
theorem gK {p:Str}(h:(kwL++dnL).elem p=true):Wd p:=kw_wd p (List.mem_of_elem_eq_true h)
theorem tt_wd {n:Nat}(h:n<10^10):Wd (tt n):=rp (kr h).1.1 (kr h).1.2.2.1
theorem frT_wd {n:Nat}(h:n<10^10):Wd (frT n):=by
 have e:(frT n).cps.toList=49::47::(tt n).cps.toList:=by unfold frT; rw[bD]; rfl
 have d:=tt_wd h
 refine⟨fun m=>?_,fun m=>?_,re h⟩
 ·rw[e] at m
  simp at m
  exact d.1 (by simpa using m)
 ·rw[e] at m
  simp at m
  exact d.2.1 (by simpa using m)
theorem dn_wd {k:Nat}(h:k<18):Wd (dn k):=gK ((by decide +kernel:∀ k,k<18->(kwL++dnL).elem (dn k)=true) k h)
theorem ex_wd {k n:Nat}(h:n<10^10):∀ p∈(ex k n).map (·.2),Wd p:=by
 have up:Wd "up":=gK (by decide +kernel)
 have cut:Wd "cut":=gK (by decide +kernel)
 have near:Wd "near":=gK (by decide +kernel)
 have o:Wd "1":=gK (by decide +kernel)
 have z:Wd "0":=gK (by decide +kernel)
 have t:=tt_wd h
 have f:=frT_wd h
 unfold ex
 split <;> intro p hp <;> simp at hp
 ·exact hp ▸ o
 ·exact hp ▸ z
 ·rcases hp with rfl | rfl
  ·exact t
  ·exact up
 ·exact hp ▸ t
 ·rcases hp with rfl | rfl
  ·exact f
  ·exact cut
 ·exact hp ▸ near
 ·exact hp ▸ t
theorem kwS_wd {w:Int}{κ:KS}(h:KG w κ) (w2:w<=32):∀ p∈kwS κ,Wd p:=by
 have wdk:∀ i,Wd (wd i):=fun i=>match i with
  | 0=>gK (by decide +kernel)
  | 1=>gK (by decide +kernel)
  | _+2=>gK (p:="point") (by decide +kernel)
 unfold kwS
 split
 ·rename_i e
  have:=(h.2.1 e).2
  intro p hp
  rcases List.mem_cons.mp hp with rfl | hp
  ·exact wdk 2
  ·cases List.mem_singleton.mp hp; exact tt_wd (by lia)
 ·intro p hp
  cases List.mem_singleton.mp hp; exact wdk _
theorem RowOk.num {w:Int}{r:RwD}(h:RowOk w r) (w1:4<=w) (w2:w<=32):r.num<10^10:=by
 have:=dj w1 w2
 have:=h.n2
 lia
theorem LnOk.wd {w:Int}{L:LnD}(h:LnOk w L) (w1:4<=w) (w2:w<=32):∀ p∈L.ws,Wd p:=by
 cases L with
 | inn z κ =>
  intro p hp
  rcases List.mem_cons.mp hp with rfl | hp
  ·exact gK (by decide +kernel)
  rcases List.mem_cons.mp hp with rfl | hp
  ·exact Nm.wd h.1
  ·exact kwS_wd h.2 w2 p hp
 | out z=>intro p hp; rcases List.mem_cons.mp hp with rfl | hp; exact gK (by decide +kernel); cases List.mem_singleton.mp hp; exact Nm.wd h
 | rep z=>intro p hp; rcases List.mem_cons.mp hp with rfl | hp; exact gK (by decide +kernel); cases List.mem_singleton.mp hp; exact rp h.1.1 h.1.2.2.1
 | fin=>intro p hp; cases List.mem_singleton.mp hp; exact gK (by decide +kernel)
 | row r =>
  have h':RowOk w r:=h
  intro p hp
  rcases List.mem_append.mp (show p∈r.goals++((Str.ofString "=")::dn r.k::(r.reads++(ex r.k r.num).map (·.2))) from hp) with hp | hp
  ·exact Nm.wd (h'.ng p hp)
  rcases List.mem_cons.mp hp with rfl | hp
  ·exact gK (by decide +kernel)
  rcases List.mem_cons.mp hp with rfl | hp
  ·exact dn_wd h'.k18
  rcases List.mem_append.mp hp with hp | hp
  ·exact Nm.wd (h'.nr p hp)
  ·exact ex_wd (h'.num w1 w2) p hp
def SPs:Str:=⟨#[32]⟩
def NLs:Str:=⟨#[10]⟩
def lnT (L:LnD):Str:=Txt.join SPs L.ws
def wdT (wz:Str):Str:=Txt.join SPs ["width",wz]
def lS (wz:Str) (ls:List LnD):Str:=Txt.join NLs (wdT wz::ls.map lnT)
theorem ws_ne {w:Int}{L:LnD}(h:LnOk w L):L.ws≠[]/\L.ws.length<=9:=by
 cases L with
 | inn z κ=>refine⟨nofun,?_⟩; show (kwS κ).length+1+1<=9; unfold kwS; split <;> simp
 | out z=>exact⟨nofun,by show 2<=9; decide⟩
 | rep z=>exact⟨nofun,by show 2<=9; decide⟩
 | fin=>exact⟨nofun,by show 1<=9; decide⟩
 | row r =>
  have h':RowOk w r:=h
  obtain⟨g,rs,e,_⟩:=lu h'
  refine⟨by show r.ws≠[]; rw[e]; nofun,?_⟩
  show (r.goals++((Str.ofString "=")::dn r.k::(r.reads++(ex r.k r.num).map (·.2)))).length<=9
  have:=h'.g2
  have:=h'.lr
  have:=iC r.k
  have:=rS r.k r.num
  simp only[length_append,length_cons,length_map]
  lia
theorem split_ln {w:Int}{L:LnD}(h:LnOk w L) (w1:4<=w) (w2:w<=32):Txt.split (lnT L) SPs=L.ws:=io (ws_ne h).1 fun p hp=>(h.wd w1 w2 p hp).2.1
theorem ow {wz:Str}(h:Num wz):∀ p∈(["width",wz]:List Str),Wd p:=by
 intro p hp
 rcases List.mem_cons.mp hp with rfl | hp
 ·unfold Wd; decide +kernel
 ·cases List.mem_singleton.mp hp; exact rp h.1 h.2.2.1
theorem split_wd {wz:Str}(h:Num wz):Txt.split (wdT wz) SPs=([Str.ofString "width",wz]:List Str):=io nofun fun p hp=>(ow h p hp).2.1
theorem sL {ps:List Str}(h:∀ p∈ps,Wd p):10∉(Txt.join SPs ps).cps.toList:=fun m=>by
 rw[eI] at m
 rcases oz m with m | ⟨p,hp,m⟩
 ·exact absurd m (by decide)
 ·exact(h p hp).1 m
theorem mn {ps:List Str}(h:∀ p∈ps,Wd p) (l:ps.length<=9):(Txt.join SPs ps).length<=117:=by
 have:=kl (s:=SPs) rfl (ps:=ps) (k:=12) fun p hp=>(h p hp).2.2
 rw[eI]
 lia
theorem kE {w:Int}{wz:Str}{ls:List LnD}(hw:Num wz) (w1:4<=w) (w2:w<=32) (h:∀ L∈ls,LnOk w L):∀ p∈wdT wz::ls.map lnT,10∉p.cps.toList/\p.length<=117:=by
 intro p hp
 rcases List.mem_cons.mp hp with rfl | hp
 ·exact⟨sL (ow hw),mn (ow hw) (by show 2<=9; decide)⟩
 ·obtain⟨L,hL,rfl⟩:=List.mem_map.mp hp
  exact⟨sL ((h L hL).wd w1 w2),mn ((h L hL).wd w1 w2) (ws_ne (h L hL)).2⟩
theorem pK {w:Int}{wz:Str}{ls:List LnD}(hw:Num wz) (w1:4<=w) (w2:w<=32) (h:∀ L∈ls,LnOk w L):Txt.split (lS wz ls) NLs=wdT wz::ls.map lnT:=io nofun fun p hp=>(kE hw w1 w2 h p hp).1
theorem prog_len {w:Int}{wz:Str}{ls:List LnD}(hw:Num wz) (w1:4<=w) (w2:w<=32) (h:∀ L∈ls,LnOk w L):(lS wz ls).length<=(ls.length+1)*118:=by
 have:=kl (s:=NLs) rfl (ps:=wdT wz::ls.map lnT) (k:=117) fun p hp=>(kE hw w1 w2 h p hp).2
 unfold lS
 rw[eI]
 rw[length_cons,length_map] at this
 exact this
inductive ErrD where
 | unk (n:Int) (z:Str) | knd (n:Int) (z:Str) | twc (n:Int) (z:Str)
def DS0 (w:Int):DS:=⟨w,[],[],[],[],[],[]⟩
def aX:DS->Int->List LnD->DS
 | S,_,[]=>S
 | S,n,L::r=>aX (bZ S n L) (n+1) r
def iA:DS->Int->List LnD->Prop
 | _,_,[]=>True
 | S,n,L::r=>StOk S L/\(bZ S n L).met.length<=30/\(bZ S n L).lps.length<=3/\iA (bZ S n L) (n+1) r
theorem stepD_w (S:DS) (n:Int) (L:LnD):(bZ S n L).w=S.w:=by
 cases L with
 | fin =>
  show (match S.lps.getLast? with | none=>S | some p=>S.close S.lps.dropLast (p.1*p.2.sum)).w=S.w
  split <;> rfl
 | _=>rfl
structure Bd (S:DS) (n:Nat):Prop where
 w1:4<=S.w
 w2:S.w<=32
 top:S.top.length<=n
 lps:S.lps.length<=3
 inn:∀ p∈S.lps,p.2.length<=n
 prs:S.prs.length<=n
 met:S.met.length<=30
 ins:S.ins.length<=n
 outs:S.outs.length<=n
 tt:∀ p∈S.lps,0<=p.1/\p.1<=100
theorem Bd.sz {S:DS}{n:Nat}(h:Bd S n) (hn:n<=200):SzOk S:=⟨h.w1,h.w2,⟨Nat.le_trans h.top hn,Nat.le_trans h.lps (by decide),fun p hp=>Nat.le_trans (h.inn p hp) hn⟩,Nat.le_trans h.prs hn,Nat.le_trans h.met (by decide),Nat.le_trans h.ins hn,Nat.le_trans h.outs hn,h.tt⟩
theorem kt (k:Int):∀ {lps:List (Int×List Int)}{ns:List Int}{n:Nat},ns.length<=n->(∀ p∈lps,p.2.length<=n)->(jy k ns lps).1.length<=n+1/\∀ p∈(jy k ns lps).2,p.2.length<=n+1
 | [],ns,n,h,_=>⟨by show (ns++[k]).length<=n+1; rw[length_append]; exact succ_le_succ h,fun p hp=>nomatch hp⟩
 | y::r,ns,n,h,hy=>by
  obtain⟨a,b⟩:=kt k (lps:=r) (ns:=y.2) (n:=n) (hy y (mem_cons_self ..)) fun p hp=>hy p (mem_cons_of_mem _ hp)
  refine⟨Nat.le_succ_of_le h,fun p hp=>?_⟩
  rcases List.mem_cons.mp (show p∈(y.1,(jy k y.2 r).1)::(jy k y.2 r).2 from hp) with rfl | hp
  ·exact a
  ·exact b p hp
theorem km (k:Int):∀ {lps:List (Int×List Int)}{ns:List Int},(∀ p∈lps,0<=p.1/\p.1<=100)->∀ p∈(jy k ns lps).2,0<=p.1/\p.1<=100
 | [],_,_,p,hp=>nomatch hp
 | y::r,ns,h,p,hp=>by
  rcases List.mem_cons.mp (show p∈(y.1,(jy k y.2 r).1)::(jy k y.2 r).2 from hp) with rfl | hp
  ·exact h y (mem_cons_self ..)
  ·exact km k (fun p hp=>h p (mem_cons_of_mem _ hp)) p hp
theorem Bd.row {S:DS}{n:Nat}(h:Bd S n) {y:RwD}(m:(S.row y).met.length<=30) (l:(S.row y).lps.length<=3):Bd (S.row y) (n+1):=by
 obtain⟨a,b⟩:=kt 1 h.top h.inn
 refine⟨h.w1,h.w2,a,l,b,?_,m,Nat.le_succ_of_le h.ins,Nat.le_succ_of_le h.outs,km 1 h.tt⟩
 show (S.prs++[y]).length<=n+1
 rw[length_append]; exact succ_le_succ h.prs
theorem Bd.step {S:DS}{n:Nat}{line w:Int}{L:LnD}(h:Bd S n) (ok:LnOk w L) (m:(bZ S line L).met.length<=30) (l:(bZ S line L).lps.length<=3):Bd (bZ S line L) (n+1):=by
 have up:=fun {k:Nat} (q:k<=n)=>Nat.le_succ_of_le q
 cases L with
 | inn z κ=>exact⟨h.w1,h.w2,up h.top,l,fun p hp=>up (h.inn p hp),up h.prs,m,by show (S.ins++[_]).length<=n+1; rw[length_append]; exact succ_le_succ h.ins,up h.outs,h.tt⟩
 | out z=>exact⟨h.w1,h.w2,up h.top,l,fun p hp=>up (h.inn p hp),up h.prs,m,up h.ins,by show (S.outs++[_]).length<=n+1; rw[length_append]; exact succ_le_succ h.outs,h.tt⟩
 | rep z =>
  refine⟨h.w1,h.w2,up h.top,l,fun p hp=>?_,up h.prs,m,up h.ins,up h.outs,fun p hp=>?_⟩
  ·rcases List.mem_append.mp (show p∈S.lps++[(nV z,[])] from hp) with hp | hp
   ·exact up (h.inn p hp)
   ·cases List.mem_singleton.mp hp; exact zero_le _
  ·rcases List.mem_append.mp (show p∈S.lps++[(nV z,[])] from hp) with hp | hp
   ·exact h.tt p hp
   ·cases List.mem_singleton.mp hp
    exact⟨Int.le_trans (by decide) ok.2.1,Int.le_trans ok.2.2 (by decide)⟩
 | fin =>
  change Bd (match S.lps.getLast? with | none=>S | some p=>S.close S.lps.dropLast (p.1*p.2.sum)) (n+1)
  change (match S.lps.getLast? with | none=>S | some p=>S.close S.lps.dropLast (p.1*p.2.sum)).met.length<=30 at m
  change (match S.lps.getLast? with | none=>S | some p=>S.close S.lps.dropLast (p.1*p.2.sum)).lps.length<=3 at l
  cases q:S.lps.getLast? with
  | none=>exact⟨h.w1,h.w2,up h.top,h.lps,fun p hp=>up (h.inn p hp),up h.prs,h.met,up h.ins,up h.outs,h.tt⟩
  | some p =>
   rw[q] at l m
   obtain⟨a,b⟩:=kt (p.1*p.2.sum) (lps:=S.lps.dropLast) h.top fun p hp=>h.inn p (List.dropLast_subset _ hp)
   exact⟨h.w1,h.w2,a,l,b,up h.prs,m,up h.ins,up h.outs,km _ fun p hp=>h.tt p (List.dropLast_subset _ hp)⟩
 | row r=>exact h.row m l
def spFW (c:Ad):Sp:=fun vs H Q E=>∃ (wz:Str) (ls:List LnD),vs=[.str (lS wz ls)]/\Num wz/\4<=nV wz/\nV wz<=32/\(∀ L∈ls,LnOk (nV wz) L)/\ls.length<=59/\iA (DS0 (nV wz)) 1 ls/\(aX (DS0 (nV wz)) 1 ls).lps=[]/\(aX (DS0 (nV wz)) 1 ls).outs≠[] /\
 ∀ x Li Lr Lo Lp' Ll M H',DrAt c H' x (aX (DS0 (nV wz)) 1 ls) Li Lr Lo Lp' Ll M []->Bd (aX (DS0 (nV wz)) 1 ls) 59->(aX (DS0 (nV wz)) 1 ls).w=nV wz->(∀ a∈bg x Li Lr Lo Lp' Ll M [],H a=none)->Same H H'->Q (.ref x) H'
theorem draft0 {c:Ad}{H:Hp}{x dx Li Lr Lo Lp' Ll M:Addr}{w:Int}(nd:[x,Li,Lr,Lo,Lp',Ll,M].Nodup) (hx:H x=some (.ins c.Draft dx (dfl w Li Lr Lo Lp' Ll M))) (hl:∀ a∈[Li,Lr,Lo,Lp',Ll],H a=some (.lst [])) (hM:H M=some (.dK [])):DrAt c H x (DS0 w) Li Lr Lo Lp' Ll M [] :=
 ⟨by simpa using nd,⟨dx,hx⟩,⟨[],hl _ (by simp),.nil⟩,⟨[],hl _ (by simp),.nil⟩,⟨[],hl _ (by simp),.nil⟩,⟨hl _ (by simp),rfl⟩,⟨[],hl _ (by simp),.nil⟩,hM⟩
theorem kK {f:Addr}{fd:FuncData}(F:Fun K "first_walk" "first_walk" eG f fd) (T:Txt K mg c) (H_number_told:Has P w K mg base 3 "number_told" ["word","low","high"] jp) (C_Draft:CHas P w K mg base 1 c.Draft "Draft" ["self","width"] (spDrI c)) (MTk:MHas P w K mg base 8 c.Draft "takes" ["self","line","words"] (mT c)) (MMu:MHas P w K mg base 1 c.Draft "is_too_much" ["self"] (qJ c)):FnOk P w K mg base CX0 9 f fd ["text"] (spFW c):=by
 refine F.ok sc_first_walk (fun vs H Q E h=>?_) (fun cdv A outer s H vs Q E hr h=>?_)
 ·obtain⟨wz,ls,rfl,_⟩:=h
  rfl
 obtain⟨wz,ls,rfl,hw,w1,w2,lk,ll,fi,lz,c2,qv⟩:=h
 refine⟨_,(ah (aV (dY (dL (aG dA rfl T.n_isinstance boot_isinstance (aa (pv 0) (aa (pe_ty rfl T.n_str boot_str) ae)))))
   bQ
   aB)
  (ah (aF (i:=1) sc_first_walk.nd rfl (Or.inl rfl) (dO PySem.F.plainAttrs_str PySem.F.slot_str_split PySem.F.type_str_split jc (pv 0) (aa ak ae)))
  (ah (aF (i:=2) sc_first_walk.nd rfl (Or.inl rfl) (dO PySem.F.plainAttrs_str PySem.F.slot_str_split PySem.F.type_str_split jc (aH aD (pv 1) ai (fun _ _=>rfl)) (aa ak ae)))
  (ah (aF (i:=3) sc_first_walk.nd rfl (Or.inl rfl) (cB (PW.pt (cW (au ce (aG aE rfl T.n_len boot_len (aa (pv 2) ae)) ai (ay _)) (cx (au ce (aH aD (pv 2) ai (fun _ _=>rfl)) ak (ay _))))) (aM H_number_told (hr.mono (by lia)) rfl (aa (aH aD (pv 2) ai (fun _ _=>rfl)) (aa ai (aa ai ae)))) aZ))
  (ah (aV (au iy (pv 3) aZ (ay _))
   bQ
   aB)
  (ah (aF (i:=4) sc_first_walk.nd rfl (Or.inl rfl) (iw C_Draft (hr.mono (by lia)) rfl (aa (pv 3) ae)))
  (ah (d6 PassesOwn.never rfl (sd rfl T.n_range (aa ai (aa (aG aE rfl T.n_len boot_len (aa (pv 1) ae)) ae))) (aK (i:=5) sc_first_walk.nd rfl (Or.inl rfl))
   (ah (aV (dY (dL (gr (k:=8) (pv 4) (hr.mono (by lia)) (aa (pv 5) (aa (dO PySem.F.plainAttrs_str PySem.F.slot_str_split PySem.F.type_str_split jc (aH aD (pv 1) (pv 5) (fun _ _=>rfl)) (aa ak ae)) ae)))))
    bQ
    aB)
   (aq (aV (PW.pt (eO (au op_ge (pv 5) (iH rfl T.g_MOST_LINES) (ay _)) (dM (dL (cE (k:=1) (pv 4) (hr.mono (by lia)))))))
    bQ
    aB))))
  (ah (aV (PW.pt (eO (au (iP (lt_of_succ_lt (bc hr))) (aC (pv 4) rfl) (aS ae) (ay _)) (dM (au (oY (lt_of_succ_lt (bc hr))) (aC (pv 4) rfl) (aS ae) (ay _)))))
   bQ
   aB)
  (aq (aA (pv 4))))))))))),?_⟩
 have L1000:(100000:Nat)<=sizeLine:=by decide
 have z5:(0:Nat)<=sizeLine:=by decide
 refine⟨_,rfl,_,_,_,_,_,rfl,rfl,TyOf.str _,mU _,_,rfl,di ?_⟩
 have pl:=prog_len hw w1 w2 lk
 refine⟨_,rfl,jq,_,_,rfl,rfl,(by decide),(by lia),fun l1 hl1=>?_⟩
 rw[show Txt.split (lS wz ls) (Str.ofString "\n")=wdT wz::ls.map lnT from pK hw w1 w2 lk]
 have s1:=aj hl1 (.lst ((wdT wz::ls.map lnT).map V.str))
 have g1:upd H l1 (.lst ((wdT wz::ls.map lnT).map V.str)) l1=some (.lst ((wdT wz::ls.map lnT).map V.str)):=ac
 generalize upd H l1 (.lst ((wdT wz::ls.map lnT).map V.str))=H1 at s1 g1 ⊢
 refine⟨_,rfl,l1,_,_,_,rfl,rfl,SqL.of g1,bC (j:=0) rfl,jq,wdT wz,Str.ofString " ",rfl,rfl,(by decide),(by have:=mn (ow hw) (show 2<=9 by decide); have e:(wdT wz).length<=117:=this; lia),fun l2 hl2=>?_⟩
 rw[show Txt.split (wdT wz) (Str.ofString " ")=[Str.ofString "width",wz] from split_wd hw]
 have s2:=aj hl2 (.lst (([Str.ofString "width",wz]:List Str).map V.str))
 have g2:upd H1 l2 (.lst (([Str.ofString "width",wz]:List Str).map V.str)) l2=some (.lst [.str "width",.str wz]):=ac
 generalize upd H1 l2 (.lst (([Str.ofString "width",wz]:List Str).map V.str))=H2 at s2 g2 ⊢
 refine⟨_,rfl,l2,_,rfl,.inl (SqL.of g2),rfl,_,rfl,dw rfl ⟨_,rfl,l2,_,_,_,rfl,rfl,SqL.of g2,rfl,rfl,_,rfl,dw rfl ?_⟩⟩
 refine⟨_,rfl,l2,_,_,_,rfl,rfl,SqL.of g2,rfl,wz,4,32,rfl,hw,?_⟩
 rw[if_pos ⟨w1,w2⟩]
 refine⟨_,rfl,rfl,_,rfl,aN (by nofun) ?_⟩
 refine⟨_,rfl,fun x dx hx hdx hne=>⟨x,dx,nV wz,rfl,ac,fun Li Lr Lo Lp' Ll M H3 hn nd hxx hll hM sx=>⟨rfl,?_⟩⟩⟩
 have D0:=draft0 nd hxx hll hM
 have s3:=aQ hx hdx sx
 have s12:=s1.trans s2
 have s13:=s12.trans s3
 have g13:=s3 _ _ (s2 _ _ g1)
 have x0:=none_of s12 hx
 have new0:∀ a∈bg x Li Lr Lo Lp' Ll M [],H a=none:=fun a ha=>by
  rcases List.mem_cons.mp (show a∈x::([Li,Lr,Lo,Lp',Ll,M]++[]) from ha) with rfl | ha
  ·exact x0
  ·rw[append_nil] at ha
   exact none_of (s12.trans (aQ hx hdx fun _ _ _ q=>q)) (hn a ha)
 have l1n:l1∉bg x Li Lr Lo Lp' Ll M []:=fun ha=>by
  rcases List.mem_cons.mp (show l1∈x::([Li,Lr,Lo,Lp',Ll,M]++[]) from ha) with e | ha
  ·rw[<- e,s2 _ _ g1] at hx; cases hx
  ·rw[append_nil] at ha
   have:=hn l1 ha
   rw[aQ hx hdx (fun _ _ _ q=>q) _ _ (s2 _ _ g1)] at this; cases this
 have b0:Bd (DS0 (nV wz)) 0:=⟨w1,w2,zero_le _,zero_le _,(fun p hp=>nomatch hp),zero_le _,zero_le _,zero_le _,zero_le _,fun p hp=>nomatch hp⟩
 clear hx hdx hn sx hll hM hxx nd
 refine⟨_,rfl,l1,_,rfl,.inl (SqL.of g13),_,_,rfl,⟨by decide,by decide,?_,?_⟩,mD (fun i σ G=>∃ S ys,(∃ y1:Option V,σ=[some (.str (lS wz ls)),some (.ref l1),some (.ref l2),some (.int (nV wz)),some (.ref x),y1])/\DrAt c G x S Li Lr Lo Lp' Ll M ys/\Bd S i/\S.w=nV wz/\iA S (1+i) (ls.drop i)/\aX (DS0 (nV wz)) 1 ls=aX S (1+i) (ls.drop i)/\Same H G/\(∀ a∈bg x Li Lr Lo Lp' Ll M ys,H a=none)/\l1∉bg x Li Lr Lo Lp' Ll M ys/\G l1=some (.lst ((wdT wz::ls.map lnT).map V.str))) ⟨_,[],⟨_,rfl⟩,D0,b0,rfl,by simpa using fi,by simp,s13,new0,l1n,g13⟩ ?_ ?_⟩
 ·simp only[length_map,length_cons]; lia
 ·simp only[length_map,length_cons]; lia
 ·rintro i σ G hi ⟨S,ys,⟨y1,rfl⟩,DG,bd,ew,fS,wS,sG,nG,lG,gG⟩
  have hi':i<ls.length:=by simp only[length_map,length_cons] at hi; lia
  obtain⟨L,hL⟩:∃ L,ls[i]?=some L:=⟨_,List.getElem?_eq_getElem hi'⟩
  have Lm:=mem_of_getElem? hL
  have dr:ls.drop i=L::ls.drop (i+1):=by
   rw[drop_eq_getElem_cons hi']
   congr 1
   rw[List.getElem?_eq_getElem hi'] at hL
   injection hL
  have okL:=lk L Lm
  have i59:i<59:=by lia
  have at1:atI ((wdT wz::ls.map lnT).map V.str) (1+(i:Int))=some (.str (lnT L)):=by
   rw[show (1+(i:Int))=((i+1:Nat):Int) by lia]
   refine bC (j:=i+1) ?_
   rw[map_cons,List.getElem?_cons_succ,List.getElem?_map,List.getElem?_map,hL]
   rfl
  have ll1:=mn (okL.wd w1 w2) (ws_ne okL).2
  obtain⟨dxG,hxG⟩:=DG.hx
  rw[dr] at fS wS
  refine⟨_,rfl,x,_,dxG,_,_,_,rfl,hxG,rfl,MTk,_,rfl,_,rfl,_,rfl,l1,_,_,_,rfl,rfl,SqL.of gG,at1,jq,lnT L,Str.ofString " ",rfl,rfl,(by decide),(by have e:(lnT L).length<=117:=ll1; lia),fun l3 hl3=>?_⟩
  rw[show Txt.split (lnT L) (Str.ofString " ")=L.ws from split_ln okL w1 w2]
  have s3':=aj hl3 (.lst (L.ws.map V.str))
  have g3:upd G l3 (.lst (L.ws.map V.str)) l3=some (.lst (L.ws.map V.str)):=ac
  have l3n:=DG.fresh hl3
  have D3:=DG.same s3'
  generalize upd G l3 (.lst (L.ws.map V.str))=G3 at s3' g3 D3 ⊢
  obtain⟨f1,f2,f3,f4⟩:=fS
  refine⟨x,S,Li,Lr,Lo,Lp',Ll,M,ys,_,l3,L,rfl,D3,g3,l3n,(by rw[ew]; exact okL),bd.sz (by lia),f1,fun ys' H' D' s' hm=>?_⟩
  have sG3:Same H G3:=sG.trans s3'
  have sH:Same H H':=fun b u eb=>s' b u (fun m=>by rw[nG b m] at eb; cases eb) (sG3 _ _ eb)
  refine⟨_,rfl,di ?_⟩
  obtain⟨dx',hx'⟩:=D'.hx
  refine⟨_,rfl,_,_,rfl,rfl,_,rfl,aN (show ¬ 60<=1+(i:Int) by lia) ⟨_,rfl,x,_,dx',_,_,_,rfl,hx',rfl,MMu,x,_,Li,Lr,Lo,Lp',Ll,M,ys',rfl,D',?_⟩⟩
  have eb:(decide (30<(bZ S (1+(i:Int)) L).met.length) || decide (3<(bZ S (1+(i:Int)) L).lps.length))=false:=by
   rw[decide_eq_false (by lia),decide_eq_false (by lia)]
   rfl
  rw[eb]
  have e1:(1+(i:Int))+1=1+((i+1:Nat):Int):=by lia
  refine⟨_,rfl,di ⟨_,ys',⟨_,rfl⟩,D',bd.step okL f2 f3,(stepD_w ..).trans ew,?_,?_,sH,fun a ha=>?_,fun ha=>?_,?_⟩⟩
  ·rw[<- e1]; exact f4
  ·rw[wS,aX,<- e1]
  ·rcases hm a ha with z | z
   ·exact nG a z
   ·exact none_of sG3 z
  ·rcases hm l1 ha with z | z
   ·exact lG z
   ·rw[s3' _ _ gG] at z; cases z
  ·exact s' _ _ lG (s3' _ _ gG)
 ·rintro σ G ⟨S,ys,⟨y1,rfl⟩,DG,bd,ew,fS,wS,sG,nG,lG,gG⟩
  have le:((wdT wz::ls.map lnT).map V.str).length=ls.length+1:=by simp only[length_map,length_cons]
  have eW:aX (DS0 (nV wz)) 1 ls=S:=by
   rw[wS,drop_eq_nil_of_le]
   ·rfl
   ·rw[le]; lia
  rw[eW] at lz c2 qv
  obtain⟨dx1,hx1⟩:=DG.hx
  refine⟨_,rfl,x,c.Draft,dx1,_,_,rfl,hx1,T.cl_Draft,T.na_Draft_loops,rfl,z5,fun l4 hl4=>?_⟩
  have s4:=aj hl4 (.lst [])
  have D4:=DG.same s4
  refine⟨Ll,l4,_,rfl,rfl,SqL.of D4.lps.1,SqL.of ac,_,rfl,?_⟩
  generalize upd G l4 (.lst [])=G4 at s4 D4 ⊢
  have e5:=D4.lps.2
  have yz:ys=[]:=by
   rw[lz] at e5
   exact List.map_eq_nil_iff.mp e5
  subst yz
  refine di ?_
  obtain⟨dx4,hx4⟩:=D4.hx
  refine⟨_,rfl,x,c.Draft,dx4,_,_,rfl,hx4,T.cl_Draft,T.na_Draft_outs,rfl,z5,fun l5 hl5=>?_⟩
  have s5:=aj hl5 (.lst [])
  have D5:=D4.same s5
  obtain⟨p5,a5,b5⟩:=D5.outs
  refine⟨Lo,l5,_,rfl,rfl,SqL.of a5,SqL.of ac,_,rfl,?_⟩
  generalize upd G4 l5 (.lst [])=G5 at s5 D5 a5 b5 ⊢
  have e:(p5.map V.ref).isEmpty=false:=Bool.eq_false_iff.mpr fun z=>by
   rw[isEmpty_iff,map_eq_nil_iff] at z
   exact c2 (eq_nil_of_length_eq_zero (by rw[<- b5.1,z]; rfl))
  rw[e]
  have le':ls.length<=59:=ll
  have bl:(((wdT wz::ls.map lnT).map V.str).length:Int)-1=ls.length:=by rw[le]; lia
  refine di ⟨_,rfl,qv x Li Lr Lo Lp' Ll M G5 D5 ?_ ew nG (sG.trans (s4.trans s5))⟩
  have hi:∀ {k:Nat},k<=(1+ls.length-1)->k<=59:=fun h=>by lia
  rw[le] at bd
  have bd':Bd S 59:=by
   have e9:(ls.length+1-1)=ls.length:=by lia
   refine⟨bd.w1,bd.w2,Nat.le_trans bd.top ?_,bd.lps,fun p hp=>Nat.le_trans (bd.inn p hp) ?_,Nat.le_trans bd.prs ?_,bd.met,Nat.le_trans bd.ins ?_,Nat.le_trans bd.outs ?_,bd.tt⟩ <;> lia
  exact bd'
abbrev KM:Type:=Str->Option KS
def k0 (m:KM) (z:Str):KS:=(m z).getD (0,0)
def putM (m:KM) (z:Str) (κ:KS):KM:=fun y=>if y=z then some κ else m y
def oS:Option Str->V
 | none=>.non
 | some z=>.str z
def KD (c:Ad) (w:Int) (H:Hp) (kd:Addr) (m:KM) (n:Nat):Prop:=∃ kvs:List (Key×V),H kd=some (.dK kvs)/\kvs.length<=n/\∀ z,(∀ κ,m z=some κ->∃ k,eV kvs (Sum.inr z:Key)=some (.ref k)/\KO c H k κ.1 w κ.2/\KG w κ)/\(m z=none->eV kvs (Sum.inr z:Key)=none)
theorem oW (kvs:List (Key×V)) (k:Key) (v:V):(ig kvs k v).length<=kvs.length+1:=by
 unfold ig
 split
 ·rw[length_map]; lia
 ·rw[length_append]; exact le_refl _
theorem KO.updD {c:Ad}{w p:Int}{i:Nat}{H:Hp}{k kd:Addr}{kvs ls:List (Key×V)}(h:KO c H k i w p) (e:H kd=some (.dK kvs)):KO c (upd H kd (.dK ls)) k i w p:=by
 obtain⟨dx,q⟩:=h
 exact⟨dx,by rw[af (fun z=>by rw[z,e] at q; cases q)]; exact q⟩
theorem KD.same {c:Ad}{w:Int}{H H':Hp}{kd:Addr}{m:KM}{n:Nat}(s:Same H H') (h:KD c w H kd m n):KD c w H' kd m n:=by
 obtain⟨kvs,e,l,q⟩:=h
 exact⟨kvs,s _ _ e,l,fun z=>⟨fun κ e=>(by obtain⟨k,a,b,d⟩:=(q z).1 κ e; exact⟨k,a,b.same s,d⟩),(q z).2⟩⟩
theorem KD.mono {c:Ad}{w:Int}{H:Hp}{kd:Addr}{m:KM}{n n':Nat}(h:KD c w H kd m n) (l:n<=n'):KD c w H kd m n':=by
 obtain⟨kvs,e,q,r⟩:=h
 exact⟨kvs,e,Nat.le_trans q l,r⟩
theorem KD.put {c:Ad}{w:Int}{H:Hp}{kd k:Addr}{m:KM}{n:Nat}{κ:KS}(h:KD c w H kd m n) (hk:KO c H k κ.1 w κ.2) (kg:KG w κ) (hn:n<=1000) (z:Str):∃ H',DPut H kd (.str z) (.ref k) H'/\KD c w H' kd (putM m z κ) (n+1)/\SameX kd H H':=by
 obtain⟨kvs,e,l,q⟩:=h
 refine⟨_,DPut.k (k:=Sum.inr z) e (lt_of_le_of_lt l (lt_of_le_of_lt hn (by decide))),⟨_,ac,Nat.le_trans (oW ..) (succ_le_succ l),fun y=>?_⟩,updX⟩
 rw[kB]
 unfold putM
 by_cases ey:y=z
 ·subst ey
  rw[if_pos rfl,if_pos rfl]
  exact⟨fun μ e'=>⟨k,rfl,by cases e'; exact hk.updD e,by cases e'; exact kg⟩,fun z=>nomatch z⟩
 ·rw[if_neg ey,if_neg (fun m=>ey (by injection m))]
  refine⟨fun μ e'=>?_,(q y).2⟩
  obtain⟨k',a,b,d⟩:=(q y).1 μ e'
  exact⟨k',a,b.updD e,d⟩
theorem KD.kindAt {c:Ad}{w:Int}{H:Hp}{kd k:Addr}{m:KM}{n:Nat}{κ:KS}(h:KD c w H kd m n) {H':Hp}(s:SameX kd H H') (hk:KO c H k κ.1 w κ.2):KO c H' k κ.1 w κ.2:=by
 obtain⟨kvs,e,_⟩:=h
 obtain⟨dx,q⟩:=hk
 exact⟨dx,s _ _ (fun z=>by rw[z,e] at q; cases q) q⟩
theorem KD.get {c:Ad}{w:Int}{H:Hp}{kd:Addr}{m:KM}{n:Nat}(h:KD c w H kd m n) {z:Str}(hz:(m z).isSome=true):∃ kvs k,H kd=some (.dK kvs)/\eV kvs (Sum.inr z:Key)=some (.ref k)/\KO c H k (k0 m z).1 w (k0 m z).2/\KG w (k0 m z):=by
 obtain⟨kvs,e,l,q⟩:=h
 obtain⟨κ,ek⟩:=Option.isSome_iff_exists.mp hz
 obtain⟨k,a,b,d⟩:=(q z).1 κ ek
 have e0:k0 m z=κ:=by unfold k0; rw[ek]; rfl
 exact⟨kvs,k,e,a,by rw[e0]; exact b,by rw[e0]; exact d⟩
theorem ic {p:Str->Bool}{zs:List Str}{i:Nat}{z:Str}(h:zs[i]?=some z) (hp:p z=true) (hn:∀ y∈zs.take i,p y=false):zs.find? p=some z:=by
 have hl:=(List.getElem?_eq_some_iff.mp h).1
 rw[<- List.take_append_drop i zs,List.find?_append,List.find?_eq_none.mpr (fun y hy=>by rw[hn y hy]; decide)]
 rw[drop_eq_getElem_cons hl]
 rw[List.getElem?_eq_getElem hl] at h
 injection h with h
 rw[h,List.find?_cons,hp]
 rfl
def dl (m:KM) (q:Nat) (z:Str):Bool:=decide ((k0 m z).1≠q)
def spNW (c:Ad):Sp:=fun vs H Q _=>∃ (l kd:Addr) (w:Int) (q n:Nat) (zs:List Str) (m:KM),vs=[.ref l,.ref kd,.str (wd q)]/\q<3/\H l=some (.lst (zs.map V.str))/\KD c w H kd m n/\(∀ z∈zs,(m z).isSome=true)/\Q (oS (zs.find? (dl m q))) H
theorem jA {f:Addr}{fd:FuncData}(F:Fun K "not_of_word" "not_of_word" dB f fd) (T:Txt K mg c)  (MW:∀ i,i<3->MHas P w K mg base 1 (cOf c i) "word" ["self"] (spWd i)):FnOk P w K mg base CX0 2 f fd ["names","kinds","word"] (spNW c):=by
 refine F.ok sc_not_of_word (fun vs H Q E h=>?_) (fun cdv A outer s H vs Q E hr h=>?_)
 ·obtain⟨l,kd,w',q',n,zs,m,rfl,_⟩:=h
  rfl
 obtain⟨l,kd,w',q',n,zs,m,rfl,q3,hl,KK,al,q⟩:=h
 refine⟨_,(ah (d6 PassesOwn.never rfl (bi (pv 0)) (aK (i:=3) sc_not_of_word.nd rfl (Or.inl rfl))
   (aq (aV (au op_ne (cE (k:=1) (fk (bc hr) (pv 1) (pv 3) (fun _ _=>rfl)) (hr.mono (by lia))) (pv 2) (ay _))
    (aq (aA (pv 3)))
    aB)))
  (aq (aA aZ))),?_⟩
 refine⟨_,rfl,l,rfl,⟨_,SqL.of hl⟩,bI (xs:=zs.map V.str) (fun i σ G=>(∃ y:Option V,σ=[some (.ref l),some (.ref kd),some (.str (wd q')),y])/\H=G/\∀ y∈zs.take i,dl m q' y=false) ⟨⟨_,rfl⟩,rfl,fun y hy=>by simp at hy⟩ (fun _ _ _ _ h=>by rw[<- h.2.1]; exact SqL.of hl) ?_ ?_⟩
 ·rintro i v σ G hi ⟨⟨y,rfl⟩,rfl,hn⟩
  obtain⟨z,hz,rfl⟩:∃ z,zs[i]?=some z/\v=V.str z:=by
   rw[List.getElem?_map] at hi
   obtain⟨z,hz,e⟩:=Option.map_eq_some_iff.mp hi
   exact⟨z,hz,e.symm⟩
  obtain⟨kvs,k,ek,ev,⟨dk,ko⟩,kg⟩:=KK.get (al z (mem_of_getElem? hz))
  refine⟨_,rfl,_,rfl,kd,_,rfl,ev ▸ DGet.k (k:=Sum.inr z) ek,k,_,dk,_,_,_,rfl,ko,rfl,MW _ kg.1,k,rfl,_,rfl,rfl,_,rfl,kP (fun e=>?_) (fun e=>?_)⟩
  ·have:dl m q' z=true:=decide_eq_true fun z=>e (by rw[z])
   rw[ic hz this hn] at q
   exact⟨_,rfl,q⟩
  ·have en:dl m q' z=false:=decide_eq_false fun z=>absurd e (pQ kg.1 q3 z)
   refine⟨⟨_,rfl⟩,rfl,fun u hu=>?_⟩
   rw[take_add_one,hz] at hu
   rcases List.mem_append.mp hu with hu | hu
   ·exact hn u hu
   ·cases List.mem_singleton.mp hu; exact en
 ·rintro σ G ⟨⟨y,rfl⟩,rfl,hn⟩
  rw[length_map,take_length] at hn
  rw[List.find?_eq_none.mpr (fun y hy=>by rw[hn y hy]; decide)] at q
  exact q
def READ_PLAIN_:List Str:=["low","high","over","rest","part"]
def READ_ALIKE_:List Str:=["add","sub","addstop","substop","less","same","mul","pick"]
def bS (k:Nat):Bool:=([5,6,13,14,17]:List Nat).contains k
def ci (k:Nat):Bool:=([1,2,3,4,9,10,11,16]:List Nat).contains k
def dtB (k:Nat):Bool:=k == 12 || k == 15
def la1 (rs:List Str):Str:=rs.getLast?.getD ""
def la2 (rs:List Str):Str:=la1 rs.dropLast
def rB (w:Int):Int:=1*2^(w-1).toNat
def wr1 (m:KM) (r:RwD):Option Str:=if bS r.k=true then r.reads.find? (dl m 0) else none
def wr2 (m:KM) (r:RwD):Option Str:=if r.k=16 then r.reads.find? (dl m 2) else wr1 m r
def wr3 (m:KM) (r:RwD):Option Str:=if r.k=11 then (r.reads.take 1).find? (dl m 0) else wr2 m r
def wr4 (w:Int) (m:KM) (r:RwD):Option Str:=if dtB r.k=true/\rB w<(r.num:Int) then r.reads.find? (dl m 0) else wr3 m r
def wr5 (w:Int) (m:KM) (r:RwD):Option Str:=match wr4 w m r with
 | some z=>some z
 | none=>if ci r.k=true/\k0 m (la2 r.reads)≠k0 m (la1 r.reads) then some (la1 r.reads) else none
theorem qN:∀ k,k<18->inV (.str (dn k)) (READ_PLAIN_.map V.str)=bS k/\(dn k = "mul" ↔ k=16)/\(dn k = "pick" ↔ k=11)/\inV (.str (dn k)) [V.str "div",V.str "times"]=dtB k/\inV (.str (dn k)) (READ_ALIKE_.map V.str)=ci k/\inV (.str (dn k)) [V.str "less",V.str "same"]=(k == 9 || k == 10):=by decide +kernel
theorem qz:∀ k n,k=12\/k=15->atI ((pP k n).map V.int) (-1)=some (.int (n:Int)):=by
 rintro k n (rfl | rfl) <;> rfl
theorem iL {rs:List Str}(h:2<=rs.length):∃ pre a b,rs=pre++[a,b]:=by
 obtain⟨r1,b,e1⟩:∃ r b,rs=r++[b]:=⟨_,_,(List.dropLast_concat_getLast (by intro z; rw[z] at h; exact absurd h (by decide))).symm⟩
 subst e1
 rw[length_append] at h
 obtain⟨r2,a,e2⟩:∃ r a,r1=r++[a]:=⟨_,_,(List.dropLast_concat_getLast (by intro z; rw[z] at h; exact absurd h (by simp))).symm⟩
 subst e2
 exact⟨r2,a,b,by rw[append_assoc]; rfl⟩
theorem atI_m1 {pre:List V}{a b:V}:atI (pre++[a,b]) (-1)=some b/\atI (pre++[a,b]) (-2)=some a:=by
 have l:(pre++[a,b]).length=pre.length+2:=by rw[length_append]; rfl
 constructor
 ·unfold atI ixN
  rw[l,if_neg (by decide),if_pos (by lia)]
  show (pre++[a,b])[((-1:Int)+((pre.length+2:Nat):Int)).toNat]?=some b
  rw[show ((-1:Int)+((pre.length+2:Nat):Int)).toNat=pre.length+1 by lia,List.getElem?_append_right (by lia)]
  rw[show pre.length+1-pre.length=1 by lia]
  rfl
 ·unfold atI ixN
  rw[l,if_neg (by decide),if_pos (by lia)]
  show (pre++[a,b])[((-2:Int)+((pre.length+2:Nat):Int)).toNat]?=some a
  rw[show ((-2:Int)+((pre.length+2:Nat):Int)).toNat=pre.length by lia,List.getElem?_append_right (by lia)]
  rw[show pre.length-pre.length=0 by lia]
  rfl
theorem om {pre:List Str}{a b:Str}:la1 (pre++[a,b])=b/\la2 (pre++[a,b])=a:=by
 have e:pre++[a,b]=(pre++[a])++[b]:=by rw[append_assoc]; rfl
 constructor
 ·unfold la1; rw[e,List.getLast?_concat]; rfl
 ·unfold la2 la1; rw[e,List.dropLast_concat,List.getLast?_concat]; rfl
def spWR (c:Ad):Sp:=fun vs H Q _=>∃ (w:Int) (x dx g rd nm kd:Addr) (way:V) (R:RwD) (m:KM) (n:Nat),vs=[.int w,.ref x,.ref kd]/\H x=some (.ins c.Row dx (rfl6 R.line (dn R.k) g rd nm way))/\H rd=some (.lst (R.reads.map V.str))/\H nm=some (.lst ((pP R.k R.num).map V.int))/\KD c w H kd m n/\RowOk w R/\4<=w/\w<=32/\(∀ z∈R.reads,(m z).isSome=true)/\∀ H',Same H H'->Q (oS (wr5 w m R)) H'
theorem ja {f:Addr}{fd:FuncData}(F:Fun K "wrongly_read" "wrongly_read" cZ f fd) (T:Txt K mg c) (H_not_of_word:Has P w K mg base 2 "not_of_word" ["names","kinds","word"] (spNW c)) (H_half:Has P w K mg base 1 "half" ["width"] sf) (H_same_kind:Has P w K mg base 2 "same_kind" ["one","other"] (pc c)):FnOk P w K mg base CX0 3 f fd ["width","row","kinds"] (spWR c):=by
 refine F.ok sc_wrongly_read (fun vs H Q E h=>?_) (fun cdv A outer s H vs Q E hr h=>?_)
 ·obtain⟨w',x,dx,g,rd,nm,kd,way,R,m,n,rfl,_⟩:=h
  rfl
 obtain⟨w',x,dx,g,rd,nm,kd,way,R,m,n,rfl,hx,hR,hN,KK,ok,w1,w2,al,q⟩:=h
 refine⟨_,(ah (aF (i:=3) sc_wrongly_read.nd rfl (Or.inl rfl) aZ)
  (gg (aV (au bH (aC (pv 1) rfl) (jL rfl T.g_READ_PLAIN) (by with_unfolding_all rfl))
   (aq (aF (i:=3) sc_wrongly_read.nd rfl (Or.inl rfl) (aM H_not_of_word (hr.mono (by lia)) rfl (aa (aC (pv 1) rfl) (aa (pv 2) (aa ak ae))))))
   aB)
  (gg (aV (au ce (aC (pv 1) rfl) ak (ay _))
   (aq (aF (i:=3) sc_wrongly_read.nd rfl (Or.inl rfl) (aM H_not_of_word (hr.mono (by lia)) rfl (aa (aC (pv 1) rfl) (aa (pv 2) (aa ak ae))))))
   aB)
  (gg (aV (au ce (aC (pv 1) rfl) ak (ay _))
   (aq (aF (i:=3) sc_wrongly_read.nd rfl (Or.inl rfl) (aM H_not_of_word (hr.mono (by lia)) rfl (aa (cS dG (aC (pv 1) rfl) fq (cT ai)) (aa (pv 2) (aa ak ae))))))
   aB)
  (gg (aV (PW.pt (cW (au bH (aC (pv 1) rfl) (aP (aa ak (aa ak ae))) (by with_unfolding_all rfl)) (cx (au m4 (aH aD (aC (pv 1) rfl) (jw dS ai) (fun _ _=>rfl)) (aM H_half (hr.mono (by lia)) rfl (aa (pv 0) ae)) (ay _)))))
   (aq (aF (i:=3) sc_wrongly_read.nd rfl (Or.inl rfl) (aM H_not_of_word (hr.mono (by lia)) rfl (aa (aC (pv 1) rfl) (aa (pv 2) (aa ak ae))))))
   aB)
  (ah (aV (PW.pt (cW (au iy (pv 3) aZ (ay _)) (cW (au bH (aC (pv 1) rfl) (jL rfl T.g_READ_ALIKE) (by with_unfolding_all rfl)) (cx (dY (dL (aM H_same_kind (hr.mono (by lia)) rfl (aa (fk (bc hr) (pv 2) (aH aD (aC (pv 1) rfl) (jw dS ai) (fun _ _=>rfl)) (fun _ _=>rfl)) (aa (fk (bc hr) (pv 2) (aH aD (aC (pv 1) rfl) (jw dS ai) (fun _ _=>rfl)) (fun _ _=>rfl)) ae)))))))))
   (aq (aF (i:=3) sc_wrongly_read.nd rfl (Or.inl rfl) (aH aD (aC (pv 1) rfl) (jw dS ai) (fun _ _=>rfl))))
   aB)
  (aq (aA (pv 3))))))))),?_⟩
 obtain⟨t1,t2,t3,t4,t5,_⟩:=qN _ ok.k18
 refine⟨fun σ' H'=>σ'=[some (.int w'),some (.ref x),some (.ref kd),some (oS (wr1 m R))]/\Same H H',?_,?_⟩
 ·refine⟨_,rfl,x,c.Row,dx,_,_,rfl,hx,T.cl_Row,T.na_Row_deed,rfl,c.READ_PLAIN,_,rfl,.inr (T.q_READ_PLAIN _),rfl,cH READ_PLAIN_,_,rfl,?_⟩
  show if inV (.str (dn R.k)) (READ_PLAIN_.map V.str)=true then _ else _
  rw[t1]
  by_cases e:bS R.k=true
  ·rw[e]
   refine gU ⟨_,rfl,x,c.Row,dx,_,_,rfl,hx,T.cl_Row,T.na_Row_reads,rfl,_,rfl,rd,kd,w',0,n,R.reads,m,rfl,by decide,hR,KK,al,(by unfold wr1; rw[if_pos e]; rfl),fun _ _ e=>e⟩
  ·have e':bS R.k=false:=Bool.eq_false_iff.mpr e
   rw[e']
   exact di ⟨by unfold wr1; rw[if_neg e]; rfl,fun _ _ e=>e⟩
 rintro σ H1 ⟨rfl,s1⟩
 have hx1:=s1 _ _ hx
 have hR1:=s1 _ _ hR
 have K1:=KK.same s1
 refine⟨fun σ' H'=>σ'=[some (.int w'),some (.ref x),some (.ref kd),some (oS (wr2 m R))]/\Same H H',?_,?_⟩
 ·refine⟨_,rfl,x,c.Row,dx,_,_,rfl,hx1,T.cl_Row,T.na_Row_deed,rfl,rfl,_,rfl,?_⟩
  unfold wr2
  by_cases e:R.k=16
  ·rw[if_pos e]
   exact dw (congrArg V.str (t2.mpr e)) ⟨_,rfl,x,c.Row,dx,_,_,rfl,hx1,T.cl_Row,T.na_Row_reads,rfl,_,rfl,rd,kd,w',2,n,R.reads,m,rfl,by decide,hR1,K1,al,rfl,s1⟩
  ·rw[if_neg e]
   exact aN (fun z=>e (t2.mp (by injection z))) ⟨rfl,s1⟩
 rintro σ H2 ⟨rfl,s2⟩
 have hx2:=s2 _ _ hx
 have hR2:=s2 _ _ hR
 have K2:=KK.same s2
 refine⟨fun σ' H'=>σ'=[some (.int w'),some (.ref x),some (.ref kd),some (oS (wr3 m R))]/\Same H H',?_,?_⟩
 ·refine⟨_,rfl,x,c.Row,dx,_,_,rfl,hx2,T.cl_Row,T.na_Row_deed,rfl,rfl,_,rfl,?_⟩
  unfold wr3
  by_cases e:R.k=11
  ·rw[if_pos e]
   refine dw (congrArg V.str (t3.mpr e)) ⟨_,rfl,x,c.Row,dx,_,_,rfl,hx2,T.cl_Row,T.na_Row_reads,rfl,_,rfl,rd,_,rfl,SqL.of hR2,fun l hl=>?_⟩
   have lr:1<=R.reads.length:=by rw[ok.lr]; exact(iC R.k).1
   rw[show kN (R.reads.map V.str) none (some 1)=(R.reads.take 1).map V.str by rw[List.map_take]; exact lQ _ 1 (by rw[length_map]; exact lr)]
   have s3:=aj hl (.lst ((R.reads.take 1).map V.str))
   exact⟨_,rfl,l,kd,w',0,n,R.reads.take 1,m,rfl,by decide,ac,K2.same s3,fun z hz=>al z (List.take_subset _ _ hz),rfl,s2.trans s3⟩
  ·rw[if_neg e]
   exact aN (fun z=>e (t3.mp (by injection z))) ⟨rfl,s2⟩
 rintro σ H3 ⟨rfl,s3⟩
 have hx3:=s3 _ _ hx
 refine⟨fun σ' H'=>σ'=[some (.int w'),some (.ref x),some (.ref kd),some (oS (wr4 w' m R))]/\Same H H',?_,?_⟩
 ·refine⟨_,rfl,x,c.Row,dx,_,_,rfl,hx3,T.cl_Row,T.na_Row_deed,rfl,(by show 2<=sizeLine; decide),fun p hp=>?_⟩
  have s4:=s3.trans (aj hp (.tup [V.str "div",V.str "times"]))
  refine⟨p,_,rfl,.inr (SqT.of ac),rfl,rfl,_,rfl,?_⟩
  show if inV (.str (dn R.k)) [V.str "div",V.str "times"]=true then _ else _
  rw[t4]
  generalize upd H3 p (.tup [V.str "div",V.str "times"])=H4 at s4 ⊢
  have hx4:=s4 _ _ hx
  by_cases e:dtB R.k=true
  ·have ek:R.k=12\/R.k=15:=by unfold dtB at e; simpa using e
   rw[e]
   refine gU ⟨_,rfl,x,c.Row,dx,_,_,rfl,hx4,T.cl_Row,T.na_Row_numbers,rfl,_,rfl,nm,_,_,_,rfl,rfl,SqL.of (s4 _ _ hN),qz _ _ ek,_,rfl,w',rfl,w1,w2,_,_,rfl,rfl,_,rfl,?_⟩
   by_cases eh:rB w'<(R.num:Int)
   ·exact dw eh ⟨_,rfl,x,c.Row,dx,_,_,rfl,hx4,T.cl_Row,T.na_Row_reads,rfl,_,rfl,rd,kd,w',0,n,R.reads,m,rfl,by decide,s4 _ _ hR,KK.same s4,al,(by unfold wr4; rw[if_pos ⟨e,eh⟩]; rfl),s4⟩
   ·exact aN eh ⟨by unfold wr4; rw[if_neg (fun z=>eh z.2)],s4⟩
  ·have e':dtB R.k=false:=Bool.eq_false_iff.mpr e
   rw[e']
   exact di ⟨by unfold wr4; rw[if_neg (fun z=>e z.1)],s4⟩
 rintro σ H4 ⟨rfl,s4⟩
 have hx4:=s4 _ _ hx
 have hR4:=s4 _ _ hR
 have K4:=KK.same s4
 unfold wr5 at q
 cases e4:wr4 w' m R with
 | some z =>
  rw[e4] at q
  exact⟨_,rfl,rfl,_,rfl,aN (by nofun) ⟨_,rfl,q H4 s4⟩⟩
 | none =>
  rw[e4] at q
  dsimp only at q
  refine⟨_,rfl,rfl,_,rfl,dw rfl ⟨_,rfl,x,c.Row,dx,_,_,rfl,hx4,T.cl_Row,T.na_Row_deed,rfl,c.READ_ALIKE,_,rfl,.inr (T.q_READ_ALIKE _),rfl,cH READ_ALIKE_,_,rfl,?_⟩⟩
  show if inV (.str (dn R.k)) (READ_ALIKE_.map V.str)=true then _ else _
  rw[t5]
  by_cases e:ci R.k=true
  ·rw[e]
   refine gU ?_
   have l2:2<=R.reads.length:=by
    rw[ok.lr]
    exact(by decide +kernel:∀ k,k<18->ci k=true->2<=nrd k) _ ok.k18 e
   obtain⟨pre,a,b,er⟩:=iL l2
   obtain⟨f1,f2⟩:=om (pre:=pre) (a:=a) (b:=b)
   rw[er,f1,f2] at q
   have hR5:=hR4
   rw[er,map_append] at hR5
   obtain⟨g1,g2⟩:=atI_m1 (pre:=pre.map V.str) (a:=V.str a) (b:=V.str b)
   obtain⟨kvs,ka,ek,va,koa,kga⟩:=K4.get (al a (by rw[er]; simp))
   obtain⟨kvs2,kb,ek2,vb,kob,kgb⟩:=K4.get (al b (by rw[er]; simp))
   have:kvs2=kvs:=by rw[ek] at ek2; injection ek2 with ek2; injection ek2 with ek2; exact ek2.symm
   subst this
   refine⟨_,rfl,_,rfl,x,c.Row,dx,_,_,rfl,hx4,T.cl_Row,T.na_Row_reads,rfl,_,rfl,rd,_,_,_,rfl,rfl,SqL.of hR5,g2,kd,_,rfl,va ▸ DGet.k (k:=Sum.inr a) ek,_,rfl,_,rfl,x,c.Row,dx,_,_,rfl,hx4,T.cl_Row,T.na_Row_reads,rfl,_,rfl,rd,_,_,_,rfl,rfl,SqL.of hR5,g1,kd,_,rfl,vb ▸ DGet.k (k:=Sum.inr b) ek,ka,kb,w',k0 m a,k0 m b,rfl,koa,kob,kga.1,kgb.1,_,rfl,?_⟩
   refine kP (fun e2=>?_) (fun e2=>?_)
   ·rw[if_pos ⟨e,e2⟩] at q
    exact⟨_,rfl,x,c.Row,dx,_,_,rfl,hx4,T.cl_Row,T.na_Row_reads,rfl,_,rfl,rd,_,_,_,rfl,rfl,SqL.of hR5,g1,_,rfl,q H4 s4⟩
   ·rw[if_neg (fun z=>z.2 e2)] at q
    exact⟨_,rfl,q H4 s4⟩
  ·have e':ci R.k=false:=Bool.eq_false_iff.mpr e
   rw[e']
   rw[if_neg (fun z=>e z.1)] at q
   exact di ⟨_,rfl,q H4 s4⟩
def kO (m:KM) (r:RwD):KS:=if (r.k == 9 || r.k == 10)=true then (0,0) else k0 m (la1 r.reads)
def spKP (c:Ad):Sp:=fun vs H Q _=>∃ (w:Int) (x dx g rd nm kd:Addr) (way:V) (R:RwD) (m:KM) (n:Nat),vs=[.int w,.ref x,.non,.ref kd]/\H x=some (.ins c.Row dx (rfl6 R.line (dn R.k) g rd nm way))/\H rd=some (.lst (R.reads.map V.str))/\KD c w H kd m n/\RowOk w R/\4<=w/\w<=32/\(∀ z∈R.reads,(m z).isSome=true)/\∀ k H',Same H H'->KO c H' k (kO m R).1 w (kO m R).2->KG w (kO m R)->Q (.ref k) H'
theorem ol {f:Addr}{fd:FuncData}(F:Fun K "kind_put" "kind_put" ik f fd) (T:Txt K mg c)  (C_Plain:CHas P w K mg base 4 c.Plain "Plain" ["self","width"] (jt c 0)):FnOk P w K mg base CX0 6 f fd ["width","row","told","kinds"] (spKP c):=by
 refine F.ok mO (fun vs H Q E h=>?_) (fun cdv A outer s H vs Q E hr h=>?_)
 ·obtain⟨w',x,dx,g,rd,nm,kd,way,R,m,n,rfl,_⟩:=h
  rfl
 obtain⟨w',x,dx,g,rd,nm,kd,way,R,m,n,rfl,hx,hR,KK,ok,w1,w2,al,q⟩:=h
 refine⟨_,(ah (aV (au jj (pv 2) aZ (ay _))
   (aq (aA (pv 2)))
   aB)
  (ah (aV (au bH (aC (pv 1) rfl) (aP (aa ak (aa ak ae))) (by with_unfolding_all rfl))
   (aq (aA (iw C_Plain (hr.mono (by lia)) rfl (aa (pv 0) ae))))
   aB)
  (aq (aA (fk (bc hr) (pv 3) (aH aD (aC (pv 1) rfl) (jw dS ai) (fun _ _=>rfl)) (fun _ _=>rfl)))))),?_⟩
 obtain⟨_,_,_,_,_,t6⟩:=qN _ ok.k18
 refine⟨_,rfl,rfl,_,rfl,eN rfl ?_⟩
 refine⟨_,rfl,x,c.Row,dx,_,_,rfl,hx,T.cl_Row,T.na_Row_deed,rfl,(by show 2<=sizeLine; decide),fun p hp=>?_⟩
 have s1:=aj hp (.tup [V.str "less",V.str "same"])
 refine⟨p,_,rfl,.inr (SqT.of ac),rfl,rfl,_,rfl,?_⟩
 show if inV (.str (dn R.k)) [V.str "less",V.str "same"]=true then _ else _
 rw[t6]
 generalize upd H p (.tup [V.str "less",V.str "same"])=H1 at s1 ⊢
 unfold kO at q
 cases e:(R.k == 9 || R.k == 10) with
 | true =>
  rw[if_pos e] at q
  exact gU ⟨_,rfl,fun x dx hx hdx hne=>⟨x,dx,w',rfl,ac,w1,w2,fun H' s' ko=>⟨rfl,q x H' (s1.trans (aQ hx hdx s')) ko ⟨by decide,fun z=>absurd z (by decide),fun _=>rfl⟩⟩⟩⟩
 | false =>
  rw[if_neg (by rw[e]; decide)] at q
  have l1:1<=R.reads.length:=by rw[ok.lr]; exact(iC R.k).1
  obtain⟨pre,b,er⟩:∃ r b,R.reads=r++[b]:=⟨_,_,(List.dropLast_concat_getLast (by intro z; rw[z] at l1; exact absurd l1 (by decide))).symm⟩
  have eb:la1 R.reads=b:=by unfold la1; rw[er,List.getLast?_concat]; rfl
  rw[eb] at q
  obtain⟨kvs,k,ek,ev,ko,kg⟩:=(KK.same s1).get (al b (by rw[er]; simp))
  have hR1:=s1 _ _ hR
  rw[er,map_append] at hR1
  exact di ⟨_,rfl,_,rfl,x,c.Row,dx,_,_,rfl,s1 _ _ hx,T.cl_Row,T.na_Row_reads,rfl,_,rfl,rd,_,_,_,rfl,rfl,SqL.of hR1,oy _ _,kd,.ref k,rfl,ev ▸ DGet.k (k:=Sum.inr b) ek,q k _ s1 ko kg⟩
def lM (m:KM) (gs:List Str) (κ:KS):KM:=gs.foldl (fun m z=>putM m z κ) m
def pY (m:KM) (z:Str):Bool:=!(m z).isSome
def gt (m:KM) (κ:KS) (z:Str):Bool:=(m z).isSome&&!decide (k0 m z=κ)
def fg (w:Int) (m:KM) (r:RwD):ErrD ⊕ KM :=
 match r.reads.find? (pY m) with
 | some z=>.inl (.unk r.line z)
 | none=>match wr5 w m r with
  | some z=>.inl (.knd r.line z)
  | none=>match r.goals.find? (gt m (kO m r)) with
   | some z=>.inl (.knd r.line z)
   | none=>.inr (lM m r.goals (kO m r))
def Rais (c:Ad) (E:XK) (H:Hp):ErrD->Prop
 | .unk n z=>∀ d H',H d=none->H' d=some (.xd [("line",.int n),("name",.str z)])->Same H H'->E (.ref c.Unknown) (some d) H'
 | .knd n z=>∀ d H',H d=none->H' d=some (.xd [("line",.int n),("name",.str z)])->Same H H'->E (.ref c.WrongKind) (some d) H'
 | .twc n z=>∀ d H',H d=none->H' d=some (.xd [("line",.int n),("name",.str z)])->Same H H'->E (.ref c.Twice) (some d) H'
theorem Rais.back {c:Ad}{E:XK}{H H1:Hp}(s:Same H H1):∀ {e:ErrD},Rais c E H e->Rais c E H1 e
 | .unk _ _,h=>fun d H' hd e1 s1=>h d H' (none_of s hd) e1 (s.trans s1)
 | .knd _ _,h=>fun d H' hd e1 s1=>h d H' (none_of s hd) e1 (s.trans s1)
 | .twc _ _,h=>fun d H' hd e1 s1=>h d H' (none_of s hd) e1 (s.trans s1)
def spNR (c:Ad):Sp:=fun vs H Q E=>∃ (w:Int) (x kd:Addr) (R:RwD) (m:KM) (n:Nat),vs=[.int w,.ref x,.non,.ref kd]/\RwAt c H x R/\RowOk w R/\4<=w/\w<=32/\KD c w H kd m n/\n<=500 /\
 (∀ e,fg w m R=.inl e->Rais c E H e)/\(∀ m',fg w m R=.inr m'->∀ H',KD c w H' kd m' (n+2)->SameX kd H H'->Q .non H')
theorem oj {f:Addr}{fd:FuncData}(F:Fun K "need_row" "need_row" il f fd) (T:Txt K mg c) (H_wrongly_read:Has P w K mg base 3 "wrongly_read" ["width","row","kinds"] (spWR c)) (H_kind_put:Has P w K mg base 6 "kind_put" ["width","row","told","kinds"] (spKP c)) (H_same_kind:Has P w K mg base 2 "same_kind" ["one","other"] (pc c)) (X_Unknown:XMk P w K mg base 1 "Unknown" c.Unknown ["self","line","name"] ["line","name"]) (X_WrongKind:XMk P w K mg base 1 "WrongKind" c.WrongKind ["self","line","name"] ["line","name"]):FnOk P w K mg base (CX2 P w base) 7 f fd ["width","row","told","kinds"] (spNR c):=by
 refine Fun.okY F sc_need_row (fun vs H Q E h=>?_) (fun cdv A outer s H vs Q E hr h=>?_)
 ·obtain⟨w',x,kd,R,m,n,rfl,_⟩:=h
  rfl
 obtain⟨w',x,kd,R,m,n,rfl,⟨dx,g,rd,nm,way,hx,hg,hrd,hnm⟩,ok,w1,w2,KK,hn,qe,qv⟩:=h
 refine⟨_,(ah (d6 PassesOwn.leaving rfl (bi (aC (pv 1) rfl)) (aK (i:=4) sc_need_row.nd rfl (Or.inl rfl))
   (aq (aV (au (gO (bc hr)) (pv 4) (pv 3) (by with_unfolding_all rfl))
    (aq (dq X_Unknown (hr.mono (by lia)) rfl (aa (aC (pv 1) rfl) (aa (pv 4) ae))))
    aB)))
  (ah (aF (i:=5) sc_need_row.nd rfl (Or.inl rfl) (aM H_wrongly_read (hr.mono (by lia)) rfl (aa (pv 0) (aa (pv 1) (aa (pv 3) ae)))))
  (ah (aV (au jj (pv 5) aZ (ay _))
   (aq (dq X_WrongKind (hr.mono (by lia)) rfl (aa (aC (pv 1) rfl) (aa (pv 5) ae))))
   aB)
  (ah (aF (i:=6) sc_need_row.nd rfl (Or.inl rfl) (aM H_kind_put (hr.mono (by lia)) rfl (aa (pv 0) (aa (pv 1) (aa (pv 2) (aa (pv 3) ae))))))
  (ah (d6 PassesOwn.leaving rfl (bi (aC (pv 1) rfl)) (aK (i:=4) sc_need_row.nd rfl (Or.inl rfl))
   (aq (aV (PW.pt (cW (au (lB (bc hr)) (pv 4) (pv 3) (by with_unfolding_all rfl)) (cx (dY (dL (aM H_same_kind (hr.mono (by lia)) rfl (aa (fk (bc hr) (pv 3) (pv 4) (fun _ _=>rfl)) (aa (pv 6) ae))))))))
    (aq (dq X_WrongKind (hr.mono (by lia)) rfl (aa (aC (pv 1) rfl) (aa (pv 4) ae))))
    aB)))
  (aq (d6 PassesOwn.leaving rfl (bi (aC (pv 1) rfl)) (aK (i:=4) sc_need_row.nd rfl (Or.inl rfl))
   (aq (fM (bc hr) (pv 3) (pv 4) (pv 6) rfl))))))))),?_⟩
 obtain⟨kvs,ek,lk,kq⟩:=id KK
 refine⟨_,rfl,x,c.Row,dx,_,_,rfl,hx,T.cl_Row,T.na_Row_reads,rfl,rd,rfl,⟨_,SqL.of hrd⟩,bI (xs:=R.reads.map V.str) (fun i σ G=>(∃ y5:Option V,σ=[some (.int w'),some (.ref x),some .non,some (.ref kd),y5,none,none])/\H=G/\∀ z∈R.reads.take i,pY m z=false) ⟨⟨_,rfl⟩,rfl,fun z hz=>by simp at hz⟩ (fun _ _ _ _ q=>SqL.of (q.2.1 ▸ hrd)) ?_ ?_⟩
 ·rintro i v σ G hi ⟨⟨y5,rfl⟩,rfl,al⟩
  obtain⟨z,hz,rfl⟩:∃ z,R.reads[i]?=some z/\v=V.str z:=by
   rw[List.getElem?_map] at hi
   obtain⟨z,hz,e⟩:=Option.map_eq_some_iff.mp hi
   exact⟨z,hz,e.symm⟩
  refine⟨_,rfl,_,rfl,kd,_,rfl,DGet.k (k:=Sum.inr z) ek,_,rfl,?_⟩
  cases zm:m z with
  | some κ =>
   obtain⟨k',e1,_⟩:=(kq z).1 κ zm
   rw[e1]
   refine di ⟨⟨_,rfl⟩,rfl,fun u hu=>?_⟩
   rw[take_add_one,hz] at hu
   rcases List.mem_append.mp hu with hu | hu
   ·exact al u hu
   ·cases List.mem_singleton.mp hu; unfold pY; rw[zm]; rfl
  | none =>
   rw[(kq z).2 zm]
   refine gU ⟨_,rfl,x,c.Row,dx,_,_,rfl,hx,T.cl_Row,T.na_Row_line,rfl,_,rfl,rfl,(by show 2<=100; decide),fun d hd=>?_⟩
   have ef:fg w' m R=.inl (.unk R.line z):=by
    unfold fg
    rw[ic hz (by unfold pY; rw[zm]; rfl) al]
   exact qe _ ef d _ hd ac (aj hd _)
 rintro σ G ⟨⟨y5,rfl⟩,rfl,al⟩
 rw[length_map,take_length] at al
 have fn:R.reads.find? (pY m)=none:=List.find?_eq_none.mpr fun z hz=>by rw[al z hz]; decide
 have al':∀ z∈R.reads,(m z).isSome=true:=fun z hz=>by have:=al z hz; unfold pY at this; simpa using this
 unfold fg at qe qv
 rw[fn] at qe qv
 dsimp only at qe qv
 refine⟨_,rfl,_,rfl,_,rfl,w',x,dx,g,rd,nm,kd,way,R,m,n,rfl,hx,hrd,hnm,KK,ok,w1,w2,al',fun H1 s1=>?_⟩
 cases e5:wr5 w' m R with
 | some z =>
  rw[e5] at qe
  refine⟨_,rfl,rfl,_,rfl,iteN (by nofun) ⟨_,rfl,x,c.Row,dx,_,_,rfl,s1 _ _ hx,T.cl_Row,T.na_Row_line,rfl,_,rfl,rfl,(by show 2<=100; decide),fun d hd=>?_⟩⟩
  exact qe _ rfl d _ (none_of s1 hd) ac (s1.trans (aj hd _))
 | none =>
  rw[e5] at qe qv
  dsimp only at qe qv
  refine⟨_,rfl,rfl,_,rfl,eN rfl ?_⟩
  refine⟨_,rfl,_,rfl,_,rfl,_,rfl,w',x,dx,g,rd,nm,kd,way,R,m,n,rfl,s1 _ _ hx,s1 _ _ hrd,KK.same s1,ok,w1,w2,al',fun k H2 s2 ko kg=>?_⟩
  generalize kO m R=κ at qe qv ko kg
  have s12:=s1.trans s2
  have hx2:=s12 _ _ hx
  have hg2:=s12 _ _ hg
  have K2:=KK.same s12
  obtain⟨kvs2,ek2,lk2,kq2⟩:=id K2
  refine⟨_,rfl,x,c.Row,dx,_,_,rfl,hx2,T.cl_Row,T.na_Row_goals,rfl,g,rfl,⟨_,SqL.of hg2⟩,bI (xs:=R.goals.map V.str) (fun i σ G=>(∃ y5:Option V,σ=[some (.int w'),some (.ref x),some .non,some (.ref kd),y5,some .non,some (.ref k)])/\H2=G/\∀ z∈R.goals.take i,gt m κ z=false) ⟨⟨_,rfl⟩,rfl,fun z hz=>by simp at hz⟩ (fun _ _ _ _ q=>SqL.of (q.2.1 ▸ hg2)) ?_ ?_⟩
  ·rintro i v σ G hi ⟨⟨y5,rfl⟩,rfl,cl⟩
   obtain⟨z,hz,rfl⟩:∃ z,R.goals[i]?=some z/\v=V.str z:=by
    rw[List.getElem?_map] at hi
    obtain⟨z,hz,e⟩:=Option.map_eq_some_iff.mp hi
    exact⟨z,hz,e.symm⟩
   refine⟨_,rfl,_,rfl,kd,_,rfl,DGet.k (k:=Sum.inr z) ek2,_,rfl,?_⟩
   have nx:gt m κ z=false->∀ u∈R.goals.take (i+1),gt m κ u=false:=fun ec u hu=>by
    rw[take_add_one,hz] at hu
    rcases List.mem_append.mp hu with hu | hu
    ·exact cl u hu
    ·cases List.mem_singleton.mp hu; exact ec
   cases zm:m z with
   | some μ =>
    obtain⟨k',e1,p1,g1⟩:=(kq2 z).1 μ zm
    have ez:k0 m z=μ:=by unfold k0; rw[zm]; rfl
    rw[e1]
    refine gU ⟨_,rfl,_,rfl,kd,_,rfl,e1 ▸ DGet.k (k:=Sum.inr z) ek2,_,rfl,k',k,w',μ,κ,rfl,p1,ko,g1.1,kg.1,_,rfl,kP (fun e=>?_) (fun e=>?_)⟩
    ·refine⟨_,rfl,x,c.Row,dx,_,_,rfl,hx2,T.cl_Row,T.na_Row_line,rfl,_,rfl,rfl,(by show 2<=100; decide),fun d hd=>?_⟩
     rw[ic hz (by unfold gt; rw[zm,ez,decide_eq_false e]; rfl) cl] at qe
     exact qe _ rfl d _ (none_of s12 hd) ac (s12.trans (aj hd _))
    ·exact⟨⟨_,rfl⟩,rfl,nx (by unfold gt; rw[zm,ez,decide_eq_true e]; rfl)⟩
   | none =>
    rw[(kq2 z).2 zm]
    exact di ⟨⟨_,rfl⟩,rfl,nx (by unfold gt; rw[zm]; rfl)⟩
  rintro σ G ⟨⟨y5,rfl⟩,rfl,cl⟩
  rw[length_map,take_length] at cl
  rw[List.find?_eq_none.mpr fun z hz=>by rw[cl z hz]; decide] at qv
  refine⟨_,rfl,x,c.Row,dx,_,_,rfl,hx2,T.cl_Row,T.na_Row_goals,rfl,g,rfl,⟨_,SqL.of hg2⟩,bI (xs:=R.goals.map V.str) (fun i σ G=>(∃ y5:Option V,σ=[some (.int w'),some (.ref x),some .non,some (.ref kd),y5,some .non,some (.ref k)])/\KD c w' G kd (lM m (R.goals.take i) κ) (n+i)/\SameX kd H2 G) ⟨⟨_,rfl⟩,K2,fun _ _ _ e=>e⟩ (fun _ _ _ _ q=>SqL.of (q.2.2 _ _ (fun z=>by rw[z,ek2] at hg2; cases hg2) hg2)) ?_ ?_⟩
  ·rintro i v σ G hi ⟨⟨y5,rfl⟩,KG',sG⟩
   obtain⟨z,hz,rfl⟩:∃ z,R.goals[i]?=some z/\v=V.str z:=by
    rw[List.getElem?_map] at hi
    obtain⟨z,hz,e⟩:=Option.map_eq_some_iff.mp hi
    exact⟨z,hz,e.symm⟩
   have li:i<R.goals.length:=(List.getElem?_eq_some_iff.mp hz).1
   have lg:=ok.g2
   obtain⟨H3,dp,K3,s3⟩:=KG'.put (K2.kindAt sG ko) kg (by lia) z
   refine⟨_,rfl,_,rfl,_,rfl,kd,H3,rfl,dp,⟨_,rfl⟩,?_,sG.trans s3⟩
   rw[take_add_one,hz]
   unfold lM at K3 ⊢
   rw[List.foldl_append]
   exact K3
  ·rintro σ G ⟨⟨y5,rfl⟩,KG',sG⟩
   rw[length_map,take_length] at KG'
   have lg:=ok.g2
   exact qv _ rfl G (KG'.mono (by lia)) fun b u nb e=>sG b u nb (s12 _ _ e)
def jF (m:KM):List Str->List (Int×Str)->Option ErrD
 | _,[]=>none
 | met,y::r=>if (m y.2).isSome=false then some (.unk y.1 y.2) else if y.2∈met then some (.twc y.1 y.2) else jF m (met++[y.2]) r
def spNO (c:Ad):Sp:=fun vs H Q E=>∃ (w:Int) (lo kd:Addr) (ps:List Addr) (os:List (Int×Str)) (m:KM) (n:Nat),vs=[.ref lo,.ref kd]/\H lo=some (.lst (ps.map V.ref))/\Ls OuAt H ps os/\os.length<=200/\KD c w H kd m n /\
 (∀ e,jF m [] os=some e->Rais c E H e)/\(jF m [] os=none->∀ H',Same H H'->Q .non H')
def metK (ms:List Str):List (Key×V):=ms.map fun z=>((Sum.inr z:Key),V.bl true)
theorem valV_met:∀ (ms:List Str) (z:Str),eV (metK ms) (Sum.inr z:Key)=if z∈ms then some (.bl true) else none:=fun ms z=>by
 unfold eV metK
 rw[List.find?_map]
 by_cases h:z∈ms
 ·rw[if_pos h]
  cases e:ms.find? ((fun kv:Key×V=>decide (kv.1=Sum.inr z)) ∘ fun z=>((Sum.inr z:Key),V.bl true)) with
  | some y=>rfl
  | none=>exact absurd (List.find?_eq_none.mp e z h) (by simp)
 ·rw[if_neg h,List.find?_eq_none.mpr]
  ·rfl
  ·intro y hy
   simp
   intro e
   subst e
   exact h hy
theorem mf {f:Addr}{fd:FuncData}(F:Fun K "need_outs" "need_outs" fe f fd) (T:Txt K mg c)  (X_Unknown:XMk P w K mg base 1 "Unknown" c.Unknown ["self","line","name"] ["line","name"]) (X_Twice:XMk P w K mg base 1 "Twice" c.Twice ["self","line","name"] ["line","name"]):FnOk P w K mg base (CX2 P w base) 3 f fd ["outs","kinds"] (spNO c):=by
 refine Fun.okY F sc_need_outs (fun vs H Q E h=>?_) (fun cdv A outer s H vs Q E hr h=>?_)
 ·obtain⟨w',lo,kd,ps,os,m,n,rfl,_⟩:=h
  rfl
 obtain⟨w',lo,kd,ps,os,m,n,rfl,hl,ls,ln,KK,qe,qv⟩:=h
 refine⟨_,(ah (aF (i:=2) sc_need_outs.nd rfl (Or.inl rfl) iJ)
  (aq (d6 PassesOwn.leaving rfl (bi (pv 0)) (aK (i:=3) sc_need_outs.nd rfl (Or.inl rfl))
   (ah (aV (au (gO (bc hr)) (aH bj (pv 3) ai (fun _ _=>rfl)) (pv 1) (by with_unfolding_all rfl))
    (aq (dq X_Unknown (hr.mono (by lia)) rfl (aa (aH bj (pv 3) ai (fun _ _=>rfl)) (aa (aH bj (pv 3) ai (fun _ _=>rfl)) ae))))
    aB)
   (ah (aV (au (lB (bc hr)) (aH bj (pv 3) ai (fun _ _=>rfl)) (pv 2) (by with_unfolding_all rfl))
    (aq (dq X_Twice (hr.mono (by lia)) rfl (aa (aH bj (pv 3) ai (fun _ _=>rfl)) (aa (aH bj (pv 3) ai (fun _ _=>rfl)) ae))))
    aB)
   (aq (fM (bc hr) (pv 2) (aH bj (pv 3) ai (fun _ _=>rfl)) fO rfl))))))),?_⟩
 intro M hM
 have s1:=aj hM (.dK [])
 have mM:upd H M (.dK []) M=some (.dK []):=ac
 have nM:∀ {b u},H b=some u->b≠M:=fun e z=>by rw[z,hM] at e; cases e
 refine⟨_,rfl,lo,rfl,⟨_,SqL.of (s1 _ _ hl)⟩,bI (xs:=ps.map V.ref) (fun i σ G=>∃ met,(∃ y:Option V,σ=[some (.ref lo),some (.ref kd),some (.ref M),y])/\SameX M H G/\G M=some (.dK (metK met))/\met.length<=i/\jF m [] os=jF m met (os.drop i)) ⟨[],⟨_,rfl⟩,newX hM,mM,zero_le _,by rw[drop_zero]⟩ (fun _ _ _ _ q=>by obtain⟨met,_,sg,_⟩:=q; exact SqL.of (sg _ _ (nM hl) hl)) ?_ ?_⟩
 ·rintro i v σ G hi ⟨met,⟨y,rfl⟩,sG,g0,lm,wk⟩
  obtain⟨p,hp,rfl⟩:∃ p,ps[i]?=some p/\v=V.ref p:=by
   rw[List.getElem?_map] at hi
   obtain⟨z,hz,e⟩:=Option.map_eq_some_iff.mp hi
   exact⟨z,hz,e.symm⟩
  have li:=(List.getElem?_eq_some_iff.mp hp).1
  have li':i<os.length:=by rw[<- ls.1]; exact li
  obtain⟨⟨line,z⟩,hu⟩:∃ u,os[i]?=some u:=⟨_,List.getElem?_eq_getElem li'⟩
  have dr:os.drop i=(line,z)::os.drop (i+1):=by
   rw[drop_eq_getElem_cons li']
   congr 1
   rw[List.getElem?_eq_getElem li'] at hu
   injection hu
  rw[dr,jF] at wk
  obtain⟨kvs,ek,lk,kq⟩:=id KK
  have hp0:=ls.2 i p _ hp hu
  have hp1:=sG _ _ (nM hp0) hp0
  have ek1:=sG _ _ (nM ek) ek
  have sH:Same H G:=fun b u e=>sG b u (nM e) e
  refine⟨_,rfl,p,_,_,_,rfl,rfl,SqT.of hp1,rfl,_,rfl,kd,_,rfl,DGet.k (k:=Sum.inr z) ek1,_,rfl,?_⟩
  cases zm:m z with
  | none =>
   rw[(kq z).2 zm]
   rw[if_pos (by show (m z).isSome=false; rw[zm]; rfl)] at wk
   refine gU ⟨_,rfl,p,_,_,_,rfl,rfl,SqT.of hp1,rfl,_,rfl,p,_,_,_,rfl,rfl,SqT.of hp1,rfl,rfl,(by show 2<=100; decide),fun d hd=>?_⟩
   exact qe _ wk d _ (none_of sH hd) ac (sH.trans (aj hd _))
  | some κ =>
   obtain⟨k',e1,_⟩:=(kq z).1 κ zm
   rw[e1]
   rw[if_neg (fun h=>by have h:(m z).isSome=false:=h; rw[zm] at h; cases h)] at wk
   refine di ?_
   refine⟨_,rfl,p,_,_,_,rfl,rfl,SqT.of hp1,rfl,_,rfl,M,_,rfl,DGet.k (k:=Sum.inr z) g0,_,rfl,?_⟩
   rw[valV_met]
   by_cases zi:z∈met
   ·rw[if_pos zi] at wk ⊢
    refine gU ⟨_,rfl,p,_,_,_,rfl,rfl,SqT.of hp1,rfl,_,rfl,p,_,_,_,rfl,rfl,SqT.of hp1,rfl,rfl,(by show 2<=100; decide),fun d hd=>?_⟩
    exact qe _ wk d _ (none_of sH hd) ac (sH.trans (aj hd _))
   ·rw[if_neg zi] at wk ⊢
    refine di ⟨_,rfl,_,rfl,p,_,_,_,rfl,rfl,SqT.of hp1,rfl,M,_,rfl,DPut.k (k:=Sum.inr z) g0 (by unfold metK; rw[length_map]; exact lt_of_le_of_lt (show met.length<=200 by lia) (by decide)),met++[z],⟨_,rfl⟩,?_,?_,?_,wk⟩
    ·exact fun b u nb e=>by rw[af nb]; exact sG b u nb e
    ·rw[ac]
     unfold metK
     rw[nY]
     unfold pE
     rw[if_neg zi]
    ·rw[length_append]; show met.length+1<=i+1; lia
 ·rintro σ G ⟨met,⟨y,rfl⟩,sG,_,_,wk⟩
  refine qv ?_ G fun b u e=>sG b u (nM e) e
  rw[wk,drop_eq_nil_of_le (by rw[length_map,ls.1]; exact le_refl _)]
  rfl
def insD:KM->List (Int×Str×KS)->ErrD ⊕ KM
 | m,[]=>.inr m
 | m,y::r=>if (m y.2.1).isSome=true then .inl (.twc y.1 y.2.1) else insD (putM m y.2.1 y.2.2) r
def jI (w:Int):KM->List RwD->ErrD ⊕ KM
 | m,[]=>.inr m
 | m,y::r=>match fg w m y with
  | .inl e=>.inl e
  | .inr m'=>jI w m' r
def fR (w:Int) (ins:List (Int×Str×KS)) (prs:List RwD) (outs:List (Int×Str)):Option ErrD :=
 match insD (fun _=>none) ins with
 | .inl e=>some e
 | .inr m=>match jI w m prs with
  | .inl e=>some e
  | .inr m'=>jF m' [] outs
def spSW (c:Ad):Sp:=fun vs H Q E=>∃ (x:Addr) (S:DS) (Li Lr Lo Lp' Ll M:Addr) (ys:List Lp),vs=[.ref x]/\DrAt c H x S Li Lr Lo Lp' Ll M ys/\Bd S 59/\(∀ y∈S.ins,KG S.w y.2.2)/\(∀ y∈S.prs,RowOk S.w y) /\
 (∀ e,fR S.w S.ins S.prs S.outs=some e->Rais c E H e)/\(fR S.w S.ins S.prs S.outs=none->∀ kd H',H kd=none->(∃ kvs,H' kd=some (.dK kvs))->Same H H'->Q (.ref kd) H')
theorem jC {f:Addr}{fd:FuncData}(F:Fun K "second_walk" "second_walk" dC f fd) (T:Txt K mg c) (H_need_outs:HasY P w K mg base 3 "need_outs" ["outs","kinds"] (spNO c)) (H_need_row:HasY P w K mg base 7 "need_row" ["width","row","told","kinds"] (spNR c)) (X_Twice:XMk P w K mg base 1 "Twice" c.Twice ["self","line","name"] ["line","name"]):FnOk P w K mg base (CX2 P w base) 8 f fd ["draft"] (spSW c):=by
 refine Fun.okY F sc_second_walk (fun vs H Q E h=>?_) (fun cdv A outer s H vs Q E hr h=>?_)
 ·obtain⟨x,S,Li,Lr,Lo,Lp',Ll,M,ys,rfl,_⟩:=h
  rfl
 obtain⟨x,S,Li,Lr,Lo,Lp',Ll,M,ys,rfl,D,bd,ki,rs,qe,qv⟩:=h
 refine⟨_,(ah (aF (i:=1) sc_second_walk.nd rfl (Or.inl rfl) iJ)
  (ah (d6 PassesOwn.leaving rfl (bi (aC (pv 0) rfl)) (aK (i:=2) sc_second_walk.nd rfl (Or.inl rfl))
   (ah (aV (au (lB (bc hr)) (aH bj (pv 2) ai (fun _ _=>rfl)) (pv 1) (by with_unfolding_all rfl))
    (aq (dq X_Twice (hr.mono (by lia)) rfl (aa (aH bj (pv 2) ai (fun _ _=>rfl)) (aa (aH bj (pv 2) ai (fun _ _=>rfl)) ae))))
    aB)
   (aq (fM (bc hr) (pv 1) (aH bj (pv 2) ai (fun _ _=>rfl)) (aH bj (pv 2) ai (fun _ _=>rfl)) rfl))))
  (ah (d6 PassesOwn.leaving rfl (bi (aC (pv 0) rfl)) (aK (i:=3) sc_second_walk.nd rfl (Or.inl rfl))
   (aq (bf (mW H_need_row (hr.mono (by lia)) rfl (aa (aC (pv 0) rfl) (aa (aH bj (pv 3) ai (fun _ _=>rfl)) (aa (aH bj (pv 3) ai (fun _ _=>rfl)) (aa (pv 1) ae))))))))
  (ah (bf (mW H_need_outs (hr.mono (by lia)) rfl (aa (aC (pv 0) rfl) (aa (pv 1) ae))))
  (aq (aA (pv 1))))))),?_⟩
 intro kd hk
 have s1:=aj hk (.dK [])
 have k0':KD c S.w (upd H kd (.dK [])) kd (fun _=>none) 0:=⟨[],ac,le_refl _,fun z=>⟨(fun κ e=>by cases e),fun _=>rfl⟩⟩
 have nk:∀ {b u},H b=some u->b≠kd:=fun e z=>by rw[z,hk] at e; cases e
 have sX:∀ {G},SameX kd H G->Same H G:=fun s b o q=>s b o (nk q) q
 obtain⟨dx,hx⟩:=D.hx
 obtain⟨p1,a1,b1⟩:=D.ins
 unfold fR at qe qv
 refine⟨_,rfl,x,c.Draft,dx,_,_,rfl,s1 _ _ hx,T.cl_Draft,T.na_Draft_inputs,rfl,Li,rfl,⟨_,SqL.of (s1 _ _ a1)⟩,bI (xs:=p1.map V.ref) (fun i σ G=>∃ m,(∃ y:Option V,σ=[some (.ref x),some (.ref kd),y,none])/\SameX kd H G/\KD c S.w G kd m i/\insD (fun _=>none) S.ins=insD m (S.ins.drop i)) ⟨_,⟨_,rfl⟩,newX hk,k0',by rw[drop_zero]⟩ (fun _ _ _ _ q=>by obtain⟨m,_,sg,_⟩:=q; exact SqL.of (sg _ _ (nk a1) a1)) ?_ ?_⟩
 ·rintro i v σ G hi ⟨m,⟨y,rfl⟩,sG,KG',wk⟩
  obtain⟨pa,hpa,rfl⟩:∃ pa,p1[i]?=some pa/\v=V.ref pa:=by
   rw[List.getElem?_map] at hi
   obtain⟨z,hz,e⟩:=Option.map_eq_some_iff.mp hi
   exact⟨z,hz,e.symm⟩
  have li:=(List.getElem?_eq_some_iff.mp hpa).1
  have li':i<S.ins.length:=by rw[<- b1.1]; exact li
  obtain⟨u,hu⟩:∃ u,S.ins[i]?=some u:=⟨_,List.getElem?_eq_getElem li'⟩
  have dr:S.ins.drop i=u::S.ins.drop (i+1):=by
   rw[drop_eq_getElem_cons li']
   congr 1
   rw[List.getElem?_eq_getElem li'] at hu
   injection hu
  rw[dr,insD] at wk
  obtain⟨k,e1,dk,pk⟩:=b1.2 i pa u hpa hu
  have e1':=bB _ _ e1
  have pk':=bB _ _ pk
  have e2:=sG _ _ (nk e1') e1'
  have pkG:KO c G k u.2.2.1 S.w u.2.2.2:=⟨dk,sG _ _ (nk pk') pk'⟩
  obtain⟨kvs,ek,lk,kq⟩:=id KG'
  have b59:=bd.ins
  refine⟨_,rfl,pa,_,_,_,rfl,rfl,SqT.of e2,rfl,_,rfl,kd,_,rfl,DGet.k (k:=Sum.inr u.2.1) ek,_,rfl,?_⟩
  cases zm:m u.2.1 with
  | some κ =>
   obtain⟨k',e3,_⟩:=(kq u.2.1).1 κ zm
   rw[e3]
   rw[if_pos (by rw[zm]; rfl)] at wk
   rw[wk] at qe
   have sH:=sX sG
   refine gU ⟨_,rfl,pa,_,_,_,rfl,rfl,SqT.of e2,rfl,_,rfl,pa,_,_,_,rfl,rfl,SqT.of e2,rfl,rfl,(by show 2<=100; decide),fun d hd=>?_⟩
   exact qe _ rfl d _ (none_of sH hd) ac (sH.trans (aj hd _))
  | none =>
   obtain⟨H3,dp,K3,s3⟩:=KG'.put pkG (ki u (mem_of_getElem? hu)) (by lia) u.2.1
   rw[(kq u.2.1).2 zm]
   rw[if_neg (by rw[zm]; decide)] at wk
   exact di ⟨_,rfl,pa,_,_,_,rfl,rfl,SqT.of e2,rfl,_,rfl,_,rfl,pa,_,_,_,rfl,rfl,SqT.of e2,rfl,kd,H3,rfl,dp,_,⟨_,rfl⟩,sG.trans s3,K3,wk⟩
 rintro σ G ⟨m1,⟨y,rfl⟩,sG,KG',wk⟩
 rw[length_map,b1.1] at KG'
 have wk':insD (fun _=>none) S.ins=.inr m1:=by
  rw[wk,drop_eq_nil_of_le (by rw[length_map,b1.1]; exact le_refl _)]
  rfl
 rw[wk'] at qe qv
 dsimp only at qe qv
 have b59:=bd.ins
 have bp:=bd.prs
 obtain⟨p3,a3,b3⟩:=D.prs
 refine⟨_,rfl,x,c.Draft,dx,_,_,rfl,sG _ _ (nk hx) hx,T.cl_Draft,T.na_Draft_row_pairs,rfl,Lp',rfl,⟨_,SqL.of (sG _ _ (nk a3) a3)⟩,bI (xs:=p3.map V.ref) (fun i σ G=>∃ m,(∃ y z:Option V,σ=[some (.ref x),some (.ref kd),y,z])/\SameX kd H G/\KD c S.w G kd m (59+2*i)/\jI S.w m1 S.prs=jI S.w m (S.prs.drop i)) ⟨_,⟨_,_,rfl⟩,sG,KG'.mono (by lia),by rw[drop_zero]⟩ (fun _ _ _ _ q=>by obtain⟨m,_,sg,_⟩:=q; exact SqL.of (sg _ _ (nk a3) a3)) ?_ ?_⟩
 ·rintro i v σ G hi ⟨m,⟨y,z,rfl⟩,sG,KG',wk⟩
  obtain⟨pa,hpa,rfl⟩:∃ pa,p3[i]?=some pa/\v=V.ref pa:=by
   rw[List.getElem?_map] at hi
   obtain⟨z,hz,e⟩:=Option.map_eq_some_iff.mp hi
   exact⟨z,hz,e.symm⟩
  have li:=(List.getElem?_eq_some_iff.mp hpa).1
  have li':i<S.prs.length:=by rw[<- b3.1]; exact li
  obtain⟨u,hu⟩:∃ u,S.prs[i]?=some u:=⟨_,List.getElem?_eq_getElem li'⟩
  have dr:S.prs.drop i=u::S.prs.drop (i+1):=by
   rw[drop_eq_getElem_cons li']
   congr 1
   rw[List.getElem?_eq_getElem li'] at hu
   injection hu
  obtain⟨rx,e1,rw1⟩:=b3.2 i pa u hpa hu
  have sGk:Same (cM H (bg x Li Lr Lo Lp' Ll M ys)) G:=fun b o e=>sG _ _ (nk (bB _ _ e)) (bB _ _ e)
  have e2:=sGk _ _ e1
  rw[dr,jI] at wk
  refine⟨_,rfl,x,c.Draft,dx,_,_,rfl,sG _ _ (nk hx) hx,T.cl_Draft,T.na_Draft_width,rfl,_,rfl,pa,_,_,_,rfl,rfl,SqT.of e2,rfl,_,rfl,pa,_,_,_,rfl,rfl,SqT.of e2,rfl,_,rfl,S.w,rx,kd,u,m,59+2*i,rfl,rw1.same sGk,rs u (mem_of_getElem? hu),bd.w1,bd.w2,KG',by lia,fun e he=>?_,fun m' he H' K' s'=>?_⟩
  ·rw[he] at wk
   rw[wk] at qe
   exact(qe e rfl).back (sX sG)
  ·rw[he] at wk
   exact⟨m',⟨_,_,rfl⟩,sG.trans s',K'.mono (by lia),wk⟩
 rintro σ G ⟨m,⟨y,z,rfl⟩,sG,KG',wk⟩
 have sH:Same H G:=sX sG
 have wk':jI S.w m1 S.prs=.inr m:=by
  rw[wk,drop_eq_nil_of_le (by rw[length_map,b3.1]; exact le_refl _)]
  rfl
 rw[wk'] at qe qv
 dsimp only at qe qv
 obtain⟨po,ao,bo⟩:=D.outs
 have bo':Ls OuAt G po S.outs:=bo.mono fun _ _ q=>sH _ _ (bB _ _ q)
 refine⟨_,rfl,x,c.Draft,dx,_,_,rfl,sH _ _ hx,T.cl_Draft,T.na_Draft_outs,rfl,_,rfl,S.w,Lo,kd,po,S.outs,m,_,rfl,sH _ _ ao,bo',Nat.le_trans bd.outs (by decide),KG',fun e he=>(qe e he).back sH,fun he H' s'=>?_⟩
 obtain⟨kvs,ek,_⟩:=KG'
 exact⟨_,rfl,qv he kd H' hk ⟨kvs,s' _ _ ek⟩ (sH.trans s')⟩
theorem kit_ofF {K:Frag}{C D:Addr}(h1:isClsIn K D=true) (h2:typeIn K (.ref D)=some (.type "type")) (h3:mroIn K C (.ref D)=some false) (h4:mroIn K C (.ref C)=some true):kitOne K (.ref C) (.ref D)=some false:=by
 unfold kitOne
 split
 ·rename_i z
  rw[beq_iff_eq] at z
  rw[<- z,h4] at h3
  cases h3
 ·unfold PySem.W.kitCls
  have e:((PySem.W.clsIn K D).isSome&&typeIn K (.ref D) == some (.type "type"))=true:=by
   rw[h2]
   have h1':(PySem.W.clsIn K D).isSome=true:=h1
   rw[h1',Bool.true_and]
   exact beq_self_eq_true _
  show (if ((PySem.W.clsIn K D).isSome&&typeIn K (.ref D) == some (.type "type"))=true then PySem.W.subIn K (.ref C) (.ref D) else none)=_
  rw[if_pos e]
  exact h3
def spN (sp:Nat->Sp):Nat->Sp
 | 0=>fun _ _ _ _=>False
 | d+1=>sp (d+1)
theorem FnOk.void {P:Program}{w:World}{K:Frag}{mg:Str->Option Value}{base:Heap}{CX:CXT}{k:Nat}{f:Addr}{fd:FuncData}{ps:List Str}:FnOk P w K mg base CX k f fd ps (fun _ _ _ _=>False):=⟨fun _ _ _ _ h=>h.elim,fun _ _ _ _ _ _ _ _ _ _ _ _ _ h=>h.elim⟩
theorem hasMono {P:Program}{w:World}{K:Frag}{mg:Str->Option Value}{base:Heap}{j k:Nat}{x:Str}{ps:List Str}{sp:Sp}(h:Has P w K mg base j x ps sp) (i:j<=k):Has P w K mg base k x ps sp:=let ⟨f,fd,a,b,d,e⟩:=h.ex; ⟨f,fd,a.mono i,b,d,e⟩
theorem lT {X:Cx}{K:Frag}(h:X.K=K):fD X (.builtin "isinstance") (fun xs H Q=>∃ x c t cv b,xs=[x,c]/\clsV c=some cv/\TyOf K H x t/\kitOne K t cv=some b/\Q (.bl b) H):=by
 subst h
 exact dA
theorem qj {X:Cx}{K:Frag}{e:Expr}{f:Str}{pos:Pos}{ta:TE}(hK:X.K=K) (he:PE X e ta) (hb:attributeBase e f X.env (eval e X.env)=eval e X.env):PE X (.Attribute e f pos) (tFld K ta f):=by
 subst hK
 exact aC he hb
def spCR (c:Ad) (d:Nat):Sp:=fun vs H Q _=>∃ (l:Addr) (ps:List Addr) (ns:List Int),vs=[.ref l]/\H l=some (.lst (ps.map V.ref))/\Ls (ItAt c (d-1)) H ps ns/\ns.length<=200/\∀ H',Same H H'->Q (.int ns.sum) H'
theorem Txt.tyRow {K:Frag}{mg:Str->Option Value}{c:Ad}(T:Txt K mg c) {H:Hp}{x dx:Addr}{fs:List (Str×V)}(e:H x=some (.ins c.Row dx fs)):TyOf K H (.ref x) (.ref c.Row):=TyOf.ins e T.cl_Row T.kf_fcA T.kf_og T.kf_ot T.kf_moA
theorem Txt.tyRep {K:Frag}{mg:Str->Option Value}{c:Ad}(T:Txt K mg c) {H:Hp}{x dx:Addr}{fs:List (Str×V)}(e:H x=some (.ins c.Repeat dx fs)):TyOf K H (.ref x) (.ref c.Repeat):=TyOf.ins e T.cl_Repeat T.kf_fcB T.kf_og T.kf_ot T.kf_moB
theorem take_sum {ns:List Int}{j:Nat}{n:Int}(h:ns[j]?=some n):ns.take (j+1)=ns.take j++[n]:=by rw[take_add_one,h]; rfl
theorem kG {f:Addr}{fd:FuncData}(F:Fun K "count_rows" "count_rows" eE f fd) (T:Txt K mg c)  {d:Nat}(H_count_rows:Has P w K mg base (d+1) "count_rows" ["rows"] (spN (spCR c) d)):FnOk P w K mg base CX0 (d+2) f fd ["rows"] (spCR c (d+1)):=by
 refine F.ok j4 (fun vs H Q E h=>?_) (fun cdv A outer s H vs Q E hr h=>?_)
 ·obtain⟨l,ps,ns,rfl,_⟩:=h
  rfl
 obtain⟨l,ps,ns,rfl,hl,ls,ln,q⟩:=h
 refine⟨_,(aq (aA (aG (call_sum rfl) rfl T.n_sum boot_sum (aa (eK rfl (by first | rfl | with_unfolding_all rfl) (by decide +kernel) rfl (by decide +kernel) rfl (bi (pv 0)) (fun C s2 H2 fp=>(cB (dL (aG (lT (K:=K) rfl) rfl T.n_isinstance boot_isinstance (aa (pv 0) (aa (jL rfl T.g_Repeat) ae)))) (aJ fY (qj (K:=K) rfl (pv 0) rfl) (aM H_count_rows (hr.mono (by lia)) rfl (aa (qj (K:=K) rfl (pv 0) rfl) ae))) ai))) ae)))),?_⟩
 refine⟨_,rfl,l,rfl,⟨_,SqL.of hl⟩,fun D hD=>?_⟩
 refine cF (xs:=ps.map V.ref) (fun j HJ=>HJ D=some (.lst ((ns.take j).map V.int))/\Same H HJ) ⟨ac,aj hD _⟩ (fun _ _ _ q=>SqL.of (q.2 _ _ hl)) ?_ ?_
 ·rintro j v HJ hv ⟨hj,sJ⟩
  obtain⟨p,hp,rfl⟩:∃ p,ps[j]?=some p/\v=V.ref p:=by
   rw[List.getElem?_map] at hv
   obtain⟨z,hz,e⟩:=Option.map_eq_some_iff.mp hv
   exact⟨z,hz,e.symm⟩
  have jl:=(List.getElem?_eq_some_iff.mp hp).1
  have le:=ls.1
  obtain⟨n,hn⟩:∃ n,ns[j]?=some n:=⟨_,List.getElem?_eq_getElem (by lia)⟩
  have it:=(ls.2 j p n hp hn).same sJ
  have L300:(300:Nat)<=sizeLine:=by decide
  have fin:∀ G:Hp,Same HJ G->∃ zs,G D=some (.lst zs)/\zs.length<sizeLine/\∃ m',m'<(ps.map V.ref).length-j/\(m'=(ps.map V.ref).length-(j+1)/\j+1<=(ps.map V.ref).length/\(upd G D (.lst (zs++[V.int n])) D=some (.lst ((ns.take (j+1)).map V.int))/\Same H (upd G D (.lst (zs++[V.int n]))))):=fun G s=>by
   refine⟨_,s _ _ hj,by rw[length_map,length_take]; lia,_,(show (ps.map V.ref).length-(j+1)<_ by rw[length_map]; lia),rfl,(by rw[length_map]; lia),?_,Same.updL (sJ.trans s) hD⟩
   rw[ac,take_sum hn,map_append]
   rfl
  have row:(n=1/\∃ dx fs,HJ p=some (.ins c.Row dx fs))\/∃ d',d=d'+1/\∃ (dx:Addr) (line t:Int) (l:Addr) (ps:List Addr) (ns:List Int),HJ p=some (.ins c.Repeat dx (pfl line t l))/\HJ l=some (.lst (ps.map V.ref))/\ps.length=ns.length/\(∀ (i:Nat) p m,ps[i]?=some p->ns[i]?=some m->ItAt c d' HJ p m)/\n=t*ns.sum/\0<=t/\t<=100/\ns.length<=200:=by
   cases d with
   | zero=>exact .inl it
   | succ d' =>
    rcases it with h | h
    ·exact .inl h
    ·exact .inr ⟨d',rfl,h⟩
  rcases row with ⟨rfl,dx,fs,e⟩ | ⟨d',rfl,dx,line,t,l2,ps2,ns2,e1,e2,e3,e4,rfl,t1,t2,t3⟩
  ·refine⟨_,rfl,_,_,_,_,_,rfl,rfl,T.tyRow e,kit_ofF T.kf_if T.kf_tf T.kf_mAB T.kf_mAA,_,rfl,di ?_⟩
   exact fin HJ fun _ _ z=>z
  ·refine⟨_,rfl,_,_,_,_,_,rfl,rfl,T.tyRep e1,kit_of T.kf_if T.kf_tf T.kf_mBB,_,rfl,gU ?_⟩
   refine⟨_,rfl,p,c.Repeat,dx,_,_,rfl,e1,T.cl_Repeat,T.na_Repeat_times,rfl,_,rfl,p,c.Repeat,dx,_,_,rfl,e1,T.cl_Repeat,T.na_Repeat_rows,rfl,l2,ps2,ns2,rfl,e2,⟨e3,e4⟩,t3,fun G s=>?_⟩
   exact⟨_,_,rfl,rfl,.inl ⟨by lia,by lia⟩,fin G s⟩
 ·rintro HJ ⟨hj,sJ⟩
  rw[length_map,ls.1,take_length] at hj
  exact⟨D,ns,rfl,SqL.of hj,q HJ sJ⟩
def gfl (w:Int) (li Lr lo kd:Addr) (z:Str):List (Str×V):=[("width",.int w),("inputs",.ref li),("rows",.ref Lr),("outs",.ref lo),("kinds",.ref kd),("source",.str z)]
def spPrI (c:Ad):Sp:=fun vs H Q _=>∃ (g gx x:Addr) (S:DS) (Li Lr Lo Lp' Ll M:Addr) (ys:List Lp) (kd:Addr) (z:Str),vs=[.ref g,.ref x,.ref kd,.str z]/\H g=some (.ins c.Program gx [])/\DrAt c H x S Li Lr Lo Lp' Ll M ys/\S.ins.length<=200/\S.outs.length<=200 /\
 ∀ li lo H',H' g=some (.ins c.Program gx (gfl S.w li Lr lo kd z))->SameX g H H'->Q .non H'
theorem du {x:Addr}{H G:Hp}{D:Addr}{o:HO}(s:SameX x H G) (hD:H D=none):SameX x H (upd G D o):=fun b u nb e=>by rw[af (fun z=>by rw[z,hD] at e; cases e)]; exact s b u nb e
theorem fz {f:Addr}{fd:FuncData}(F:Fun K "__init__" "Program.__init__" bV f fd) (T:Txt K mg c) :FnOk P w K mg base CX0 1 f fd ["self","draft","kinds","source"] (spPrI c):=by
 refine F.ok fL (fun vs H Q E h=>?_) (fun cdv A outer s H vs Q E hr h=>?_)
 ·obtain⟨g,gx,x,S,Li,Lr,Lo,Lp',Ll,M,ys,kd,z,rfl,_⟩:=h
  rfl
 obtain⟨g,gx,x,S,Li,Lr,Lo,Lp',Ll,M,ys,kd,z,rfl,hg,D,li_,lo_,q⟩:=h
 refine⟨_,(ah (bt (pv 0) (aC (pv 1) rfl) rfl)
  (ah (bt (pv 0) (eK rfl (by first | rfl | with_unfolding_all rfl) (by decide +kernel) rfl (by decide +kernel) rfl (bi (aC (pv 1) rfl)) (fun C s2 H2 fp=>(aP (aa (aH (im (K:=K) rfl) (pv 0) ai (fun _ _=>rfl)) (aa (aH (im (K:=K) rfl) (pv 0) ai (fun _ _=>rfl)) ae))))) rfl)
  (ah (bt (pv 0) (aC (pv 1) rfl) rfl)
  (ah (bt (pv 0) (eK rfl (by first | rfl | with_unfolding_all rfl) (by decide +kernel) rfl (by decide +kernel) rfl (bi (aC (pv 1) rfl)) (fun C s2 H2 fp=>(aH (im (K:=K) rfl) (pv 0) ai (fun _ _=>rfl)))) rfl)
  (ah (bt (pv 0) (pv 2) rfl)
  (aq (bt (pv 0) (pv 3) rfl))))))),?_⟩
 obtain⟨dx,hx⟩:=D.hx
 obtain⟨p1,a1,b1⟩:=D.ins
 obtain⟨p2,a2,b2⟩:=D.outs
 have L300:(300:Nat)<=sizeLine:=by decide
 have nx:∀ {b u},H b=some u->(∀ C d fs,u≠.ins C d fs)->b≠g:=fun e n z=>by rw[z,hg] at e; injection e with e; exact n _ _ _ e.symm
 have xg:x≠g:=fun z=>by
  rw[z,hg] at hx
  injection hx with e
  injection e with _ _ e
  exact absurd e (by unfold dfl; exact nofun)
 refine⟨_,rfl,x,c.Draft,dx,_,_,rfl,hx,T.cl_Draft,T.na_Draft_width,rfl,_,rfl,g,c.Program,gx,_,rfl,hg,T.cl_Program,T.na_Program_width,(by show 0<1000; decide),?_⟩
 have s1:SameX g H (upd H g (.ins c.Program gx (cY "width" (.int S.w) []))):=updX
 have g1:upd H g (.ins c.Program gx (cY "width" (.int S.w) [])) g=some (.ins c.Program gx (cY "width" (.int S.w) [])):=ac
 have ag:∀ {b:Addr} {xs:List V},H b=some (.lst xs)->b≠g:=fun e=>nx e nofun
 have tg:∀ {b:Addr} {xs:List V},H b=some (.tup xs)->b≠g:=fun e=>nx e nofun
 have nn:∀ {G:Hp} {b o},SameX g H G->G g=some o->G b=none->H b=none/\b≠g:=fun {G b o} s e eb=>by
  have n:b≠g:=fun z=>by rw[z,e] at eb; cases eb
  refine⟨?_,n⟩
  cases q:H b with
  | none=>rfl
  | some u=>rw[s b u n q] at eb; cases eb
 generalize upd H g (.ins c.Program gx (cY "width" (.int S.w) []))=H1 at s1 g1 ⊢
 refine⟨_,rfl,x,c.Draft,dx,_,_,rfl,s1 _ _ xg hx,T.cl_Draft,T.na_Draft_inputs,rfl,Li,rfl,⟨_,SqL.of (s1 _ _ (ag a1) a1)⟩,fun D1 hD1=>?_⟩
 obtain⟨D10,D1g⟩:=nn s1 g1 hD1
 refine cF (xs:=p1.map V.ref) (fun j HJ=>(∃ zs,HJ D1=some (.lst zs)/\zs.length=j)/\SameX g H HJ/\HJ g=some (.ins c.Program gx (cY "width" (.int S.w) []))) ⟨⟨[],ac,rfl⟩,du s1 D10,by rw[af (Ne.symm D1g)]; exact g1⟩ (fun _ _ _ q=>SqL.of (q.2.1 _ _ (ag a1) a1)) ?_ ?_
 ·rintro j v HJ hv ⟨⟨zs,hj,lz⟩,sJ,gJ⟩
  obtain⟨p,hp,rfl⟩:∃ p,p1[j]?=some p/\v=V.ref p:=by
   rw[List.getElem?_map] at hv
   obtain⟨z,hz,e⟩:=Option.map_eq_some_iff.mp hv
   exact⟨z,hz,e.symm⟩
  have jl:=(List.getElem?_eq_some_iff.mp hp).1
  have le:=b1.1
  obtain⟨y,hy⟩:∃ y,S.ins[j]?=some y:=⟨_,List.getElem?_eq_getElem (by lia)⟩
  obtain⟨k,e1,_⟩:=b1.2 j p y hp hy
  have e1':=bB _ _ e1
  have e2:=sJ _ _ (tg e1') e1'
  refine⟨_,rfl,p,_,_,_,rfl,rfl,SqT.of e2,rfl,_,rfl,p,_,_,_,rfl,rfl,SqT.of e2,rfl,(by show 2<=sizeLine; decide),fun t ht=>?_⟩
  obtain⟨t0,tn⟩:=nn sJ gJ ht
  have nD:D1≠t:=fun z=>by rw[<- z,hj] at ht; cases ht
  refine⟨zs,by rw[af nD]; exact hj,by lia,_,(show (p1.map V.ref).length-(j+1)<_ by rw[length_map]; lia),rfl,(by rw[length_map]; lia),⟨_,ac,by rw[length_append,lz]; rfl⟩,du (du sJ t0) D10,?_⟩
  rw[af (Ne.symm D1g),af (Ne.symm tn)]
  exact gJ
 rintro HJ ⟨_,sJ,gJ⟩
 refine⟨_,rfl,g,c.Program,gx,_,rfl,gJ,T.cl_Program,T.na_Program_inputs,(by show 1<1000; decide),?_⟩
 have s2:SameX g H (upd HJ g (.ins c.Program gx (cY "inputs" (.ref D1) (cY "width" (.int S.w) [])))):=sJ.trans updX
 have g2:upd HJ g (.ins c.Program gx (cY "inputs" (.ref D1) (cY "width" (.int S.w) []))) g=some (.ins c.Program gx (cY "inputs" (.ref D1) (cY "width" (.int S.w) []))):=ac
 generalize upd HJ g (.ins c.Program gx (cY "inputs" (.ref D1) (cY "width" (.int S.w) [])))=H2 at s2 g2 ⊢
 refine⟨_,rfl,x,c.Draft,dx,_,_,rfl,s2 _ _ xg hx,T.cl_Draft,T.na_Draft_rows,rfl,_,rfl,g,c.Program,gx,_,rfl,g2,T.cl_Program,T.na_Program_rows,(by show 2<1000; decide),?_⟩
 have s3:SameX g H (upd H2 g (.ins c.Program gx (cY "rows" (.ref Lr) (cY "inputs" (.ref D1) (cY "width" (.int S.w) []))))):=s2.trans updX
 have g3:upd H2 g (.ins c.Program gx (cY "rows" (.ref Lr) (cY "inputs" (.ref D1) (cY "width" (.int S.w) [])))) g=some (.ins c.Program gx (cY "rows" (.ref Lr) (cY "inputs" (.ref D1) (cY "width" (.int S.w) [])))):=ac
 generalize upd H2 g (.ins c.Program gx (cY "rows" (.ref Lr) (cY "inputs" (.ref D1) (cY "width" (.int S.w) []))))=H3 at s3 g3 ⊢
 refine⟨_,rfl,x,c.Draft,dx,_,_,rfl,s3 _ _ xg hx,T.cl_Draft,T.na_Draft_outs,rfl,Lo,rfl,⟨_,SqL.of (s3 _ _ (ag a2) a2)⟩,fun D2 hD2=>?_⟩
 obtain⟨D20,D2g⟩:=nn s3 g3 hD2
 refine cF (xs:=p2.map V.ref) (fun j HJ=>(∃ zs,HJ D2=some (.lst zs)/\zs.length=j)/\SameX g H HJ/\HJ g=some (.ins c.Program gx (cY "rows" (.ref Lr) (cY "inputs" (.ref D1) (cY "width" (.int S.w) []))))) ⟨⟨[],ac,rfl⟩,du s3 D20,by rw[af (Ne.symm D2g)]; exact g3⟩ (fun _ _ _ q=>SqL.of (q.2.1 _ _ (ag a2) a2)) ?_ ?_
 ·rintro j v HJ hv ⟨⟨zs,hj,lz⟩,sJ,gJ⟩
  obtain⟨p,hp,rfl⟩:∃ p,p2[j]?=some p/\v=V.ref p:=by
   rw[List.getElem?_map] at hv
   obtain⟨z,hz,e⟩:=Option.map_eq_some_iff.mp hv
   exact⟨z,hz,e.symm⟩
  have jl:=(List.getElem?_eq_some_iff.mp hp).1
  have le:=b2.1
  obtain⟨y,hy⟩:∃ y,S.outs[j]?=some y:=⟨_,List.getElem?_eq_getElem (by lia)⟩
  have e1':=bB _ _ (b2.2 j p y hp hy)
  have e2:=sJ _ _ (tg e1') e1'
  refine⟨_,rfl,p,_,_,_,rfl,rfl,SqT.of e2,rfl,zs,hj,by lia,_,(show (p2.map V.ref).length-(j+1)<_ by rw[length_map]; lia),rfl,(by rw[length_map]; lia),⟨_,ac,by rw[length_append,lz]; rfl⟩,du sJ D20,?_⟩
  rw[af (Ne.symm D2g)]
  exact gJ
 rintro HJ2 ⟨_,sJ2,gJ2⟩
 refine⟨_,rfl,g,c.Program,gx,_,rfl,gJ2,T.cl_Program,T.na_Program_outs,(by show 3<1000; decide),?_⟩
 refine⟨_,rfl,_,rfl,g,c.Program,gx,_,rfl,ac,T.cl_Program,T.na_Program_kinds,(by show 4<1000; decide),?_⟩
 refine⟨_,rfl,_,rfl,g,c.Program,gx,_,rfl,ac,T.cl_Program,T.na_Program_source,(by show 5<1000; decide),?_⟩
 refine q D1 D2 _ ac fun b u nb e=>?_
 rw[af nb,af nb,af nb]
 exact sJ2 b u nb e
theorem jQ {w:Int}:∀ {ls:List LnD}{S:DS}{n:Int},(∀ L∈ls,LnOk w L)->(∀ y∈S.ins,KG w y.2.2)/\(∀ y∈S.prs,RowOk w y)->(∀ y∈(aX S n ls).ins,KG w y.2.2)/\(∀ y∈(aX S n ls).prs,RowOk w y)
 | [],_,_,_,h=>h
 | L::r,S,n,hl,h=>by
  refine jQ (ls:=r) (fun L hL=>hl L (mem_cons_of_mem _ hL)) ?_
  have hL:=hl L (mem_cons_self ..)
  cases L with
  | inn z κ =>
   refine⟨fun y hy=>?_,h.2⟩
   rcases List.mem_append.mp (show y∈S.ins++[(n,z,κ)] from hy) with hy | hy
   ·exact h.1 y hy
   ·cases List.mem_singleton.mp hy; exact hL.2
  | out z=>exact h
  | rep z=>exact h
  | fin =>
   show (∀ y∈(match S.lps.getLast? with | none=>S | some p=>S.close S.lps.dropLast (p.1*p.2.sum)).ins,KG w y.2.2)/\(∀ y∈(match S.lps.getLast? with | none=>S | some p=>S.close S.lps.dropLast (p.1*p.2.sum)).prs,RowOk w y)
   split <;> exact h
  | row q =>
   refine⟨h.1,fun y hy=>?_⟩
   rcases List.mem_append.mp (show y∈S.prs++[q.at n] from hy) with hy | hy
   ·exact h.2 y hy
   ·cases List.mem_singleton.mp hy; exact RowOk.at hL n
structure PrgOk (wz:Str) (ls:List LnD):Prop where
 num:Num wz
 w1:4<=nV wz
 w2:nV wz<=32
 lk:∀ L∈ls,LnOk (nV wz) L
 ll:ls.length<=59
 fi:iA (DS0 (nV wz)) 1 ls
 lp:(aX (DS0 (nV wz)) 1 ls).lps=[]
 ou:(aX (DS0 (nV wz)) 1 ls).outs≠[]
 su:(aX (DS0 (nV wz)) 1 ls).top.sum<=600
def oi (w:Int) (ls:List LnD):Option ErrD:=fR w (aX (DS0 w) 1 ls).ins (aX (DS0 w) 1 ls).prs (aX (DS0 w) 1 ls).outs
def spRP (c:Ad):Sp:=fun vs H Q E=>∃ (wz:Str) (ls:List LnD),vs=[.str (lS wz ls)]/\PrgOk wz ls/\(∀ e,oi (nV wz) ls=some e->Rais c E H e)/\(oi (nV wz) ls=none->∀ g H',Same H H'->Q (.ref g) H')
theorem jf {f:Addr}{fd:FuncData}(F:Fun K "read_program" "read_program" c8 f fd) (T:Txt K mg c) (H_first_walk:Has P w K mg base 9 "first_walk" ["text"] (spFW c)) (H_second_walk:HasY P w K mg base 8 "second_walk" ["draft"] (spSW c)) (H_count_rows:Has P w K mg base 7 "count_rows" ["rows"] (spCR c 6)) (C_Program:CHas P w K mg base 1 c.Program "Program" ["self","draft","kinds","source"] (spPrI c)):FnOk P w K mg base (CX2 P w base) 10 f fd ["text"] (spRP c):=by
 refine Fun.okY F sc_read_program (fun vs H Q E h=>?_) (fun cdv A outer s H vs Q E hr h=>?_)
 ·obtain⟨wz,ls,rfl,_⟩:=h
  rfl
 obtain⟨wz,ls,rfl,ok,qe,qv⟩:=h
 refine⟨_,(ah (aF (i:=1) sc_read_program.nd rfl (Or.inl rfl) (aM H_first_walk (hr.mono (by lia)) rfl (aa (pv 0) ae)))
  (ah (aF (i:=2) sc_read_program.nd rfl (Or.inl rfl) (mW H_second_walk (hr.mono (by lia)) rfl (aa (pv 1) ae)))
  (ah (aV (au m4 (aM H_count_rows (hr.mono (by lia)) rfl (aa (aC (pv 1) rfl) ae)) (iH rfl T.g_MOST_ROWS) (ay _))
   bQ
   aB)
  (aq (aA (iw C_Program (hr.mono (by lia)) rfl (aa (pv 1) (aa (pv 2) (aa (pv 0) ae))))))))),?_⟩
 unfold oi at qe qv
 have kp:=jQ (S:=DS0 (nV wz)) (n:=1) ok.lk ⟨fun y hy=>absurd hy not_mem_nil,fun y hy=>absurd hy not_mem_nil⟩
 refine⟨_,rfl,wz,ls,rfl,ok.num,ok.w1,ok.w2,ok.lk,ok.ll,ok.fi,ok.lp,ok.ou,fun x Li Lr Lo Lp' Ll M H1 D bd ew new s1=>?_⟩
 have su:=ok.su
 generalize aX (DS0 (nV wz)) 1 ls=S at qe qv kp D bd ew su
 rw[<- ew] at qe qv kp
 refine⟨_,rfl,x,S,Li,Lr,Lo,Lp',Ll,M,[],rfl,D,bd,kp.1,kp.2,fun e he=>(qe e he).back s1,fun hs kd H2 hkd ek s2=>?_⟩
 have s12:=s1.trans s2
 have D2:=D.same s2
 obtain⟨dx,hx⟩:=D2.hx
 obtain⟨ps,ar,lr⟩:=D2.lv
 have lr':Ls (ItAt c 5) H2 ps S.top:=lr.mono fun _ _ q=>q.same bB
 have lt:=Nat.le_trans bd.top (show 59<=200 by decide)
 refine⟨_,rfl,x,c.Draft,dx,_,_,rfl,hx,T.cl_Draft,T.na_Draft_rows,rfl,Lr,ps,S.top,rfl,ar,lr',lt,fun H3 s3=>?_⟩
 have s13:=s12.trans s3
 have D3:=D2.same s3
 refine⟨_,_,rfl,rfl,_,rfl,aN (show ¬ 600<S.top.sum by lia) ?_⟩
 exact⟨_,rfl,_,rfl,_,rfl,fun g gx hg hgx hne=>⟨g,gx,x,S,Li,Lr,Lo,Lp',Ll,M,[],kd,_,rfl,ac,D3.same (aQ hg hgx fun _ _ _ q=>q),Nat.le_trans bd.ins (by decide),Nat.le_trans bd.outs (by decide),fun li lo H4 hg4 sx=>⟨rfl,qv hs g H4 (s13.trans (aQ hg hgx sx))⟩⟩⟩
def ErrD.t:ErrD->List V
 | .unk n z=>[.str "unknown",.int n,.str z]
 | .knd n z=>[.str "kind",.int n,.str z]
 | .twc n z=>[.str "twice",.int n,.str z]
def TVal (G:Hp) (v:V) (o:Option ErrD):Prop:=(o=none/\v=.non)\/∃ e t,o=some e/\v=.ref t/\G t=some (.tup e.t)
theorem TVal.same {H H':Hp}{v:V}{o:Option ErrD}(s:Same H H'):TVal H v o->TVal H' v o
 | .inl h=>.inl h
 | .inr ⟨e,t,a,b,d⟩=>.inr ⟨e,t,a,b,s _ _ d⟩
theorem Txt.exP {K:Frag}{mg:Str->Option Value}{c:Ad}(T:Txt K mg c):ExF K c.Unknown/\ExF K c.WrongKind/\ExF K c.Twice:=⟨⟨T.kf_ga_Unknown,T.kf_gn_Unknown,T.kf_gc_Unknown,T.kf_mo_Unknown,T.kf_mb_Unknown⟩,⟨T.kf_ga_WrongKind,T.kf_gn_WrongKind,T.kf_gc_WrongKind,T.kf_mo_WrongKind,T.kf_mb_WrongKind⟩,⟨T.kf_ga_Twice,T.kf_gn_Twice,T.kf_gc_Twice,T.kf_mo_Twice,T.kf_mb_Twice⟩⟩
def oa:Sp:=fun vs H Q _=>∃ (wz:Str) (ls:List LnD),vs=[.str (lS wz ls)]/\PrgOk wz ls/\∀ v H',TVal H' v (oi (nV wz) ls)->Same H H'->Q v H'
theorem mw {f:Addr}{fd:FuncData}(F:Fun K "_law_told" "_law_told" fH f fd) (T:Txt K mg c) (H_read_program:HasY P w K mg base 10 "read_program" ["text"] (spRP c)):FnOk P w K mg base CX0 11 f fd ["_law_text"] oa:=by
 refine F.ok sc__law_told (fun vs H Q E h=>?_) (fun cdv A outer s H vs Q E hr h=>?_)
 ·obtain⟨wz,ls,rfl,_⟩:=h
  rfl
 obtain⟨wz,ls,rfl,ok,q⟩:=h
 refine⟨_,(ah (aF (i:=1) sc__law_told.nd rfl (Or.inl rfl) aZ)
  (ah (ps_tryYL (j:=2) (fun pins E=>(aq (bf (pe_fnYT H_read_program (hr.mono (by lia)) rfl (aa (pv 0) ae))))) sc__law_told.nd rfl rfl (.cons rfl T.g_Unknown (fun a oe hc=>(aq (aF (i:=1) sc__law_told.nd rfl (Or.inl rfl) (aP (aa ak (aa (pG (a:=a) (oe:=oe) (mem_cons_self ..) (pv 2) rfl) (aa (pG (a:=a) (oe:=oe) (mem_cons_self ..) (pv 2) rfl) ae))))))) (.cons rfl T.g_WrongKind (fun a oe hc=>(aq (aF (i:=1) sc__law_told.nd rfl (Or.inl rfl) (aP (aa ak (aa (pG (a:=a) (oe:=oe) (mem_cons_self ..) (pv 2) rfl) (aa (pG (a:=a) (oe:=oe) (mem_cons_self ..) (pv 2) rfl) ae))))))) (.cons rfl T.g_Twice (fun a oe hc=>(aq (aF (i:=1) sc__law_told.nd rfl (Or.inl rfl) (aP (aa ak (aa (pG (a:=a) (oe:=oe) (mem_cons_self ..) (pv 2) rfl) (aa (pG (a:=a) (oe:=oe) (mem_cons_self ..) (pv 2) rfl) ae))))))) .nil))))
  (aq (aA (pv 1))))),?_⟩
 obtain⟨x1,x2,x3⟩:=T.exP
 have k3:3<=sizeLine:=by decide
 refine⟨_,rfl,wz,ls,rfl,ok,fun e he=>?_,fun hn g H' s'=>?_⟩
 rotate_left
 ·exact⟨_,rfl,q .non H' (.inl ⟨hn,rfl⟩) s'⟩
 rw[he] at q
 cases e with
 | unk n z =>
  intro d H' hd e1 s1
  refine Or.inl ⟨qT T.kf_if_Unknown T.kf_tf_Unknown T.kf_mf_Unknown T.kf_wb_Unknown,fun a oe hcl hdi hnc ha=>?_⟩
  refine⟨_,rfl,c.Unknown,d,_,_,rfl,hcl,hdi,hnc,x1,T.kf_hd_Unknown,T.kf_nf_Unknown,e1,rfl,_,rfl,c.Unknown,d,_,_,rfl,hcl,hdi,hnc,x1,T.kf_hd_Unknown,T.kf_nn_Unknown,e1,rfl,k3,fun t ht=>?_⟩
  exact⟨_,rfl,q (.ref t) _ (.inr ⟨_,t,rfl,rfl,ac⟩) (s1.trans (aj ht _))⟩
 | knd n z =>
  intro d H' hd e1 s1
  refine Or.inr ⟨iZ T.kf_if_Unknown T.kf_tf_Unknown T.kf_m_WrongKind_Unknown T.kf_wb_Unknown,Or.inl ⟨qT T.kf_if_WrongKind T.kf_tf_WrongKind T.kf_mf_WrongKind T.kf_wb_WrongKind,fun a oe hcl hdi hnc ha=>?_⟩⟩
  refine⟨_,rfl,c.WrongKind,d,_,_,rfl,hcl,hdi,hnc,x2,T.kf_hd_WrongKind,T.kf_nf_WrongKind,e1,rfl,_,rfl,c.WrongKind,d,_,_,rfl,hcl,hdi,hnc,x2,T.kf_hd_WrongKind,T.kf_nn_WrongKind,e1,rfl,k3,fun t ht=>?_⟩
  exact⟨_,rfl,q (.ref t) _ (.inr ⟨_,t,rfl,rfl,ac⟩) (s1.trans (aj ht _))⟩
 | twc n z =>
  intro d H' hd e1 s1
  refine Or.inr ⟨iZ T.kf_if_Unknown T.kf_tf_Unknown T.kf_m_Twice_Unknown T.kf_wb_Unknown,Or.inr ⟨iZ T.kf_if_WrongKind T.kf_tf_WrongKind T.kf_m_Twice_WrongKind T.kf_wb_WrongKind,Or.inl ⟨qT T.kf_if_Twice T.kf_tf_Twice T.kf_mf_Twice T.kf_wb_Twice,fun a oe hcl hdi hnc ha=>?_⟩⟩⟩
  refine⟨_,rfl,c.Twice,d,_,_,rfl,hcl,hdi,hnc,x3,T.kf_hd_Twice,T.kf_nf_Twice,e1,rfl,_,rfl,c.Twice,d,_,_,rfl,hcl,hdi,hnc,x3,T.kf_hd_Twice,T.kf_nn_Twice,e1,rfl,k3,fun t ht=>?_⟩
  exact⟨_,rfl,q (.ref t) _ (.inr ⟨_,t,rfl,rfl,ac⟩) (s1.trans (aj ht _))⟩
def SpT (w:Int) (κ:KS):HO:=.tup [.str (wd κ.1),.int w,.int κ.2]
def mY:Sp:=fun vs H Q _=>∃ (p:Addr) (w:Int),vs=[.ref p,.int w]/\Box H p/\4<=w/\w<=32/\∀ (t:Addr) (κ:KS) H',H t=none->H' t=some (SpT w κ)->KG w κ->Box H' p->SameX p H H'->Q (.ref t) H'
theorem lE {f:Addr}{fd:FuncData}(F:Fun K "_law_spec" "_law_spec" eY f fd) (T:Txt K mg c) (H__law_take:Has P w K mg base 1 "_law_take" ["_law_box_here","_law_many"] iX):FnOk P w K mg base CX0 2 f fd ["_law_box_here","_law_width"] mY:=by
 refine F.ok sc__law_spec (fun vs H Q E h=>?_) (fun cdv A outer s H vs Q E hr h=>?_)
 ·obtain⟨p,w',rfl,_⟩:=h
  rfl
 obtain⟨p,w',rfl,hb,w1,w2,q⟩:=h
 refine⟨_,(ah (aF (i:=2) sc__law_spec.nd rfl (Or.inl rfl) (aH aD (aS (aa ak (aa ak (aa ak ae)))) (aM H__law_take (hr.mono (by lia)) rfl (aa (pv 0) (aa ai ae))) (fun _ _=>rfl)))
  (ah (aV (au ce (pv 2) ak (ay _))
   (aq (aA (aP (aa (pv 2) (aa (pv 1) (aa (aJ bq ai (aM H__law_take (hr.mono (by lia)) rfl (aa (pv 0) (aa (aJ dN (pv 1) ai) ae)))) ae))))))
   aB)
  (aq (aA (aP (aa (pv 2) (aa (pv 1) (aa ai ae)))))))),?_⟩
 obtain⟨r1,r2,r3,hb1⟩:=id hb
 refine⟨(by show 3<=sizeLine; decide),fun l hl=>?_⟩
 have nlp:l≠p:=(az hb1 hl).symm
 refine⟨_,rfl,p,_,rfl,hb.same (aj hl _),by decide,by decide,fun d H2 d0 d1 b2 x2=>?_⟩
 have hat:atI [V.str "plain",V.str "signed",V.str "point"] d=some (.str (wd d.toNat)):=by
  rcases(by lia:d=0\/d=1\/d=2) with rfl | rfl | rfl <;> rfl
 refine⟨l,_,_,_,rfl,rfl,SqL.of (x2 l _ nlp ac),hat,?_⟩
 have xx:SameX p H H2:=(SameX.of (aj hl _)).trans x2
 refine⟨_,rfl,rfl,_,rfl,?_⟩
 by_cases h2:d.toNat=2
 ·refine dw (by rw[h2]; rfl) ?_
  refine⟨_,rfl,_,rfl,_,rfl,_,rfl,_,_,rfl,rfl,p,_,rfl,b2,by lia,by lia,fun f H3 f0 f1 b3 x3=>⟨_,_,rfl,rfl,(by show 3<=sizeLine; decide),fun t ht=>?_⟩⟩
  exact q t (d.toNat,1+f) _ (oN b3 (xx.trans x3) ht) ac ⟨by show d.toNat<3; lia,fun _=>⟨by show 1<=1+f; lia,by show 1+f<=w'-1; lia⟩,fun z=>absurd h2 z⟩ (b3.same (aj ht _)) (xx.trans (x3.trans (SameX.of (aj ht _))))
 ·refine aN (pQ (j:=2) (by lia) (by decide) h2) ?_
  refine⟨_,rfl,_,rfl,(by show 3<=sizeLine; decide),fun t ht=>?_⟩
  exact q t (d.toNat,0) _ (oN b2 xx ht) ac ⟨by show d.toNat<3; lia,fun z=>absurd z h2,fun _=>rfl⟩ (b2.same (aj ht _)) (xx.trans (SameX.of (aj ht _)))
theorem at2 {a b:V}(k:Bool):atI [a,b] (if k=true then 1 else 0)=some (if k=true then b else a):=by cases k <;> rfl
theorem rm (s a b:Str) (r:List Str):Txt.join s (a::b::r)=a++(s++Txt.join s (b::r):Str):=by
 refine fE ?_
 rw[eI,cu,bD,bD,eI]
theorem join1 (s a:Str):Txt.join s [a]=a:=by rw[eI]; rfl
theorem appA (a b c:Str):((a++b:Str)++c:Str)=(a++(b++c:Str):Str):=by
 refine fE ?_
 rw[bD,bD,bD,bD,append_assoc]
theorem appN (a:Str):(a++Str.ofString "":Str)=a:=by
 refine fE ?_
 rw[bD]
 exact append_nil _
def kwT (κ:KS):Str:=wd κ.1++(if κ.2=0 then Str.ofString "" else (Str.ofString " "++Str.ofString (toString κ.2):Str):Str)
theorem kwT_eq {w:Int}{κ:KS}(h:KG w κ):kwT κ=Txt.join SPs (kwS κ):=by
 obtain⟨i,p⟩:=κ
 obtain⟨_,h2,h3⟩:=h
 unfold kwT kwS
 by_cases e:i=2
 ·have:=h2 e
  dsimp only at this ⊢
  rw[if_neg (by lia),if_pos e,rm,join1,e]
  unfold tt
  rw[show ((p.toNat:Nat):Int)=p by lia]
  rfl
 ·have:=h3 e
  dsimp only at this ⊢
  rw[if_pos this,if_neg e,join1,appN]
def spKW:Sp:=fun vs H Q _=>∃ (t:Addr) (w:Int) (κ:KS),vs=[.ref t]/\H t=some (SpT w κ)/\KG w κ/\w<=32/\∀ H',Same H H'->Q (.str (Txt.join SPs (kwS κ))) H'
theorem fX {f:Addr}{fd:FuncData}(F:Fun K "_law_kind_words" "_law_kind_words" cm f fd) (T:Txt K mg c) :FnOk P w K mg base CX0 1 f fd ["_law_spec_here"] spKW:=by
 refine F.ok gH (fun vs H Q E h=>?_) (fun cdv A outer s H vs Q E hr h=>?_)
 ·obtain⟨t,w',κ,rfl,_⟩:=h
  rfl
 obtain⟨t,w',κ,rfl,ht,kg,w2,q⟩:=h
 refine⟨_,(aq (aA (aJ bM (aH bj (pv 0) ai (fun _ _=>rfl)) (aH aD (aS (aa (aJ bM ak (bw dm rfl T.n_str boot_str (aa (aH bj (pv 0) ai (fun _ _=>rfl)) ae))) (aa ak ae))) (bw gv rfl T.n_int boot_int (aa (bU ce (aH bj (pv 0) ai (fun _ _=>rfl)) ai (ay _)) ae)) (fun _ _=>rfl))))),?_⟩
 rw[<- kwT_eq kg] at q
 have pb:0<=κ.2/\κ.2<=32:=by
  by_cases e:κ.1=2
  ·have:=kg.2.1 e; lia
  ·have:=kg.2.2 e; lia
 obtain⟨n,en⟩:∃ n:Nat,κ.2=(n:Int):=⟨κ.2.toNat,by lia⟩
 have lt:(Str.ofString (toString κ.2)).length<=10:=by rw[en]; exact(kr (n:=n) (by lia)).1.2.2.1
 have lw:∀ i,(wd i).length<=6:=fun i=>match i with
  | 0=>by decide +kernel
  | 1=>by decide +kernel
  | _+2=>(by decide +kernel:(wd 2).length<=6)
 have lw':=lw κ.1
 have L100:(100:Nat)<=sizeLine:=by decide
 have l1:(Str.ofString " ").length=1:=by decide
 have sp1:(Str.ofString " "++Str.ofString (toString κ.2):Str).length=1+(Str.ofString (toString κ.2)).length:=by
  rw[<- bA,bD,length_append,bA,bA,l1]
 refine⟨_,rfl,t,_,_,_,rfl,rfl,SqT.of ht,rfl,_,rfl,t,_,_,_,rfl,rfl,SqT.of ht,rfl,κ.2,rfl,by lia,by lia,_,_,rfl,rfl,by lia,(by show 2<=sizeLine; decide),fun l hl=>?_⟩
 obtain⟨G,e1,s1,g1⟩:=cJ hl (.lst [.str (Str.ofString " "++Str.ofString (toString κ.2)),.str (Str.ofString "")])
 rw[e1]
 refine⟨_,rfl,t,_,_,_,rfl,rfl,SqT.of (s1 _ _ ht),rfl,rfl,.inr ⟨_,rfl,l,_,_,_,rfl,rfl,SqL.of g1,at2 _,?_⟩⟩
 have ez:decide (V.int κ.2=V.int 0)=decide (κ.2=0):=decide_eq_decide.mpr ⟨fun z=>by injection z,fun z=>by rw[z]⟩
 rw[ez]
 unfold kwT at q
 by_cases c0:κ.2=0
 ·rw[if_pos c0] at q
  rw[decide_eq_true c0]
  exact⟨_,_,rfl,rfl,by show _+0<=sizeLine; lia,q G s1⟩
 ·rw[if_neg c0] at q
  rw[decide_eq_false c0]
  exact⟨_,_,rfl,rfl,by show _+(Str.ofString " "++Str.ofString (toString κ.2):Str).length<=sizeLine; lia,q G s1⟩
def oq:Sp:=fun vs H Q _=>∃ (p l:Addr) (zs:List Str),vs=[.ref p,.ref l]/\Box H p/\H l=some (.lst (zs.map V.str))/\zs≠[]/\zs.length<=1000/\∀ z H',z∈zs->Box H' p->SameX p H H'->Q (.str z) H'
theorem fU {H:Hp}{p l:Addr}{zs:List Str}(b:Box H p) (h:H l=some (.lst (zs.map V.str))):l≠p:=fun e=>by
 obtain⟨a,b',c,hb⟩:=b
 rw[e,hb] at h
 injection h with h
 injection h with h
 cases zs with
 | nil=>cases h
 | cons z r=>injection h with h; cases h
theorem mj {f:Addr}{fd:FuncData}(F:Fun K "_law_some" "_law_some" fG f fd) (T:Txt K mg c) (H__law_take:Has P w K mg base 1 "_law_take" ["_law_box_here","_law_many"] iX):FnOk P w K mg base CX0 2 f fd ["_law_box_here","_law_names"] oq:=by
 refine F.ok lZ (fun vs H Q E h=>?_) (fun cdv A outer s H vs Q E hr h=>?_)
 ·obtain⟨p,l,zs,rfl,_⟩:=h
  rfl
 obtain⟨p,l,zs,rfl,hb,hl,ne,ln,q⟩:=h
 refine⟨_,(aq (aA (aH aD (pv 1) (aM H__law_take (hr.mono (by lia)) rfl (aa (pv 0) (aa (aG aE rfl T.n_len boot_len (aa (pv 1) ae)) ae))) (fun _ _=>rfl)))),?_⟩
 have lz:1<=zs.length:=List.length_pos_iff.mpr ne
 refine⟨_,rfl,_,rfl,_,rfl,l,_,rfl,.inl (SqL.of hl),p,_,rfl,hb,by rw[length_map]; lia,by rw[length_map]; lia,fun d H2 d0 d1 b2 x2=>?_⟩
 rw[length_map] at d1
 obtain⟨k,rfl⟩:∃ k:Nat,d=(k:Int):=⟨d.toNat,by lia⟩
 have hk:k<zs.length:=by lia
 refine⟨l,_,_,_,rfl,rfl,SqL.of (x2 l _ (fU hb hl) hl),bC (by rw[List.getElem?_map,List.getElem?_eq_getElem hk]; rfl),?_⟩
 exact q _ H2 (List.getElem_mem hk) b2 x2
theorem star2 {X:Cx}{e:Expr}{es:List Expr}(hn:jW e=true):starEach (e::es) X.env=(false,eval e X.env)::starEach es X.env:=kX hn es X.env
theorem pe_fnL {X:Cx}{k:Nat}{x:Str}{ps:List Str}{sp:Sp}{p pos:Pos}{e:Expr}{es:List Expr}{t:TA}(h:Has X.prog X.w X.K X.mg X.base k x ps sp) (hr:Room k X.A) (hg:Gl X x) (ha:Sl (PA X (e::es) t)) (hdb:(x == ("__debug__":Str))=false:=by decide)
  (hn:jW e=true:=by rfl) (hpl:(backTo pos (starEach es X.env)).any (·.1)=false:=by rfl):Sl (PE X (.Call (.Name x p) (e::es) [] pos) (ma sp [] E0 t)):=⟨aM h hr hg ha.out hdb (star2 hn) hpl⟩
def RwT (H:Hp) (t:Addr) (R:RwD):Prop:=∃ rl gl,H t=some (.tup [.str (lnT (.row R)),.str (dn R.k),.ref rl,.ref gl,.int R.num])/\H rl=some (.lst (R.reads.map V.str))/\H gl=some (.lst (R.goals.map V.str))
theorem RwT.same {H H':Hp}{t:Addr}{R:RwD}(s:Same H H') (h:RwT H t R):RwT H' t R:=by
 obtain⟨rl,gl,a,b,c⟩:=h
 exact⟨rl,gl,s _ _ a,s _ _ b,s _ _ c⟩
def qy:Sp:=fun vs H Q _=>∃ (p l:Addr) (w:Int) (zs:List Str),vs=[.ref p,.int w,.ref l]/\Box H p/\H l=some (.lst (zs.map V.str))/\(∀ z∈zs,Nm z)/\(∀ g∈zs,∃ z∈zs,z≠g)/\zs≠[]/\zs.length<=100/\4<=w/\w<=32/\∀ (t:Addr) (R:RwD) H',H t=none->RwT H' t R->RowOk w R->R.line=0->(∀ z∈R.goals,z∈zs)->Box H' p->SameX p H H'->Q (.ref t) H'
def many (k:Nat):Int:=if k∈([0,7,8,12,13,15,17]:List Nat) then 1 else 2
theorem Box.ne {H:Hp}{p a:Addr}(b:Box H p) (h:H a=none):a≠p:=fun z=>by
 obtain⟨r,s,c,q⟩:=b
 rw[z,q] at h
 cases h
theorem dn_mem {z:Str}(h:z∈dnL):∃ k,k<18/\z=dn k:=by
 obtain⟨k,hk,e⟩:=List.getElem_of_mem h
 exact⟨k,hk,by unfold dn; rw[getD_eq_getElem?_getD,List.getElem?_eq_getElem hk,e]; rfl⟩
theorem row_tab:∀ k,k<18->inV (.str (dn k)) [V.str "copy",V.str "left",V.str "right",V.str "div",V.str "rest",V.str "times",V.str "part"]=decide (many k=1)/\(nrd k:Int)=many k+(if decide (dn k = "pick")=true then 1 else 0)/\(many k=1\/many k=2):=by decide +kernel
theorem qP {k:Nat}:∀ {ps:List Str},(∀ p∈ps,p.length<=k)->(ps.map (·.length)).sum<=ps.length*k
 | [],_=>zero_le _
 | p::r,h=>by
  have h1:=h p (mem_cons_self ..)
  have h2:=qP (ps:=r) fun q hq=>h q (mem_cons_of_mem _ hq)
  simp only[map_cons,List.sum_cons,length_cons]
  rw[Nat.succ_mul]
  lia
def WdsAt (H:Hp) (pd q:Addr) (n:Nat):Prop:=∃ kvs:List (Key×V),H pd=some (.dK kvs)/\∀ k,k<18->(ex k n=[]/\eV kvs (Sum.inr (dn k):Key)=none)\/∃ a,eV kvs (Sum.inr (dn k):Key)=some (.ref a)/\a≠q/\H a=some (.lst (((ex k n).map (·.2)).map V.str))
def wds7 (a b c d e f g:Addr):List (Key×V):=ck (ck [] [(Sum.inr "left",.ref a),(Sum.inr "right",.ref b),(Sum.inr "div",.ref c),(Sum.inr "rest",.ref d),(Sum.inr "mul",.ref e)]) [(Sum.inr "times",.ref f),(Sum.inr "part",.ref g)]
theorem inr_eq {a b:Str}:((Sum.inr a:Key)=Sum.inr b)=(a=b):=propext ⟨fun z=>by injection z,fun z=>by rw[z]⟩
theorem wds_val (a b c d e f g:Addr) (z:Str):eV (wds7 a b c d e f g) (Sum.inr z:Key)=if z = "part" then some (.ref g) else if z = "times" then some (.ref f) else if z = "mul" then some (.ref e) else if z = "rest" then some (.ref d) else if z = "div" then some (.ref c) else if z = "right" then some (.ref b) else if z = "left" then some (.ref a) else none:=by
 unfold wds7 ck
 simp only[List.foldl_cons,List.foldl_nil,kB,inr_eq]
 rfl
theorem rh:∀ k,k<18->(dn k = "part" ↔ k=17)/\(dn k = "times" ↔ k=15)/\(dn k = "mul" ↔ k=16)/\(dn k = "rest" ↔ k=13)/\(dn k = "div" ↔ k=12)/\(dn k = "right" ↔ k=8)/\(dn k = "left" ↔ k=7):=by decide +kernel
theorem wds_at {H:Hp}{pd q a b c d e f g:Addr}{n:Nat}(nq:∀ x∈[a,b,c,d,e,f,g],x≠q) (h:H pd=some (.dK (wds7 a b c d e f g))) (ha:H a=some (.lst [.str "1"])) (hb:H b=some (.lst [.str "0"])) (hc:H c=some (.lst [.str (tt n),.str "up"])) (hd:H d=some (.lst [.str (tt n)])) (he:H e=some (.lst [.str "near"])) (hf:H f=some (.lst [.str (frT n),.str "cut"])) (hg:H g=some (.lst [.str (tt n)])):WdsAt H pd q n:=by
 refine⟨_,h,fun k hk=>?_⟩
 obtain⟨t1,t2,t3,t4,t5,t6,t7⟩:=rh k hk
 rw[wds_val]
 by_cases c1:k=17
 ·subst c1; exact .inr ⟨g,if_pos (t1.mpr rfl),nq _ (by simp),hg⟩
 rw[if_neg (fun z=>c1 (t1.mp z))]
 by_cases c2:k=15
 ·subst c2; exact .inr ⟨f,if_pos (t2.mpr rfl),nq _ (by simp),hf⟩
 rw[if_neg (fun z=>c2 (t2.mp z))]
 by_cases c3:k=16
 ·subst c3; exact .inr ⟨e,if_pos (t3.mpr rfl),nq _ (by simp),he⟩
 rw[if_neg (fun z=>c3 (t3.mp z))]
 by_cases c4:k=13
 ·subst c4; exact .inr ⟨d,if_pos (t4.mpr rfl),nq _ (by simp),hd⟩
 rw[if_neg (fun z=>c4 (t4.mp z))]
 by_cases c5:k=12
 ·subst c5; exact .inr ⟨c,if_pos (t5.mpr rfl),nq _ (by simp),hc⟩
 rw[if_neg (fun z=>c5 (t5.mp z))]
 by_cases c6:k=8
 ·subst c6; exact .inr ⟨b,if_pos (t6.mpr rfl),nq _ (by simp),hb⟩
 rw[if_neg (fun z=>c6 (t6.mp z))]
 by_cases c7:k=7
 ·subst c7; exact .inr ⟨a,if_pos (t7.mpr rfl),nq _ (by simp),ha⟩
 rw[if_neg (fun z=>c7 (t7.mp z))]
 have key:∀ j,j<18->j≠17->j≠15->j≠16->j≠13->j≠12->j≠8->j≠7->ex j n=[]:=fun j hj n1 n2 n3 n4 n5 n6 n7=>by
  unfold ex
  split <;> first | (exfalso; lia) | rfl
 exact .inl ⟨key k hk c1 c2 c3 c4 c5 c6 c7,rfl⟩
theorem WdsAt.keep {H H':Hp}{p pd q:Addr}{n:Nat}(h:WdsAt H pd q n) (b:Box H p) (hq:∃ o,H q=some (.lst o)) (x:∀ b u,b≠p->b≠q->H b=some u->H' b=some u):WdsAt H' pd q n:=by
 obtain⟨kvs,hk,wv⟩:=h
 obtain⟨o,hq⟩:=hq
 refine⟨kvs,x _ _ (fun z=>by obtain⟨_,_,_,e⟩:=b; rw[z,e] at hk; cases hk) (fun z=>by rw[z,hq] at hk; cases hk) hk,fun k hk=>?_⟩
 rcases wv k hk with h | ⟨a,h1,h2,h3⟩
 ·exact .inl h
 ·exact .inr ⟨a,h1,h2,x _ _ (fU b h3) h2 h3⟩
theorem num_at {w d:Int}(w1:4<=w) (w2:w<=32) (d0:0<=d) (d1:d<4):∃ n:Nat,atI [V.int 1,V.int (1*2^(w-1).toNat),V.int (1*2^(w-1).toNat+1),V.int (2*(1*2^(w-1).toNat)-1)] d=some (.int (n:Int))/\1<=(n:Int)/\(n:Int)<=2^w.toNat-1:=by
 have pp:=p_pos (w-1).toNat
 have ph':=ph w1
 have pb:=dj w1 w2
 generalize (2:Int)^(w-1).toNat=P at pp ph'
 have key:∀ m:Int,1<=m->m<=2^w.toNat-1->∃ n:Nat,some (V.int m)=some (.int (n:Int))/\1<=(n:Int)/\(n:Int)<=2^w.toNat-1:=fun m h1 h2=>⟨m.toNat,by rw[show ((m.toNat:Nat):Int)=m by lia],by lia,by lia⟩
 rcases(by lia:d=0\/d=1\/d=2\/d=3) with rfl | rfl | rfl | rfl
 ·exact key 1 (by decide) (by lia)
 ·exact key (1*P) (by lia) (by lia)
 ·exact key (1*P+1) (by lia) (by lia)
 ·exact key (2*(1*P)-1) (by lia) (by lia)
theorem mV {f:Addr}{fd:FuncData}(F:Fun K "_law_row" "_law_row" hX f fd) (T:Txt K mg c) (H__law_some:Has P w K mg base 2 "_law_some" ["_law_box_here","_law_names"] oq) (H__law_take:Has P w K mg base 1 "_law_take" ["_law_box_here","_law_many"] iX):FnOk P w K mg base CX0 3 f fd ["_law_box_here","_law_width","_law_names"] qy:=by
 refine F.ok sc__law_row (fun vs H Q E h=>?_) (fun cdv A outer s H vs Q E hr h=>?_)
 ·obtain⟨p,l,w',zs,rfl,_⟩:=h
  rfl
 obtain⟨p,l,w',zs,rfl,hb,hl,nm,two,ne,ln,w1,w2,q⟩:=h
 refine slE ⟨_,(ax (cL (i:=3) sc__law_row.nd rfl (Or.inl rfl) (bu (aw ak (aw ak (aw ak (aw ak (aw ak (aw ak (aw ak (aw ak (aw ak (aw ak (aw ak (aw ak (aw ak aL)))))))))))))))
  (ax (cL (i:=4) sc__law_row.nd rfl (Or.inl rfl) (pe_fnL H__law_some (hr.mono (by lia)) rfl (aw (pv 0) (bR (gu cO (cC (pv 3)) (bu (aw ak (aw ak (aw ak (aw ak (aw ak aL))))))) aL))))
  (ax (cC (aF (i:=5) sc__law_row.nd rfl (Or.inl rfl) ai))
  (dP (cG (au bH (pv 4) (aP (aO ak (aO ak (aO ak (aO ak (aO ak (aO ak (aO ak ae)))))))) (by with_unfolding_all rfl))
   (aI (cC (aF (i:=5) sc__law_row.nd rfl (Or.inl rfl) ai)))
   be)
  (ax (cC (gP (i:=6) sc__law_row.nd rfl (Or.inl rfl) rfl [2,0] ["_law_names","_law_box_here"] rfl (by first | rfl | with_unfolding_all rfl) (by rfl) (by exact(List.forall_mem_cons.mpr ⟨rfl,(List.forall_mem_cons.mpr ⟨rfl,(fun _ h=>nomatch h)⟩)⟩)) (by decide +kernel) rfl (by decide +kernel) rfl (by decide +kernel) (by exact(List.forall_mem_cons.mpr ⟨⟨by first | exact Or.inl rfl | exact Or.inr rfl,rfl⟩,(List.forall_mem_cons.mpr ⟨⟨by first | exact Or.inl rfl | exact Or.inr rfl,rfl⟩,(fun _ h=>nomatch h)⟩)⟩)) rfl (by rfl) (eF rfl T.n_range (aa (aJ bq (pv 5) (bw gv rfl T.n_int boot_int (aa (bU ce (pv 4) ak (ay _)) ae))) ae)) (fun C s2 H2 fp=>(aM H__law_some (hr.mono (by lia)) rfl (aa (pv 2) (aa (pv 1) ae))))))
  (ax (cL (i:=7) sc__law_row.nd rfl (Or.inr rfl) (bu (aw (aM H__law_some (hr.mono (by lia)) rfl (aa (pv 0) (aa (pv 2) ae))) aL)))
  (ax (cC (aF (i:=8) sc__law_row.nd rfl (Or.inl rfl) (aJ lL ai (aJ dN (pv 1) ai))))
  (ax (cL (i:=9) sc__law_row.nd rfl (Or.inl rfl) (pe_ixS aD (bu (aw ai (aw (pv 8) (aw (aJ bq (pv 8) ai) (aw (aJ dN (aJ fY ai (pv 8)) ai) aL))))) (aM H__law_take (hr.mono (by lia)) rfl (aa (pv 0) (aa ai ae))) (fun _ _=>rfl)))
  (ax (cL (i:=10) sc__law_row.nd rfl (Or.inl rfl) (oE (cU ak (bu (aw ak aL)) (cU ak (bu (aw ak aL)) (cU ak (bu (aw (bw dm rfl T.n_str boot_str (aa (pv 9) ae)) (aw ak aL))) (cU ak (bu (aw (bw dm rfl T.n_str boot_str (aa (pv 9) ae)) aL)) (cU ak (bu (aw ak aL)) (cC sF)))))) rfl rfl (fun z=>nomatch z) (by decide)))
  (ax (j9 (oF PySem.F.plainAttrs_dict PySem.F.slot_dict_update PySem.F.type_dict_update p9 (pv 10) (bR (oE (cU ak (bu (aw (aJ bM ak (bw dm rfl T.n_str boot_str (aa (pv 9) ae))) (aw ak aL))) (cU ak (bu (aw (bw dm rfl T.n_str boot_str (aa (pv 9) ae)) aL)) (cC sF))) rfl rfl (fun z=>nomatch z) (by decide)) aL)))
  (dP (cG (au ce (pv 4) ak (ay _))
   (aI (cC (bf (dO PySem.F.plainAttrs_list PySem.F.slot_list_append PySem.F.type_list_append aY (pv 7) (aa (aM H__law_some (hr.mono (by lia)) rfl (aa (pv 0) (aa (si [7] ["_law_goals"] rfl (by first | rfl | with_unfolding_all rfl) (by rfl) (by exact(List.forall_mem_cons.mpr ⟨rfl,(fun _ h=>nomatch h)⟩)) (by decide +kernel) rfl (by decide +kernel) rfl (by decide +kernel) (by exact(List.forall_mem_cons.mpr ⟨⟨by first | exact Or.inl rfl | exact Or.inr rfl,rfl⟩,(fun _ h=>nomatch h)⟩)) rfl (by rfl) (bi (pv 2)) (fun C s2 H2 fp=>(au op_ne (pv 0) (aH (ix_listK (K:=K) rfl) (pv 1) ai (fun _ _=>rfl)) (ay _))) (fun C s2 H2 fp=>(pv 0))) ae))) ae)))))
   be)
  (ax (cL (i:=11) sc__law_row.nd rfl (Or.inl rfl) (oF PySem.F.plainAttrs_str PySem.F.slot_str_join PySem.F.type_str_join sD ak (bR (gu cO (gu cO (gu cO (cC (pv 7)) (bu (aw ak (aw (pv 4) aL)))) (cC (pv 6))) (cC (pe_dget2 (bc hr) (pv 10) (pv 4) (aS ae) ⟨rfl,rfl,rfl,rfl⟩))) aL)))
  (aI (cC (aA (aP (aa (pv 11) (aa (pv 4) (aa (pv 6) (aa (pv 7) (aa (pv 9) ae))))))))))))))))))))),?_⟩
 have k20:(1000:Nat)<=sizeLine:=by decide
 have lz:1<=zs.length:=List.length_pos_iff.mpr ne
 have nlp:=fU hb hl
 have bx:∀ {G:Hp} {a:Addr} {o:HO},Box G p->G a=none->Box (upd G a o) p:=fun b h=>b.same (aj h _)
 refine⟨(by show 13<=sizeLine; lia),fun l1 h1=>?_⟩
 obtain⟨G1,e1,s1,g1⟩:=cJ h1 (.lst [V.str "copy",V.str "add",V.str "sub",V.str "addstop",V.str "substop",V.str "low",V.str "high",V.str "left",V.str "right",V.str "less",V.str "same",V.str "pick",V.str "div"])
 change upd H l1 (.lst [V.str (Str.ofString "copy"),V.str (Str.ofString "add"),V.str (Str.ofString "sub"),V.str (Str.ofString "addstop"),V.str (Str.ofString "substop"),V.str (Str.ofString "low"),V.str (Str.ofString "high"),V.str (Str.ofString "left"),V.str (Str.ofString "right"),V.str (Str.ofString "less"),V.str (Str.ofString "same"),V.str (Str.ofString "pick"),V.str (Str.ofString "div")])=G1 at e1
 rw[e1]
 refine⟨_,rfl,_,rfl,(by show 5<=sizeLine; lia),fun l2 h2=>?_⟩
 obtain⟨G2,e2,s2,g2⟩:=cJ h2 (.lst [V.str (Str.ofString "rest"),V.str (Str.ofString "over"),V.str (Str.ofString "times"),V.str (Str.ofString "mul"),V.str (Str.ofString "part")])
 rw[e2]
 refine⟨l1,l2,_,_,rfl,rfl,SqL.of (s2 _ _ g1),SqL.of g2,(by show 13+5<=sizeLine; lia),fun l3 h3=>?_⟩
 obtain⟨G3,e3,s3,g3⟩:=cJ h3 (.lst (dnL.map V.str))
 have e3':upd G2 l3 (.lst ([V.str (Str.ofString "copy"),V.str (Str.ofString "add"),V.str (Str.ofString "sub"),V.str (Str.ofString "addstop"),V.str (Str.ofString "substop"),V.str (Str.ofString "low"),V.str (Str.ofString "high"),V.str (Str.ofString "left"),V.str (Str.ofString "right"),V.str (Str.ofString "less"),V.str (Str.ofString "same"),V.str (Str.ofString "pick"),V.str (Str.ofString "div")]++[V.str (Str.ofString "rest"),V.str (Str.ofString "over"),V.str (Str.ofString "times"),V.str (Str.ofString "mul"),V.str (Str.ofString "part")]))=G3:=e3
 rw[e3']
 have b3:=hb.same (s1.trans (s2.trans s3))
 refine⟨p,l3,dnL,rfl,b3,g3,by decide +kernel,by decide +kernel,fun zd H4 hz b4 x4=>?_⟩
 have x04:SameX p H H4:=(SameX.of (s1.trans (s2.trans s3))).trans x4
 clear e1 g1 s1 h1 e2 g2 s2 h2 e3 e3' g3 s3 h3 b3 x4
 obtain⟨k,k18,rfl⟩:=dn_mem hz
 obtain⟨r1,r2,r3⟩:=row_tab k k18
 refine⟨fun σ' H'=>σ'=[some (.ref p),some (.int w'),some (.ref l),some (.ref l1),some (.str (dn k)),some (.int (many k)),none,none,none,none,none,none]/\Same H4 H',?_,?_⟩
 ·refine⟨_,rfl,(by show 7<=sizeLine; lia),fun tp htp=>⟨tp,_,rfl,.inr (SqT.of ac),rfl,rfl,_,rfl,?_⟩⟩
  show if inV (.str (dn k)) [V.str "copy",V.str "left",V.str "right",V.str "div",V.str "rest",V.str "times",V.str "part"]=true then _ else _
  rw[r1]
  by_cases e:many k=1
  ·exact dw e ⟨by rw[e]; rfl,aj htp _⟩
  ·exact aN e ⟨by rw[r3.resolve_left e]; rfl,aj htp _⟩
 rintro σ H5 ⟨rfl,s5⟩
 have x05:=x04.trans (SameX.of s5)
 have b5:=b4.same s5
 clear x04 s5 b4
 have en:many k+(if decide (V.str (dn k)=V.str (Str.ofString "pick"))=true then (1:Int) else 0)=((nrd k:Nat):Int):=by
  rw[r2]
  congr 1
  by_cases e:dn k=Str.ofString "pick"
  ·rw[if_pos (by rw[e]; exact decide_eq_true rfl),if_pos (decide_eq_true e)]
  ·rw[if_neg (fun z=>e (by have:=of_decide_eq_true z; injection this)),if_neg (fun z=>e (of_decide_eq_true z))]
 have nb:=iC k
 refine⟨_,rfl,_,rfl,rfl,.inr ⟨_,rfl,_,_,rfl,rfl,((nrd k:Nat):Int),congrArg (fun z=>[V.int z]) en,by lia,by lia,fun D hD=>?_⟩⟩
 have nDp:D≠p:=b5.ne hD
 refine iG (n:=((nrd k:Nat):Int).toNat) (fun j HJ=>∃ rs:List Str,HJ D=some (.lst (rs.map V.str))/\rs.length=j/\(∀ z∈rs,z∈zs)/\Box HJ p/\SameX p H5 HJ) ⟨[],ac,rfl,(fun _ h=>nomatch h),b5.same (aj hD _),SameX.of (aj hD _)⟩ ?_ ?_
 ·rintro j HJ hj ⟨rs,hy,lr,nr,bJ,xJ⟩
  refine⟨_,rfl,_,rfl,p,l,zs,rfl,bJ,xJ _ _ nlp (x05 _ _ nlp hl),ne,by lia,fun z HK hz bK xK=>?_⟩
  refine⟨_,xK _ _ nDp hy,by rw[length_map]; lia,_,(show ((nrd k:Nat):Int).toNat-(j+1)<_ by lia),rfl,by lia,rs++[z],by rw[ac,map_append]; rfl,by rw[length_append,lr]; rfl,?_,?_,?_⟩
  ·intro y hy
   rcases List.mem_append.mp hy with h | h
   ·exact nr y h
   ·cases List.mem_singleton.mp h; exact hz
  ·obtain⟨r1,r2,r3,e⟩:=bK
   exact⟨r1,r2,r3,by rw[af (fun z=>nDp z.symm)]; exact e⟩
  ·exact fun b o hb e=>by rw[af (az e hD)]; exact xK _ _ hb (xJ _ _ hb e)
 rintro H6 ⟨rs,hD6,lr,nr,b6,x56⟩
 have lr':rs.length=nrd k:=by rw[lr]; lia
 have x06:=x05.trans x56
 clear x05 x56 b5 hD lr
 refine⟨_,rfl,_,rfl,p,l,zs,rfl,b6,x06 _ _ nlp hl,ne,by lia,fun g H7 hg b7 x7=>⟨(by show 1<=sizeLine; lia),fun lg hlg=>?_⟩⟩
 obtain⟨H8,e8,s8,g8⟩:=cJ hlg (.lst [V.str g])
 rw[e8]
 have nlgp:lg≠p:=b7.ne hlg
 have hD8:=s8 _ _ (x7 _ _ nDp hD6)
 have nlgD:lg≠D:=fun z=>by rw[z,x7 _ _ nDp hD6] at hlg; cases hlg
 have nlgl:lg≠l:=fun z=>by rw[z,x7 _ _ nlp (x06 _ _ nlp hl)] at hlg; cases hlg
 have b8:=b7.same s8
 have x08:=x06.trans (x7.trans (SameX.of s8))
 have lg0:H lg=none:=by
  cases q:H lg with
  | none=>rfl
  | some o=>rw[x7 _ _ nlgp (x06 _ _ nlgp q)] at hlg; cases hlg
 clear e8 s8 hlg b7 x7 x06 b6 hD6
 have pb:=dj w1 w2
 refine⟨_,rfl,_,_,rfl,rfl,_,_,rfl,rfl,nB (by lia) (by lia),?_⟩
 refine⟨_,rfl,_,rfl,_,_,rfl,rfl,_,rfl,_,_,rfl,rfl,.inl ⟨by decide,by decide⟩,_,_,rfl,rfl,(by show 4<=sizeLine; lia),fun l4 h4=>?_⟩
 obtain⟨H9,e9,s9,g9⟩:=cJ h4 (.lst [V.int 1,V.int (1*2^(w'-1).toNat),V.int (1*2^(w'-1).toNat+1),V.int (2*(1*2^(w'-1).toNat)-1)])
 rw[e9]
 refine⟨_,rfl,p,_,rfl,b8.same s9,by decide,by decide,fun d H10 d0 d1 b10 x10=>?_⟩
 obtain⟨n,en2,n1,n2⟩:=num_at w1 w2 d0 d1
 refine⟨l4,_,_,_,rfl,rfl,SqL.of (x10 _ _ (b8.ne h4) g9),en2,?_⟩
 have x810:=(SameX.of s9).trans x10
 have n3:n<10^10:=by lia
 have tl:(tt n).length<=10:=(kr n3).1.2.2.1
 clear e9 s9 g9 h4 x10 en2 d0 d1
 intro pd hpd
 obtain⟨K0,e0,s0,g0⟩:=cJ hpd (.dK [])
 rw[e0]
 clear e0
 refine⟨(by show 1<=sizeLine; lia),fun la hla=>?_⟩
 obtain⟨K1,e1,t1,ga⟩:=cJ hla (.lst [V.str "1"])
 change upd K0 la (.lst [V.str (Str.ofString "1")])=K1 at e1
 rw[e1]
 refine⟨(by show 1<=sizeLine; lia),fun lb hlb=>?_⟩
 obtain⟨K2,e2,t2,gb⟩:=cJ hlb (.lst [V.str "0"])
 change upd K1 lb (.lst [V.str (Str.ofString "0")])=K2 at e2
 rw[e2]
 refine⟨_,rfl,_,rfl,by lia,by lia,(by show 2<=sizeLine; lia),fun lc hlc=>?_⟩
 obtain⟨K3,e3,t3,gc⟩:=cJ hlc (.lst [V.str (tt n),V.str "up"])
 change upd K2 lc (.lst [V.str (Str.ofString (toString (n:Int))),V.str (Str.ofString "up")])=K3 at e3
 rw[e3]
 refine⟨_,rfl,_,rfl,by lia,by lia,(by show 1<=sizeLine; lia),fun ld hld=>?_⟩
 obtain⟨K4,e4,t4,gd⟩:=cJ hld (.lst [V.str (tt n)])
 change upd K3 ld (.lst [V.str (Str.ofString (toString (n:Int)))])=K4 at e4
 rw[e4]
 refine⟨(by show 1<=sizeLine; lia),fun le hle=>?_⟩
 obtain⟨K5,e5,t5,ge⟩:=cJ hle (.lst [V.str "near"])
 change upd K4 le (.lst [V.str (Str.ofString "near")])=K5 at e5
 rw[e5]
 have u05:=t1.trans (t2.trans (t3.trans (t4.trans t5)))
 have g05:=u05 _ _ g0
 refine⟨g05,[(Sum.inr "left",.ref la),(Sum.inr "right",.ref lb),(Sum.inr "div",.ref lc),(Sum.inr "rest",.ref ld),(Sum.inr "mul",.ref le)],rfl,by show 5<=15; decide,?_⟩
 have npd:∀ {a:Addr},K0 a=none->a≠pd:=fun h z=>by rw[z,g0] at h; cases h
 have lgK0:=s0 _ _ (x810 _ _ nlgp g8)
 have nlq:∀ {a:Addr},K0 a=none->a≠lg:=fun h z=>by rw[z,lgK0] at h; cases h
 have nq5:la≠lg/\lb≠lg/\lc≠lg/\ld≠lg/\le≠lg:=⟨nlq hla,nlq (none_of t1 hlb),nlq (none_of (t1.trans t2) hlc),nlq (none_of (t1.trans (t2.trans t3)) hld),nlq (none_of (t1.trans (t2.trans (t3.trans t4))) hle)⟩
 have na:=npd hla
 have nb':=npd (none_of t1 hlb)
 have nc:=npd (none_of (t1.trans t2) hlc)
 have nd:=npd (none_of (t1.trans (t2.trans t3)) hld)
 have nee:=npd (none_of (t1.trans (t2.trans (t3.trans t4))) hle)
 have fa:=(t2.trans (t3.trans (t4.trans t5))) _ _ ga
 have fb:=(t3.trans (t4.trans t5)) _ _ gb
 have fc:=(t4.trans t5) _ _ gc
 have fd:=t5 _ _ gd
 have pd0:H10 pd=none:=hpd
 have w05:=s0.trans u05
 clear e1 e2 e3 e4 e5 t1 t2 t3 t4 t5 hla hlb hlc hld hle ga gb gc gd g0 s0 npd u05
 obtain⟨K6,e6,v6,f6⟩:∃ G,upd K5 pd (.dK (ck [] [(Sum.inr "left",.ref la),(Sum.inr "right",.ref lb),(Sum.inr "div",.ref lc),(Sum.inr "rest",.ref ld),(Sum.inr "mul",.ref le)]))=G/\(∀ b,b≠pd->G b=K5 b)/\G pd=some (.dK (ck [] [(Sum.inr "left",.ref la),(Sum.inr "right",.ref lb),(Sum.inr "div",.ref lc),(Sum.inr "rest",.ref ld),(Sum.inr "mul",.ref le)])):=⟨_,rfl,fun b h=>af h,ac⟩
 rw[e6]
 refine⟨_,rfl,.inr (.inr (.inl ⟨rfl,.inl ⟨_,f6⟩⟩)),?_⟩
 intro pe hpe
 obtain⟨M0,e0,s0,g0⟩:=cJ hpe (.dK [])
 rw[e0]
 have l1':(Str.ofString "1/").length=2:=by decide
 refine⟨_,rfl,_,rfl,by lia,by lia,_,_,rfl,rfl,(by rw[l1']; show 2+(tt n).length<=sizeLine; lia),(by show 2<=sizeLine; lia),fun lf hlf=>?_⟩
 obtain⟨M1,e1,t1,gf⟩:=cJ hlf (.lst [V.str (frT n),V.str "cut"])
 change upd M0 lf (.lst [V.str (Str.ofString "1/"++Str.ofString (toString (n:Int))),V.str (Str.ofString "cut")])=M1 at e1
 rw[e1]
 refine⟨_,rfl,_,rfl,by lia,by lia,(by show 1<=sizeLine; lia),fun lh hlh=>?_⟩
 obtain⟨M2,e2,t2,gh⟩:=cJ hlh (.lst [V.str (tt n)])
 change upd M1 lh (.lst [V.str (Str.ofString (toString (n:Int)))])=M2 at e2
 rw[e2]
 have u02:=t1.trans t2
 have q0:K6 pe=none:=hpe
 have npe:pe≠pd:=fun z=>by rw[z,f6] at q0; cases q0
 have f6':=u02 _ _ (s0 _ _ f6)
 have h0':=u02 _ _ g0
 have nfe:lf≠pe:=fun z=>by rw[z,g0] at hlf; cases hlf
 have nhe:lh≠pe:=fun z=>by rw[z,t1 _ _ g0] at hlh; cases hlh
 have nfd:lf≠pd:=fun z=>by rw[z,s0 _ _ f6] at hlf; cases hlf
 have nhd:lh≠pd:=fun z=>by rw[z,t1 _ _ (s0 _ _ f6)] at hlh; cases hlh
 have hf2:=t2 _ _ gf
 have nlgpd:lg≠pd:=fun z=>by rw[<- z,x810 _ _ nlgp g8] at pd0; cases pd0
 have lgM0:=s0 _ _ ((v6 lg nlgpd).trans (w05 _ _ (x810 _ _ nlgp g8)))
 have nql:∀ x∈[la,lb,lc,ld,le,lf,lh],x≠lg:=by
  intro x hx
  obtain⟨n1,n2,n3,n4,n5⟩:=nq5
  simp only[mem_cons,not_mem_nil,or_false] at hx
  rcases hx with rfl | rfl | rfl | rfl | rfl | rfl | rfl
  ·exact n1
  ·exact n2
  ·exact n3
  ·exact n4
  ·exact n5
  ·exact fun z=>by rw[z,lgM0] at hlf; cases hlf
  ·exact fun z=>by rw[z,t1 _ _ lgM0] at hlh; cases hlh
 refine⟨h0',[(Sum.inr "times",.ref lf),(Sum.inr "part",.ref lh)],rfl,by show 2<=15; decide,?_⟩
 have mk2:ck [] [((Sum.inr "times":Key),V.ref lf),(Sum.inr "part",V.ref lh)]=[((Sum.inr "times":Key),V.ref lf),(Sum.inr "part",V.ref lh)]:=by with_unfolding_all rfl
 rw[mk2]
 have l5:(ck [] [((Sum.inr "left":Key),V.ref la),(Sum.inr "right",.ref lb),(Sum.inr "div",.ref lc),(Sum.inr "rest",.ref ld),(Sum.inr "mul",.ref le)]).length<=5:=cR _ []
 refine⟨pd,pe,_,_,rfl,rfl,by rw[af (Ne.symm npe)]; exact f6',ac,Ne.symm npe,by show _+2<=1000; lia,?_⟩
 have key:∀ b u,b≠pd->b≠pe->K5 b=some u->upd (upd M2 pe (.dK [((Sum.inr "times":Key),V.ref lf),(Sum.inr "part",.ref lh)])) pd (.dK (ck (ck [] [(Sum.inr "left",.ref la),(Sum.inr "right",.ref lb),(Sum.inr "div",.ref lc),(Sum.inr "rest",.ref ld),(Sum.inr "mul",.ref le)]) [(Sum.inr "times",.ref lf),(Sum.inr "part",.ref lh)])) b=some u:=fun b u h1 h2 e=>by
  rw[af h1,af h2]
  exact u02 _ _ (s0 _ _ ((v6 b h1).trans e))
 have ofK5:∀ {b u},K5 b=some u->b≠pd->b≠pe:=fun {b u} e n z=>by
  have:=v6 b n
  rw[z] at this
  rw[z,<- this,q0] at e
  cases e
 obtain⟨W,eW,kW⟩:∃ W,upd (upd M2 pe (.dK [((Sum.inr "times":Key),V.ref lf),(Sum.inr "part",.ref lh)])) pd (.dK (ck (ck [] [(Sum.inr "left",.ref la),(Sum.inr "right",.ref lb),(Sum.inr "div",.ref lc),(Sum.inr "rest",.ref ld),(Sum.inr "mul",.ref le)]) [(Sum.inr "times",.ref lf),(Sum.inr "part",.ref lh)]))=W/\W pd=some (.dK (wds7 la lb lc ld le lf lh)):=⟨_,rfl,ac⟩
 have kf:W lf=some (.lst [V.str (frT n),V.str "cut"]):=by rw[<- eW,af nfd,af nfe]; exact hf2
 have kh:W lh=some (.lst [V.str (tt n)]):=by rw[<- eW,af nhd,af nhe]; exact gh
 rw[eW] at key ⊢
 have wd:WdsAt W pd lg n:=wds_at nql kW (key _ _ na (ofK5 fa na) fa) (key _ _ nb' (ofK5 fb nb') fb) (key _ _ nc (ofK5 fc nc) fc) (key _ _ nd (ofK5 fd nd) fd) (key _ _ nee (ofK5 ge nee) ge) kf kh
 have w10:Same H10 W:=fun b u e=>by
  have n1:b≠pd:=fun z=>by rw[z,pd0] at e; cases e
  have e5:=w05 _ _ e
  exact key b u n1 (ofK5 e5 n1) e5
 have bW:=b10.same w10
 have xW:=x08.trans (x810.trans (SameX.of w10))
 have hDW:=w10 _ _ (x810 _ _ nDp hD8)
 have hgW:=w10 _ _ (x810 _ _ nlgp g8)
 clear key ofK5 kW kf kh eW w10 w05 na nb' nc nd nee fa fb fc fd ge f6 v6 e6 g05 hpd pd0 e0 s0 g0 hpe q0 npe f6' h0' nfe nhe nfd nhd hf2 mk2 l5 u02 e1 t1 gf hlf e2 t2 gh hlh x08 x810 b8 b10 hD8 g8
 refine⟨fun σ' H'=>∃ gs:List Str,σ'=[some (.ref p),some (.int w'),some (.ref l),some (.ref l1),some (.str (dn k)),some (.int (many k)),some (.ref D),some (.ref lg),some (.int (1*2^(w'-1).toNat)),some (.int n),some (.ref pd),none]/\H' lg=some (.lst (gs.map V.str))/\gs.length=(if k=17 then 2 else 1)/\(∀ z∈gs,z∈zs)/\(∀ a b,gs=[a,b]->a≠b)/\Box H' p/\∀ b u,b≠p->b≠lg->W b=some u->H' b=some u,?_,?_⟩
 ·obtain⟨t1,_⟩:=rh k k18
  refine⟨_,rfl,rfl,_,rfl,?_⟩
  by_cases e17:k=17
  rotate_left
  ·refine aN (fun z=>e17 (t1.mp (by injection z))) ⟨[g],rfl,hgW,by rw[if_neg e17]; rfl,?_,?_,bW,fun _ _ _ _ e=>e⟩
   ·intro z hz; cases List.mem_singleton.mp hz; exact hg
   ·intro a b e; cases e
  refine dw (congrArg V.str (t1.mpr e17)) ?_
  have hlW:=xW _ _ nlp hl
  refine⟨_,rfl,.inl ⟨rfl,_,SqL.of hgW⟩,_,rfl,_,rfl,l,rfl,⟨_,SqL.of hlW⟩,fun D2 hD2=>?_⟩
  have nD2p:=bW.ne hD2
  refine pL (xs:=zs.map V.str) (fun j HJ=>HJ D2=some (.lst (((zs.take j).filter (fun z=>decide (z≠g))).map V.str))/\Same W HJ) ⟨ac,aj hD2 _⟩ (fun _ _ _ q=>SqL.of (q.2 _ _ hlW)) ?_ ?_
  ·rintro j x HJ hx ⟨hy,sJ⟩
   obtain⟨z,hz,rfl⟩:∃ z,zs[j]?=some z/\x=V.str z:=by
    rw[List.getElem?_map] at hx
    obtain⟨z,hz,e⟩:=Option.map_eq_some_iff.mp hx
    exact⟨z,hz,e.symm⟩
   have jl:=(List.getElem?_eq_some_iff.mp hz).1
   have hyl:(((zs.take j).filter (fun z=>decide (z≠g))).map V.str).length<=100:=by
    rw[length_map]
    exact Nat.le_trans (List.length_filter_le _ _) (by rw[length_take]; omega)
   refine⟨_,rfl,_,rfl,lg,_,_,_,rfl,rfl,SqL.of (sJ _ _ hgW),rfl,rfl,?_⟩
   refine⟨_,rfl,kP (fun e=>?_) (fun e=>?_)⟩
   ·refine⟨_,rfl,_,hy,by lia,_,(show (zs.map V.str).length-(j+1)<_ by rw[length_map]; lia),rfl,(by rw[length_map]; lia),?_,Same.updL sJ hD2⟩
    rw[ac,take_add_one,hz,List.filter_append,map_append]
    have ez:z≠g:=fun h=>e (congrArg V.str h)
    simp[ez]
   ·refine⟨_,(show (zs.map V.str).length-(j+1)<_ by rw[length_map]; lia),rfl,(by rw[length_map]; lia),?_,sJ⟩
    have ez:z=g:=by injection e
    rw[take_add_one,hz,List.filter_append]
    simp[ez]
    simpa using hy
  rintro HJ ⟨hy,sJ⟩
  rw[length_map,take_length] at hy
  obtain⟨zo,ho1,ho2⟩:=two g hg
  have nef:zs.filter (fun z=>decide (z≠g))≠[]:=fun z=>by
   have:zo∈zs.filter (fun z=>decide (z≠g)):=List.mem_filter.mpr ⟨ho1,decide_eq_true ho2⟩
   rw[z] at this
   cases this
  refine⟨p,D2,_,rfl,bW.same sJ,hy,nef,Nat.le_trans (List.length_filter_le _ _) (by lia),fun z H9 hz b9 x9=>?_⟩
  have hzz:=List.mem_filter.mp hz
  have hg9:=x9 _ _ nlgp (sJ _ _ hgW)
  refine⟨lg,_,_,rfl,rfl,hg9,(by show 1<sizeLine; lia),[g,z],rfl,by rw[ac]; rfl,by rw[if_pos e17]; rfl,?_,?_,?_,?_⟩
  ·intro y hy
   rcases List.mem_cons.mp hy with rfl | hy
   ·exact hg
   ·cases List.mem_singleton.mp hy; exact hzz.1
  ·intro a b e
   injection e with e1 e2
   injection e2 with e2 _
   rw[<- e1,<- e2]
   exact fun h=>of_decide_eq_true hzz.2 h.symm
  ·obtain⟨r1,r2,r3,e⟩:=b9
   exact⟨r1,r2,r3,by rw[af (Ne.symm nlgp)]; exact e⟩
  ·exact fun b u h1 h2 e=>by rw[af h2]; exact x9 _ _ h1 (sJ _ _ e)
 rintro σ H' ⟨gs,rfl,hg',lgs,mgs,dgs,b',x'⟩
 have hD':=x' _ _ nDp (Ne.symm nlgD) hDW
 have wd':=wd.keep bW ⟨_,hgW⟩ x'
 have x0':SameX p H H':=fun b u nb e=>x' b u nb (fun z=>by rw[z,lg0] at e; cases e) (xW b u nb e)
 clear hDW hgW wd bW xW x' W
 let R:RwD:=⟨0,k,gs,rs,n⟩
 have ok:RowOk w' R:=⟨k18,lr',fun z hz=>nm z (nr z hz),lgs,fun z hz=>nm z (mgs z hz),dgs,n1,n2⟩
 have lgs2:gs.length<=2:=by rw[lgs]; split <;> lia
 have lx2:=rS k n
 refine⟨jq,_,rfl,_,rfl,(by show 2<=sizeLine; lia),fun la hla=>?_⟩
 obtain⟨K1,e1,s1,g1⟩:=cJ hla (.lst [V.str (Str.ofString "="),V.str (dn k)])
 rw[e1]
 refine⟨lg,la,_,_,rfl,rfl,SqL.of (s1 _ _ hg'),SqL.of g1,(by rw[length_map]; show gs.length+2<=sizeLine; lia),fun lb hlb=>?_⟩
 obtain⟨K2,e2,s2,g2⟩:=cJ hlb (.lst (gs.map V.str++[V.str (Str.ofString "="),V.str (dn k)]))
 rw[e2]
 have s12:=s1.trans s2
 refine⟨_,rfl,lb,D,_,_,rfl,rfl,SqL.of g2,SqL.of (s12 _ _ hD'),(by rw[length_append,length_map,length_map]; show gs.length+2+rs.length<=sizeLine; lia),fun lc hlc=>?_⟩
 obtain⟨K3,e3,s3,g3⟩:=cJ hlc (.lst ((gs.map V.str++[V.str (Str.ofString "="),V.str (dn k)])++rs.map V.str))
 rw[e3]
 have s13:=s12.trans s3
 obtain⟨kvs,hk,wv⟩:=wd'
 refine⟨_,rfl,pd,rfl,.inl ⟨_,.inl (s13 _ _ hk)⟩,_,rfl,(by show 0<=sizeLine; lia),fun ld hld=>?_⟩
 obtain⟨K4,e4,s4,g4⟩:=cJ hld (.lst [])
 rw[e4]
 have s14:=s13.trans s4
 obtain⟨lv,hv,hx⟩:∃ lv,(eV kvs (Sum.inr (dn k):Key)).getD (.ref ld)=.ref lv/\K4 lv=some (.lst (((ex k n).map (·.2)).map V.str)):=by
  rcases wv k k18 with ⟨e5,e6⟩ | ⟨a,e6,_,e7⟩
  ·rw[e6,e5]; exact⟨ld,rfl,g4⟩
  ·rw[e6]; exact⟨a,rfl,s14 _ _ e7⟩
 refine⟨_,DGet.k (k:=Sum.inr (dn k)) (s14 _ _ hk),?_⟩
 rw[hv]
 refine⟨lc,lv,_,_,rfl,rfl,SqL.of (s4 _ _ g3),SqL.of hx,(by simp only[length_append,length_map]; show gs.length+2+rs.length+_<=sizeLine; lia),fun le hle=>?_⟩
 have ec:((gs.map V.str++[V.str (Str.ofString "="),V.str (dn k)])++rs.map V.str)++((ex k n).map (·.2)).map V.str=R.ws.map V.str:=by
  show _=(gs++((Str.ofString "=")::dn k::(rs++(ex k n).map (·.2)))).map V.str
  simp[map_append]
 rw[ec]
 obtain⟨K5,e5,s5,g5⟩:=cJ hle (.lst (R.ws.map V.str))
 rw[e5]
 have s15:=s14.trans s5
 have wl:=ws_ne (L:=.row R) ok
 have ww:=fun z hz=>(LnOk.wd (L:=.row R) ok w1 w2 z hz).2.2
 have sl:=qP ww
 refine⟨Str.ofString " ",le,R.ws,rfl,rfl,SqL.of g5,?_,?_⟩
 ·have l1:(Str.ofString " ").length=1:=by decide
  rw[l1]
  have:=wl.2
  have e9:(LnD.row R).ws=R.ws:=rfl
  rw[e9] at sl this
  lia
 refine⟨_,rfl,_,rfl,_,rfl,_,rfl,_,rfl,(by show 5<=sizeLine; lia),fun t ht=>?_⟩
 have s16:=s15.trans (aj ht (.tup [.str (Txt.join (Str.ofString " ") R.ws),.str (dn k),.ref D,.ref lg,.int n]))
 refine q t R _ ?_ ⟨D,lg,ac,s16 _ _ hD',s16 _ _ hg'⟩ ok rfl mgs (b'.same s16) (x0'.trans (SameX.of s16))
 exact oN (b'.same s15) (x0'.trans (SameX.of s15)) ht
def LD (w:Int) (H:Hp) (kd:Addr) (m:KM) (n:Nat):Prop:=∃ kvs:List (Key×V),H kd=some (.dK kvs)/\kvs.length<=n/\∀ z,(∀ κ,m z=some κ->∃ t,eV kvs (Sum.inr z:Key)=some (.ref t)/\H t=some (SpT w κ)/\KG w κ)/\(m z=none->eV kvs (Sum.inr z:Key)=none)
theorem LD.same {w:Int}{H H':Hp}{kd:Addr}{m:KM}{n:Nat}(s:Same H H') (h:LD w H kd m n):LD w H' kd m n:=by
 obtain⟨kvs,e,l,q⟩:=h
 exact⟨kvs,s _ _ e,l,fun z=>⟨fun κ e=>(by obtain⟨k,a,b,d⟩:=(q z).1 κ e; exact⟨k,a,s _ _ b,d⟩),(q z).2⟩⟩
theorem LD.mono {w:Int}{H:Hp}{kd:Addr}{m:KM}{n n':Nat}(h:LD w H kd m n) (l:n<=n'):LD w H kd m n':=by
 obtain⟨kvs,e,q,r⟩:=h
 exact⟨kvs,e,Nat.le_trans q l,r⟩
theorem rj {H:Hp}{t kd:Addr}{w:Int}{κ:KS}{kvs ls:List (Key×V)}(h:H t=some (SpT w κ)) (e:H kd=some (.dK kvs)):upd H kd (.dK ls) t=some (SpT w κ):=by rw[af (fun z=>by rw[z,e] at h; cases h)]; exact h
theorem LD.put {w:Int}{H:Hp}{kd t:Addr}{m:KM}{n:Nat}{κ:KS}(h:LD w H kd m n) (hk:H t=some (SpT w κ)) (kg:KG w κ) (hn:n<=1000) (z:Str):∃ H',DPut H kd (.str z) (.ref t) H'/\LD w H' kd (putM m z κ) (n+1)/\SameX kd H H':=by
 obtain⟨kvs,e,l,q⟩:=h
 refine⟨_,DPut.k (k:=Sum.inr z) e (lt_of_le_of_lt l (lt_of_le_of_lt hn (by decide))),⟨_,ac,Nat.le_trans (oW ..) (succ_le_succ l),fun y=>?_⟩,updX⟩
 rw[kB]
 unfold putM
 by_cases ey:y=z
 ·subst ey
  rw[if_pos rfl,if_pos rfl]
  exact⟨fun μ e'=>⟨t,rfl,by cases e'; exact rj hk e,by cases e'; exact kg⟩,fun z=>nomatch z⟩
 ·rw[if_neg ey,if_neg (fun m=>ey (by injection m))]
  refine⟨fun μ e'=>?_,(q y).2⟩
  obtain⟨k',a,b,d⟩:=(q y).1 μ e'
  exact⟨k',a,rj b e,d⟩
theorem LD.get {w:Int}{H:Hp}{kd:Addr}{m:KM}{n:Nat}(h:LD w H kd m n) {z:Str}(hz:(m z).isSome=true):∃ kvs t,H kd=some (.dK kvs)/\eV kvs (Sum.inr z:Key)=some (.ref t)/\H t=some (SpT w (k0 m z))/\KG w (k0 m z):=by
 obtain⟨kvs,e,l,q⟩:=h
 obtain⟨κ,ek⟩:=Option.isSome_iff_exists.mp hz
 obtain⟨k,a,b,d⟩:=(q z).1 κ ek
 have e0:k0 m z=κ:=by unfold k0; rw[ek]; rfl
 exact⟨kvs,k,e,a,by rw[e0]; exact b,by rw[e0]; exact d⟩
def lwp (m:KM) (k:Nat) (z:Str):Bool:=(bS k&&dl m 0 z) || (k == 16&&dl m 2 z)
def rd0 (r:RwD):Str:=r.reads.head?.getD ""
def lwr (w:Int) (m:KM) (r:RwD):Option Str :=
 match r.reads.find? (lwp m r.k) with
 | some z=>some z
 | none=>if r.k=11/\dl m 0 (rd0 r)=true then some (rd0 r) else if 1<r.reads.length/\k0 m (la1 r.reads)≠k0 m (la2 r.reads) then some (la1 r.reads) else if dtB r.k=true/\dl m 0 (rd0 r)=true/\rB w<(r.num:Int) then some (rd0 r) else none
theorem rQ {p:Str->Bool}{zs:List Str}(h:∀ z,p z=false):zs.find? p=none:=List.find?_eq_none.mpr fun z _=>by rw[h z]; decide
theorem la_mem {rs:List Str}(h:2<=rs.length):la1 rs∈rs/\la2 rs∈rs:=by
 obtain⟨pre,a,b,rfl⟩:=iL h
 obtain⟨e1,e2⟩:=om (pre:=pre) (a:=a) (b:=b)
 rw[e1,e2]
 simp
theorem k_tab (k:Nat) (h:k<18):(bS k=true->k≠16/\k≠11/\dtB k=false/\ci k=false)/\(k=16->dtB k=false/\ci k=true/\nrd k=2/\bS k=false)/\(k=11->dtB k=false/\ci k=true/\nrd k=3/\bS k=false)/\(dtB k=true->nrd k=1/\ci k=false/\bS k=false)/\(ci k=true->2<=nrd k)/\(bS k=false->ci k=false->nrd k=1) :=
 ⟨(by decide +kernel:∀ k,k<18->(bS k=true->k≠16/\k≠11/\dtB k=false/\ci k=false)) k h,(by decide +kernel:∀ k,k<18->(k=16->dtB k=false/\ci k=true/\nrd k=2/\bS k=false)) k h,(by decide +kernel:∀ k,k<18->(k=11->dtB k=false/\ci k=true/\nrd k=3/\bS k=false)) k h,(by decide +kernel:∀ k,k<18->(dtB k=true->nrd k=1/\ci k=false/\bS k=false)) k h,(by decide +kernel:∀ k,k<18->(ci k=true->2<=nrd k)) k h,(by decide +kernel:∀ k,k<18->(bS k=false->ci k=false->nrd k=1)) k h⟩
theorem lwr_eq {w:Int}{m:KM}{r:RwD}(ok:RowOk w r) (kg:∀ z∈r.reads,KG w (k0 m z)):lwr w m r=wr5 w m r:=by
 obtain⟨t1,t2,t3,t4,t5,t6⟩:=k_tab _ ok.k18
 have nb:=iC r.k
 have lr:=ok.lr
 obtain⟨a,ra,er⟩:∃ a ra,r.reads=a::ra:=by
  match e:r.reads with
  | a::ra=>exact⟨a,ra,rfl⟩
  | []=>rw[e] at lr; simp at lr; lia
 have e0:rd0 r=a:=by unfold rd0; rw[er]; rfl
 unfold lwr wr5 wr4 wr3 wr2 wr1
 cases cp:bS r.k with
 | true =>
  obtain⟨n16,n11,nd,na⟩:=t1 cp
  have ef:lwp m r.k=dl m 0:=funext fun z=>by unfold lwp; rw[cp,beq_false_of_ne n16]; simp
  rw[ef,nd,na,if_pos rfl,if_neg n16,if_neg n11]
  simp only[Bool.false_eq_true,false_and,if_false]
  cases e:r.reads.find? (dl m 0) with
  | some z=>rfl
  | none =>
   dsimp only
   rw[if_neg (fun z=>n11 z.1),if_neg]
   rintro ⟨l2,ne⟩
   have al:=List.find?_eq_none.mp e
   have ez:∀ z∈r.reads,k0 m z=(0,0):=fun z hz=>by
    have h:=al z hz
    have h1:(k0 m z).1=0:=by unfold dl at h; simpa using h
    have h2:=(kg z hz).2.2 (by lia)
    exact Prod.ext h1 h2
   obtain⟨m1,m2⟩:=la_mem l2
   exact ne (by rw[ez _ m1,ez _ m2])
 | false =>
  simp only[Bool.false_eq_true,if_false]
  by_cases c16:r.k=16
  ·obtain⟨nd,na,n2,_⟩:=t2 c16
   have ef:lwp m r.k=dl m 2:=funext fun z=>by unfold lwp; rw[cp,c16]; simp
   have n11:r.k≠11:=by lia
   rw[ef,nd,na,if_pos c16,if_neg n11]
   simp only[Bool.false_eq_true,false_and,if_false]
   cases e:r.reads.find? (dl m 2) with
   | some z=>rfl
   | none =>
    dsimp only
    rw[if_neg (fun z=>n11 z.1)]
    by_cases q:k0 m (la1 r.reads)=k0 m (la2 r.reads)
    ·rw[if_neg (fun z=>z.2 q),if_neg (fun z=>z.2 q.symm)]
    ·rw[if_pos ⟨by lia,q⟩,if_pos (by first | exact⟨rfl,Ne.symm q⟩ | exact⟨trivial,Ne.symm q⟩)]
  ·have ef:∀ z,lwp m r.k z=false:=fun z=>by unfold lwp; rw[cp,beq_false_of_ne c16]; rfl
   rw[rQ ef,if_neg c16]
   dsimp only
   rw[e0]
   by_cases c11:r.k=11
   ·obtain⟨nd,na,n3,_⟩:=t3 c11
    rw[nd,na,if_pos c11]
    simp only[Bool.false_eq_true,false_and,if_false]
    rw[er]
    have ft:((a::ra).take 1).find? (dl m 0)=if dl m 0 a=true then some a else none:=by
     show [a].find? (dl m 0)=_
     rw[List.find?_cons,List.find?_nil]
     cases dl m 0 a <;> rfl
    rw[ft,<- er]
    by_cases q0:dl m 0 a=true
    ·rw[if_pos ⟨c11,q0⟩,if_pos q0]
    ·rw[if_neg (fun z=>q0 z.2),if_neg q0]
     dsimp only
     by_cases q:k0 m (la1 r.reads)=k0 m (la2 r.reads)
     ·rw[if_neg (fun z=>z.2 q),if_neg (fun z=>z.2 q.symm)]
     ·rw[if_pos ⟨by lia,q⟩,if_pos (by first | exact⟨rfl,Ne.symm q⟩ | exact⟨trivial,Ne.symm q⟩)]
   ·rw[if_neg (fun z=>c11 z.1),if_neg c11]
    cases cd:dtB r.k with
    | true =>
     obtain⟨n1,na,_⟩:=t4 cd
     have era:ra=[]:=eq_nil_of_length_eq_zero (by rw[er,n1] at lr; simpa using lr)
     rw[na,if_neg (fun z=>by lia)]
     simp only[true_and,Bool.false_eq_true,false_and,if_false]
     rw[er,era]
     have ft:[a].find? (dl m 0)=if dl m 0 a=true then some a else none:=by
      rw[List.find?_cons,List.find?_nil]
      cases dl m 0 a <;> rfl
     rw[ft]
     by_cases qh:rB w<(r.num:Int)
     ·by_cases q0:dl m 0 a=true
      ·rw[if_pos ⟨q0,qh⟩,if_pos qh,if_pos q0]
      ·rw[if_neg (fun z=>q0 z.1),if_pos qh,if_neg q0]
     ·rw[if_neg (fun z=>qh z.2),if_neg qh]
    | false =>
     simp only[Bool.false_eq_true,false_and,if_false]
     cases ca:ci r.k with
     | true =>
      have:=t5 ca
      by_cases q:k0 m (la1 r.reads)=k0 m (la2 r.reads)
      ·rw[if_neg (fun z=>z.2 q),if_neg (fun z=>z.2 q.symm)]
      ·rw[if_pos ⟨by lia,q⟩,if_pos (by first | exact⟨rfl,Ne.symm q⟩ | exact⟨trivial,Ne.symm q⟩)]
     | false =>
      have:=t6 cp ca
      rw[if_neg (fun z=>by lia)]
      simp
theorem rq {K:Frag}{H:Hp}{t u:Addr}{w:Int}{κ μ:KS}(a:H t=some (SpT w κ)) (b:H u=some (SpT w μ)) (k3:κ.1<3) (m3:μ.1<3) {Q:VK}(q:Q (.bl (!decide (κ=μ))) H):pZ K 0 true (.ref t) (.ref u) H Q:=by
 have fl:∀ x y:V,eS x=true->eS y=true->EqD K H 0 x y (eqV x y):=fun x y h1 h2=>EqD.flat h1 h2
 refine⟨t,u,_,_,fun j=>if j=0 then eqV (.str (wd κ.1)) (.str (wd μ.1)) else if j=1 then true else eqV (.int κ.2) (.int μ.2),rfl,rfl,SqT.of a,SqT.of b,fun j j1 j2=>?_,?_⟩
 ·have:j<3:=j1
  rcases(by lia:j=0\/j=1\/j=2) with rfl | rfl | rfl
  ·exact fl _ _ rfl rfl
  ·have:=fl (.int w) (.int w) rfl rfl
   rw[show eqV (.int w) (.int w)=true from eqV_int w] at this
   exact this
  ·exact fl _ _ rfl rfl
 ·have e:((List.range (min 3 3)).all (fun j=>if j=0 then eqV (.str (wd κ.1)) (.str (wd μ.1)) else if j=1 then true else eqV (.int κ.2) (.int μ.2))&&(3 == 3))=decide (κ=μ):=by
   show (eqV (.str (wd κ.1)) (.str (wd μ.1))&&(true&&(eqV (.int κ.2) (.int μ.2)&&true))&&true)=_
   have e1:eqV (.str (wd κ.1)) (.str (wd μ.1))=decide (κ.1=μ.1):=by
    by_cases h:κ.1=μ.1
    ·rw[h,decide_eq_true rfl]; simp[eqV]
    ·rw[decide_eq_false h]
     have:=pQ k3 m3 h
     show (wd κ.1 == wd μ.1)=false
     exact beq_eq_false_iff_ne.mpr fun z=>this (congrArg V.str z)
   have e2:eqV (.int κ.2) (.int μ.2)=decide (κ.2=μ.2):=by
    show (κ.2 == μ.2)=_
    rfl
   rw[e1,e2]
   by_cases h:κ=μ
   ·subst h; simp
   ·rw[decide_eq_false h]
    by_cases h1:κ.1=μ.1
    ·have h2:κ.2≠μ.2:=fun z=>h (Prod.ext h1 z)
     rw[decide_eq_false h2]; simp
    ·rw[decide_eq_false h1]; simp
  show Q (.bl (!((List.range (min 3 3)).all _&&(3 == 3)))) H
  rw[e]
  exact q
theorem atI_b {α:Type}(xs:List α) (k:Nat) (h1:1<=k) (h2:k<=xs.length):atI xs (-(k:Int))=xs[xs.length-k]?:=by
 unfold atI ixN
 rw[if_neg (by lia),if_pos (by lia)]
 show xs[(-(k:Int)+(xs.length:Int)).toNat]?=_
 rw[show (-(k:Int)+(xs.length:Int)).toNat=xs.length-k by lia]
theorem ite_b {b:Bool}{A B:Prop}(h:B) (f:b=true->B->A):if b=true then A else B:=by
 cases e:b with
 | true=>exact gU (f e h)
 | false=>exact di h
theorem kL {A B:Prop}(h:if false=true then A else B):B:=by
 rw[if_neg Bool.false_ne_true] at h
 exact h
def sB:Sp:=fun vs H Q _=>∃ (t kd:Addr) (w:Int) (R:RwD) (m:KM) (n:Nat),vs=[.ref t,.ref kd,.int w]/\RwT H t R/\RowOk w R/\4<=w/\w<=32/\LD w H kd m n/\n<=500 /\
 (∀ l z,fg w m R=.inl (.unk l z)->∀ u H',H' u=some (.tup [.str "unknown",.str z])->Same H H'->Q (.ref u) H')/\(∀ l z,fg w m R=.inl (.knd l z)->∀ u H',H' u=some (.tup [.str "kind",.str z])->Same H H'->Q (.ref u) H')/\(∀ m',fg w m R=.inr m'->∀ H',LD w H' kd m' (n+2)->SameX kd H H'->Q .non H')
theorem dn_tab3:∀ k,k<18->inV (.str (dn k)) [V.str "low",V.str "high",V.str "rest",V.str "over",V.str "part"]=bS k:=by decide +kernel
theorem mE {f:Addr}{fd:FuncData}(F:Fun K "_law_made" "_law_made" fP f fd) (T:Txt K mg c) :FnOk P w K mg base CX0 1 f fd ["_law_row_here","_law_kinds","_law_width"] sB:=by
 refine F.ok sc__law_made (fun vs H Q E h=>?_) (fun cdv A outer s H vs Q E hr h=>?_)
 ·obtain⟨t,kd,w',R,m,n,rfl,_⟩:=h
  rfl
 obtain⟨t,kd,w',R,m,n,rfl,⟨rl,gl,ht,hrl,hgl⟩,ok,w1,w2,LK,hn,qu,qk,qv⟩:=h
 refine slE ⟨_,(ax (cC (oP (pv 0) (ix rfl (aW (aK (i:=3) sc__law_made.nd rfl (Or.inl rfl)) (aW (aK (i:=4) sc__law_made.nd rfl (Or.inl rfl)) (aW (aK (i:=5) sc__law_made.nd rfl (Or.inl rfl)) (aW (aK (i:=6) sc__law_made.nd rfl (Or.inl rfl)) (aW (aK (i:=7) sc__law_made.nd rfl (Or.inl rfl)) dW))))))))
  (ax (dE PassesOwn.never rfl (bi (pv 5)) (aK (i:=8) sc__law_made.nd rfl (Or.inl rfl))
   (aI (cG (au (gO (bc hr)) (pv 8) (pv 1) (by with_unfolding_all rfl))
    (aI (cC (aA (aP (aa ak (aa (pv 8) ae))))))
    be)))
  (ax (cC (gP (i:=9) sc__law_made.nd rfl (Or.inl rfl) rfl [1] ["_law_kinds"] rfl (by first | rfl | with_unfolding_all rfl) (by rfl) (by exact(List.forall_mem_cons.mpr ⟨rfl,(fun _ h=>nomatch h)⟩)) (by decide +kernel) rfl (by decide +kernel) rfl (by decide +kernel) (by exact(List.forall_mem_cons.mpr ⟨⟨by first | exact Or.inl rfl | exact Or.inr rfl,rfl⟩,(fun _ h=>nomatch h)⟩)) rfl (by rfl) (bi (pv 5)) (fun C s2 H2 fp=>(fk (bc hr) (pv 1) (pv 0) (fun _ _=>rfl)))))
  (ax (dE PassesOwn.never rfl (pi_zipL rfl T.n_zip (aa (pv 5) (aa (pv 9) ae))) (ix rfl (aW (aK (i:=8) sc__law_made.nd rfl (Or.inl rfl)) (aW (aK (i:=10) sc__law_made.nd rfl (Or.inl rfl)) dW)))
   (ax (cG (PW.pt (cW (au bH (pv 4) (aP (aa ak (aa ak (aa ak (aa ak (aa ak ae)))))) (by with_unfolding_all rfl)) (cx (au op_ne (aH bj (pv 10) ai (fun _ _=>rfl)) ak (ay _)))))
    (aI (cC (aA (aP (aa ak (aa (pv 8) ae))))))
    be)
   (aI (cG (PW.pt (cW (au ce (pv 4) ak (ay _)) (cx (au op_ne (aH bj (pv 10) ai (fun _ _=>rfl)) ak (ay _)))))
    (aI (cC (aA (aP (aa ak (aa (pv 8) ae))))))
    be))))
  (ax (cG (PW.pt (cW (au ce (pv 4) ak (ay _)) (cx (au op_ne (aH bj (aH aD (pv 9) ai (fun _ _=>rfl)) ai (fun _ _=>rfl)) ak (ay _)))))
   (aI (cC (aA (aP (aa ak (aa (aH aD (pv 5) ai (fun _ _=>rfl)) ae))))))
   be)
  (ax (cG (PW.pt (cW (au m4 (aG aE rfl T.n_len boot_len (aa (pv 5) ae)) ai (ay _)) (cx (au (mS (d:=0) (bc hr)) (aH aD (pv 9) (jw dS ai) (fun _ _=>rfl)) (aH aD (pv 9) (jw dS ai) (fun _ _=>rfl)) (ay _)))))
   (aI (cC (aA (aP (aa ak (aa (aH aD (pv 5) (jw dS ai) (fun _ _=>rfl)) ae))))))
   be)
  (ax (cG (PW.pt (cW (au bH (pv 4) (aP (aa ak (aa ak ae))) (by with_unfolding_all rfl)) (cW (au op_ne (aH bj (aH aD (pv 9) ai (fun _ _=>rfl)) ai (fun _ _=>rfl)) ak (ay _)) (cx (au m4 (pv 7) (aJ lL ai (aJ dN (pv 2) ai)) (ay _))))))
   (aI (cC (aA (aP (aa ak (aa (aH aD (pv 5) ai (fun _ _=>rfl)) ae))))))
   be)
  (ax (cC (aF (i:=11) sc__law_made.nd rfl (Or.inl rfl) (aH aD (pv 9) (jw dS ai) (fun _ _=>rfl))))
  (dP (cG (au bH (pv 4) (aP (aa ak (aa ak ae))) (by with_unfolding_all rfl))
   (aI (cL (i:=11) sc__law_made.nd rfl (Or.inl rfl) (fB (aw ak (aw (pv 2) (aw ai aL))))))
   be)
  (ax (dE PassesOwn.never rfl (bi (pv 6)) (aK (i:=8) sc__law_made.nd rfl (Or.inl rfl))
   (aI (cG (PW.pt (cW (au (lB (bc hr)) (pv 8) (pv 1) (by with_unfolding_all rfl)) (cx (au (mS (d:=0) (bc hr)) (fk (bc hr) (pv 1) (pv 8) (fun _ _=>rfl)) (pv 11) (ay _)))))
    (aI (cC (aA (aP (aa ak (aa (pv 8) ae))))))
    be)))
  (ax (dE PassesOwn.never rfl (bi (pv 6)) (aK (i:=8) sc__law_made.nd rfl (Or.inl rfl))
   (aI (cC (fM (bc hr) (pv 1) (pv 8) (pv 11) rfl))))
  (aI (cC (aA aZ)))))))))))))),?_⟩
 have k9:(9:Nat)<=sizeLine:=by decide
 obtain⟨t1,t2,t3,t4,t5,t6⟩:=qN _ ok.k18
 have t7:=dn_tab3 _ ok.k18
 obtain⟨kvs,ek,lk,kq⟩:=id LK
 refine⟨_,rfl,t,_,rfl,SqT.of ht,rfl,_,_,rfl,_,_,rfl,_,_,rfl,_,_,rfl,_,_,rfl,rfl,?_⟩
 refine⟨_,rfl,rl,rfl,⟨_,SqL.of hrl⟩,bI (xs:=R.reads.map V.str) (fun i σ G=>(∃ y:Option V,σ=[some (.ref t),some (.ref kd),some (.int w'),some (.str (lnT (.row R))),some (.str (dn R.k)),some (.ref rl),some (.ref gl),some (.int R.num),y,none,none,none])/\H=G/\∀ z∈R.reads.take i,pY m z=false) ⟨⟨_,rfl⟩,rfl,fun z hz=>by simp at hz⟩ (fun _ _ _ _ q=>SqL.of (q.2.1 ▸ hrl)) ?_ ?_⟩
 ·rintro i v σ G hi ⟨⟨y5,rfl⟩,rfl,al⟩
  obtain⟨z,hz,rfl⟩:∃ z,R.reads[i]?=some z/\v=V.str z:=by
   rw[List.getElem?_map] at hi
   obtain⟨z,hz,e⟩:=Option.map_eq_some_iff.mp hi
   exact⟨z,hz,e.symm⟩
  refine⟨_,rfl,_,rfl,kd,_,rfl,DGet.k (k:=Sum.inr z) ek,_,rfl,?_⟩
  cases zm:m z with
  | some κ =>
   obtain⟨k',e1,_⟩:=(kq z).1 κ zm
   rw[e1]
   refine di ⟨⟨_,rfl⟩,rfl,fun u hu=>?_⟩
   rw[take_add_one,hz] at hu
   rcases List.mem_append.mp hu with hu | hu
   ·exact al u hu
   ·cases List.mem_singleton.mp hu; unfold pY; rw[zm]; rfl
  | none =>
   rw[(kq z).2 zm]
   have ef:fg w' m R=.inl (.unk R.line z):=by
    unfold fg
    rw[ic hz (by unfold pY; rw[zm]; rfl) al]
   exact gU ⟨_,rfl,(by show 2<=sizeLine; lia),fun u hu=>qu _ _ ef u _ ac (aj hu _)⟩
 rintro σ G ⟨⟨y5,rfl⟩,rfl,al⟩
 rw[length_map,take_length] at al
 have fn:R.reads.find? (pY m)=none:=List.find?_eq_none.mpr fun z hz=>by rw[al z hz]; decide
 have al':∀ z∈R.reads,(m z).isSome=true:=fun z hz=>by have:=al z hz; unfold pY at this; simpa using this
 have kgs:∀ z∈R.reads,KG w' (k0 m z):=fun z hz=>by obtain⟨_,_,_,_,_,h⟩:=LK.get (al' z hz); exact h
 unfold fg at qk qv
 rw[fn] at qk qv
 dsimp only at qk qv
 rw[<- lwr_eq ok kgs] at qk qv
 refine⟨_,rfl,rl,rfl,⟨_,SqL.of hrl⟩,fun D hD=>?_⟩
 refine cF (xs:=R.reads.map V.str) (fun j HJ=>∃ ts:List Addr,HJ D=some (.lst (ts.map V.ref))/\Ls (fun (_:Hp) a z=>H a=some (SpT w' (k0 m z))) H ts (R.reads.take j)/\Same H HJ) ⟨[],ac,.nil,aj hD _⟩ (fun _ _ _ q=>by obtain⟨_,_,_,s⟩:=q; exact SqL.of (s _ _ hrl)) ?_ ?_
 ·rintro j v HJ hv ⟨ts,hj,lj,sJ⟩
  obtain⟨z,hz,rfl⟩:∃ z,R.reads[j]?=some z/\v=V.str z:=by
   rw[List.getElem?_map] at hv
   obtain⟨z,hz,e⟩:=Option.map_eq_some_iff.mp hv
   exact⟨z,hz,e.symm⟩
  have jl:=(List.getElem?_eq_some_iff.mp hz).1
  obtain⟨kvs2,tk,ek2,ev,eo,kg⟩:=LK.get (al' z (mem_of_getElem? hz))
  have l1:=lj.1
  rw[length_take] at l1
  have lb:R.reads.length<=3:=by rw[ok.lr]; exact(iC R.k).2
  refine⟨_,rfl,_,rfl,kd,.ref tk,rfl,ev ▸ DGet.k (k:=Sum.inr z) (sJ _ _ ek2),_,hj,(by rw[length_map]; lia),_,(show (R.reads.map V.str).length-(j+1)<_ by rw[length_map]; lia),rfl,(by rw[length_map]; lia),ts++[tk],by rw[ac,map_append]; rfl,?_,Same.updL sJ hD⟩
  rw[take_add_one,hz]
  exact lj.snoc eo
 rintro H1 ⟨ts,hD1,lts,s1⟩
 rw[length_map,take_length] at lts
 have hrl1:=s1 _ _ hrl
 have ltn:=lts.1
 clear hD
 have tsAt:∀ {i:Nat} {z:Str},R.reads[i]?=some z->∃ tk,ts[i]?=some tk/\H1 tk=some (SpT w' (k0 m z)):=fun {i z} hz=>by
  have hl:=(List.getElem?_eq_some_iff.mp hz).1
  have hl':i<ts.length:=by lia
  exact⟨ts[i],List.getElem?_eq_getElem hl',s1 _ _ (lts.2 i _ z (List.getElem?_eq_getElem hl') hz)⟩
 have ld1:LD w' H1 kd m n:=LK.same s1
 refine⟨_,rfl,_,rfl,rl,D,_,_,rfl,SqL.of hrl1,SqL.of hD1,for_zipL (xs:=R.reads.map V.str) (ys:=ts.map V.ref) (fun i σ G=>(∃ y z:Option V,σ=[some (.ref t),some (.ref kd),some (.int w'),some (.str (lnT (.row R))),some (.str (dn R.k)),some (.ref rl),some (.ref gl),some (.int R.num),y,some (.ref D),z,none])/\Same H1 G/\∀ z∈R.reads.take i,lwp m R.k z=false) ⟨⟨_,_,rfl⟩,fun _ _ e=>e,fun z hz=>by simp at hz⟩ (fun _ _ _ q=>⟨SqL.of (q.2.1 _ _ hrl1),SqL.of (q.2.1 _ _ hD1)⟩) (by rw[length_map,length_map]; lia) ?_ ?_⟩
 ·rintro i xv yv σ G hx hy ⟨⟨y,y',rfl⟩,sG,al2⟩ Tp hT
  obtain⟨z,hz,rfl⟩:∃ z,R.reads[i]?=some z/\xv=V.str z:=by
   rw[List.getElem?_map] at hx
   obtain⟨z,hz,e⟩:=Option.map_eq_some_iff.mp hx
   exact⟨z,hz,e.symm⟩
  obtain⟨tk,h1,h2⟩:=tsAt hz
  have ey:yv=.ref tk:=by rw[List.getElem?_map,h1] at hy; injection hy with hy; exact hy.symm
  subst ey
  have sT:=sG.trans (aj hT (.tup [V.str z,V.ref tk]))
  refine⟨Tp,_,rfl,SqT.of ac,rfl,_,_,rfl,_,_,rfl,rfl,?_⟩
  generalize upd G Tp (.tup [V.str z,V.ref tk])=G1 at sT ⊢
  have kg:=kgs z (mem_of_getElem? hz)
  have wq:∀ q,q<3->(V.str (wd (k0 m z).1)=V.str (wd q) ↔ dl m q z=false):=fun q q3=>by
   unfold dl
   by_cases e:(k0 m z).1=q
   ·rw[e]; simp
   ·simp[e]; exact fun h=>pQ kg.1 q3 e (congrArg V.str h)
  have fnd:lwp m R.k z=true->∀ u H',H' u=some (.tup [.str "kind",.str z])->Same H H'->Q (.ref u) H':=fun e=>by
   have ef:lwr w' m R=some z:=by unfold lwr; rw[ic hz e al2]
   rw[ef] at qk
   exact qk _ _ rfl
  refine⟨_,rfl,(by show 5<=sizeLine; lia),fun tp htp=>?_⟩
  have s2:=sT.trans (aj htp (.tup [V.str "low",V.str "high",V.str "rest",V.str "over",V.str "part"]))
  refine⟨tp,_,rfl,.inr (SqT.of ac),rfl,rfl,_,rfl,?_⟩
  show if inV (.str (dn R.k)) [V.str "low",V.str "high",V.str "rest",V.str "over",V.str "part"]=true then _ else _
  rw[t7]
  generalize upd G1 tp (.tup [V.str (Str.ofString "low"),V.str (Str.ofString "high"),V.str (Str.ofString "rest"),V.str (Str.ofString "over"),V.str (Str.ofString "part")])=G2 at s2 ⊢
  have h3:=s2 _ _ h2
  have sH2:=s1.trans s2
  have lw:lwp m R.k z=((bS R.k&&dl m 0 z) || (R.k == 16&&dl m 2 z)):=rfl
  cases hF:(bS R.k&&dl m 0 z) with
  | true =>
   have hp:=(Bool.and_eq_true _ _).mp hF
   rw[hp.1]
   refine gU ⟨_,rfl,tk,_,_,_,rfl,rfl,SqT.of h3,rfl,rfl,_,rfl,iteN (fun z'=>?_) ?_⟩
   ·have:=(wq 0 (by decide)).mp z'; rw[hp.2] at this; cases this
   ·exact⟨_,rfl,(by show 2<=sizeLine; lia),fun u hu=>fnd (by rw[lw,hF]; rfl) u _ ac (sH2.trans (aj hu _))⟩
  | false =>
   refine ite_b (di ?_) (fun e hB=>?_)
   rotate_left
   ·rw[e,Bool.true_and] at hF
    exact⟨_,rfl,tk,_,_,_,rfl,rfl,SqT.of h3,rfl,rfl,_,rfl,eN ((wq 0 (by decide)).mpr hF) (kL hB)⟩
   have nx:lwp m R.k z=false->∀ u∈R.reads.take (i+1),lwp m R.k u=false:=fun ec u hu=>by
    rw[take_add_one,hz] at hu
    rcases List.mem_append.mp hu with hu | hu
    ·exact al2 u hu
    ·cases List.mem_singleton.mp hu; exact ec
   refine⟨_,rfl,rfl,_,rfl,?_⟩
   by_cases e16:R.k=16
   ·refine dw (congrArg V.str (t2.mpr e16)) ⟨_,rfl,tk,_,_,_,rfl,rfl,SqT.of h3,rfl,rfl,_,rfl,kP (fun ne=>?_) (fun ee=>?_)⟩
    ·have:dl m 2 z=true:=by
      cases h:dl m 2 z with
      | true=>rfl
      | false=>exact absurd ((wq 2 (by decide)).mpr h) ne
     exact⟨_,rfl,(by show 2<=sizeLine; lia),fun u hu=>fnd (by rw[lw,this,e16]; simp) u _ ac (sH2.trans (aj hu _))⟩
    ·have:=(wq 2 (by decide)).mp ee
     exact⟨⟨_,_,rfl⟩,s2,nx (by rw[lw,hF,this]; simp)⟩
   ·exact aN (fun z=>e16 (t2.mp (by injection z))) ⟨⟨_,_,rfl⟩,s2,nx (by rw[lw,hF,beq_false_of_ne e16]; rfl)⟩
 rintro σ G ⟨⟨y,y',rfl⟩,sG,al2⟩
 rw[length_map,take_length] at al2
 have fl2:R.reads.find? (lwp m R.k)=none:=List.find?_eq_none.mpr fun z hz=>by rw[al2 z hz]; decide
 have sH:Same H G:=s1.trans sG
 have hDG:=sG _ _ hD1
 have hrG:=sH _ _ hrl
 have tsG:∀ {i:Nat} {z:Str},R.reads[i]?=some z->∃ tk,ts[i]?=some tk/\G tk=some (SpT w' (k0 m z)):=fun {i z} hz=>by
  obtain⟨tk,h1,h2⟩:=tsAt hz
  exact⟨tk,h1,sG _ _ h2⟩
 have nb:=iC R.k
 have lrd:=ok.lr
 obtain⟨a,ra,er⟩:∃ a ra,R.reads=a::ra:=by
  match e:R.reads with
  | a::ra=>exact⟨a,ra,rfl⟩
  | []=>rw[e] at lrd; simp at lrd; lia
 have e0:rd0 R=a:=by unfold rd0; rw[er]; rfl
 obtain⟨ta,hta,hta2⟩:=tsG (i:=0) (z:=a) (by rw[er]; rfl)
 have ata:atI (ts.map V.ref) 0=some (.ref ta):=bC (j:=0) (by rw[List.getElem?_map,hta]; rfl)
 have atr:atI (R.reads.map V.str) 0=some (.str a):=bC (j:=0) (by rw[er]; rfl)
 have kga:=kgs a (by rw[er]; simp)
 have wqa:(V.str (wd (k0 m a).1)=V.str (wd 0) ↔ dl m 0 a=false):=by
  unfold dl
  by_cases e:(k0 m a).1=0
  ·rw[e]; simp
  ·simp[e]; exact fun h=>pQ kga.1 (by decide) e (congrArg V.str h)
 unfold lwr at qk qv
 rw[fl2] at qk qv
 dsimp only at qk qv
 rw[e0] at qk qv
 clear tsAt ld1 al2 fl2 hD1 hrl1 fn al
 refine⟨_,rfl,rfl,_,rfl,?_⟩
 by_cases c4:R.k=11/\dl m 0 a=true
 ·rw[if_pos c4] at qk
  refine dw (congrArg V.str (t3.mpr c4.1)) ⟨_,rfl,D,_,_,_,rfl,rfl,SqL.of hDG,ata,ta,_,_,_,rfl,rfl,SqT.of hta2,rfl,rfl,_,rfl,iteN (fun z'=>?_) ?_⟩
  ·have:=wqa.mp z'; rw[c4.2] at this; cases this
  ·exact⟨_,rfl,rl,_,_,_,rfl,rfl,SqL.of hrG,atr,(by show 2<=sizeLine; lia),fun u hu=>qk _ _ rfl u _ ac (sH.trans (aj hu _))⟩
 rw[if_neg c4] at qk qv
 refine iteA ?_ (fun e b=>?_)
 rotate_left
 ·have e11:=t3.mp (by injection e)
  have:dl m 0 a=false:=by
   cases h:dl m 0 a with
   | false=>rfl
   | true=>exact absurd ⟨e11,h⟩ c4
  exact⟨_,rfl,D,_,_,_,rfl,rfl,SqL.of hDG,ata,ta,_,_,_,rfl,rfl,SqT.of hta2,rfl,rfl,_,rfl,eN (wqa.mpr this) b⟩
 refine⟨_,rfl,rl,_,rfl,.inl (SqL.of hrG),_,_,rfl,rfl,_,rfl,?_⟩
 have i1:R.reads[R.reads.length-1]?=some (la1 R.reads):=by
  unfold la1
  rw[<- List.getLast?_eq_getElem?,er,List.getLast?_cons]
  rfl
 obtain⟨tl1,htl1,hk1⟩:=tsG i1
 have at1:atI (ts.map V.ref) (-1)=some (.ref tl1):=by
  have:=atI_b (ts.map V.ref) 1 (by decide) (by rw[length_map,ltn,er]; simp)
  rw[length_map,ltn,List.getElem?_map,htl1] at this
  exact this
 have am1:atI (R.reads.map V.str) (-1)=some (.str (la1 R.reads)):=by
  have:=atI_b (R.reads.map V.str) 1 (by decide) (by rw[length_map,er]; simp)
  rw[length_map,List.getElem?_map,i1] at this
  exact this
 have l1m:la1 R.reads∈R.reads:=mem_of_getElem? i1
 have kg1:=kgs _ l1m
 by_cases c5:1<R.reads.length/\k0 m (la1 R.reads)≠k0 m (la2 R.reads)
 ·rw[if_pos c5] at qk
  obtain⟨pre,b1,b2,er2⟩:=iL (show 2<=R.reads.length by lia)
  have i2:R.reads[R.reads.length-2]?=some (la2 R.reads):=by
   rw[er2,(om (pre:=pre) (a:=b1) (b:=b2)).2,length_append]
   show (pre++[b1,b2])[pre.length+2-2]?=_
   rw[Nat.add_sub_cancel,List.getElem?_append_right (le_refl _),Nat.sub_self]
   rfl
  obtain⟨tl2,htl2,hk2⟩:=tsG i2
  have at2':atI (ts.map V.ref) (-2)=some (.ref tl2):=by
   have:=atI_b (ts.map V.ref) 2 (by decide) (by rw[length_map,ltn]; lia)
   rw[length_map,ltn,List.getElem?_map,htl2] at this
   exact this
  have kg2:=kgs _ (mem_of_getElem? i2)
  refine dw (show (1:Int)<((R.reads.map V.str).length:Int) by rw[length_map]; lia) ⟨_,rfl,_,rfl,D,_,_,_,rfl,rfl,SqL.of hDG,at1,_,rfl,_,rfl,D,_,_,_,rfl,rfl,SqL.of hDG,at2',rq hk1 hk2 kg1.1 kg2.1 ?_⟩
  refine⟨_,rfl,iteN c5.2 ⟨_,rfl,_,rfl,rl,_,_,_,rfl,rfl,SqL.of hrG,am1,(by show 2<=sizeLine; lia),fun u hu=>qk _ _ rfl u _ ac (sH.trans (aj hu _))⟩⟩
 rw[if_neg c5] at qk qv
 refine iteA ?_ (fun e b=>?_)
 rotate_left
 ·have l2:1<R.reads.length:=by have e':(1:Int)<((R.reads.map V.str).length:Int):=e; rw[length_map] at e'; lia
  obtain⟨pre,b1,b2,er2⟩:=iL (show 2<=R.reads.length by lia)
  have i2:R.reads[R.reads.length-2]?=some (la2 R.reads):=by
   rw[er2,(om (pre:=pre) (a:=b1) (b:=b2)).2,length_append]
   show (pre++[b1,b2])[pre.length+2-2]?=_
   rw[Nat.add_sub_cancel,List.getElem?_append_right (le_refl _),Nat.sub_self]
   rfl
  obtain⟨tl2,htl2,hk2⟩:=tsG i2
  have at2':atI (ts.map V.ref) (-2)=some (.ref tl2):=by
   have:=atI_b (ts.map V.ref) 2 (by decide) (by rw[length_map,ltn]; lia)
   rw[length_map,ltn,List.getElem?_map,htl2] at this
   exact this
  have kg2:=kgs _ (mem_of_getElem? i2)
  have eq:k0 m (la1 R.reads)=k0 m (la2 R.reads):=Decidable.byContradiction fun h=>c5 ⟨l2,h⟩
  exact⟨_,rfl,_,rfl,D,_,_,_,rfl,rfl,SqL.of hDG,at1,_,rfl,_,rfl,D,_,_,_,rfl,rfl,SqL.of hDG,at2',rq hk1 hk2 kg1.1 kg2.1 ⟨_,rfl,eN eq b⟩⟩
 refine⟨_,rfl,(by show 2<=sizeLine; lia),fun tp htp=>?_⟩
 have s6:=aj htp (.tup [V.str (Str.ofString "div"),V.str (Str.ofString "times")])
 refine⟨tp,_,rfl,.inr (SqT.of ac),rfl,rfl,_,rfl,?_⟩
 show if inV (.str (dn R.k)) [V.str "div",V.str "times"]=true then _ else _
 rw[t4]
 generalize upd G tp (.tup [V.str (Str.ofString "div"),V.str (Str.ofString "times")])=G6 at s6 ⊢
 have sH6:=sH.trans s6
 have hD6:=s6 _ _ hDG
 have hta6:=s6 _ _ hta2
 by_cases c6:dtB R.k=true/\dl m 0 a=true/\rB w'<(R.num:Int)
 ·rw[if_pos c6] at qk
  rw[c6.1]
  refine gU ⟨_,rfl,D,_,_,_,rfl,rfl,SqL.of hD6,ata,ta,_,_,_,rfl,rfl,SqT.of hta6,rfl,rfl,_,rfl,iteN (fun z'=>?_) ?_⟩
  ·have:=wqa.mp z'; rw[c6.2.1] at this; cases this
  ·exact⟨_,rfl,_,rfl,_,_,rfl,rfl,_,_,rfl,rfl,nB (by lia) (by lia),_,_,rfl,rfl,_,rfl,dw c6.2.2 ⟨_,rfl,rl,_,_,_,rfl,rfl,SqL.of (s6 _ _ hrG),atr,(by show 2<=sizeLine; lia),fun u hu=>qk _ _ rfl u _ ac (sH6.trans (aj hu _))⟩⟩
 rw[if_neg c6] at qk qv
 refine ite_b (di ?_) (fun e hB=>?_)
 rotate_left
 ·refine⟨_,rfl,D,_,_,_,rfl,rfl,SqL.of hD6,ata,ta,_,_,_,rfl,rfl,SqT.of hta6,rfl,rfl,_,rfl,kP (fun ne=>?_) (fun _=>kL hB)⟩
  have nt:dl m 0 a=true:=by
   cases h:dl m 0 a with
   | true=>rfl
   | false=>exact absurd (wqa.mpr h) ne
  exact⟨_,rfl,_,rfl,_,_,rfl,rfl,_,_,rfl,rfl,nB (by lia) (by lia),_,_,rfl,rfl,_,rfl,aN (fun z=>c6 ⟨e,nt,z⟩) (kL hB)⟩
 dsimp only at qk qv
 refine⟨_,rfl,_,rfl,D,_,_,_,rfl,rfl,SqL.of hD6,at1,?_⟩
 refine⟨fun σ' H'=>∃ tp,σ'=[some (.ref t),some (.ref kd),some (.int w'),some (.str (lnT (.row R))),some (.str (dn R.k)),some (.ref rl),some (.ref gl),some (.int R.num),y,some (.ref D),y',some (.ref tp)]/\H' tp=some (SpT w' (kO m R))/\Same G6 H',?_,?_⟩
 ·refine⟨_,rfl,(by show 2<=sizeLine; lia),fun tq htq=>?_⟩
  have s7:=aj htq (.tup [V.str (Str.ofString "less"),V.str (Str.ofString "same")])
  refine⟨tq,_,rfl,.inr (SqT.of ac),rfl,rfl,_,rfl,?_⟩
  show if inV (.str (dn R.k)) [V.str "less",V.str "same"]=true then _ else _
  rw[t6]
  cases e:(R.k == 9 || R.k == 10) with
  | true =>
   have ep:kO m R=(0,0):=by unfold kO; rw[e]; rfl
   exact gU ⟨_,rfl,(by show 3<=sizeLine; lia),fun tz htz=>⟨tz,rfl,by rw[ep]; exact ac,s7.trans (aj htz _)⟩⟩
  | false =>
   have ep:kO m R=k0 m (la1 R.reads):=by unfold kO; rw[e]; rfl
   exact di ⟨tl1,rfl,by rw[ep]; exact s7 _ _ (s6 _ _ hk1),s7⟩
 rintro σ G7 ⟨tp,rfl,htp7,s7⟩
 have kgp:KG w' (kO m R):=by
  unfold kO
  cases e:(R.k == 9 || R.k == 10) with
  | true=>exact⟨(by show (0:Nat)<3; decide),(fun z=>absurd (show (0:Nat)=2 from z) (by decide)),fun _=>rfl⟩
  | false=>exact kg1
 have sH7:=sH6.trans s7
 have hg7:=sH7 _ _ hgl
 have L7:=LK.same sH7
 clear hDG hrG tsG hta hta2 ata atr kga wqa c4 i1 htl1 hk1 at1 am1 l1m c5 c6 hD6 hta6 sG s6 sH sH6 hrl lts ltn s1 nb lrd er e0 ht
 generalize kO m R=κ at qk qv htp7 kgp
 obtain⟨kvs7,ek7,lk7,kq7⟩:=id L7
 refine⟨_,rfl,gl,rfl,⟨_,SqL.of hg7⟩,bI (xs:=R.goals.map V.str) (fun i σ G=>(∃ y5:Option V,σ=[some (.ref t),some (.ref kd),some (.int w'),some (.str (lnT (.row R))),some (.str (dn R.k)),some (.ref rl),some (.ref gl),some (.int R.num),y5,some (.ref D),y',some (.ref tp)])/\G7=G/\∀ z∈R.goals.take i,gt m κ z=false) ⟨⟨_,rfl⟩,rfl,fun z hz=>by simp at hz⟩ (fun _ _ _ _ q=>SqL.of (q.2.1 ▸ hg7)) ?_ ?_⟩
 ·rintro i v σ G hi ⟨⟨y5,rfl⟩,rfl,cl⟩
  obtain⟨z,hz,rfl⟩:∃ z,R.goals[i]?=some z/\v=V.str z:=by
   rw[List.getElem?_map] at hi
   obtain⟨z,hz,e⟩:=Option.map_eq_some_iff.mp hi
   exact⟨z,hz,e.symm⟩
  have nx:gt m κ z=false->∀ u∈R.goals.take (i+1),gt m κ u=false:=fun ec u hu=>by
   rw[take_add_one,hz] at hu
   rcases List.mem_append.mp hu with hu | hu
   ·exact cl u hu
   ·cases List.mem_singleton.mp hu; exact ec
  refine⟨_,rfl,_,rfl,kd,_,rfl,DGet.k (k:=Sum.inr z) ek7,_,rfl,?_⟩
  cases zm:m z with
  | some μ =>
   obtain⟨k',e1,p1,g1⟩:=(kq7 z).1 μ zm
   have ez:k0 m z=μ:=by unfold k0; rw[zm]; rfl
   rw[e1]
   refine gU ⟨_,rfl,_,rfl,kd,_,rfl,e1 ▸ DGet.k (k:=Sum.inr z) ek7,_,rfl,rq p1 htp7 g1.1 kgp.1 ⟨_,rfl,kP (fun e=>?_) (fun e=>?_)⟩⟩
   ·rw[ic hz (by unfold gt; rw[zm,ez,decide_eq_false e]; rfl) cl] at qk
    exact⟨_,rfl,(by show 2<=sizeLine; lia),fun u hu=>qk _ _ rfl u _ ac (sH7.trans (aj hu _))⟩
   ·exact⟨⟨_,rfl⟩,rfl,nx (by unfold gt; rw[zm,ez,decide_eq_true e]; rfl)⟩
  | none =>
   rw[(kq7 z).2 zm]
   exact di ⟨⟨_,rfl⟩,rfl,nx (by unfold gt; rw[zm]; rfl)⟩
 rintro σ G ⟨⟨y5,rfl⟩,rfl,cl⟩
 rw[length_map,take_length] at cl
 rw[List.find?_eq_none.mpr fun z hz=>by rw[cl z hz]; decide] at qv
 have ntp:tp≠kd:=fun z=>by rw[z,ek7] at htp7; cases htp7
 have ngl:gl≠kd:=fun z=>by rw[z,ek7] at hg7; cases hg7
 refine⟨_,rfl,gl,rfl,⟨_,SqL.of hg7⟩,bI (xs:=R.goals.map V.str) (fun i σ G=>(∃ y5:Option V,σ=[some (.ref t),some (.ref kd),some (.int w'),some (.str (lnT (.row R))),some (.str (dn R.k)),some (.ref rl),some (.ref gl),some (.int R.num),y5,some (.ref D),y',some (.ref tp)])/\LD w' G kd (lM m (R.goals.take i) κ) (n+i)/\SameX kd G7 G) ⟨⟨_,rfl⟩,L7,fun _ _ _ e=>e⟩ (fun _ _ _ _ q=>SqL.of (q.2.2 _ _ ngl hg7)) ?_ ?_⟩
 ·rintro i v σ G hi ⟨⟨y5,rfl⟩,KG',sG⟩
  obtain⟨z,hz,rfl⟩:∃ z,R.goals[i]?=some z/\v=V.str z:=by
   rw[List.getElem?_map] at hi
   obtain⟨z,hz,e⟩:=Option.map_eq_some_iff.mp hi
   exact⟨z,hz,e.symm⟩
  have li:i<R.goals.length:=(List.getElem?_eq_some_iff.mp hz).1
  have lg:=ok.g2
  obtain⟨H3,dp,K3,s3⟩:=KG'.put (sG _ _ ntp htp7) kgp (by lia) z
  refine⟨_,rfl,_,rfl,_,rfl,kd,H3,rfl,dp,⟨_,rfl⟩,?_,sG.trans s3⟩
  rw[take_add_one,hz]
  unfold lM at K3 ⊢
  rw[List.foldl_append]
  exact K3
 ·rintro σ G ⟨⟨y5,rfl⟩,KG',sG⟩
  rw[length_map,take_length] at KG'
  have lg:=ok.g2
  exact qv _ rfl G (KG'.mono (by lia)) fun b u nb e=>sG b u nb (sH7 _ _ e)
def mJ (I:List (Str×KS)) (n:Int):List (Int×Str×KS):=I.mapIdx fun i y=>(n+(i:Int),y.1,y.2)
def eZ (os:List Str) (n:Int):List (Int×Str):=os.mapIdx fun i z=>(n+(i:Int),z)
def bN (Rs:List RwD) (n:Int):List RwD:=Rs.mapIdx fun i r=>r.at (n+(i:Int))
structure Stt (S:DS) (w:Int) (i:List (Int×Str×KS)) (p:List RwD) (o:List (Int×Str)) (tp:List Int) (lp:List (Int×List Int)) (mt:Nat):Prop where
 w:S.w=w
 i:S.ins=i
 p:S.prs=p
 o:S.outs=o
 t:S.top=tp
 l:S.lps=lp
 m:S.met.length<=mt
theorem gR:∀ {L1 L2:List LnD}{S:DS}{n:Int},aX S n (L1++L2)=aX (aX S n L1) (n+(L1.length:Int)) L2
 | [],L2,S,n=>by show aX S n L2=aX S (n+0) L2; rw[Int.add_zero]
 | L::r,L2,S,n=>by
  show aX (bZ S n L) (n+1) (r++L2)=aX (aX (bZ S n L) (n+1) r) (n+((r.length+1:Nat):Int)) L2
  rw[gR,show n+1+(r.length:Int)=n+((r.length+1:Nat):Int) by lia]
theorem dQ:∀ {L1 L2:List LnD}{S:DS}{n:Int},iA S n L1->iA (aX S n L1) (n+(L1.length:Int)) L2->iA S n (L1++L2)
 | [],L2,S,n,_,h=>by rw[show n+(([]:List LnD).length:Int)=n by show n+0=n; lia] at h; exact h
 | L::r,L2,S,n,⟨a,b,c,d⟩,h=>⟨a,b,c,dQ d (by rw[show n+1+(r.length:Int)=n+((r.length+1:Nat):Int) by lia]; exact h)⟩
theorem rL (y:Str×KS) (r:List (Str×KS)) (n:Int):mJ (y::r) n=(n,y.1,y.2)::mJ r (n+1):=by
 unfold mJ
 rw[List.mapIdx_cons,show n+((0:Nat):Int)=n by lia]
 congr 1
 congr 1
 funext i x
 rw[show n+((i+1:Nat):Int)=n+1+(i:Int) by lia]
theorem jO (y:Str) (r:List Str) (n:Int):eZ (y::r) n=(n,y)::eZ r (n+1):=by
 unfold eZ
 rw[List.mapIdx_cons,show n+((0:Nat):Int)=n by lia]
 congr 1
 congr 1
 funext i x
 rw[show n+((i+1:Nat):Int)=n+1+(i:Int) by lia]
theorem iR (y:RwD) (r:List RwD) (n:Int):bN (y::r) n=y.at n::bN r (n+1):=by
 unfold bN
 rw[List.mapIdx_cons,show n+((0:Nat):Int)=n by lia]
 congr 1
 congr 1
 funext i x
 rw[show n+((i+1:Nat):Int)=n+1+(i:Int) by lia]
theorem w_ins {w:Int}:∀ {I:List (Str×KS)}{S:DS}{n:Int}{i mt},Stt S w i [] [] [] [] mt->mt+I.length<=30->Stt (aX S n (I.map fun y=>LnD.inn y.1 y.2)) w (i++mJ I n) [] [] [] [] (mt+I.length)/\iA S n (I.map fun y=>LnD.inn y.1 y.2)
 | [],S,n,i,mt,h,_=>⟨by rw[show mJ [] n=[] from rfl,append_nil]; exact h,trivial⟩
 | y::r,S,n,i,mt,h,hm=>by
  simp only[length_cons] at hm
  have ml:=pf S.met y.1
  have hm':=h.m
  have h1:Stt (bZ S n (.inn y.1 y.2)) w (i++[(n,y.1,y.2)]) [] [] [] [] (mt+1):=⟨h.w,by show S.ins++[_]=_; rw[h.i],h.p,h.o,h.t,h.l,by show (pE S.met y.1).length<=mt+1; lia⟩
  obtain⟨a,b⟩:=w_ins (I:=r) (n:=n+1) h1 (by lia)
  refine⟨?_,⟨h.t,h.l,h.o⟩,Nat.le_trans h1.m (by lia),by rw[show (bZ S n ((fun y=>LnD.inn y.1 y.2) y)).lps=_ from h1.l]; decide,b⟩
  rw[rL]
  have e:(i++[(n,y.1,y.2)])++mJ r (n+1)=i++(n,y.1,y.2)::mJ r (n+1):=by simp
  rw[<- e,show mt+(y::r).length=mt+1+r.length by simp only[length_cons]; lia]
  exact a
theorem w_outs {w:Int}:∀ {os:List Str}{S:DS}{n:Int}{i p o tp mt},Stt S w i p o tp [] mt->mt<=30->Stt (aX S n (os.map LnD.out)) w i p (o++eZ os n) tp [] mt/\iA S n (os.map LnD.out)
 | [],S,n,i,p,o,tp,mt,h,_=>⟨by rw[show eZ [] n=[] from rfl,append_nil]; exact h,trivial⟩
 | y::r,S,n,i,p,o,tp,mt,h,hm=>by
  have h1:Stt (bZ S n (.out y)) w i p (o++[(n,y)]) tp [] mt:=⟨h.w,h.i,h.p,by show S.outs++[_]=_; rw[h.o],h.t,h.l,h.m⟩
  obtain⟨a,b⟩:=w_outs (os:=r) (n:=n+1) h1 hm
  refine⟨?_,h.l,by have:=h1.m; lia,by rw[h1.l]; decide,b⟩
  rw[jO]
  have e:(o++[(n,y)])++eZ r (n+1)=o++(n,y)::eZ r (n+1):=by simp
  rw[<- e]
  exact a
theorem oJ (S:DS) (gs:List Str):(S.mets gs).met.length<=S.met.length+gs.length:=iU gs S.met
theorem oO {w:Int}:∀ {Rs:List RwD}{S:DS}{n:Int}{i p tp mt},(∀ r∈Rs,RowOk w r)->Stt S w i p [] tp [] mt->mt+2*Rs.length<=30->Stt (aX S n (Rs.map LnD.row)) w i (p++bN Rs n) [] (tp++List.replicate Rs.length 1) [] (mt+2*Rs.length)/\iA S n (Rs.map LnD.row)
 | [],S,n,i,p,tp,mt,_,h,_=>⟨by rw[show bN [] n=[] from rfl,append_nil,show List.replicate ([]:List RwD).length (1:Int)=[] from rfl,append_nil]; exact h,trivial⟩
 | y::r,S,n,i,p,tp,mt,hr,h,hm=>by
  simp only[length_cons] at hm
  have g2:=(hr y (mem_cons_self ..)).g2
  have ml:=oJ ((S.item).pair (y.at n)) y.goals
  have hm':=h.m
  have h1:Stt (bZ S n (.row y)) w i (p++[y.at n]) [] (tp++[1]) [] (mt+2):=by
   refine⟨h.w,h.i,by show S.prs++[_]=_; rw[h.p],h.o,?_,?_,?_⟩
   ·show (jy 1 S.top S.lps).1=_; rw[h.l,h.t]; rfl
   ·show (jy 1 S.top S.lps).2=_; rw[h.l,h.t]; rfl
   ·show (((S.item).pair (y.at n)).mets y.goals).met.length<=mt+2
    have e:((S.item).pair (y.at n)).met.length=S.met.length:=rfl
    lia
  obtain⟨a,b⟩:=oO (Rs:=r) (n:=n+1) (fun q hq=>hr q (mem_cons_of_mem _ hq)) h1 (by lia)
  refine⟨?_,h.o,by have:=h1.m; lia,by rw[h1.l]; decide,b⟩
  rw[iR]
  have e:(p++[y.at n])++bN r (n+1)=p++y.at n::bN r (n+1):=by simp
  have e2:(tp++[1])++List.replicate r.length (1:Int)=tp++List.replicate (y::r).length 1:=by rw[length_cons,replicate_succ]; simp
  rw[<- e,<- e2,show mt+2*(y::r).length=mt+2+2*r.length by simp only[length_cons]; lia]
  exact a
theorem qO {w t:Int}:∀ {Rs:List RwD}{S:DS}{n:Int}{i p tp ns mt},(∀ r∈Rs,RowOk w r)->Stt S w i p [] tp [(t,ns)] mt->mt+2*Rs.length<=30->Stt (aX S n (Rs.map LnD.row)) w i (p++bN Rs n) [] tp [(t,ns++List.replicate Rs.length 1)] (mt+2*Rs.length)/\iA S n (Rs.map LnD.row)
 | [],S,n,i,p,tp,ns,mt,_,h,_=>⟨by rw[show bN [] n=[] from rfl,append_nil,show List.replicate ([]:List RwD).length (1:Int)=[] from rfl,append_nil]; exact h,trivial⟩
 | y::r,S,n,i,p,tp,ns,mt,hr,h,hm=>by
  simp only[length_cons] at hm
  have g2:=(hr y (mem_cons_self ..)).g2
  have ml:=oJ ((S.item).pair (y.at n)) y.goals
  have hm':=h.m
  have h1:Stt (bZ S n (.row y)) w i (p++[y.at n]) [] tp [(t,ns++[1])] (mt+2):=by
   refine⟨h.w,h.i,by show S.prs++[_]=_; rw[h.p],h.o,?_,?_,?_⟩
   ·show (jy 1 S.top S.lps).1=_; rw[h.l,h.t]; rfl
   ·show (jy 1 S.top S.lps).2=_; rw[h.l,h.t]; rfl
   ·show (((S.item).pair (y.at n)).mets y.goals).met.length<=mt+2
    have e:((S.item).pair (y.at n)).met.length=S.met.length:=rfl
    lia
  obtain⟨a,b⟩:=qO (Rs:=r) (n:=n+1) (fun q hq=>hr q (mem_cons_of_mem _ hq)) h1 (by lia)
  refine⟨?_,h.o,by have:=h1.m; lia,by rw[h1.l]; show 1<=3; decide,b⟩
  rw[iR]
  have e:(p++[y.at n])++bN r (n+1)=p++y.at n::bN r (n+1):=by simp
  have e2:(ns++[1])++List.replicate r.length (1:Int)=ns++List.replicate (y::r).length 1:=by rw[length_cons,replicate_succ]; simp
  rw[<- e,<- e2,show mt+2*(y::r).length=mt+2+2*r.length by simp only[length_cons]; lia]
  exact a
def je (Rs:List RwD):Option (Nat×Nat)->List LnD
 | none=>Rs.map LnD.row
 | some q=>(Rs.take q.1).map LnD.row++(LnD.rep "2"::(((Rs.drop q.1).take (q.2-q.1)).map LnD.row++(LnD.fin::(Rs.drop q.2).map LnD.row)))
def plc:Option (Nat×Nat)->Nat->Int
 | none,k=>(k:Int)
 | some q,k=>(k:Int)+(if q.1<=k then 1 else 0)+(if q.2<=k then 1 else 0)
def LpOk (n:Nat) (lp:Option (Nat×Nat)):Prop:=∀ q,lp=some q->q.1<q.2/\q.2<=n
def iB (Rs:List RwD) (lp:Option (Nat×Nat)) (n:Int):List RwD:=Rs.mapIdx fun i r=>r.at (n+plc lp i)
theorem num2:Num "2"/\nV "2"=2:=⟨⟨by unfold PySem.NumText.AllDigits; decide +kernel,by decide +kernel,by decide +kernel,fun z=>absurd z (by decide +kernel)⟩,by decide +kernel⟩
theorem jX {α β:Type}(f:Nat->α->β):∀ (a b:List α),(a++b).mapIdx f=a.mapIdx f++b.mapIdx fun i x=>f (i+a.length) x:=fun a b=>List.mapIdx_append
theorem ie {α β:Type}{f g:Nat->α->β}{l:List α}(h:∀ i x,l[i]?=some x->f i x=g i x):l.mapIdx f=l.mapIdx g:=List.ext_getElem? fun i=>by
 rw[List.getElem?_mapIdx,List.getElem?_mapIdx]
 cases e:l[i]? with
 | none=>rfl
 | some x=>simp[h i x e]
theorem qr (n:Nat):(List.replicate n (1:Int)).sum=n:=by
 induction n with
 | zero=>rfl
 | succ n ih=>rw[replicate_succ,List.sum_cons,ih]; lia
theorem w_mid {w:Int}{Rs:List RwD}{S:DS}{n:Int}{i mt}{lp:Option (Nat×Nat)}(hr:∀ r∈Rs,RowOk w r) (h:Stt S w i [] [] [] [] mt) (hm:mt+2*Rs.length<=30) (lo:LpOk Rs.length lp) :
  ∃ tp,Stt (aX S n (je Rs lp)) w i (iB Rs lp n) [] tp [] (mt+2*Rs.length)/\iA S n (je Rs lp)/\tp.sum<=2*Rs.length:=by
 cases lp with
 | none =>
  obtain⟨a,b⟩:=oO (n:=n) hr h hm
  refine⟨List.replicate Rs.length 1,?_,b,?_⟩
  ·rw[nil_append,nil_append] at a
   exact a
  ·rw[qr]; lia
 | some q =>
  obtain⟨a,e⟩:=q
  obtain⟨q1,q2⟩:=lo _ rfl
  dsimp only at q1 q2
  have l1:(Rs.take a).length=a:=by rw[length_take]; lia
  have l2:((Rs.drop a).take (e-a)).length=e-a:=by rw[length_take,length_drop]; lia
  have l3:(Rs.drop e).length=Rs.length-e:=length_drop
  obtain⟨A1,A2⟩:=oO (n:=n) (fun r hq=>hr r (List.take_subset _ _ hq)) h (by rw[l1]; lia)
  rw[l1] at A1
  have B1:Stt (bZ (aX S n ((Rs.take a).map LnD.row)) (n+a) (.rep "2")) w i ([]++bN (Rs.take a) n) [] ([]++List.replicate a 1) [(2,[])] (mt+2*a):=⟨A1.w,A1.i,A1.p,A1.o,A1.t,by show _++[(nV "2",[])]=_; rw[A1.l,num2.2]; rfl,A1.m⟩
  obtain⟨C1,C2⟩:=qO (n:=n+a+1) (fun r hq=>hr r (List.drop_subset _ _ (List.take_subset _ _ hq))) B1 (by rw[l2]; lia)
  rw[l2,nil_append] at C1
  have D1:Stt (bZ (aX (bZ (aX S n ((Rs.take a).map LnD.row)) (n+a) (.rep "2")) (n+a+1) (((Rs.drop a).take (e-a)).map LnD.row)) (n+a+1+(e-a:Nat)) .fin) w i (([]++bN (Rs.take a) n)++bN ((Rs.drop a).take (e-a)) (n+a+1)) [] (([]++List.replicate a 1)++[2*(List.replicate (e-a) (1:Int)).sum]) [] (mt+2*a+2*(e-a)):=by
   generalize aX (bZ (aX S n ((Rs.take a).map LnD.row)) (n+a) (.rep "2")) (n+a+1) (((Rs.drop a).take (e-a)).map LnD.row)=S2 at C1
   have ef:bZ S2 (n+a+1+(e-a:Nat)) .fin=S2.close [] (2*(List.replicate (e-a) (1:Int)).sum):=by
    show (match S2.lps.getLast? with | none=>S2 | some p=>S2.close S2.lps.dropLast (p.1*p.2.sum))=_
    rw[C1.l]
    rfl
   rw[ef]
   refine⟨C1.w,C1.i,C1.p,C1.o,?_,rfl,C1.m⟩
   show S2.top++[_]=_
   rw[C1.t]
  obtain⟨E1,E2⟩:=oO (n:=n+a+1+(e-a:Nat)+1) (fun r hq=>hr r (List.drop_subset _ _ hq)) D1 (by rw[l3]; lia)
  rw[l3] at E1
  have eW:aX S n (je Rs (some (a,e)))=aX (bZ (aX (bZ (aX S n ((Rs.take a).map LnD.row)) (n+a) (.rep "2")) (n+a+1) (((Rs.drop a).take (e-a)).map LnD.row)) (n+a+1+(e-a:Nat)) .fin) (n+a+1+(e-a:Nat)+1) ((Rs.drop e).map LnD.row):=by
   unfold je
   rw[gR,length_map,l1]
   show aX (bZ _ _ _) _ (_++_)=_
   rw[gR,length_map,l2]
   rfl
  have eR:(([]++bN (Rs.take a) n)++bN ((Rs.drop a).take (e-a)) (n+a+1))++bN (Rs.drop e) (n+a+1+(e-a:Nat)+1)=iB Rs (some (a,e)) n:=by
   unfold iB
   have er:Rs=Rs.take a++((Rs.drop a).take (e-a)++Rs.drop e):=by
    have:(Rs.drop a).drop (e-a)=Rs.drop e:=by rw[List.drop_drop]; congr 1; lia
    rw[<- this,List.take_append_drop,List.take_append_drop]
   generalize Rs.take a=X1 at er l1
   generalize (Rs.drop a).take (e-a)=X2 at er l2
   generalize Rs.drop e=X3 at er l3
   rw[er,jX,jX,l1,l2,nil_append,append_assoc]
   have p1:bN X1 n=X1.mapIdx fun i r=>r.at (n+plc (some (a,e)) i):=ie fun i x hx=>by
    have:=(List.getElem?_eq_some_iff.mp hx).1
    show x.at (n+(i:Int))=x.at (n+((i:Int)+(if a<=i then 1 else 0)+(if e<=i then 1 else 0)))
    rw[if_neg (by lia),if_neg (by lia)]
    exact congrArg _ (by lia)
   have p2:bN X2 (n+a+1)=X2.mapIdx fun i r=>r.at (n+plc (some (a,e)) (i+a)):=ie fun i x hx=>by
    have:=(List.getElem?_eq_some_iff.mp hx).1
    show x.at (n+a+1+(i:Int))=x.at (n+(((i+a:Nat):Int)+(if a<=i+a then 1 else 0)+(if e<=i+a then 1 else 0)))
    rw[if_pos (by lia),if_neg (by lia)]
    exact congrArg _ (by lia)
   have p3:bN X3 (n+a+1+(e-a:Nat)+1)=X3.mapIdx fun i r=>r.at (n+plc (some (a,e)) (i+(e-a)+a)):=ie fun i x hx=>by
    show x.at (n+a+1+(e-a:Nat)+1+(i:Int))=x.at (n+(((i+(e-a)+a:Nat):Int)+(if a<=i+(e-a)+a then 1 else 0)+(if e<=i+(e-a)+a then 1 else 0)))
    rw[if_pos (by lia),if_pos (by lia)]
    exact congrArg _ (by lia)
   rw[p1,p2,p3]
  refine⟨(([]++List.replicate a 1)++[2*(List.replicate (e-a) (1:Int)).sum])++List.replicate (Rs.length-e) 1,?_,?_,?_⟩
  ·rw[eW,<- eR,show mt+2*Rs.length=mt+2*a+2*(e-a)+2*(Rs.length-e) by lia]
   exact E1
  ·unfold je
   refine dQ A2 ?_
   rw[length_map,l1]
   refine⟨A1.o,Nat.le_trans B1.m (by lia),by show (bZ (aX S n ((Rs.take a).map LnD.row)) (n+a) (.rep "2")).lps.length<=3; rw[B1.l]; decide,dQ C2 ?_⟩
   rw[length_map,l2]
   refine⟨⟨[],_,by rw[C1.l]; rfl,?_,by decide⟩,Nat.le_trans D1.m (by lia),(by have q:=D1.l; exact(congrArg (fun l=>l.length<=3) q).mpr (by decide)),E2⟩
   intro z
   have z':List.replicate (e-a) (1:Int)=[]:=z
   have:(List.replicate (e-a) (1:Int)).length=0:=by rw[z']; rfl
   rw[length_replicate] at this
   lia
  ·simp only[nil_append,List.sum_append,List.sum_cons,List.sum_nil,qr]
   lia
def eQ (I:List (Str×KS)) (Rs:List RwD) (lp:Option (Nat×Nat)) (os:List Str):List LnD:=I.map (fun y=>LnD.inn y.1 y.2)++(je Rs lp++os.map LnD.out)
theorem mid_ok {w:Int}{Rs:List RwD}{lp:Option (Nat×Nat)}(hr:∀ r∈Rs,RowOk w r):∀ L∈je Rs lp,LnOk w L:=by
 cases lp with
 | none=>intro L hL; obtain⟨r,h,rfl⟩:=List.mem_map.mp hL; exact hr r h
 | some q =>
  intro L hL
  rcases List.mem_append.mp hL with hL | hL
  ·obtain⟨r,h,rfl⟩:=List.mem_map.mp hL; exact hr r (List.take_subset _ _ h)
  rcases List.mem_cons.mp hL with rfl | hL
  ·exact⟨num2.1,by rw[num2.2]; decide,by rw[num2.2]; decide⟩
  rcases List.mem_append.mp hL with hL | hL
  ·obtain⟨r,h,rfl⟩:=List.mem_map.mp hL; exact hr r (List.drop_subset _ _ (List.take_subset _ _ h))
  rcases List.mem_cons.mp hL with rfl | hL
  ·trivial
  ·obtain⟨r,h,rfl⟩:=List.mem_map.mp hL; exact hr r (List.drop_subset _ _ h)
theorem qF {Rs:List RwD}{lp:Option (Nat×Nat)}(lo:LpOk Rs.length lp):(je Rs lp).length<=Rs.length+2:=by
 cases lp with
 | none=>unfold je; rw[length_map]; lia
 | some q =>
  obtain⟨q1,q2⟩:=lo q rfl
  unfold je
  simp only[length_append,length_map,length_cons,length_take,length_drop]
  lia
theorem prg_ok {w:Int}{wz:Str}{I:List (Str×KS)}{Rs:List RwD}{lp:Option (Nat×Nat)}{os:List Str}(nw:Num wz) (ew:nV wz=w) (w1:4<=w) (w2:w<=32) (hi:∀ y∈I,Nm y.1/\KG w y.2) (li:I.length<=6) (hr:∀ r∈Rs,RowOk w r) (lr:Rs.length<=4) (lo:LpOk Rs.length lp) (ho:∀ z∈os,Nm z) (ne:os≠[]) (los:os.length<=3) :
  PrgOk wz (eQ I Rs lp os)/\oi (nV wz) (eQ I Rs lp os)=fR w (mJ I 1) (iB Rs lp (1+I.length)) (eZ os (1+I.length+(je Rs lp).length)):=by
 have h0:Stt (DS0 w) w [] [] [] [] [] 0:=⟨rfl,rfl,rfl,rfl,rfl,rfl,le_refl _⟩
 obtain⟨A1,A2⟩:=w_ins (I:=I) (n:=1) h0 (by lia)
 rw[nil_append,Nat.zero_add] at A1
 obtain⟨tp,B1,B2,B3⟩:=w_mid (n:=1+(I.length:Int)) hr A1 (by lia) lo
 obtain⟨C1,C2⟩:=w_outs (os:=os) (n:=1+(I.length:Int)+(je Rs lp).length) B1 (by lia)
 rw[nil_append] at C1
 have eW:aX (DS0 w) 1 (eQ I Rs lp os)=aX (aX (aX (DS0 w) 1 (I.map fun y=>LnD.inn y.1 y.2)) (1+(I.length:Int)) (je Rs lp)) (1+(I.length:Int)+(je Rs lp).length) (os.map LnD.out):=by
  unfold eQ
  rw[gR,length_map,gR]
 have ml:=qF lo
 refine⟨⟨nw,by lia,by lia,?_,?_,?_,?_,?_,?_⟩,?_⟩
 ·rw[ew]
  intro L hL
  rcases List.mem_append.mp hL with hL | hL
  ·obtain⟨y,h,rfl⟩:=List.mem_map.mp hL; exact hi y h
  rcases List.mem_append.mp hL with hL | hL
  ·exact mid_ok hr L hL
  ·obtain⟨z,h,rfl⟩:=List.mem_map.mp hL; exact ho z h
 ·unfold eQ
  simp only[length_append,length_map]
  lia
 ·rw[ew]
  unfold eQ
  refine dQ A2 ?_
  rw[length_map]
  exact dQ B2 C2
 ·rw[ew,eW,C1.l]
 ·rw[ew,eW,C1.o]
  cases os with
  | nil=>exact absurd rfl ne
  | cons y r=>rw[jO]; nofun
 ·rw[ew,eW,C1.t]; lia
 ·unfold oi
  rw[ew,eW,C1.i,C1.p,C1.o]
theorem sp_out (z:Str):lnT (.out z)=(Str.ofString "out "++z:Str):=by
 show Txt.join SPs [Str.ofString "out",z]=_
 rw[rm,join1,<- appA]
 congr 1
theorem sp_wd (z:Str):wdT z=(Str.ofString "width "++z:Str):=by
 show Txt.join SPs [Str.ofString "width",z]=_
 rw[rm,join1,<- appA]
 congr 1
theorem sp_in {w:Int}{κ:KS}(z:Str) (h:KG w κ):lnT (.inn z κ)=(((Str.ofString "in "++z:Str)++Str.ofString " ":Str)++Txt.join SPs (kwS κ):Str):=by
 show Txt.join SPs (Str.ofString "in"::z::kwS κ)=_
 obtain⟨a,r,e⟩:∃ a r,kwS κ=a::r:=by unfold kwS; split <;> exact⟨_,_,rfl⟩
 rw[e,rm,rm,<- appA,<- appA,<- appA]
 congr 1
theorem t_rep:lnT (.rep "2") = "repeat 2":=by decide +kernel
theorem t_fin:lnT .fin = "end":=by decide +kernel
theorem cut_mid (xs:List V) (i j:Nat) (hij:i<=j) (hj:j<=xs.length):kN xs (some (i:Int)) (some (j:Int))=(xs.drop i).take (j-i):=by
 unfold kN
 have e:∀ k:Nat,k<=xs.length->∀ d,HT.sIx xs.length d (some (k:Int))=k:=fun k hk d=>by
  unfold HT.sIx
  simp only[Int.toNat_natCast]
  rw[if_neg (Int.not_lt.mpr (Int.natCast_nonneg k))]
  exact Nat.min_eq_left hk
 rw[e i (by lia),e j hj]
def r6:Sp:=fun vs H Q _=>∃ (p l:Addr) (ts:List Addr) (Rs:List RwD),vs=[.ref p,.ref l]/\Box H p/\H l=some (.lst (ts.map V.ref))/\Ls RwT H ts Rs/\1<=Rs.length/\Rs.length<=10/\∀ (t a b:Addr) (lp:Option (Nat×Nat)) H',H t=none->LpOk Rs.length lp->H' t=some (.tup [.ref a,.ref b])->H' a=some (.lst ((je Rs lp).map fun L=>V.str (lnT L)))->H' b=some (.lst ((List.range Rs.length).map fun k=>V.int (plc lp k)))->H a=none->H b=none->Box H' p->SameX p H H'->Q (.ref t) H'
theorem iq {H:Hp}{p l:Addr}{ts:List Addr}(b:Box H p) (h:H l=some (.lst (ts.map V.ref))):l≠p:=fun e=>by
 obtain⟨a,b',c,hb⟩:=b
 rw[e,hb] at h
 injection h with h
 injection h with h
 cases ts with
 | nil=>cases h
 | cons z r=>injection h with h; cases h
theorem RwT.keep {H H':Hp}{p t:Addr}{R:RwD}(b:Box H p) (x:SameX p H H') (h:RwT H t R):RwT H' t R:=by
 obtain⟨rl,gl,h1,h2,h3⟩:=h
 refine⟨rl,gl,x _ _ (fun z=>?_) h1,x _ _ (fU b h2) h2,x _ _ (fU b h3) h3⟩
 obtain⟨_,_,_,e⟩:=b
 rw[z,e] at h1; cases h1
theorem jH {f:Addr}{fd:FuncData}(F:Fun K "_law_looped" "_law_looped" dH f fd) (T:Txt K mg c) (H__law_take:Has P w K mg base 1 "_law_take" ["_law_box_here","_law_many"] iX):FnOk P w K mg base CX0 2 f fd ["_law_box_here","_law_rows"] r6:=by
 refine F.ok sc__law_looped (fun vs H Q E h=>?_) (fun cdv A outer s H vs Q E hr h=>?_)
 ·obtain⟨p,l,ts,Rs,rfl,_⟩:=h
  rfl
 obtain⟨p,l,ts,Rs,rfl,hb,hl,ls,l1,l2,q⟩:=h
 refine slE ⟨_,(ax (cC (ps_comp0 (i:=2) sc__law_looped.nd rfl (Or.inl rfl) rfl rfl (by first | rfl | with_unfolding_all rfl) (by decide +kernel) rfl (by decide +kernel) rfl (bi (pv 1)) (fun C s2 H2 fp=>(aH (im (K:=K) rfl) (pv 0) ai (fun _ _=>rfl)))))
  (ax (cC (aF (i:=3) sc__law_looped.nd rfl (Or.inl rfl) (bw (kc rfl) rfl T.n_list boot_list (aa (qA rfl T.n_range (aa (aG aE rfl T.n_len boot_len (aa (pv 1) ae)) ae)) ae))))
  (dP (cG (au ce (aM H__law_take (hr.mono (by lia)) rfl (aa (pv 0) (aa ai ae))) ai (ay _))
   (ax (cC (aF (i:=4) sc__law_looped.nd rfl (Or.inr rfl) (aM H__law_take (hr.mono (by lia)) rfl (aa (pv 0) (aa (aG aE rfl T.n_len boot_len (aa (pv 1) ae)) ae)))))
   (ax (cC (aF (i:=5) sc__law_looped.nd rfl (Or.inr rfl) (aJ bq (aJ bq (pv 4) ai) (aM H__law_take (hr.mono (by lia)) rfl (aa (pv 0) (aa (aJ dN (aG aE rfl T.n_len boot_len (aa (pv 1) ae)) (pv 4)) ae))))))
   (ax (cL (i:=6) sc__law_looped.nd rfl (Or.inl rfl) (gu cO (gu cO (bu (aw ak aL)) (cC (cS dG (pv 2) (cT (pv 4)) (cT (pv 5))))) (bu (aw ak aL))))
   (ax (cC (aF (i:=2) sc__law_looped.nd rfl (Or.inl rfl) (aJ cO (aJ cO (cS dG (pv 2) fq (cT (pv 4))) (pv 6)) (cS dG (pv 2) (cT (pv 5)) fq))))
   (aI (cC (gP (i:=3) sc__law_looped.nd rfl (Or.inl rfl) rfl [5,4] ["_law_end","_law_at"] rfl (by first | rfl | with_unfolding_all rfl) (by rfl) (by exact(List.forall_mem_cons.mpr ⟨rfl,(List.forall_mem_cons.mpr ⟨rfl,(fun _ h=>nomatch h)⟩)⟩)) (by decide +kernel) rfl (by decide +kernel) rfl (by decide +kernel) (by exact(List.forall_mem_cons.mpr ⟨⟨by first | exact Or.inl rfl | exact Or.inr rfl,rfl⟩,(List.forall_mem_cons.mpr ⟨⟨by first | exact Or.inl rfl | exact Or.inr rfl,rfl⟩,(fun _ h=>nomatch h)⟩)⟩)) rfl (by rfl) (eF rfl T.n_range (aa (aG aE rfl T.n_len boot_len (aa (pv 1) ae)) ae)) (fun C s2 H2 fp=>(aJ bq (aJ bq (pv 0) (bw gv rfl T.n_int boot_int (aa (bU op_ge (pv 0) (pv 2) (ay _)) ae))) (bw gv rfl T.n_int boot_int (aa (bU op_ge (pv 0) (pv 1) (ay _)) ae)))))))))))
   be)
  (aI (cC (aA (aP (aa (pv 2) (aa (pv 3) ae))))))))),?_⟩
 have k99:(1000:Nat)<=sizeLine:=by decide
 have nlp:=iq hb hl
 have lt:=ls.1
 refine⟨_,rfl,l,rfl,⟨_,SqL.of hl⟩,fun D hD=>?_⟩
 refine cF (xs:=ts.map V.ref) (fun j HJ=>HJ D=some (.lst (((Rs.take j).map LnD.row).map fun L=>V.str (lnT L)))/\Same H HJ) ⟨ac,aj hD _⟩ (fun _ _ _ q=>SqL.of (q.2 _ _ hl)) ?_ ?_
 ·rintro j v HJ hv ⟨hj,sJ⟩
  obtain⟨t,ht,rfl⟩:∃ t,ts[j]?=some t/\v=V.ref t:=by
   rw[List.getElem?_map] at hv
   obtain⟨z,hz,e⟩:=Option.map_eq_some_iff.mp hv
   exact⟨z,hz,e.symm⟩
  have jl:=(List.getElem?_eq_some_iff.mp ht).1
  obtain⟨R,hR⟩:∃ R,Rs[j]?=some R:=⟨_,List.getElem?_eq_getElem (by lia)⟩
  obtain⟨rl,gl,h1,h2,h3⟩:=ls.2 j t R ht hR
  refine⟨_,rfl,t,_,_,_,rfl,rfl,SqT.of (sJ _ _ h1),rfl,_,hj,(by simp only[length_map,length_take]; lia),_,(show (ts.map V.ref).length-(j+1)<_ by rw[length_map]; lia),rfl,(by rw[length_map]; lia),?_,Same.updL sJ hD⟩
  rw[ac,take_add_one,hR,Option.toList_some,map_append,map_append]
  rfl
 rintro H1 ⟨hD1,s1⟩
 rw[length_map,lt,take_length] at hD1
 have b1:=hb.same s1
 have nDp:=hb.ne hD
 refine⟨_,rfl,l,_,rfl,.inl (SqL.of (s1 _ _ hl)),_,rfl,fun pr hpr=>⟨pr,_,rfl,ac,by rw[length_map]; lia,by rw[length_map]; lia,fun lb hlb=>?_⟩⟩
 have s2:=aj hpr (.rng 0 ((ts.map V.ref).length:Int))
 have e0:upTo ((ts.map V.ref).length:Int)=(List.range Rs.length).map fun k=>V.int (plc none k):=by
  rw[length_map,lt]
  rfl
 rw[e0]
 obtain⟨G3,e3,s3,g3⟩:=cJ hlb (.lst ((List.range Rs.length).map fun k=>V.int (plc none k)))
 rw[e3]
 have s13:=s1.trans (s2.trans s3)
 have b3:=hb.same s13
 have hD3:=(s2.trans s3) _ _ hD1
 have hl3:=s13 _ _ hl
 have lb0:H lb=none:=none_of (s1.trans s2) hlb
 have nbp:=hb.ne lb0
 clear s2 s3 e3 hlb e0 hpr hD1 s1 b1
 refine⟨fun σ' H'=>∃ (a b:Addr) (lp:Option (Nat×Nat)) (y1 y2 y3:Option V),σ'=[some (.ref p),some (.ref l),some (.ref a),some (.ref b),y1,y2,y3]/\LpOk Rs.length lp/\H' a=some (.lst ((je Rs lp).map fun L=>V.str (lnT L)))/\H' b=some (.lst ((List.range Rs.length).map fun k=>V.int (plc lp k)))/\H a=none/\H b=none/\Box H' p/\SameX p H H',?_,?_⟩
 rotate_left
 ·rintro σ G ⟨a,b,lp,y1,y2,y3,rfl,lo,ha,hb',a0,b0,bG,xG⟩
  refine⟨_,rfl,_,rfl,(by show 2<=sizeLine; lia),fun t ht=>?_⟩
  have s9:=aj ht (.tup [V.ref a,V.ref b])
  exact q t a b lp _ (oN bG xG ht) lo ac (s9 _ _ ha) (s9 _ _ hb') a0 b0 (bG.same s9) (xG.trans (SameX.of s9))
 refine⟨_,rfl,p,_,rfl,b3,by decide,by decide,fun d G4 d0 d1 b4 x4=>⟨rfl,_,rfl,?_⟩⟩
 by_cases c0:d=0
 rotate_left
 ·refine aN (fun z=>c0 (by injection z)) ⟨D,lb,none,_,_,_,rfl,nofun,x4 _ _ nDp hD3,x4 _ _ nbp g3,hD,lb0,b4,(SameX.of s13).trans x4⟩
 refine dw (congrArg V.int c0) ?_
 have hl4:=x4 _ _ nlp hl3
 have hD4:=x4 _ _ nDp hD3
 refine⟨_,rfl,_,rfl,l,_,rfl,.inl (SqL.of hl4),p,_,rfl,b4,by rw[length_map]; lia,by rw[length_map]; lia,fun a G5 a0 a1 b5 x5=>?_⟩
 rw[length_map,lt] at a1
 have hl5:=x5 _ _ nlp hl4
 have hD5:=x5 _ _ nDp hD4
 refine⟨_,rfl,_,_,rfl,rfl,_,rfl,_,rfl,l,_,rfl,.inl (SqL.of hl5),_,rfl,_,_,rfl,rfl,p,_,rfl,b5,by rw[length_map]; lia,by rw[length_map]; lia,fun e G6 e0 e1 b6 x6=>⟨_,_,rfl,rfl,?_⟩⟩
 rw[length_map,lt] at e1
 obtain⟨an,rfl⟩:∃ k:Nat,a=(k:Int):=⟨a.toNat,by lia⟩
 obtain⟨en,ee⟩:∃ k:Nat,(an:Int)+1+e=(k:Int):=⟨((an:Int)+1+e).toNat,by lia⟩
 have q1:an<en:=by lia
 have q2:en<=Rs.length:=by lia
 show kS 5 (V.int ((an:Int)+1+e)) _ _ _
 rw[ee]
 have hD6:=x6 _ _ nDp hD5
 have hl6:=x6 _ _ nlp hl5
 have x06:SameX p H G6:=(SameX.of s13).trans (x4.trans (x5.trans x6))
 clear ee e0 e1 a0 a1 hD5 hl5 hD4 hl4 x4 x5 x6 b4 b5 hD3 hl3 g3 s13 b3 d0 d1
 have lD:((Rs.map LnD.row).map fun L=>V.str (lnT L)).length=Rs.length:=by rw[length_map,length_map]
 refine⟨(by show 1<=sizeLine; lia),fun w1 hw1=>?_⟩
 obtain⟨K1,e1,s1,g1⟩:=cJ hw1 (.lst [V.str (Str.ofString "repeat 2")])
 rw[e1]
 refine⟨_,rfl,_,rfl,_,rfl,_,rfl,_,rfl,D,_,rfl,SqL.of (s1 _ _ hD6),fun w2 hw2=>?_⟩
 rw[cut_mid _ an en (by lia) (by rw[lD]; exact q2)]
 obtain⟨K2,e2,s2,g2⟩:=cJ hw2 (.lst ((((Rs.map LnD.row).map fun L=>V.str (lnT L)).drop an).take (en-an)))
 rw[e2]
 have l3:((((Rs.map LnD.row).map fun L=>V.str (lnT L)).drop an).take (en-an)).length<=10:=by rw[length_take,length_drop,lD]; lia
 refine⟨w1,w2,_,_,rfl,rfl,SqL.of (s2 _ _ g1),SqL.of g2,(by show 1+_<=sizeLine; lia),fun w3 hw3=>?_⟩
 obtain⟨K3,e3,s3,g3⟩:=cJ hw3 (.lst ([V.str (Str.ofString "repeat 2")]++(((Rs.map LnD.row).map fun L=>V.str (lnT L)).drop an).take (en-an)))
 rw[e3]
 refine⟨(by show 1<=sizeLine; lia),fun w4 hw4=>?_⟩
 obtain⟨K4,e4,s4,g4⟩:=cJ hw4 (.lst [V.str (Str.ofString "end")])
 rw[e4]
 refine⟨w3,w4,_,_,rfl,rfl,SqL.of (s4 _ _ g3),SqL.of g4,(by simp only[length_append,length_cons,length_nil]; lia),fun w5 hw5=>?_⟩
 obtain⟨K5,e5,s5,g5⟩:=cJ hw5 (.lst (([V.str (Str.ofString "repeat 2")]++(((Rs.map LnD.row).map fun L=>V.str (lnT L)).drop an).take (en-an))++[V.str (Str.ofString "end")]))
 rw[e5]
 have s15:=s1.trans (s2.trans (s3.trans (s4.trans s5)))
 have hD7:=s15 _ _ hD6
 refine⟨_,rfl,_,rfl,_,rfl,D,_,rfl,SqL.of hD7,fun w6 hw6=>?_⟩
 rw[lQ _ an (by rw[lD]; lia)]
 obtain⟨K6,e6,s6,g6⟩:=cJ hw6 (.lst (((Rs.map LnD.row).map fun L=>V.str (lnT L)).take an))
 rw[e6]
 have l6:(((Rs.map LnD.row).map fun L=>V.str (lnT L)).take an).length<=10:=by rw[length_take,lD]; lia
 refine⟨_,rfl,w6,w5,_,_,rfl,rfl,SqL.of g6,SqL.of (s6 _ _ g5),(by simp only[length_append,length_cons,length_nil]; lia),fun w7 hw7=>?_⟩
 obtain⟨K7,e7,s7,g7⟩:=cJ hw7 (.lst (((Rs.map LnD.row).map fun L=>V.str (lnT L)).take an++(([V.str (Str.ofString "repeat 2")]++(((Rs.map LnD.row).map fun L=>V.str (lnT L)).drop an).take (en-an))++[V.str (Str.ofString "end")])))
 rw[e7]
 refine⟨_,rfl,_,rfl,_,rfl,D,_,rfl,SqL.of (s7 _ _ (s6 _ _ hD7)),fun w8 hw8=>?_⟩
 rw[qq _ en (by rw[lD]; exact q2)]
 obtain⟨K8,e8,s8,g8⟩:=cJ hw8 (.lst (((Rs.map LnD.row).map fun L=>V.str (lnT L)).drop en))
 rw[e8]
 have l8:(((Rs.map LnD.row).map fun L=>V.str (lnT L)).drop en).length<=10:=by rw[length_drop,lD]; lia
 refine⟨w7,w8,_,_,rfl,rfl,SqL.of (s8 _ _ g7),SqL.of g8,(by simp only[length_append,length_cons,length_nil]; lia),fun w9 hw9=>?_⟩
 have eL:(((Rs.map LnD.row).map fun L=>V.str (lnT L)).take an++(([V.str (Str.ofString "repeat 2")]++(((Rs.map LnD.row).map fun L=>V.str (lnT L)).drop an).take (en-an))++[V.str (Str.ofString "end")]))++((Rs.map LnD.row).map fun L=>V.str (lnT L)).drop en=(je Rs (some (an,en))).map fun L=>V.str (lnT L):=by
  unfold je
  simp only[map_append,map_cons,List.map_take,List.map_drop,t_rep,t_fin]
  simp
 rw[eL]
 obtain⟨K9,e9,s9,g9⟩:=cJ hw9 (.lst ((je Rs (some (an,en))).map fun L=>V.str (lnT L)))
 rw[e9]
 have s18:=s15.trans (s6.trans (s7.trans s8))
 have s19:=s18.trans s9
 have w90:H w9=none:=by
  have h:=none_of s18 hw9
  cases q:H w9 with
  | none=>rfl
  | some o =>
   have nw:w9≠p:=b6.ne h
   rw[x06 _ _ nw q] at h; cases h
 have hl9:=s19 _ _ hl6
 have b9:=b6.same s19
 have x09:=x06.trans (SameX.of s19)
 clear s1 s2 s3 s4 s5 s6 s7 s8 s9 e1 e2 e3 e4 e5 e6 e7 e8 e9 g1 g2 g3 g4 g5 g6 g7 g8 hw1 hw2 hw3 hw4 hw5 hw6 hw7 hw8 s15 s18 s19 hD7 hD6 hl6 x06 l3 l6 l8 eL b6
 refine⟨_,rfl,l,_,rfl,.inl (SqL.of hl9),_,rfl,by rw[length_map]; lia,by rw[length_map]; lia,fun D2 hD2=>?_⟩
 have nD2p:=b9.ne hD2
 have n29:D2≠w9:=fun z=>by rw[z,g9] at hD2; cases hD2
 rw[length_map,lt]
 refine iG (n:=((Rs.length:Nat):Int).toNat) (fun j HJ=>HJ D2=some (.lst ((List.range j).map fun k=>V.int (plc (some (an,en)) k)))/\Same K9 HJ) ⟨ac,aj hD2 _⟩ ?_ ?_
 ·rintro j HJ hj ⟨hy,sJ⟩
  refine⟨_,rfl,_,rfl,_,rfl,_,_,rfl,rfl,.inr ⟨_,rfl,_,_,rfl,rfl,_,rfl,_,rfl,_,_,rfl,rfl,.inr ⟨_,rfl,_,_,rfl,rfl,_,hy,(by rw[length_map,List.length_range]; lia),_,(show ((Rs.length:Nat):Int).toNat-(j+1)<_ by lia),rfl,by lia,?_,Same.updL sJ hD2⟩⟩⟩
  have ev:(0+(j:Int))+(if decide ((an:Int)<=0+(j:Int))=true then 1 else 0)+(if decide ((en:Int)<=0+(j:Int))=true then 1 else 0)=plc (some (an,en)) j:=by
   show _=(j:Int)+(if an<=j then 1 else 0)+(if en<=j then 1 else 0)
   have i1:(if decide ((an:Int)<=0+(j:Int))=true then (1:Int) else 0)=if an<=j then 1 else 0:=by
    by_cases h:an<=j
    ·rw[if_pos h,if_pos (decide_eq_true (by lia))]
    ·rw[if_neg h,if_neg (fun z=>h (by have:=of_decide_eq_true z; lia))]
   have i2:(if decide ((en:Int)<=0+(j:Int))=true then (1:Int) else 0)=if en<=j then 1 else 0:=by
    by_cases h:en<=j
    ·rw[if_pos h,if_pos (decide_eq_true (by lia))]
    ·rw[if_neg h,if_neg (fun z=>h (by have:=of_decide_eq_true z; lia))]
   rw[i1,i2,Int.zero_add]
  rw[ac,List.range_succ,map_append,map_cons,List.map_nil,<- ev]
 rintro HJ ⟨hy,sJ⟩
 have d20:H D2=none:=by
  cases q:H D2 with
  | none=>rfl
  | some o=>rw[x09 _ _ nD2p q] at hD2; cases hD2
 rw[show ((Rs.length:Nat):Int).toNat=Rs.length from rfl] at hy
 exact⟨w9,D2,some (an,en),_,_,_,rfl,fun q e=>(by cases e; exact⟨q1,q2⟩),sJ _ _ g9,hy,w90,d20,b9.same sJ,x09.trans (SameX.of sJ)⟩
theorem need1_at (w:Int) (m:KM) (r:RwD) (n:Int):fg w m (r.at n)=match fg w m r with
  | .inl (.unk _ z)=>.inl (.unk n z)
  | .inl (.knd _ z)=>.inl (.knd n z)
  | .inl (.twc _ z)=>.inl (.twc n z)
  | .inr m'=>.inr m':=by
 unfold fg
 rw[show (r.at n).reads=r.reads from rfl,show (r.at n).goals=r.goals from rfl,show wr5 w m (r.at n)=wr5 w m r from rfl,show kO m (r.at n)=kO m r from rfl]
 cases r.reads.find? (pY m) with
 | some z=>rfl
 | none =>
  dsimp only
  cases wr5 w m r with
  | some z=>rfl
  | none =>
   dsimp only
   cases r.goals.find? (gt m (kO m r)) with
   | some z=>rfl
   | none=>rfl
theorem mQ {α:Type}{l:List α}{i:Nat}{x:α}(h:l[i]?=some x):l.drop i=x::l.drop (i+1):=by
 have hl:=(List.getElem?_eq_some_iff.mp h).1
 rw[drop_eq_getElem_cons hl]
 congr 1
 rw[List.getElem?_eq_getElem hl] at h
 injection h
def InT (w:Int) (H:Hp) (a:Addr) (y:Str×KS):Prop:=∃ s,H a=some (.tup [.str y.1,.ref s])/\H s=some (SpT w y.2)
def spDue:Sp:=fun vs H Q _=>∃ (li lr lp lo:Addr) (bh w:Int) (is ts:List Addr) (I:List (Str×KS)) (Rs:List RwD) (pl:Option (Nat×Nat)) (os:List Str),vs=[.ref li,.ref lr,.ref lp,.ref lo,.int bh,.int w]/\4<=w/\w<=32/\H li=some (.lst (is.map V.ref))/\Ls (InT w) H is I/\(∀ y∈I,KG w y.2)/\I.length<=10/\H lr=some (.lst (ts.map V.ref))/\Ls RwT H ts Rs/\(∀ r∈Rs,RowOk w r)/\Rs.length<=10/\H lp=some (.lst ((List.range Rs.length).map fun k=>V.int (plc pl k)))/\H lo=some (.lst (os.map V.str))/\os.length<=10 /\
 ∀ v H',TVal H' v (fR w (mJ I 1) (iB Rs pl (1+I.length)) (eZ os bh))->Same H H'->Q v H'
theorem oh {f:Addr}{fd:FuncData}(F:Fun K "_law_due" "_law_due" gY f fd) (T:Txt K mg c) (H__law_made:Has P w K mg base 1 "_law_made" ["_law_row_here","_law_kinds","_law_width"] sB):FnOk P w K mg base CX0 2 f fd ["_law_ins","_law_rows","_law_places","_law_outs","_law_behind","_law_width"] spDue:=by
 refine F.ok sc__law_due (fun vs H Q E h=>?_) (fun cdv A outer s H vs Q E hr h=>?_)
 ·obtain⟨li,lr,lp,lo,bh,w',is,ts,I,Rs,pl,os,rfl,_⟩:=h
  rfl
 obtain⟨li,lr,lp,lo,bh,w',is,ts,I,Rs,pl,os,rfl,w1,w2,hli,lis,kgs,lI,hlr,lts,oks,lR,hlp,hlo,lO,q⟩:=h
 refine slE ⟨_,(ax (cC (aF (i:=6) sc__law_due.nd rfl (Or.inl rfl) iJ))
  (ax (dE PassesOwn.never rfl (nR rfl T.n_enumerate (aa (pv 0) ae)) (ix rfl (aW (aK (i:=7) sc__law_due.nd rfl (Or.inl rfl)) (aW (ix rfl (aW (aK (i:=8) sc__law_due.nd rfl (Or.inl rfl)) (aW (aK (i:=9) sc__law_due.nd rfl (Or.inl rfl)) dW))) dW)))
   (ax (cG (au (lB (bc hr)) (pv 8) (pv 6) (by with_unfolding_all rfl))
    (aI (cC (aA (aP (aa ak (aa (aJ bq ai (pv 7)) (aa (pv 8) ae)))))))
    be)
   (aI (cC (fM (bc hr) (pv 6) (pv 8) (pv 9) rfl)))))
  (ax (dE PassesOwn.never rfl (nR rfl T.n_enumerate (aa (pv 1) ae)) (ix rfl (aW (aK (i:=7) sc__law_due.nd rfl (Or.inl rfl)) (aW (aK (i:=10) sc__law_due.nd rfl (Or.inl rfl)) dW)))
   (ax (cC (aF (i:=11) sc__law_due.nd rfl (Or.inl rfl) (aM H__law_made (hr.mono (by lia)) rfl (aa (pv 10) (aa (pv 6) (aa (pv 5) ae))))))
   (aI (cG (au jj (pv 11) aZ (ay _))
    (aI (cC (aA (aP (aa (aH bj (pv 11) ai (fun _ _=>rfl)) (aa (aJ bq (aJ bq ai (aG aE rfl T.n_len boot_len (aa (pv 0) ae))) (aH aD (pv 2) (pv 7) (fun _ _=>rfl))) (aa (aH bj (pv 11) ai (fun _ _=>rfl)) ae)))))))
    be))))
  (ax (dE PassesOwn.never rfl (nR rfl T.n_enumerate (aa (pv 3) ae)) (ix rfl (aW (aK (i:=7) sc__law_due.nd rfl (Or.inl rfl)) (aW (aK (i:=8) sc__law_due.nd rfl (Or.inl rfl)) dW)))
   (ax (cG (au (gO (bc hr)) (pv 8) (pv 6) (by with_unfolding_all rfl))
    (aI (cC (aA (aP (aa ak (aa (aJ bq (pv 4) (pv 7)) (aa (pv 8) ae)))))))
    be)
   (aI (cG (au bH (pv 8) (cS dG (pv 3) fq (cT (pv 7))) (by with_unfolding_all rfl))
    (aI (cC (aA (aP (aa ak (aa (aJ bq (pv 4) (pv 7)) (aa (pv 8) ae)))))))
    be))))
  (aI (cC (aA aZ))))))),?_⟩
 have k99:(1000:Nat)<=sizeLine:=by decide
 intro kd hk
 have s1:=aj hk (.dK [])
 have k0':LD w' (upd H kd (.dK [])) kd (fun _=>none) 0:=⟨[],ac,le_refl _,fun z=>⟨(fun κ e=>by cases e),fun _=>rfl⟩⟩
 have nk:∀ {b u},H b=some u->b≠kd:=fun e z=>by rw[z,hk] at e; cases e
 have sX:∀ {G},SameX kd H G->Same H G:=fun s b o q=>s b o (nk q) q
 unfold fR at q
 refine⟨_,rfl,li,_,rfl,SqL.of (s1 _ _ hli),ku (xs:=is.map V.ref) (fun i σ G=>∃ m,(∃ y1 y2 y3:Option V,σ=[some (.ref li),some (.ref lr),some (.ref lp),some (.ref lo),some (.int bh),some (.int w'),some (.ref kd),y1,y2,y3,none,none])/\SameX kd H G/\LD w' G kd m i/\insD (fun _=>none) (mJ I 1)=insD m ((mJ I 1).drop i)) ⟨_,⟨_,_,_,rfl⟩,newX hk,k0',by rw[drop_zero]⟩ (fun _ _ _ q=>by obtain⟨m,_,sg,_⟩:=q; exact SqL.of (sg _ _ (nk hli) hli)) ?_ ?_⟩
 ·rintro i x σ G hx ⟨m,⟨y1,y2,y3,rfl⟩,sG,LG,wk⟩ Tp hT
  obtain⟨pa,hpa,rfl⟩:∃ pa,is[i]?=some pa/\x=V.ref pa:=by
   rw[List.getElem?_map] at hx
   obtain⟨z,hz,e⟩:=Option.map_eq_some_iff.mp hx
   exact⟨z,hz,e.symm⟩
  have li0:=(List.getElem?_eq_some_iff.mp hpa).1
  have li':i<I.length:=by rw[<- lis.1]; exact li0
  obtain⟨⟨z,κ⟩,hu⟩:∃ u,I[i]?=some u:=⟨_,List.getElem?_eq_getElem li'⟩
  obtain⟨sp,e1,e2⟩:=lis.2 i pa _ hpa hu
  have sT:=aj hT (.tup [.int (i:Nat),.ref pa])
  have nTk:Tp≠kd:=fun z=>by obtain⟨_,e,_⟩:=LG; rw[z,e] at hT; cases hT
  have g1:=sT _ _ (sG _ _ (nk e1) e1)
  have g2:=sT _ _ (sG _ _ (nk e2) e2)
  have LT:=LG.same sT
  have xT:SameX kd H (upd G Tp (.tup [.int (i:Nat),.ref pa])):=sG.trans (SameX.of sT)
  refine⟨Tp,_,rfl,SqT.of ac,rfl,_,_,rfl,_,_,rfl,pa,_,rfl,SqT.of g1,rfl,_,_,rfl,_,_,rfl,rfl,rfl,?_⟩
  have hins:(mJ I 1)[i]?=some (1+(i:Int),z,κ):=by unfold mJ; rw[List.getElem?_mapIdx,hu]; rfl
  rw[mQ hins,insD] at wk
  dsimp only at wk
  obtain⟨kvs,ek,lk,kq⟩:=id LT
  refine⟨_,rfl,_,rfl,kd,_,rfl,DGet.k (k:=Sum.inr z) ek,_,rfl,?_⟩
  cases zm:m z with
  | some μ =>
   obtain⟨k',e3,_⟩:=(kq z).1 μ zm
   rw[e3]
   rw[if_pos (by rw[zm]; rfl)] at wk
   rw[wk] at q
   exact gU ⟨_,rfl,_,_,rfl,rfl,_,rfl,(by show 3<=sizeLine; lia),fun t ht=>q (.ref t) _ (.inr ⟨_,t,rfl,rfl,ac⟩) ((sX xT).trans (aj ht _))⟩
  | none =>
   obtain⟨H3,dp,K3,s3⟩:=LT.put g2 (kgs _ (mem_of_getElem? hu)) (by lia) z
   rw[(kq z).2 zm]
   rw[if_neg (fun h=>by rw[zm] at h; cases h)] at wk
   exact di ⟨_,rfl,_,rfl,_,rfl,kd,H3,rfl,dp,_,⟨_,_,_,rfl⟩,xT.trans s3,K3,wk⟩
 rintro σ G ⟨m1,⟨y1,y2,y3,rfl⟩,sG,LG,wk⟩
 have lil:(mJ I 1).length=I.length:=by unfold mJ; rw[List.length_mapIdx]
 have wk':insD (fun _=>none) (mJ I 1)=.inr m1:=by
  rw[wk,drop_eq_nil_of_le (by rw[length_map,lis.1,lil]; exact le_refl _)]
  rfl
 rw[wk'] at q
 dsimp only at q
 rw[length_map,lis.1] at LG
 have LG':=LG.mono (show I.length<=10 from lI)
 refine⟨_,rfl,lr,_,rfl,SqL.of (sG _ _ (nk hlr) hlr),ku (xs:=ts.map V.ref) (fun i σ G=>∃ m,(∃ y1 y2 y3 y4 y5:Option V,σ=[some (.ref li),some (.ref lr),some (.ref lp),some (.ref lo),some (.int bh),some (.int w'),some (.ref kd),y1,y2,y3,y4,y5])/\SameX kd H G/\LD w' G kd m (10+2*i)/\jI w' m1 (iB Rs pl (1+I.length))=jI w' m ((iB Rs pl (1+I.length)).drop i)) ⟨_,⟨_,_,_,_,_,rfl⟩,sG,LG'.mono (by lia),by rw[drop_zero]⟩ (fun _ _ _ q=>by obtain⟨m,_,sg,_⟩:=q; exact SqL.of (sg _ _ (nk hlr) hlr)) ?_ ?_⟩
 ·rintro i x σ G hx ⟨m,⟨y1,y2,y3,y4,y5,rfl⟩,sG,LG,wk⟩ Tp hT
  obtain⟨pa,hpa,rfl⟩:∃ pa,ts[i]?=some pa/\x=V.ref pa:=by
   rw[List.getElem?_map] at hx
   obtain⟨z,hz,e⟩:=Option.map_eq_some_iff.mp hx
   exact⟨z,hz,e.symm⟩
  have li0:=(List.getElem?_eq_some_iff.mp hpa).1
  have li':i<Rs.length:=by rw[<- lts.1]; exact li0
  obtain⟨R,hR⟩:∃ u,Rs[i]?=some u:=⟨_,List.getElem?_eq_getElem li'⟩
  have sT:=aj hT (.tup [.int (i:Nat),.ref pa])
  have LT:=LG.same sT
  have xT:SameX kd H (upd G Tp (.tup [.int (i:Nat),.ref pa])):=sG.trans (SameX.of sT)
  have hrow:=(lts.2 i pa _ hpa hR).same (sX xT)
  have hprs:(iB Rs pl (1+I.length))[i]?=some (R.at (1+I.length+plc pl i)):=by unfold iB; rw[List.getElem?_mapIdx,hR]; rfl
  rw[mQ hprs,jI,need1_at] at wk
  have hl5:=sX xT _ _ hli
  have hp5:=sX xT _ _ hlp
  have el:((is.map V.ref).length:Int)=(I.length:Int):=by rw[length_map,lis.1]
  have pat:atI ((List.range Rs.length).map fun k=>V.int (plc pl k)) ((i:Nat):Int)=some (.int (plc pl i)):=bC (by rw[List.getElem?_map,List.getElem?_range li']; rfl)
  refine⟨Tp,_,rfl,SqT.of ac,rfl,_,_,rfl,_,_,rfl,rfl,?_⟩
  generalize upd G Tp (.tup [.int (i:Nat),.ref pa])=G1 at LT xT hrow hl5 hp5 ⊢
  refine⟨_,rfl,_,rfl,_,rfl,pa,kd,w',R,m,10+2*i,rfl,hrow,oks R (mem_of_getElem? hR),w1,w2,LT,by lia,fun l z e u H' hu s'=>?_,fun l z e u H' hu s'=>?_,fun m' e H' L' s'=>?_⟩
  ·rw[e] at wk
   dsimp only at wk
   rw[wk] at q
   have sH:=(sX xT).trans s'
   refine⟨_,rfl,rfl,_,rfl,iteN (by nofun) ?_⟩
   have hl':=s' _ _ hl5
   have hp':=s' _ _ hp5
   exact⟨_,rfl,u,_,_,_,rfl,rfl,SqT.of hu,rfl,_,rfl,li,_,rfl,.inl (SqL.of hl'),_,_,rfl,rfl,_,rfl,_,rfl,lp,_,_,_,rfl,rfl,SqL.of hp',pat,_,_,rfl,rfl,_,rfl,u,_,_,_,rfl,rfl,SqT.of hu,rfl,(by show 3<=sizeLine; lia),fun t ht=>q (.ref t) _ (.inr ⟨_,t,rfl,rfl,by rw[<- el]; exact ac⟩) (sH.trans (aj ht _))⟩
  ·rw[e] at wk
   dsimp only at wk
   rw[wk] at q
   have sH:=(sX xT).trans s'
   have hl':=s' _ _ hl5
   have hp':=s' _ _ hp5
   refine⟨_,rfl,rfl,_,rfl,iteN (by nofun) ?_⟩
   exact⟨_,rfl,u,_,_,_,rfl,rfl,SqT.of hu,rfl,_,rfl,li,_,rfl,.inl (SqL.of hl'),_,_,rfl,rfl,_,rfl,_,rfl,lp,_,_,_,rfl,rfl,SqL.of hp',pat,_,_,rfl,rfl,_,rfl,u,_,_,_,rfl,rfl,SqT.of hu,rfl,(by show 3<=sizeLine; lia),fun t ht=>q (.ref t) _ (.inr ⟨_,t,rfl,rfl,by rw[<- el]; exact ac⟩) (sH.trans (aj ht _))⟩
  ·rw[e] at wk
   exact⟨_,rfl,rfl,_,rfl,eN rfl ⟨m',⟨_,_,_,_,_,rfl⟩,xT.trans s',L'.mono (by lia),wk⟩⟩
 rintro σ G ⟨m2,⟨y1,y2,y3,y4,y5,rfl⟩,sG,LG,wk⟩
 have rpl:(iB Rs pl (1+I.length)).length=Rs.length:=by unfold iB; rw[List.length_mapIdx]
 have wk':jI w' m1 (iB Rs pl (1+I.length))=.inr m2:=by
  rw[wk,drop_eq_nil_of_le (by rw[length_map,lts.1,rpl]; exact le_refl _)]
  rfl
 rw[wk'] at q
 dsimp only at q
 rw[length_map,lts.1] at LG
 have oln:(eZ os bh).length=os.length:=by unfold eZ; rw[List.length_mapIdx]
 have sHG:=sX sG
 refine⟨_,rfl,lo,_,rfl,SqL.of (sHG _ _ hlo),ku (xs:=os.map V.str) (fun i σ G'=>(∃ y1 y2 y3 y4 y5:Option V,σ=[some (.ref li),some (.ref lr),some (.ref lp),some (.ref lo),some (.int bh),some (.int w'),some (.ref kd),y1,y2,y3,y4,y5])/\Same G G'/\jF m2 [] (eZ os bh)=jF m2 (os.take i) ((eZ os bh).drop i)) ⟨⟨_,_,_,_,_,rfl⟩,fun _ _ e=>e,by rw[drop_zero]; rfl⟩ (fun _ _ _ q=>SqL.of (q.2.1 _ _ (sHG _ _ hlo))) ?_ ?_⟩
 ·rintro i x σ G' hx ⟨⟨y1,y2,y3,y4,y5,rfl⟩,sG',wk⟩ Tp hT
  obtain⟨z,hz,rfl⟩:∃ z,os[i]?=some z/\x=V.str z:=by
   rw[List.getElem?_map] at hx
   obtain⟨z,hz,e⟩:=Option.map_eq_some_iff.mp hx
   exact⟨z,hz,e.symm⟩
  have li':=(List.getElem?_eq_some_iff.mp hz).1
  have hout:(eZ os bh)[i]?=some (bh+(i:Int),z):=by unfold eZ; rw[List.getElem?_mapIdx,hz]; rfl
  rw[mQ hout,jF] at wk
  dsimp only at wk
  have sT:=sG'.trans (aj hT (.tup [.int (i:Nat),.str z]))
  refine⟨Tp,_,rfl,SqT.of ac,rfl,_,_,rfl,_,_,rfl,rfl,?_⟩
  generalize upd G' Tp (.tup [.int (i:Nat),.str z])=G1 at sT ⊢
  obtain⟨kvs,ek,lk,kq⟩:=LG.same sT
  have sH1:=sHG.trans sT
  refine⟨_,rfl,_,rfl,kd,_,rfl,DGet.k (k:=Sum.inr z) ek,_,rfl,?_⟩
  cases zm:m2 z with
  | none =>
   rw[(kq z).2 zm]
   rw[if_pos (by rw[zm]; rfl)] at wk
   rw[wk] at q
   exact gU ⟨_,rfl,_,rfl,_,_,rfl,rfl,_,rfl,(by show 3<=sizeLine; lia),fun t ht=>q (.ref t) _ (.inr ⟨_,t,rfl,rfl,ac⟩) (sH1.trans (aj ht _))⟩
  | some κ =>
   obtain⟨k',e3,_⟩:=(kq z).1 κ zm
   rw[e3]
   rw[if_neg (fun h=>by rw[zm] at h; cases h)] at wk
   refine di ?_
   refine⟨_,rfl,_,rfl,_,rfl,_,rfl,lo,_,rfl,SqL.of (sH1 _ _ hlo),fun w8 hw8=>?_⟩
   rw[lQ _ i (by rw[length_map]; lia)]
   have s8:=aj hw8 (.lst ((os.map V.str).take i))
   refine⟨w8,_,rfl,.inl (SqL.of ac),rfl,(by rw[<- List.map_take]; exact cH _),_,rfl,?_⟩
   generalize upd G1 w8 (.lst ((os.map V.str).take i))=G8 at s8 ⊢
   have sH8:=sH1.trans s8
   have ei:inV (.str z) ((os.map V.str).take i)=decide (z∈os.take i):=by
    rw[<- List.map_take,m6]
    by_cases h:z∈os.take i
    ·rw[decide_eq_true h]; exact List.contains_iff_mem.mpr h
    ·rw[decide_eq_false h]; exact Bool.eq_false_iff.mpr fun q=>h (List.contains_iff_mem.mp q)
   show if inV (.str z) ((os.map V.str).take i)=true then _ else _
   rw[ei]
   by_cases h:z∈os.take i
   ·rw[if_pos h] at wk
    rw[wk] at q
    exact dw h ⟨_,rfl,_,rfl,_,_,rfl,rfl,_,rfl,(by show 3<=sizeLine; lia),fun t ht=>q (.ref t) _ (.inr ⟨_,t,rfl,rfl,ac⟩) (sH8.trans (aj ht _))⟩
   ·rw[if_neg h] at wk
    refine aN h ⟨⟨_,_,_,_,_,rfl⟩,sT.trans s8,?_⟩
    rw[wk,take_add_one,hz]
    rfl
 ·rintro σ G' ⟨⟨y1,y2,y3,y4,y5,rfl⟩,sG',wk⟩
  rw[wk,drop_eq_nil_of_le (by rw[length_map,oln]; exact le_refl _)] at q
  exact q .non _ (.inl ⟨rfl,rfl⟩) (sHG.trans sG')
theorem se {X:Cx}{d:Nat}(hu:X.A.units+d+1<cLine):OpR X (compareOp .NotEq) (fun x y H Q=>rNe x y H Q\/pZ X.K d true x y H Q):=op_ne.or (mS hu)
theorem ne_due {K:Frag}{H:Hp}{v D:V}{o:Option ErrD}{Q:VK}(a:TVal H v o) (b:TVal H D o) (q:Q (.bl false) H):rNe v D H Q\/pZ K 0 true v D H Q:=by
 rcases a with ⟨a0,rfl⟩ | ⟨e,t,a0,rfl,a⟩
 ·rcases b with ⟨_,rfl⟩ | ⟨_,_,b0,_⟩
  ·exact .inl ⟨rfl,q⟩
  ·rw[a0] at b0; cases b0
 ·rcases b with ⟨b0,_⟩ | ⟨e',u,b0,rfl,b⟩
  ·rw[a0] at b0; cases b0
  ·rw[a0] at b0
   injection b0 with b0
   subst b0
   have fl:∀ v:V,eS v=true->eqV v v=true->EqD K H 0 v v true:=fun v h1 h2=>by
    have:=EqD.flat (K:=K) (H:=H) (d:=0) (x:=v) (y:=v) h1 h1
    rwa [h2] at this
   refine .inr ⟨t,u,_,_,fun _=>true,rfl,rfl,SqT.of a,SqT.of b,fun j j1 j2=>?_,?_⟩
   ·have el:e.t.length=3:=by cases e <;> rfl
    have:j<3:=by lia
    have ea:∀ j,j<3->eS (e.t.getD j .non)=true/\eqV (e.t.getD j .non) (e.t.getD j .non)=true:=by
     intro j hj
     cases e <;> (rcases(by lia:j=0\/j=1\/j=2) with rfl | rfl | rfl) <;> exact⟨rfl,by simp[ErrD.t,eqV]⟩
    exact fl _ (ea j this).1 (ea j this).2
   ·have e9:((List.range (min e.t.length e.t.length)).all (fun _=>true)&&e.t.length == e.t.length)=true:=by simp
    show Q (.bl (!((List.range (min e.t.length e.t.length)).all (fun _=>true)&&e.t.length == e.t.length))) H
    rw[e9]
    exact q
theorem ls_app {α:Type}{R:Hp->Addr->α->Prop}{G:Hp}{ps qs:List Addr}{ys zs:List α}(h:Ls R G ps ys) (k:Ls R G qs zs):Ls R G (ps++qs) (ys++zs):=by
 refine⟨by rw[length_append,length_append,h.1,k.1],fun i p y a b=>?_⟩
 by_cases hi:i<ps.length
 ·rw[List.getElem?_append_left hi] at a
  rw[List.getElem?_append_left (by rw[<- h.1]; exact hi)] at b
  exact h.2 i p y a b
 ·rw[List.getElem?_append_right (by lia)] at a
  rw[List.getElem?_append_right (by rw[<- h.1]; lia),<- h.1] at b
  exact k.2 _ p y a b
def InsAt (w:Int) (G:Hp) (l:Addr) (I:List (Str×KS)):Prop:=∃ is:List Addr,G l=some (.lst (is.map V.ref))/\Ls (InT w) G is I
theorem InT.keep {w:Int}{H H':Hp}{p t:Addr}{y:Str×KS}(b:Box H p) (x:SameX p H H') (h:InT w H t y):InT w H' t y:=by
 obtain⟨s,h1,h2⟩:=h
 obtain⟨_,_,_,e⟩:=b
 exact⟨s,x _ _ (fun z=>by rw[z,e] at h1; cases h1) h1,x _ _ (fun z=>by rw[z,e] at h2; cases h2) h2⟩
theorem InsAt.keep {w:Int}{H H':Hp}{p l:Addr}{I:List (Str×KS)}(b:Box H p) (x:SameX p H H') (h:InsAt w H l I):InsAt w H' l I:=by
 obtain⟨is,h1,h2⟩:=h
 exact⟨is,x _ _ (iq b h1) h1,h2.mono fun _ _ q=>q.keep b x⟩
theorem InT.updL {w:Int}{H:Hp}{l t:Addr}{y:Str×KS}{xs ys:List V}(e:H l=some (.lst xs)) (h:InT w H t y):InT w (upd H l (.lst ys)) t y:=by
 obtain⟨s,h1,h2⟩:=h
 exact⟨s,by rw[af (fun z=>by rw[z,e] at h1; cases h1)]; exact h1,by rw[af (fun z=>by rw[z,e] at h2; cases h2)]; exact h2⟩
instance (z:Str):Decidable (Nm z):=inferInstanceAs (Decidable (_/\_/\_/\_))
theorem InsAt.add {w:Int}{G:Hp}{l t s:Addr}{is:List Addr}{I:List (Str×KS)}{z:Str}{κ:KS}(h:G l=some (.lst (is.map V.ref))) (k:Ls (InT w) G is I) (ht:G t=some (.tup [.str z,.ref s])) (hs:G s=some (SpT w κ)):InsAt w (upd G l (.lst (is.map V.ref++[V.ref t]))) l (I++[(z,κ)]) :=
 ⟨is++[t],by rw[ac,map_append]; rfl,(k.mono fun _ _ q=>q.updL h).snoc (InT.updL h ⟨s,ht,hs⟩)⟩
def nine:List Str:=["b","f","g","j","k","b","f","g","q"]
theorem RwT.updL {w:Int}{H:Hp}{l t:Addr}{R:RwD}{ts:List Addr}{ys:List V}(e:H l=some (.lst (ts.map V.ref))) (h:RwT H t R/\RowOk w R):RwT (upd H l (.lst ys)) t R/\RowOk w R:=by
 obtain⟨⟨rl,gl,h1,h2,h3⟩,ok⟩:=h
 have ap:∀ {b:Addr} {zs:List Str},zs≠[]->H b=some (.lst (zs.map V.str))->b≠l:=fun {b zs} ne hb z=>by
  rw[z,e] at hb
  injection hb with hb
  injection hb with hb
  cases zs with
  | nil=>exact ne rfl
  | cons x r=>cases ts with
   | nil=>cases hb
   | cons y r'=>injection hb with hb; cases hb
 have n1:R.reads≠[]:=fun z=>by have:=ok.lr; rw[z] at this; have:=iC R.k; simp at *; lia
 have n2:R.goals≠[]:=fun z=>by
  have:=ok.lg
  rw[z] at this
  split at this <;> exact absurd this (by decide)
 exact⟨⟨rl,gl,by rw[af (fun z=>by rw[z,e] at h1; cases h1)]; exact h1,by rw[af (ap n1 h2)]; exact h2,by rw[af (ap n2 h3)]; exact h3⟩,ok⟩
theorem kg0 {w:Int}:KG w (0,0)/\KG w (1,0):=⟨⟨(by show (0:Nat)<3; decide),(fun z=>absurd (show (0:Nat)=2 from z) (by decide)),fun _=>rfl⟩,⟨(by show (1:Nat)<3; decide),(fun z=>absurd (show (1:Nat)=2 from z) (by decide)),fun _=>rfl⟩⟩
theorem ok_law {f:Addr}{fd:FuncData}(F:Fun K "law" "law" kH f fd) (T:Txt K mg c) (H__law_box:Has P w K mg base 1 "_law_box" ["_law_cell_here"] spBox) (H__law_looped:Has P w K mg base 2 "_law_looped" ["_law_box_here","_law_rows"] r6) (H__law_due:Has P w K mg base 2 "_law_due" ["_law_ins","_law_rows","_law_places","_law_outs","_law_behind","_law_width"] spDue) (H__law_cell:Has P w K mg base 1 "_law_cell" ["_law_script","_law_k"] (rW K)) (H__law_take:Has P w K mg base 1 "_law_take" ["_law_box_here","_law_many"] iX) (H__law_row:Has P w K mg base 3 "_law_row" ["_law_box_here","_law_width","_law_names"] qy) (H__law_some:Has P w K mg base 2 "_law_some" ["_law_box_here","_law_names"] oq) (H__law_spec:Has P w K mg base 2 "_law_spec" ["_law_box_here","_law_width"] mY) (H__law_told:Has P w K mg base 11 "_law_told" ["_law_text"] oa) (H__law_kind_words:Has P w K mg base 1 "_law_kind_words" ["_law_spec_here"] spKW):FnOk P w K mg base CX0 12 f fd ["_law_script"] (spLaw K):=by
 refine F.ok sc_law (fun vs H Q E h=>?_) (fun cdv A outer s H vs Q E hr h=>?_)
 ·obtain⟨a,ns,rfl,_⟩:=h
  rfl
 obtain⟨a,ns,rfl,hS,hlen,q⟩:=h
 refine slE ⟨_,(ax (dE PassesOwn.never rfl (eF rfl T.n_range (aa (aG (lA rfl) rfl T.n_max boot_max (aa ai (aa (aG (sI rfl) rfl T.n_min boot_min (aa (aG aE rfl T.n_len boot_len (aa (pv 0) ae)) (aa ai ae))) ae))) ae)) (aK (i:=1) sc_law.nd rfl (Or.inl rfl))
   (ax (cC (aF (i:=2) sc_law.nd rfl (Or.inr rfl) (aM H__law_box (hr.mono (by lia)) rfl (aa (aM H__law_cell (hr.mono (by lia)) rfl (aa (pv 0) (aa (pv 1) ae))) ae))))
   (ax (cC (aF (i:=3) sc_law.nd rfl (Or.inr rfl) (aJ bq ai (aM H__law_take (hr.mono (by lia)) rfl (aa (pv 2) (aa ai ae))))))
   (ax (cL (i:=4) sc_law.nd rfl (Or.inl rfl) (bu (bR (fB (aw ak (bR (fB (aw ak (aw (pv 3) (aw ai aL)))) aL))) (bR (fB (aw ak (bR (fB (aw ak (aw (pv 3) (aw ai aL)))) aL))) aL))))
   (ax (cL (i:=4) sc_law.nd rfl (Or.inl rfl) (gu cO (cC (pv 4)) (cC (oA [3,2] ["_law_width","_law_box_here"] rfl (by first | rfl | with_unfolding_all rfl) (by rfl) (by exact(List.forall_mem_cons.mpr ⟨rfl,(List.forall_mem_cons.mpr ⟨rfl,(fun _ h=>nomatch h)⟩)⟩)) (by decide +kernel) rfl (by decide +kernel) rfl (by decide +kernel) (by exact(List.forall_mem_cons.mpr ⟨⟨by first | exact Or.inl rfl | exact Or.inr rfl,rfl⟩,(List.forall_mem_cons.mpr ⟨⟨by first | exact Or.inl rfl | exact Or.inr rfl,rfl⟩,(fun _ h=>nomatch h)⟩)⟩)) rfl (by rfl) (bi (aS (aa ak (aa ak ae)))) (fun C s2 H2 fp=>(aP (aa (pv 0) (aa (aP (aa ak (aa (pv 1) (aa (aJ bq ai (aM H__law_take (hr.mono (by lia)) rfl (aa (pv 2) (aa ai ae)))) ae)))) ae))))))))
   (ax (j9 (oF PySem.F.plainAttrs_list PySem.F.slot_list_append PySem.F.type_list_append aY (pv 4) (bR (fB (aw ak (aw (aM H__law_spec (hr.mono (by lia)) rfl (aa (pv 2) (aa (pv 3) ae))) aL))) aL)))
   (dP (cG (au ce (aM H__law_take (hr.mono (by lia)) rfl (aa (pv 2) (aa ai ae))) ai (ay _))
    (aI (j9 (oF PySem.F.plainAttrs_list PySem.F.slot_list_append PySem.F.type_list_append aY (pv 4) (bR (fB (bR (pe_fnL H__law_some (hr.mono (by lia)) rfl (aw (pv 2) (bR (bu (aw ak (aw ak (aw ak (aw ak (aw ak (aw ak aL))))))) aL))) (aw (aM H__law_spec (hr.mono (by lia)) rfl (aa (pv 2) (aa (pv 3) ae))) aL))) aL))))
    be)
   (ax (cL (i:=5) sc_law.nd rfl (Or.inr rfl) (gu cO (bu (aw ak (aw ak (aw ak (aw ak (aw ak (aw ak (aw ak (aw ak (aw ak aL)))))))))) (gu op_rep (bu (aw ak aL)) (cC (aM H__law_take (hr.mono (by lia)) rfl (aa (pv 2) (aa ai ae)))))))
   (ax (cC (gP (i:=6) sc_law.nd rfl (Or.inl rfl) rfl [3,5,2] ["_law_width","_law_names","_law_box_here"] rfl (by first | rfl | with_unfolding_all rfl) (by rfl) (by exact(List.forall_mem_cons.mpr ⟨rfl,(List.forall_mem_cons.mpr ⟨rfl,(List.forall_mem_cons.mpr ⟨rfl,(fun _ h=>nomatch h)⟩)⟩)⟩)) (by decide +kernel) rfl (by decide +kernel) rfl (by decide +kernel) (by exact(List.forall_mem_cons.mpr ⟨⟨by first | exact Or.inl rfl | exact Or.inr rfl,rfl⟩,(List.forall_mem_cons.mpr ⟨⟨by first | exact Or.inl rfl | exact Or.inr rfl,rfl⟩,(List.forall_mem_cons.mpr ⟨⟨by first | exact Or.inl rfl | exact Or.inr rfl,rfl⟩,(fun _ h=>nomatch h)⟩)⟩)⟩)) rfl (by rfl) (eF rfl T.n_range (aa (aJ bq ai (aM H__law_take (hr.mono (by lia)) rfl (aa (pv 2) (aa ai ae)))) ae)) (fun C s2 H2 fp=>(aM H__law_row (hr.mono (by lia)) rfl (aa (pv 3) (aa (pv 1) (aa (pv 2) ae)))))))
   (ax (cC (gP (i:=7) sc_law.nd rfl (Or.inl rfl) rfl [2] ["_law_box_here"] rfl (by first | rfl | with_unfolding_all rfl) (by rfl) (by exact(List.forall_mem_cons.mpr ⟨rfl,(fun _ h=>nomatch h)⟩)) (by decide +kernel) rfl (by decide +kernel) rfl (by decide +kernel) (by exact(List.forall_mem_cons.mpr ⟨⟨by first | exact Or.inl rfl | exact Or.inr rfl,rfl⟩,(fun _ h=>nomatch h)⟩)) rfl (by rfl) (eF rfl T.n_range (aa (aJ bq ai (aM H__law_take (hr.mono (by lia)) rfl (aa (pv 2) (aa ai ae)))) ae)) (fun C s2 H2 fp=>(aM H__law_some (hr.mono (by lia)) rfl (aa (pv 1) (aa (aS (aO ak (aO ak (aO ak (aO ak (aO ak (aO ak ae))))))) ae))))))
   (ax (cL (i:=8) sc_law.nd rfl (Or.inl rfl) (bu (aw (aJ bM ak (bw dm rfl T.n_str boot_str (aa (pv 3) ae))) aL)))
   (ax (dE PassesOwn.never rfl (bi (pv 4)) (ix rfl (aW (aK (i:=9) sc_law.nd rfl (Or.inl rfl)) (aW (aK (i:=10) sc_law.nd rfl (Or.inl rfl)) dW)))
    (aI (cC (bf (dO PySem.F.plainAttrs_list PySem.F.slot_list_append PySem.F.type_list_append aY (pv 8) (aa (aJ bM (aJ bM (aJ bM ak (pv 9)) ak) (aM H__law_kind_words (hr.mono (by lia)) rfl (aa (pv 10) ae))) ae))))))
   (ax (cC (oP (aM H__law_looped (hr.mono (by lia)) rfl (aa (pv 2) (aa (pv 6) ae))) (ix rfl (aW (aK (i:=11) sc_law.nd rfl (Or.inl rfl)) (aW (aK (i:=12) sc_law.nd rfl (Or.inl rfl)) dW)))))
   (ax (cC (aF (i:=13) sc_law.nd rfl (Or.inl rfl) (dO PySem.F.plainAttrs_str PySem.F.slot_str_join PySem.F.type_str_join sD ak (aa (aJ cO (aJ cO (pv 8) (pv 11)) (eK rfl (by first | rfl | with_unfolding_all rfl) (by decide +kernel) rfl (by decide +kernel) rfl (bi (pv 7)) (fun C s2 H2 fp=>(aJ bM ak (pv 0))))) ae))))
   (ax (cC (aF (i:=14) sc_law.nd rfl (Or.inl rfl) (aM H__law_due (hr.mono (by lia)) rfl (aO (pv 4) (aO (pv 6) (aO (pv 12) (aO (pv 7) (aO (aJ bq (aG aE rfl T.n_len boot_len (aa (pv 8) ae)) (aG aE rfl T.n_len boot_len (aa (pv 11) ae))) (aO (pv 3) ae)))))))))
   (aI (cG (PW.pt (eO (au (se (d:=0) (bc hr)) (aM H__law_told (hr.mono (by lia)) rfl (aa (pv 13) ae)) (pv 14) (ay _)) (dM (au (se (d:=0) (bc hr)) (aM H__law_told (hr.mono (by lia)) rfl (aa (pv 13) ae)) (pv 14) (ay _)))))
    (aI (cC (aA fO)))
    be)))))))))))))))))
  (aI (cC (aA fO)))),?_⟩
 have k99:(1000:Nat)<=sizeLine:=by decide
 have hl:(ns.map V.int).length=ns.length:=length_map _
 refine⟨_,rfl,a,_,rfl,.inl hS,_,_,rfl,_,_,rfl,_,rfl,(by rw[hl]; split <;> (try split) <;> lia),(by rw[hl]; split <;> (try split) <;> lia),mD (fun i σ H2=>(∃ y1 y2 y3 y4 y5 y6 y7 y8 y9 y10 y11 y12 y13 y14:Option V,σ=[some (.ref a),y1,y2,y3,y4,y5,y6,y7,y8,y9,y10,y11,y12,y13,y14])/\Same H H2) ⟨⟨_,_,_,_,_,_,_,_,_,_,_,_,_,_,rfl⟩,Same.refl _⟩ ?_ ?_⟩
 ·rintro i σ H2 hi2 ⟨⟨y1,y2,y3,y4,y5,y6,y7,y8,y9,y10,y11,y12,y13,y14,rfl⟩,s2⟩
  refine⟨_,rfl,_,rfl,a,ns,_,rfl,s2.seq hS,by lia,fun c0=>⟨c0,rfl,fun p H3 hp b3 s3=>?_⟩⟩
  refine⟨_,rfl,p,_,rfl,b3,by decide,by decide,fun d H4 d0 d1 b4 x4=>⟨_,_,rfl,rfl,?_⟩⟩
  obtain⟨w',ew⟩:∃ w',(4:Int)+d=w':=⟨_,rfl⟩
  show kS 3 (V.int ((4:Int)+d)) _ _ _
  rw[ew]
  have w1:4<=w':=by lia
  have w2:w'<=32:=by lia
  have x24:SameX p H2 H4:=(SameX.of s3).trans x4
  clear ew d0 d1 x4 b3 s3
  refine⟨_,rfl,(by show 3<=sizeLine; lia),fun u1 hu1=>?_⟩
  obtain⟨G1,e1,s1,g1⟩:=cJ hu1 (SpT w' (0,0))
  change upd H4 u1 (.tup [V.str (Str.ofString "plain"),V.int w',V.int 0])=G1 at e1
  rw[e1]
  refine⟨(by show 2<=sizeLine; lia),fun v1 hv1=>?_⟩
  obtain⟨G2,e2,t2,g2⟩:=cJ hv1 (.tup [V.str (Str.ofString "b"),V.ref u1])
  rw[e2]
  refine⟨_,rfl,(by show 3<=sizeLine; lia),fun u2 hu2=>?_⟩
  obtain⟨G3,e3,t3,g3⟩:=cJ hu2 (SpT w' (1,0))
  change upd G2 u2 (.tup [V.str (Str.ofString "signed"),V.int w',V.int 0])=G3 at e3
  rw[e3]
  refine⟨(by show 2<=sizeLine; lia),fun v2 hv2=>?_⟩
  obtain⟨G4,e4,t4,g4⟩:=cJ hv2 (.tup [V.str (Str.ofString "f"),V.ref u2])
  rw[e4]
  refine⟨(by show 2<=sizeLine; lia),fun l1 hl1=>?_⟩
  obtain⟨G5,e5,t5,g5⟩:=cJ hl1 (.lst [V.ref v1,V.ref v2])
  rw[e5]
  have t15:=t2.trans (t3.trans (t4.trans t5))
  have ins2:InsAt w' G5 l1 [(Str.ofString "b",(0,0)),(Str.ofString "f",(1,0))]:=by
   refine⟨[v1,v2],g5,rfl,fun i p y hp hy=>?_⟩
   match i,hp,hy with
   | 0,hp,hy=>cases hp; cases hy; exact⟨u1,(t3.trans (t4.trans t5)) _ _ g2,t15 _ _ g1⟩
   | 1,hp,hy=>cases hp; cases hy; exact⟨u2,t5 _ _ g4,(t4.trans t5) _ _ g3⟩
   | i+2,hp,_=>simp at hp
  have b5:=b4.same (s1.trans t15)
  have x25:=x24.trans (SameX.of (s1.trans t15))
  clear e1 e2 e3 e4 e5 s1 t2 t3 t4 t5 t15 g1 g2 g3 g4 g5 hu1 hv1 hu2 hv2 hl1 x24 b4
  refine⟨_,rfl,(by show 2<=sizeLine; lia),fun lgj hlgj=>?_⟩
  obtain⟨G6,e6,t6,g6⟩:=cJ hlgj (.lst [V.str (Str.ofString "g"),V.str (Str.ofString "j")])
  rw[e6]
  obtain⟨is2,hi2',li2⟩:=ins2
  have hi26:=t6 _ _ hi2'
  have li26:Ls (InT w') G6 is2 [(Str.ofString "b",(0,0)),(Str.ofString "f",(1,0))]:=li2.mono fun _ _ q=>by obtain⟨s,h1,h2⟩:=q; exact⟨s,t6 _ _ h1,t6 _ _ h2⟩
  have b6:=b5.same t6
  have x26:=x25.trans (SameX.of t6)
  clear e6 t6 hlgj hi2' li2 x25 b5
  refine⟨lgj,rfl,⟨_,SqL.of g6⟩,fun D hD=>?_⟩
  have nDp:=b6.ne hD
  have nlg:lgj≠p:=fU (zs:=[Str.ofString "g",Str.ofString "j"]) b6 g6
  refine cF (xs:=[V.str (Str.ofString "g"),V.str (Str.ofString "j")]) (fun j HJ=>∃ (ts:List Addr) (I:List (Str×KS)),HJ D=some (.lst (ts.map V.ref))/\Ls (InT w') HJ ts I/\I.length=j/\(∀ y∈I,Nm y.1/\KG w' y.2)/\Box HJ p/\SameX p G6 HJ) ⟨[],[],ac,.nil,rfl,(fun _ h=>nomatch h),b6.same (aj hD _),SameX.of (aj hD _)⟩ (fun _ _ _ q=>by obtain⟨_,_,_,_,_,_,_,x⟩:=q; exact SqL.of (x _ _ nlg g6)) ?_ ?_
  ·rintro j v HJ hv ⟨ts,I,hy,lt,lI,nI,bJ,xJ⟩
   obtain⟨z,rfl,nz,hj2⟩:∃ z,v=V.str z/\Nm z/\j<2:=by
    match j,hv with
    | 0,hv=>cases hv; exact⟨_,rfl,by decide +kernel,by decide⟩
    | 1,hv=>cases hv; exact⟨_,rfl,by decide +kernel,by decide⟩
    | j+2,hv=>simp at hv
   refine⟨_,rfl,_,rfl,_,rfl,p,_,rfl,bJ,by decide,by decide,fun e HK e0 e1 bK xK=>⟨_,_,rfl,rfl,(by show 3<=sizeLine; lia),fun u hu=>?_⟩⟩
   obtain⟨K1,f1,r1,h1⟩:=cJ hu (SpT w' (2,1+e))
   change upd HK u (.tup [V.str (Str.ofString "point"),V.int w',V.int (1+e)])=K1 at f1
   rw[f1]
   refine⟨(by show 2<=sizeLine; lia),fun vv hvv=>?_⟩
   obtain⟨K2,f2,r2,h2⟩:=cJ hvv (.tup [V.str z,V.ref u])
   rw[f2]
   have hyK:=(r1.trans r2) _ _ (xK _ _ nDp hy)
   have lt1:=lt.1
   refine⟨_,hyK,(by rw[length_map]; lia),_,(show 2-(j+1)<2-j by lia),rfl,(by show j+1<=2; lia),ts++[vv],I++[(z,(2,1+e))],by rw[ac,map_append]; rfl,?_,by rw[length_append,lI]; rfl,?_,?_,?_⟩
   ·have base:Ls (InT w') K2 ts I:=lt.mono fun _ _ q=>by
     have q':=q.keep bJ xK
     obtain⟨s,h3,h4⟩:=q'
     exact⟨s,(r1.trans r2) _ _ h3,(r1.trans r2) _ _ h4⟩
    exact(base.mono fun _ _ q=>q.updL hyK).snoc (InT.updL hyK ⟨u,h2,r2 _ _ h1⟩)
   ·intro y hy
    rcases List.mem_append.mp hy with hy | hy
    ·exact nI y hy
    ·cases List.mem_singleton.mp hy
     exact⟨nz,⟨(by show (2:Nat)<3; decide),fun _=>⟨(by show 1<=1+e; lia),(by show 1+e<=w'-1; lia)⟩,fun h=>absurd rfl h⟩⟩
   ·obtain⟨q1,q2,q3,e⟩:=bK
    exact⟨q1,q2,q3,by rw[af (Ne.symm nDp)]; exact(r1.trans r2) _ _ e⟩
   ·exact fun b o hb e=>by rw[af (az e hD)]; exact(r1.trans r2) _ _ (xK _ _ hb (xJ _ _ hb e))
  rintro HJ ⟨ts,I,hy,lt,lI,nI,bJ,xJ⟩
  have hl1J:=xJ _ _ (iq b6 hi26) hi26
  have li2J:Ls (InT w') HJ is2 [(Str.ofString "b",(0,0)),(Str.ofString "f",(1,0))]:=li26.mono fun _ _ q=>q.keep b6 xJ
  have x2J:=x26.trans xJ
  have le2:=li2J.1
  have lt1:=lt.1
  refine⟨l1,D,_,_,rfl,rfl,SqL.of hl1J,SqL.of hy,(by rw[length_map,length_map,lt1,le2,lI]; show 2+2<=sizeLine; lia),fun lI4 hlI4=>?_⟩
  obtain⟨G7,e7,t7,g7⟩:=cJ hlI4 (.lst ((is2++ts).map V.ref))
  rw[<- map_append,e7]
  have ins4:InsAt w' G7 lI4 ((Str.ofString "b",(0,0))::(Str.ofString "f",(1,0))::I):=by
   refine⟨is2++ts,g7,?_⟩
   have:=ls_app li2J lt
   exact this.mono fun _ _ q=>by obtain⟨s,h3,h4⟩:=q; exact⟨s,t7 _ _ h3,t7 _ _ h4⟩
  have nI4:∀ y∈((Str.ofString "b",(0,0))::(Str.ofString "f",(1,0))::I:List (Str×KS)),Nm y.1/\KG w' y.2:=fun y hy=>by
   rcases List.mem_cons.mp hy with rfl | hy
   ·exact⟨by decide +kernel,kg0.1⟩
   rcases List.mem_cons.mp hy with rfl | hy
   ·exact⟨by decide +kernel,kg0.2⟩
   ·exact nI y hy
  have lI2:I.length=2:=lI
  have l4n:((Str.ofString "b",(0,0))::(Str.ofString "f",(1,0))::I:List (Str×KS)).length=4:=by show I.length+1+1=4; lia
  generalize ((Str.ofString "b",(0,0))::(Str.ofString "f",(1,0))::I:List (Str×KS))=I4 at ins4 nI4 l4n
  have b7:=bJ.same t7
  have x27:=x2J.trans (SameX.of t7)
  have lI0:H2 lI4=none:=none_of (SameX.fresh hp x2J) hlI4
  clear e7 t7 g7 hlI4 li2J hl1J hy lt lI nI bJ xJ x2J hi26 li26 b6 x26 hD nDp nlg g6 le2 lt1
  obtain⟨is4,hi4,li4⟩:=ins4
  have lel4:=li4.1
  refine⟨_,rfl,.inl ⟨rfl,_,SqL.of hi4⟩,_,rfl,_,rfl,p,w',rfl,b7,w1,w2,fun sk κ5 H5 sk0 hsk kg5 b8 x8=>⟨(by show 2<=sizeLine; lia),fun tk htk=>?_⟩⟩
  obtain⟨G8,e8,t8,g8⟩:=cJ htk (.tup [V.str (Str.ofString "k"),V.ref sk])
  rw[e8]
  have hi5:=t8 _ _ (x8 _ _ (iq b7 hi4) hi4)
  refine⟨lI4,_,_,rfl,rfl,hi5,(by rw[length_map]; lia),?_⟩
  have ins5:InsAt w' (upd G8 lI4 (.lst (is4.map V.ref++[V.ref tk]))) lI4 (I4++[(Str.ofString "k",κ5)]):=InsAt.add hi5 ((li4.mono fun _ _ q=>q.keep b7 x8).mono fun _ _ q=>by obtain⟨s,h3,h4⟩:=q; exact⟨s,t8 _ _ h3,t8 _ _ h4⟩) g8 (t8 _ _ hsk)
  have nI5:∀ y∈I4++[(Str.ofString "k",κ5)],Nm y.1/\KG w' y.2:=fun y hy=>by
   rcases List.mem_append.mp hy with hy | hy
   ·exact nI4 y hy
   ·cases List.mem_singleton.mp hy; exact⟨(by decide +kernel:Nm (Str.ofString "k")),kg5⟩
  have l5n:(I4++[(Str.ofString "k",κ5)]).length=5:=by rw[length_append,l4n]; rfl
  have nIp:lI4≠p:=iq b7 hi4
  have b9:Box (upd G8 lI4 (.lst (is4.map V.ref++[V.ref tk]))) p:=by
   obtain⟨q1,q2,q3,e⟩:=b8
   exact⟨q1,q2,q3,by rw[af (Ne.symm nIp)]; exact t8 _ _ e⟩
  have x29:SameX p H2 (upd G8 lI4 (.lst (is4.map V.ref++[V.ref tk]))):=fun b o hb e=>by
   rw[af (fun z=>by rw[z,lI0] at e; cases e)]
   exact t8 _ _ (x8 _ _ hb (x27 _ _ hb e))
  generalize upd G8 lI4 (.lst (is4.map V.ref++[V.ref tk]))=G9 at ins5 b9 x29 ⊢
  generalize I4++[(Str.ofString "k",κ5)]=I5 at ins5 nI5 l5n
  clear e8 t8 g8 htk hi5 hi4 li4 sk0 hsk kg5 b8 x8 nI4 l4n b7 x27 lel4
  refine⟨fun σ' G=>∃ I:List (Str×KS),σ'=[some (.ref a),some (.int (0+(i:Int))),some (.ref p),some (.int w'),some (.ref lI4),y5,y6,y7,y8,y9,y10,y11,y12,y13,y14]/\InsAt w' G lI4 I/\(∀ y∈I,Nm y.1/\KG w' y.2)/\I.length<=6/\Box G p/\SameX p H2 G,?_,?_⟩
  ·refine⟨_,rfl,p,_,rfl,b9,by decide,by decide,fun d G10 d0 d1 b10 x10=>⟨rfl,_,rfl,?_⟩⟩
   by_cases c0:d=0
   rotate_left
   ·exact aN (fun z=>c0 (by injection z)) ⟨I5,rfl,ins5.keep b9 x10,nI5,by lia,b10,x29.trans x10⟩
   refine dw (congrArg V.int c0) ?_
   have ins10:=ins5.keep b9 x10
   have x210:=x29.trans x10
   obtain⟨is5,hi5,li5⟩:=ins10
   have lel5:=li5.1
   refine⟨_,rfl,.inl ⟨rfl,_,SqL.of hi5⟩,_,rfl,(by show 6<=sizeLine; lia),fun l6 hl6=>?_⟩
   obtain⟨G11,e11,t11,g11⟩:=cJ hl6 (.lst (([Str.ofString "b",Str.ofString "f",Str.ofString "g",Str.ofString "j",Str.ofString "k",Str.ofString "q"]:List Str).map V.str))
   change upd G10 l6 (.lst [V.str (Str.ofString "b"),V.str (Str.ofString "f"),V.str (Str.ofString "g"),V.str (Str.ofString "j"),V.str (Str.ofString "k"),V.str (Str.ofString "q")])=G11 at e11
   rw[e11]
   refine⟨p,l6,_,rfl,b10.same t11,g11,nofun,by decide,fun z G12 hz b12 x12=>?_⟩
   have nz:Nm z:=(by decide +kernel:∀ z∈([Str.ofString "b",Str.ofString "f",Str.ofString "g",Str.ofString "j",Str.ofString "k",Str.ofString "q"]:List Str),Nm z) z hz
   refine⟨_,rfl,_,rfl,p,w',rfl,b12,w1,w2,fun sk κ6 H5 sk0 hsk kg6 b13 x13=>⟨(by show 2<=sizeLine; lia),fun tk htk=>?_⟩⟩
   obtain⟨G14,e14,t14,g14⟩:=cJ htk (.tup [V.str z,V.ref sk])
   rw[e14]
   have xx:SameX p G10 H5:=(SameX.of t11).trans (x12.trans x13)
   have hi6:=t14 _ _ (xx _ _ nIp hi5)
   refine⟨lI4,_,_,rfl,rfl,hi6,(by rw[length_map]; lia),I5++[(z,κ6)],rfl,InsAt.add hi6 ((li5.mono fun _ _ q=>q.keep b10 xx).mono fun _ _ q=>by obtain⟨s,h3,h4⟩:=q; exact⟨s,t14 _ _ h3,t14 _ _ h4⟩) g14 (t14 _ _ hsk),?_,by rw[length_append,l5n]; show 5+1<=6; decide,?_,?_⟩
   ·intro y hy
    rcases List.mem_append.mp hy with hy | hy
    ·exact nI5 y hy
    ·cases List.mem_singleton.mp hy; exact⟨nz,kg6⟩
   ·obtain⟨q1,q2,q3,e⟩:=b13
    exact⟨q1,q2,q3,by rw[af (Ne.symm nIp)]; exact t14 _ _ e⟩
   ·exact fun b o hb e=>by
     rw[af (fun z=>by rw[z,lI0] at e; cases e)]
     exact t14 _ _ (xx _ _ hb (x210 _ _ hb e))
  clear ins5 nI5 l5n b9 x29
  rintro σ G15 ⟨I,rfl,insI,nI,lI,b15,x215⟩
  refine⟨(by show 9<=sizeLine; lia),fun l9 hl9=>?_⟩
  obtain⟨G16,e16,t16,g16⟩:=cJ hl9 (.lst (nine.map V.str))
  change upd G15 l9 (.lst [V.str (Str.ofString "b"),V.str (Str.ofString "f"),V.str (Str.ofString "g"),V.str (Str.ofString "j"),V.str (Str.ofString "k"),V.str (Str.ofString "b"),V.str (Str.ofString "f"),V.str (Str.ofString "g"),V.str (Str.ofString "q")])=G16 at e16
  rw[e16]
  refine⟨(by show 1<=sizeLine; lia),fun ly hly=>?_⟩
  obtain⟨G17,e17,t17,g17⟩:=cJ hly (.lst [V.str (Str.ofString "y")])
  rw[e17]
  have b17:=b15.same (t16.trans t17)
  refine⟨_,rfl,p,_,rfl,b17,by decide,by decide,fun d G18 d0 d1 b18 x18=>?_⟩
  have hy18:=x18 _ _ (fU (zs:=[Str.ofString "y"]) b17 g17) g17
  have h918:=x18 _ _ (fU b17 (t17 _ _ g16)) (t17 _ _ g16)
  refine⟨ly,d,_,rfl,rfl,hy18,by lia,by lia,(by show 1*d.toNat<=sizeLine; lia),fun lr hlr=>?_⟩
  obtain⟨zs,ez,nz,ln9⟩:∃ zs:List Str,zs.map V.str=nine.map V.str++(List.replicate d.toNat [V.str (Str.ofString "y")]).flatten/\(∀ z∈zs,Nm z/\(z=Str.ofString "y"\/z∈nine))/\(zs.length<=11/\nine ⊆ zs):=by
   have nn:∀ z∈nine,Nm z:=by decide +kernel
   have ny:Nm (Str.ofString "y"):=by decide +kernel
   refine⟨nine++List.replicate d.toNat (Str.ofString "y"),?_,fun z hz=>?_,?_,fun z hz=>mem_append_left _ hz⟩
   ·rw[map_append]
    congr 1
    rcases(by lia:d=0\/d=1) with rfl | rfl <;> rfl
   ·rcases List.mem_append.mp hz with h | h
    ·exact⟨nn z h,.inr h⟩
    ·rw[(List.mem_replicate.mp h).2]; exact⟨ny,.inl rfl⟩
   ·rw[length_append,length_replicate]; show 9+d.toNat<=11; lia
  have t19:=aj hlr (.lst (List.replicate d.toNat [V.str (Str.ofString "y")]).flatten)
  have lrep:(List.replicate d.toNat [V.str (Str.ofString "y")]).flatten.length<=2:=by rw[qG]; show d.toNat*1<=2; lia
  refine⟨l9,lr,_,_,rfl,rfl,SqL.of (t19 _ _ h918),SqL.of ac,(by rw[length_map]; show 9+_<=sizeLine; lia),fun ln hln=>?_⟩
  rw[<- ez]
  obtain⟨G20,e20,t20,g20⟩:=cJ hln (.lst (zs.map V.str))
  rw[e20]
  have tt2:=t19.trans t20
  have b20:=b18.same tt2
  have x1520:SameX p G15 G20:=(SameX.of (t16.trans t17)).trans (x18.trans (SameX.of tt2))
  have ins20:=insI.keep b15 x1520
  have x220:=x215.trans x1520
  have nlnp:=fU b20 g20
  have zne:zs≠[]:=fun z=>by
   have:=ln9.2 (show Str.ofString "b"∈nine from (by decide +kernel:Str.ofString "b"∈nine))
   rw[z] at this; cases this
  have two:∀ g∈zs,∃ z∈zs,z≠g:=fun g _=>by
   by_cases e:g=Str.ofString "b"
   ·exact⟨Str.ofString "f",ln9.2 (by decide +kernel),by rw[e]; decide +kernel⟩
   ·exact⟨Str.ofString "b",ln9.2 (by decide +kernel),Ne.symm e⟩
  clear e16 t16 g16 hl9 e17 t17 g17 hly b17 x18 b18 d0 d1 hy18 h918 t19 e20 t20 tt2 hln hlr lrep ez x1520 insI b15 x215
  refine⟨_,rfl,p,_,rfl,b20,by decide,by decide,fun d G21 d0 d1 b21 x21=>⟨_,_,rfl,rfl,_,rfl,by lia,by lia,fun D hD=>?_⟩⟩
  have ins21:=ins20.keep b20 x21
  have hn21:=x21 _ _ nlnp g20
  have x221:=x220.trans x21
  have nDp:=b21.ne hD
  clear ins20 b20 x21 x220 g20
  refine iG (n:=(1+d).toNat) (fun j HJ=>∃ (ts:List Addr) (Rs:List RwD),HJ D=some (.lst (ts.map V.ref))/\Ls (fun H t R=>RwT H t R/\RowOk w' R) HJ ts Rs/\Rs.length=j/\(∀ r∈Rs,RowOk w' r)/\Box HJ p/\SameX p G21 HJ) ⟨[],[],ac,.nil,rfl,(fun _ h=>nomatch h),b21.same (aj hD _),SameX.of (aj hD _)⟩ ?_ ?_
  ·rintro j HJ hj ⟨ts,Rs,hy,lt,lR,okR,bJ,xJ⟩
   refine⟨_,rfl,_,rfl,_,rfl,p,ln,w',zs,rfl,bJ,xJ _ _ nlnp hn21,fun z hz=>(nz z hz).1,two,zne,by lia,w1,w2,fun t R HK t0 hR ok l0 _ bK xK=>?_⟩
   have hyK:=xK _ _ nDp hy
   have lt1:=lt.1
   refine⟨_,hyK,(by rw[length_map]; lia),_,(show (1+d).toNat-(j+1)<_ by lia),rfl,by lia,ts++[t],Rs++[R],by rw[ac,map_append]; rfl,?_,by rw[length_append,lR]; rfl,?_,?_,?_⟩
   ·exact(lt.mono fun _ _ q=>RwT.updL hyK ⟨q.1.keep bJ xK,q.2⟩).snoc (RwT.updL hyK ⟨hR,ok⟩)
   ·intro r hr
    rcases List.mem_append.mp hr with h | h
    ·exact okR r h
    ·cases List.mem_singleton.mp h; exact ok
   ·obtain⟨q1,q2,q3,e⟩:=bK
    exact⟨q1,q2,q3,by rw[af (Ne.symm nDp)]; exact e⟩
   ·exact fun b o hb e=>by rw[af (az e hD)]; exact xK _ _ hb (xJ _ _ hb e)
  rintro G22 ⟨ts,Rs,hts,lts0,lR,okR,b22,x22⟩
  have lts:Ls RwT G22 ts Rs:=⟨lts0.1,fun i p y a b=>(lts0.2 i p y a b).1⟩
  have lR1:1<=Rs.length:=by lia
  have lR4:Rs.length<=4:=by lia
  have ins22:=ins21.keep b21 x22
  have x222:=x221.trans x22
  clear lts0 hD ins21 b21 x22 hn21 x221 d0 d1 lR two zne nlnp
  refine⟨_,rfl,p,_,rfl,b22,by decide,by decide,fun d2 G23 d0 d1 b23 x23=>⟨_,_,rfl,rfl,_,rfl,by lia,by lia,fun D2 hD2=>?_⟩⟩
  have ins23:=ins22.keep b22 x23
  have hts23:=x23 _ _ nDp hts
  have lts23:Ls RwT G23 ts Rs:=lts.mono fun _ _ q=>q.keep b22 x23
  have x223:=x222.trans x23
  have nD2p:=b23.ne hD2
  clear ins22 hts lts b22 x23 x222
  refine iG (n:=(1+d2).toNat) (fun j HJ=>∃ os:List Str,HJ D2=some (.lst (os.map V.str))/\os.length=j/\(∀ z∈os,Nm z)/\Box HJ p/\SameX p G23 HJ) ⟨[],ac,rfl,(fun _ h=>nomatch h),b23.same (aj hD2 _),SameX.of (aj hD2 _)⟩ ?_ ?_
  ·rintro j HJ hj ⟨os,hy,lo,no,bJ,xJ⟩
   refine⟨_,rfl,(by show 6<=sizeLine; lia),fun l6 hl6=>?_⟩
   obtain⟨K1,e1,r1,h1⟩:=cJ hl6 (.lst (([Str.ofString "b",Str.ofString "f",Str.ofString "q",Str.ofString "y",Str.ofString "b",Str.ofString "g"]:List Str).map V.str))
   change upd HJ l6 (.lst [V.str (Str.ofString "b"),V.str (Str.ofString "f"),V.str (Str.ofString "q"),V.str (Str.ofString "y"),V.str (Str.ofString "b"),V.str (Str.ofString "g")])=K1 at e1
   rw[e1]
   refine⟨p,l6,_,rfl,bJ.same r1,h1,nofun,by decide,fun z HK hz bK xK=>?_⟩
   have nz':Nm z:=(by decide +kernel:∀ z∈([Str.ofString "b",Str.ofString "f",Str.ofString "q",Str.ofString "y",Str.ofString "b",Str.ofString "g"]:List Str),Nm z) z hz
   have hyK:=xK _ _ nD2p (r1 _ _ hy)
   refine⟨_,hyK,(by rw[length_map]; lia),_,(show (1+d2).toNat-(j+1)<_ by lia),rfl,by lia,os++[z],by rw[ac,map_append]; rfl,by rw[length_append,lo]; rfl,?_,?_,?_⟩
   ·intro y hy
    rcases List.mem_append.mp hy with h | h
    ·exact no y h
    ·cases List.mem_singleton.mp h; exact nz'
   ·obtain⟨q1,q2,q3,e⟩:=bK
    exact⟨q1,q2,q3,by rw[af (Ne.symm nD2p)]; exact e⟩
   ·exact fun b o hb e=>by rw[af (az e hD2)]; exact xK _ _ hb (r1 _ _ (xJ _ _ hb e))
  rintro G24 ⟨os,hos,lo,no,b24,x24⟩
  have lo1:1<=os.length:=by lia
  have lo3:os.length<=3:=by lia
  have ins24:=ins23.keep b23 x24
  have hts24:=x24 _ _ nDp hts23
  have lts24:Ls RwT G24 ts Rs:=lts23.mono fun _ _ q=>q.keep b23 x24
  have x224:=x223.trans x24
  clear ins23 hts23 lts23 b23 x24 x223 hD2 d0 d1 lo
  obtain⟨wn,rfl⟩:∃ wn:Nat,w'=(wn:Int):=⟨w'.toNat,by lia⟩
  obtain⟨nwz,vwz⟩:=kr (n:=wn) (by lia)
  have lw:=nwz.2.2.1
  have l6:(Str.ofString "width ").length=6:=by decide
  refine⟨_,rfl,_,rfl,by lia,by lia,_,_,rfl,rfl,(by rw[l6]; show 6+(tt wn).length<=sizeLine; lia),(by show 1<=sizeLine; lia),fun ll hll=>?_⟩
  obtain⟨G25,e25,t25,g25⟩:=cJ hll (.lst [V.str (wdT (tt wn))])
  have e25':upd G24 ll (.lst [V.str (Str.ofString "width "++Str.ofString (toString (wn:Int)):Str)])=G25:=by rw[<- e25,sp_wd]; rfl
  rw[e25']
  obtain⟨is,his,lis⟩:=ins24
  have nll:∀ {b u},G24 b=some u->b≠ll:=fun e z=>by rw[z,hll] at e; cases e
  have l3:(Str.ofString "in ").length=3:=by decide
  have l1':(Str.ofString " ").length=1:=by decide
  refine⟨_,rfl,lI4,rfl,⟨_,SqL.of (t25 _ _ his)⟩,bI (xs:=is.map V.ref) (fun j σ G=>(∃ z1 z2:Option V,σ=[some (.ref a),some (.int (0+(i:Int))),some (.ref p),some (.int (wn:Int)),some (.ref lI4),some (.ref ln),some (.ref D),some (.ref D2),some (.ref ll),z1,z2,y11,y12,y13,y14])/\G ll=some (.lst (V.str (wdT (tt wn))::(I.take j).map fun y=>V.str (lnT (.inn y.1 y.2))))/\Same G24 G) ⟨⟨_,_,rfl⟩,g25,t25⟩ (fun _ _ _ _ q=>SqL.of (q.2.2 _ _ his)) ?_ ?_⟩
  ·rintro j v σ G hv ⟨⟨z1,z2,rfl⟩,hg,sG⟩
   obtain⟨pa,hpa,rfl⟩:∃ pa,is[j]?=some pa/\v=V.ref pa:=by
    rw[List.getElem?_map] at hv
    obtain⟨z,hz,e⟩:=Option.map_eq_some_iff.mp hv
    exact⟨z,hz,e.symm⟩
   have jl:=(List.getElem?_eq_some_iff.mp hpa).1
   have le:=lis.1
   obtain⟨⟨z,κ⟩,hu⟩:∃ u,I[j]?=some u:=⟨_,List.getElem?_eq_getElem (by lia)⟩
   obtain⟨sk,h1,h2⟩:=lis.2 j pa _ hpa hu
   have ny:=nI _ (mem_of_getElem? hu)
   have nzl:z.length<=6:=ny.1.2.1
   have kw:(Txt.join SPs (kwS κ)).length<=117:=mn (kwS_wd ny.2 w2) (show (kwS κ).length<=9 by unfold kwS; split <;> simp)
   have a1:(Str.ofString "in "++z:Str).length=3+z.length:=by rw[<- bA,bD,length_append,bA,bA,l3]
   have a2:((Str.ofString "in "++z:Str)++Str.ofString " ":Str).length=3+z.length+1:=by rw[<- bA,bD,length_append,bA,bA,a1,l1']
   refine⟨pa,_,rfl,SqT.of (sG _ _ h1),rfl,_,_,rfl,_,_,rfl,rfl,?_⟩
   refine⟨_,rfl,.inl ⟨rfl,_,SqL.of hg⟩,_,rfl,_,_,rfl,rfl,(by rw[l3]; show 3+z.length<=sizeLine; lia),_,_,rfl,rfl,(by show (Str.ofString "in "++z:Str).length+_<=sizeLine; rw[a1,l1']; lia),_,rfl,sk,(wn:Int),κ,rfl,sG _ _ h2,ny.2,w2,fun H' s'=>⟨_,_,rfl,rfl,(by show ((Str.ofString "in "++z:Str)++Str.ofString " ":Str).length+(Txt.join SPs (kwS κ)).length<=sizeLine; rw[a2]; lia),?_⟩⟩
   have hg':=s' _ _ hg
   refine⟨ll,_,_,rfl,rfl,hg',(by simp only[length_cons,length_map,length_take]; lia),⟨_,_,rfl⟩,?_,fun b u e=>by rw[af (nll e)]; exact s' _ _ (sG _ _ e)⟩
   rw[ac,take_add_one,hu,map_append]
   show some (HO.lst ((V.str (wdT (tt wn))::_)++[V.str (((Str.ofString "in "++z:Str)++Str.ofString " ":Str)++Txt.join SPs (kwS κ):Str)]))=some (HO.lst (V.str (wdT (tt wn))::(_++[V.str (lnT (.inn z κ))])))
   rw[sp_in z ny.2]
   rfl
  rintro σ G26 ⟨⟨z1,z2,rfl⟩,hg26,s2426⟩
  rw[length_map,lis.1,take_length] at hg26
  have his26:=s2426 _ _ his
  have lis26:Ls (InT (wn:Int)) G26 is I:=lis.mono fun _ _ q=>by obtain⟨s,h3,h4⟩:=q; exact⟨s,s2426 _ _ h3,s2426 _ _ h4⟩
  have hts26:=s2426 _ _ hts24
  have lts26:Ls RwT G26 ts Rs:=lts24.mono fun _ _ q=>q.same s2426
  have hos26:=s2426 _ _ hos
  have b26:=b24.same s2426
  have x226:=x224.trans (SameX.of s2426)
  have nllp:ll≠p:=b24.ne hll
  clear e25 e25' t25 g25 nll hll his lis hts24 lts24 hos b24 x224 s2426 l3 l1' l6
  refine⟨_,rfl,_,rfl,p,D,ts,Rs,rfl,b26,hts26,lts26,lR1,by lia,fun tm am bm lp H27 tm0 lpo htm ham hbm am0 bm0 b27 x27'=>⟨tm,_,rfl,SqT.of htm,rfl,_,_,rfl,_,_,rfl,rfl,?_⟩⟩
  have hg27:=x27' _ _ nllp hg26
  have his27:=x27' _ _ (iq b26 his26) his26
  have lis27:Ls (InT (wn:Int)) H27 is I:=lis26.mono fun _ _ q=>q.keep b26 x27'
  have hts27:=x27' _ _ nDp hts26
  have lts27:Ls RwT H27 ts Rs:=lts26.mono fun _ _ q=>q.keep b26 x27'
  have hos27:=x27' _ _ nD2p hos26
  have x227:=x226.trans x27'
  have ml:=qF lpo
  clear hg26 his26 lis26 hts26 lts26 hos26 b26 x226 x27' htm tm0
  have lI0':I.length<=10:=by lia
  refine⟨jq,_,rfl,_,rfl,ll,am,_,_,rfl,rfl,SqL.of hg27,SqL.of ham,(by simp only[length_cons,length_map]; lia),fun lx hlx=>?_⟩
  obtain⟨K1,f1,r1,g1⟩:=cJ hlx (.lst ((V.str (wdT (tt wn))::I.map fun y=>V.str (lnT (.inn y.1 y.2)))++(je Rs lp).map fun L=>V.str (lnT L)))
  rw[f1]
  refine⟨_,rfl,D2,rfl,⟨_,SqL.of (r1 _ _ hos27)⟩,fun D3 hD3=>?_⟩
  have l4:(Str.ofString "out ").length=4:=by decide
  refine cF (xs:=os.map V.str) (fun j HJ=>HJ D3=some (.lst ((os.take j).map fun z=>V.str (lnT (.out z))))/\Same K1 HJ) ⟨ac,aj hD3 _⟩ (fun _ _ _ q=>SqL.of (q.2 _ _ (r1 _ _ hos27))) ?_ ?_
  ·rintro j v HJ hv ⟨hj,sJ⟩
   obtain⟨z,hz,rfl⟩:∃ z,os[j]?=some z/\v=V.str z:=by
    rw[List.getElem?_map] at hv
    obtain⟨z,hz,e⟩:=Option.map_eq_some_iff.mp hv
    exact⟨z,hz,e.symm⟩
   have jl:=(List.getElem?_eq_some_iff.mp hz).1
   have nzl:z.length<=6:=(no z (mem_of_getElem? hz)).2.1
   refine⟨_,rfl,_,_,rfl,rfl,(by rw[l4]; show 4+z.length<=sizeLine; lia),_,hj,(by rw[length_map,length_take]; lia),_,(show (os.map V.str).length-(j+1)<_ by rw[length_map]; lia),rfl,(by rw[length_map]; lia),?_,Same.updL sJ hD3⟩
   rw[ac,take_add_one,hz,map_append]
   show some (HO.lst (_++[V.str (Str.ofString "out "++z:Str)]))=some (HO.lst (_++[V.str (lnT (.out z))]))
   rw[sp_out]
  rintro HJ ⟨hj,sJ⟩
  rw[length_map,take_length] at hj
  refine⟨lx,D3,_,_,rfl,rfl,SqL.of (sJ _ _ g1),SqL.of hj,(by simp only[length_append,length_cons,length_map]; lia),fun lz hlz=>?_⟩
  have eT:((V.str (wdT (tt wn))::I.map fun y=>V.str (lnT (.inn y.1 y.2)))++(je Rs lp).map fun L=>V.str (lnT L))++os.map (fun z=>V.str (lnT (.out z)))=(wdT (tt wn)::(eQ I Rs lp os).map lnT).map V.str:=by
   unfold eQ
   simp only[map_cons,map_append,map_map,List.cons_append,append_assoc]
   rfl
  rw[eT]
  obtain⟨K2,f2,r2,g2⟩:=cJ hlz (.lst ((wdT (tt wn)::(eQ I Rs lp os).map lnT).map V.str))
  rw[f2]
  have os0:os≠[]:=fun z=>by rw[z] at lo1; exact absurd lo1 (by decide)
  obtain⟨pok,prd⟩:=prg_ok (w:=(wn:Int)) nwz vwz w1 w2 nI lI okR lR4 lpo no os0 lo3
  have po:=kE nwz w1 w2 (by have:=pok.lk; rw[vwz] at this; exact this)
  have pl:=pok.ll
  refine⟨Str.ofString "\n",lz,wdT (tt wn)::(eQ I Rs lp os).map lnT,rfl,rfl,SqL.of g2,?_,?_⟩
  ·have h1:=qP (k:=117) (ps:=wdT (tt wn)::(eQ I Rs lp os).map lnT) fun p hp=>(po p hp).2
   have h2:(wdT (tt wn)::(eQ I Rs lp os).map lnT).length=(eQ I Rs lp os).length+1:=by rw[length_cons,length_map]
   have h3:(Str.ofString "\n").length=1:=by decide
   rw[h2] at h1 ⊢
   rw[h3]
   lia
  have r27:Same H27 K2:=r1.trans (sJ.trans r2)
  have hg28:=r27 _ _ hg27
  have ham28:=r27 _ _ ham
  refine⟨_,rfl,_,rfl,_,rfl,_,rfl,_,rfl,ll,_,rfl,.inl (SqL.of hg28),_,rfl,am,_,rfl,.inl (SqL.of ham28),_,_,rfl,rfl,_,rfl,lI4,D,bm,D2,_,(wn:Int),is,ts,I,Rs,lp,os,rfl,w1,w2,r27 _ _ his27,lis27.mono (fun _ _ q=>by obtain⟨s,h3,h4⟩:=q; exact⟨s,r27 _ _ h3,r27 _ _ h4⟩),(fun y hy=>(nI y hy).2),lI0',r27 _ _ hts27,lts27.mono (fun _ _ q=>q.same r27),okR,by lia,r27 _ _ hbm,r27 _ _ hos27,by lia,fun vd H28 td s28=>?_⟩
  have eb:((V.str (wdT (tt wn))::I.map fun y=>V.str (lnT (.inn y.1 y.2))).length:Int)+(((je Rs lp).map fun L=>V.str (lnT L)).length:Int)=1+(I.length:Int)+((je Rs lp).length:Int):=by
   simp only[length_cons,length_map]
   lia
  have td':TVal H28 vd (oi (nV (tt wn)) (eQ I Rs lp os)):=by rw[prd,<- eb]; exact td
  have x228:=x227.trans (SameX.of (r27.trans s28))
  refine⟨_,rfl,tt wn,eQ I Rs lp os,rfl,pok,fun v1 H29 tv1 s29=>⟨_,rfl,ne_due tv1 (td'.same s29) ?_⟩⟩
  refine⟨_,rfl,di ⟨_,rfl,tt wn,eQ I Rs lp os,rfl,pok,fun v2 H30 tv2 s30=>⟨_,rfl,ne_due tv2 (td'.same (s29.trans s30)) ?_⟩⟩⟩
  refine⟨_,rfl,di ⟨⟨_,_,_,_,_,_,_,_,_,_,_,_,_,_,rfl⟩,s2.trans (SameX.fresh hp (x228.trans (SameX.of (s29.trans s30))))⟩⟩
 ·rintro σ H2 ⟨⟨y1,y2,y3,y4,y5,y6,y7,y8,y9,y10,y11,y12,y13,y14,rfl⟩,s2⟩
  exact q H2
theorem us2 {us:List V}(h:us.length=2):∃ v u,us=[v,u]:=by
 match us,h with
 | [v,u],_=>exact⟨v,u,rfl⟩
theorem fQ {f:Addr}{fd:FuncData}(F:Fun K "__init__" "Unknown.__init__" bY f fd) (T:Txt K mg c)  (xc:XCl K c.Unknown f) (na0:NoAttr K c.Unknown "line") (na1:NoAttr K c.Unknown "name"):FnOk P w K mg base CX0 1 f fd ["self","line","name"] (spXN ["line","name"] c.Unknown):=by
 refine F.ok fA (fun vs H Q E h=>?_) (fun cdv A outer s H vs Q E hr h=>?_)
 ·obtain⟨e,t,us,rfl,hl,_⟩:=h
  rw[length_cons,hl]
  rfl
 obtain⟨e,t,us,rfl,hl,he,q⟩:=h
 obtain⟨v,u,rfl⟩:=us2 hl
 refine⟨_,(ah (qL (pv 0) (pv 1) rfl)
  (aq (qU (pv 0) (pv 2) rfl))),?_⟩
 refine⟨_,rfl,_,rfl,e,c.Unknown,t,_,rfl,he,xc,na0,fun d hd hne=>?_⟩
 exact⟨_,rfl,_,rfl,e,c.Unknown,t,_,d,_,rfl,ac,(by rw[af hne]; exact ac),xc,na1,(by show 1<=100; decide),q d _ _ hd hne ac (fun z=>nl (by decide +kernel) z) (by rw[af (Ne.symm hne)]; exact ac) (fun b b1 b2=>by rw[af b1,af b2,af b1])⟩
theorem dX {f:Addr}{fd:FuncData}(F:Fun K "__init__" "WrongKind.__init__" bF f fd) (T:Txt K mg c)  (xc:XCl K c.WrongKind f) (na0:NoAttr K c.WrongKind "line") (na1:NoAttr K c.WrongKind "name"):FnOk P w K mg base CX0 1 f fd ["self","line","name"] (spXN ["line","name"] c.WrongKind):=by
 refine F.ok dZ (fun vs H Q E h=>?_) (fun cdv A outer s H vs Q E hr h=>?_)
 ·obtain⟨e,t,us,rfl,hl,_⟩:=h
  rw[length_cons,hl]
  rfl
 obtain⟨e,t,us,rfl,hl,he,q⟩:=h
 obtain⟨v,u,rfl⟩:=us2 hl
 refine⟨_,(ah (qL (pv 0) (pv 1) rfl)
  (aq (qU (pv 0) (pv 2) rfl))),?_⟩
 refine⟨_,rfl,_,rfl,e,c.WrongKind,t,_,rfl,he,xc,na0,fun d hd hne=>?_⟩
 exact⟨_,rfl,_,rfl,e,c.WrongKind,t,_,d,_,rfl,ac,(by rw[af hne]; exact ac),xc,na1,(by show 1<=100; decide),q d _ _ hd hne ac (fun z=>nl (by decide +kernel) z) (by rw[af (Ne.symm hne)]; exact ac) (fun b b1 b2=>by rw[af b1,af b2,af b1])⟩
theorem hZ {f:Addr}{fd:FuncData}(F:Fun K "__init__" "Twice.__init__" cP f fd) (T:Txt K mg c)  (xc:XCl K c.Twice f) (na0:NoAttr K c.Twice "line") (na1:NoAttr K c.Twice "name"):FnOk P w K mg base CX0 1 f fd ["self","line","name"] (spXN ["line","name"] c.Twice):=by
 refine F.ok h8 (fun vs H Q E h=>?_) (fun cdv A outer s H vs Q E hr h=>?_)
 ·obtain⟨e,t,us,rfl,hl,_⟩:=h
  rw[length_cons,hl]
  rfl
 obtain⟨e,t,us,rfl,hl,he,q⟩:=h
 obtain⟨v,u,rfl⟩:=us2 hl
 refine⟨_,(ah (qL (pv 0) (pv 1) rfl)
  (aq (qU (pv 0) (pv 2) rfl))),?_⟩
 refine⟨_,rfl,_,rfl,e,c.Twice,t,_,rfl,he,xc,na0,fun d hd hne=>?_⟩
 exact⟨_,rfl,_,rfl,e,c.Twice,t,_,d,_,rfl,ac,(by rw[af hne]; exact ac),xc,na1,(by show 1<=100; decide),q d _ _ hd hne ac (fun z=>nl (by decide +kernel) z) (by rw[af (Ne.symm hne)]; exact ac) (fun b b1 b2=>by rw[af b1,af b2,af b1])⟩
end
theorem all_mk {l:PySem.W.OpenLaw}{w:World}{K:Frag}{h:Heap}{mg:Str->Option Value}{fa f1 f2 f3 f4 f5 f6 f7 f8 f9 f10 f11 f12 f13 f14 f15 f16 f17 f18 f19 f20 f21 f22 f23 f24 f25 f26 f27 f28 f29 f30 f31 f32 f33 f34 f35 f36 f37 f38 f39 f40 f41 f42 f43 f44 f45 f46 f47 f48 f49 f50 f51 f52 f53 f54 f55 f56 f57 c_Kind c_Plain c_Signed c_Pointed c_Row c_Repeat c_Draft c_Program c_Unknown c_WrongKind c_Twice c_WiseError c_WAY_WORDS c_RESERVED c_READ_PLAIN c_READ_ALIKE c_SHAPES:Addr}(X:K.In h) (G:h.Ns mainGlobals mg) (hfa:mg "law"=some (.ref fa))
  {od57 an57:Option Addr} {sl57:Array (Option Value)} {oc57 kV57 dc57 pm57 cd57 ct57:Value}
  (a1:findIn K (.ref c_Unknown) "__init__"=some (some (.ref f1))) (i1:isFn K (.ref f1)=true)
  (l1:FB K "__init__" "Unknown.__init__" bY f1)
  (a2:findIn K (.ref c_WrongKind) "__init__"=some (some (.ref f2))) (i2:isFn K (.ref f2)=true)
  (l2:FB K "__init__" "WrongKind.__init__" bF f2)
  (a3:findIn K (.ref c_Twice) "__init__"=some (some (.ref f3))) (i3:isFn K (.ref f3)=true)
  (l3:FB K "__init__" "Twice.__init__" cP f3)
  (a4:nsIn K mainGlobals "is_whole"=some (some (.ref f4)))
  (l4:FB K "is_whole" "is_whole" hV f4)
  (a5:nsIn K mainGlobals "is_between"=some (some (.ref f5)))
  (l5:FB K "is_between" "is_between" eB f5)
  (a6:nsIn K mainGlobals "need_width"=some (some (.ref f6)))
  (l6:FB K "need_width" "need_width" dR f6)
  (a7:findIn K (.ref c_Kind) "__init__"=some (some (.ref f7))) (i7:isFn K (.ref f7)=true)
  (l7:FB K "__init__" "Kind.__init__" cV f7)
  (a8:findIn K (.ref c_Plain) "__init__"=some (some (.ref f8))) (i8:isFn K (.ref f8)=true)
  (l8:FB K "__init__" "Plain.__init__" cN f8)
  (a9:findIn K (.ref c_Signed) "__init__"=some (some (.ref f9))) (i9:isFn K (.ref f9)=true)
  (l9:FB K "__init__" "Signed.__init__" cw f9)
  (a10:findIn K (.ref c_Pointed) "__init__"=some (some (.ref f10))) (i10:isFn K (.ref f10)=true)
  (l10:FB K "__init__" "Pointed.__init__" bP f10)
  (a11:findIn K (.ref c_Plain) "word"=some (some (.ref f11))) (i11:isFn K (.ref f11)=true)
  (l11:FB K "word" "Plain.word" d8 f11)
  (a12:findIn K (.ref c_Signed) "word"=some (some (.ref f12))) (i12:isFn K (.ref f12)=true)
  (l12:FB K "word" "Signed.word" dI f12)
  (a13:findIn K (.ref c_Pointed) "word"=some (some (.ref f13))) (i13:isFn K (.ref f13)=true)
  (l13:FB K "word" "Pointed.word" de f13)
  (a14:nsIn K mainGlobals "same_kind"=some (some (.ref f14)))
  (l14:FB K "same_kind" "same_kind" fu f14)
  (a15:nsIn K mainGlobals "half"=some (some (.ref f15)))
  (l15:FB K "half" "half" rC f15)
  (a16:nsIn K mainGlobals "number_in"=some (some (.ref f16)))
  (l16:FB K "number_in" "number_in" fN f16)
  (a17:nsIn K mainGlobals "whole_in"=some (some (.ref f17)))
  (l17:FB K "whole_in" "whole_in" gX f17)
  (a18:nsIn K mainGlobals "all_ways"=some (some (.ref f18)))
  (l18:FB K "all_ways" "all_ways" gZ f18)
  (a19:findIn K (.ref c_Row) "__init__"=some (some (.ref f19))) (i19:isFn K (.ref f19)=true)
  (l19:FB K "__init__" "Row.__init__" dh f19)
  (a20:findIn K (.ref c_Repeat) "__init__"=some (some (.ref f20))) (i20:isFn K (.ref f20)=true)
  (l20:FB K "__init__" "Repeat.__init__" cq f20)
  (a21:findIn K (.ref c_Draft) "__init__"=some (some (.ref f21))) (i21:isFn K (.ref f21)=true)
  (l21:FB K "__init__" "Draft.__init__" cK f21)
  (a22:findIn K (.ref c_Draft) "takes"=some (some (.ref f22))) (i22:isFn K (.ref f22)=true)
  (l22:FB K "takes" "Draft.takes" dF f22)
  (a23:findIn K (.ref c_Draft) "takes_in"=some (some (.ref f23))) (i23:isFn K (.ref f23)=true)
  (l23:FB K "takes_in" "Draft.takes_in" cQ f23)
  (a24:findIn K (.ref c_Draft) "takes_out"=some (some (.ref f24))) (i24:isFn K (.ref f24)=true)
  (l24:FB K "takes_out" "Draft.takes_out" cA f24)
  (a25:findIn K (.ref c_Draft) "takes_repeat"=some (some (.ref f25))) (i25:isFn K (.ref f25)=true)
  (l25:FB K "takes_repeat" "Draft.takes_repeat" bE f25)
  (a26:findIn K (.ref c_Draft) "takes_end"=some (some (.ref f26))) (i26:isFn K (.ref f26)=true)
  (l26:FB K "takes_end" "Draft.takes_end" cy f26)
  (a27:findIn K (.ref c_Draft) "takes_row"=some (some (.ref f27))) (i27:isFn K (.ref f27)=true)
  (l27:FB K "takes_row" "Draft.takes_row" cr f27)
  (a28:findIn K (.ref c_Draft) "rows_here"=some (some (.ref f28))) (i28:isFn K (.ref f28)=true)
  (l28:FB K "rows_here" "Draft.rows_here" cz f28)
  (a29:findIn K (.ref c_Draft) "is_too_much"=some (some (.ref f29))) (i29:isFn K (.ref f29)=true)
  (l29:FB K "is_too_much" "Draft.is_too_much" bL f29)
  (a30:nsIn K mainGlobals "is_name"=some (some (.ref f30)))
  (l30:FB K "is_name" "is_name" jd f30)
  (a31:nsIn K mainGlobals "number_told"=some (some (.ref f31)))
  (l31:FB K "number_told" "number_told" dJ f31)
  (a32:nsIn K mainGlobals "kind_told"=some (some (.ref f32)))
  (l32:FB K "kind_told" "kind_told" fm f32)
  (a33:nsIn K mainGlobals "row_told"=some (some (.ref f33)))
  (l33:FB K "row_told" "row_told" h7 f33)
  (a34:nsIn K mainGlobals "put_into"=some (some (.ref f34)))
  (l34:FB K "put_into" "put_into" ia f34)
  (a35:nsIn K mainGlobals "fraction_told"=some (some (.ref f35)))
  (l35:FB K "fraction_told" "fraction_told" cX f35)
  (a36:nsIn K mainGlobals "first_walk"=some (some (.ref f36)))
  (l36:FB K "first_walk" "first_walk" eG f36)
  (a37:findIn K (.ref c_Program) "__init__"=some (some (.ref f37))) (i37:isFn K (.ref f37)=true)
  (l37:FB K "__init__" "Program.__init__" bV f37)
  (a38:nsIn K mainGlobals "count_rows"=some (some (.ref f38)))
  (l38:FB K "count_rows" "count_rows" eE f38)
  (a39:nsIn K mainGlobals "not_of_word"=some (some (.ref f39)))
  (l39:FB K "not_of_word" "not_of_word" dB f39)
  (a40:nsIn K mainGlobals "wrongly_read"=some (some (.ref f40)))
  (l40:FB K "wrongly_read" "wrongly_read" cZ f40)
  (a41:nsIn K mainGlobals "kind_put"=some (some (.ref f41)))
  (l41:FB K "kind_put" "kind_put" ik f41)
  (a42:nsIn K mainGlobals "need_row"=some (some (.ref f42)))
  (l42:FB K "need_row" "need_row" il f42)
  (a43:nsIn K mainGlobals "need_outs"=some (some (.ref f43)))
  (l43:FB K "need_outs" "need_outs" fe f43)
  (a44:nsIn K mainGlobals "second_walk"=some (some (.ref f44)))
  (l44:FB K "second_walk" "second_walk" dC f44)
  (a45:nsIn K mainGlobals "read_program"=some (some (.ref f45)))
  (l45:FB K "read_program" "read_program" c8 f45)
  (a46:nsIn K mainGlobals "_law_cell"=some (some (.ref f46)))
  (l46:FB K "_law_cell" "_law_cell" fF f46)
  (a47:nsIn K mainGlobals "_law_box"=some (some (.ref f47)))
  (l47:FB K "_law_box" "_law_box" ii f47)
  (a48:nsIn K mainGlobals "_law_take"=some (some (.ref f48)))
  (l48:FB K "_law_take" "_law_take" fj f48)
  (a49:nsIn K mainGlobals "_law_spec"=some (some (.ref f49)))
  (l49:FB K "_law_spec" "_law_spec" eY f49)
  (a50:nsIn K mainGlobals "_law_kind_words"=some (some (.ref f50)))
  (l50:FB K "_law_kind_words" "_law_kind_words" cm f50)
  (a51:nsIn K mainGlobals "_law_some"=some (some (.ref f51)))
  (l51:FB K "_law_some" "_law_some" fG f51)
  (a52:nsIn K mainGlobals "_law_row"=some (some (.ref f52)))
  (l52:FB K "_law_row" "_law_row" hX f52)
  (a53:nsIn K mainGlobals "_law_made"=some (some (.ref f53)))
  (l53:FB K "_law_made" "_law_made" fP f53)
  (a54:nsIn K mainGlobals "_law_looped"=some (some (.ref f54)))
  (l54:FB K "_law_looped" "_law_looped" dH f54)
  (a55:nsIn K mainGlobals "_law_due"=some (some (.ref f55)))
  (l55:FB K "_law_due" "_law_due" gY f55)
  (a56:nsIn K mainGlobals "_law_told"=some (some (.ref f56)))
  (l56:FB K "_law_told" "_law_told" fH f56)
  (a57:nsIn K mainGlobals "law"=some (some (.ref f57)))
  (l57:K.lookup f57=some ⟨oc57,od57,.func (fnOf "law" "law" (eu kH) (c9 kH) (av kH) .none kV57 dc57 pm57 an57 cd57 ct57),sl57⟩) (c57:codeIn K cd57 "law"=true) (k57:keepIn K (.ref f57)=true)
  (aC_Kind:nsIn K mainGlobals "Kind"=some (some (.ref c_Kind))) (pg_Kind:plainGet K c_Kind Str.empty=true) (hd_Kind:hasDictIn K c_Kind=true) (po_Kind:plainOver K c_Kind=true) (sa_Kind:findIn K (.ref c_Kind) "__setattr__"=some (some (.builtin "object.__setattr__")))
  (rd_Kind:PySem.W.readsIn K c_Kind (.type "type")=true) (ga_Kind:PySem.W.specialIn K (.ref c_Kind) "__getattribute__"=some (some (.builtin "type.__getattribute__"))) (fn_Kind___init__:PySem.W.findCls K (.ref c_Kind) (.type "type") "__init__"=some (.val (.ref f7)))
  (aC_Plain:nsIn K mainGlobals "Plain"=some (some (.ref c_Plain))) (pg_Plain:plainGet K c_Plain Str.empty=true) (hd_Plain:hasDictIn K c_Plain=true) (po_Plain:plainOver K c_Plain=true) (sa_Plain:findIn K (.ref c_Plain) "__setattr__"=some (some (.builtin "object.__setattr__")))
  (mk_Plain:makesIn K c_Plain=true) (kc_Plain:keepIn K (.ref c_Plain)=true)
  (na_Plain_width:findIn K (.ref c_Plain) "width"=some none)
  (na_Plain_point:findIn K (.ref c_Plain) "point"=some none)
  (aC_Signed:nsIn K mainGlobals "Signed"=some (some (.ref c_Signed))) (pg_Signed:plainGet K c_Signed Str.empty=true) (hd_Signed:hasDictIn K c_Signed=true) (po_Signed:plainOver K c_Signed=true) (sa_Signed:findIn K (.ref c_Signed) "__setattr__"=some (some (.builtin "object.__setattr__")))
  (mk_Signed:makesIn K c_Signed=true) (kc_Signed:keepIn K (.ref c_Signed)=true)
  (na_Signed_width:findIn K (.ref c_Signed) "width"=some none)
  (na_Signed_point:findIn K (.ref c_Signed) "point"=some none)
  (aC_Pointed:nsIn K mainGlobals "Pointed"=some (some (.ref c_Pointed))) (pg_Pointed:plainGet K c_Pointed Str.empty=true) (hd_Pointed:hasDictIn K c_Pointed=true) (po_Pointed:plainOver K c_Pointed=true) (sa_Pointed:findIn K (.ref c_Pointed) "__setattr__"=some (some (.builtin "object.__setattr__")))
  (mk_Pointed:makesIn K c_Pointed=true) (kc_Pointed:keepIn K (.ref c_Pointed)=true)
  (na_Pointed_width:findIn K (.ref c_Pointed) "width"=some none)
  (na_Pointed_point:findIn K (.ref c_Pointed) "point"=some none)
  (aC_Row:nsIn K mainGlobals "Row"=some (some (.ref c_Row))) (pg_Row:plainGet K c_Row Str.empty=true) (hd_Row:hasDictIn K c_Row=true) (po_Row:plainOver K c_Row=true) (sa_Row:findIn K (.ref c_Row) "__setattr__"=some (some (.builtin "object.__setattr__")))
  (mk_Row:makesIn K c_Row=true) (kc_Row:keepIn K (.ref c_Row)=true)
  (na_Row_line:findIn K (.ref c_Row) "line"=some none)
  (na_Row_deed:findIn K (.ref c_Row) "deed"=some none)
  (na_Row_goals:findIn K (.ref c_Row) "goals"=some none)
  (na_Row_reads:findIn K (.ref c_Row) "reads"=some none)
  (na_Row_numbers:findIn K (.ref c_Row) "numbers"=some none)
  (na_Row_way:findIn K (.ref c_Row) "way"=some none)
  (aC_Repeat:nsIn K mainGlobals "Repeat"=some (some (.ref c_Repeat))) (pg_Repeat:plainGet K c_Repeat Str.empty=true) (hd_Repeat:hasDictIn K c_Repeat=true) (po_Repeat:plainOver K c_Repeat=true) (sa_Repeat:findIn K (.ref c_Repeat) "__setattr__"=some (some (.builtin "object.__setattr__")))
  (mk_Repeat:makesIn K c_Repeat=true) (kc_Repeat:keepIn K (.ref c_Repeat)=true)
  (na_Repeat_line:findIn K (.ref c_Repeat) "line"=some none)
  (na_Repeat_times:findIn K (.ref c_Repeat) "times"=some none)
  (na_Repeat_rows:findIn K (.ref c_Repeat) "rows"=some none)
  (aC_Draft:nsIn K mainGlobals "Draft"=some (some (.ref c_Draft))) (pg_Draft:plainGet K c_Draft Str.empty=true) (hd_Draft:hasDictIn K c_Draft=true) (po_Draft:plainOver K c_Draft=true) (sa_Draft:findIn K (.ref c_Draft) "__setattr__"=some (some (.builtin "object.__setattr__")))
  (mk_Draft:makesIn K c_Draft=true) (kc_Draft:keepIn K (.ref c_Draft)=true)
  (na_Draft_width:findIn K (.ref c_Draft) "width"=some none)
  (na_Draft_inputs:findIn K (.ref c_Draft) "inputs"=some none)
  (na_Draft_rows:findIn K (.ref c_Draft) "rows"=some none)
  (na_Draft_outs:findIn K (.ref c_Draft) "outs"=some none)
  (na_Draft_row_pairs:findIn K (.ref c_Draft) "row_pairs"=some none)
  (na_Draft_loops:findIn K (.ref c_Draft) "loops"=some none)
  (na_Draft_met:findIn K (.ref c_Draft) "met"=some none)
  (aC_Program:nsIn K mainGlobals "Program"=some (some (.ref c_Program))) (pg_Program:plainGet K c_Program Str.empty=true) (hd_Program:hasDictIn K c_Program=true) (po_Program:plainOver K c_Program=true) (sa_Program:findIn K (.ref c_Program) "__setattr__"=some (some (.builtin "object.__setattr__")))
  (mk_Program:makesIn K c_Program=true) (kc_Program:keepIn K (.ref c_Program)=true)
  (na_Program_width:findIn K (.ref c_Program) "width"=some none)
  (na_Program_inputs:findIn K (.ref c_Program) "inputs"=some none)
  (na_Program_rows:findIn K (.ref c_Program) "rows"=some none)
  (na_Program_outs:findIn K (.ref c_Program) "outs"=some none)
  (na_Program_kinds:findIn K (.ref c_Program) "kinds"=some none)
  (na_Program_source:findIn K (.ref c_Program) "source"=some none)
  (aC_Unknown:nsIn K mainGlobals "Unknown"=some (some (.ref c_Unknown)))
  (aC_WrongKind:nsIn K mainGlobals "WrongKind"=some (some (.ref c_WrongKind)))
  (aC_Twice:nsIn K mainGlobals "Twice"=some (some (.ref c_Twice)))
  (aC_WiseError:nsIn K mainGlobals "WiseError"=some (some (.ref c_WiseError)))
  (xe_Unknown:pX K c_Unknown f1=true) (xs_Unknown:findIn K (.ref c_Unknown) "__setattr__"=some (some (.builtin "object.__setattr__"))) (xm_Unknown:mroIn K c_Unknown (.type "object")=some true) (xf_Unknown:typeIn K (.ref f1)=some (.type "function")) (xk_Unknown:keepIn K (.ref c_Unknown)=true) (xn_Unknown_line:findIn K (.ref c_Unknown) "line"=some none) (xn_Unknown_name:findIn K (.ref c_Unknown) "name"=some none)
  (xe_WrongKind:pX K c_WrongKind f2=true) (xs_WrongKind:findIn K (.ref c_WrongKind) "__setattr__"=some (some (.builtin "object.__setattr__"))) (xm_WrongKind:mroIn K c_WrongKind (.type "object")=some true) (xf_WrongKind:typeIn K (.ref f2)=some (.type "function")) (xk_WrongKind:keepIn K (.ref c_WrongKind)=true) (xn_WrongKind_line:findIn K (.ref c_WrongKind) "line"=some none) (xn_WrongKind_name:findIn K (.ref c_WrongKind) "name"=some none)
  (xe_Twice:pX K c_Twice f3=true) (xs_Twice:findIn K (.ref c_Twice) "__setattr__"=some (some (.builtin "object.__setattr__"))) (xm_Twice:mroIn K c_Twice (.type "object")=some true) (xf_Twice:typeIn K (.ref f3)=some (.type "function")) (xk_Twice:keepIn K (.ref c_Twice)=true) (xn_Twice_line:findIn K (.ref c_Twice) "line"=some none) (xn_Twice_name:findIn K (.ref c_Twice) "name"=some none)
  {dW_WAY_WORDS:Option Addr} {nW_WAY_WORDS:Nat} {sW_WAY_WORDS:Array (Option Value)} {u0_WAY_WORDS u1_WAY_WORDS u2_WAY_WORDS u3_WAY_WORDS:Tok} (aW_WAY_WORDS:nsIn K mainGlobals "WAY_WORDS"=some (some (.ref c_WAY_WORDS))) (lW_WAY_WORDS:K.lookup c_WAY_WORDS=some ⟨.type "tuple",dW_WAY_WORDS,.seq #[.str "down" u0_WAY_WORDS,.str "up" u1_WAY_WORDS,.str "cut" u2_WAY_WORDS,.str "near" u3_WAY_WORDS] nW_WAY_WORDS,sW_WAY_WORDS⟩)
  {dW_RESERVED:Option Addr} {nW_RESERVED:Nat} {sW_RESERVED:Array (Option Value)} {u0_RESERVED u1_RESERVED u2_RESERVED u3_RESERVED u4_RESERVED u5_RESERVED u6_RESERVED u7_RESERVED u8_RESERVED u9_RESERVED u10_RESERVED u11_RESERVED u12_RESERVED u13_RESERVED u14_RESERVED u15_RESERVED u16_RESERVED u17_RESERVED u18_RESERVED u19_RESERVED u20_RESERVED u21_RESERVED u22_RESERVED u23_RESERVED u24_RESERVED u25_RESERVED u26_RESERVED u27_RESERVED u28_RESERVED u29_RESERVED u30_RESERVED:Tok} (aW_RESERVED:nsIn K mainGlobals "RESERVED"=some (some (.ref c_RESERVED))) (lW_RESERVED:K.lookup c_RESERVED=some ⟨.type "tuple",dW_RESERVED,.seq #[.str "width" u0_RESERVED,.str "in" u1_RESERVED,.str "out" u2_RESERVED,.str "plain" u3_RESERVED,.str "signed" u4_RESERVED,.str "point" u5_RESERVED,.str "set" u6_RESERVED,.str "copy" u7_RESERVED,.str "add" u8_RESERVED,.str "sub" u9_RESERVED,.str "addstop" u10_RESERVED,.str "substop" u11_RESERVED,.str "low" u12_RESERVED,.str "high" u13_RESERVED,.str "left" u14_RESERVED,.str "right" u15_RESERVED,.str "less" u16_RESERVED,.str "same" u17_RESERVED,.str "pick" u18_RESERVED,.str "div" u19_RESERVED,.str "rest" u20_RESERVED,.str "over" u21_RESERVED,.str "times" u22_RESERVED,.str "mul" u23_RESERVED,.str "part" u24_RESERVED,.str "repeat" u25_RESERVED,.str "end" u26_RESERVED,.str "down" u27_RESERVED,.str "up" u28_RESERVED,.str "cut" u29_RESERVED,.str "near" u30_RESERVED] nW_RESERVED,sW_RESERVED⟩)
  {dW_READ_PLAIN:Option Addr} {nW_READ_PLAIN:Nat} {sW_READ_PLAIN:Array (Option Value)} {u0_READ_PLAIN u1_READ_PLAIN u2_READ_PLAIN u3_READ_PLAIN u4_READ_PLAIN:Tok} (aW_READ_PLAIN:nsIn K mainGlobals "READ_PLAIN"=some (some (.ref c_READ_PLAIN))) (lW_READ_PLAIN:K.lookup c_READ_PLAIN=some ⟨.type "tuple",dW_READ_PLAIN,.seq #[.str "low" u0_READ_PLAIN,.str "high" u1_READ_PLAIN,.str "over" u2_READ_PLAIN,.str "rest" u3_READ_PLAIN,.str "part" u4_READ_PLAIN] nW_READ_PLAIN,sW_READ_PLAIN⟩)
  {dW_READ_ALIKE:Option Addr} {nW_READ_ALIKE:Nat} {sW_READ_ALIKE:Array (Option Value)} {u0_READ_ALIKE u1_READ_ALIKE u2_READ_ALIKE u3_READ_ALIKE u4_READ_ALIKE u5_READ_ALIKE u6_READ_ALIKE u7_READ_ALIKE:Tok} (aW_READ_ALIKE:nsIn K mainGlobals "READ_ALIKE"=some (some (.ref c_READ_ALIKE))) (lW_READ_ALIKE:K.lookup c_READ_ALIKE=some ⟨.type "tuple",dW_READ_ALIKE,.seq #[.str "add" u0_READ_ALIKE,.str "sub" u1_READ_ALIKE,.str "addstop" u2_READ_ALIKE,.str "substop" u3_READ_ALIKE,.str "less" u4_READ_ALIKE,.str "same" u5_READ_ALIKE,.str "mul" u6_READ_ALIKE,.str "pick" u7_READ_ALIKE] nW_READ_ALIKE,sW_READ_ALIKE⟩)
  {eD_SHAPES:Nat} {kD0_SHAPES kD1_SHAPES kD2_SHAPES kD3_SHAPES kD4_SHAPES kD5_SHAPES kD6_SHAPES kD7_SHAPES kD8_SHAPES kD9_SHAPES kD10_SHAPES kD11_SHAPES kD12_SHAPES kD13_SHAPES kD14_SHAPES kD15_SHAPES kD16_SHAPES kD17_SHAPES:Tok} {vD0_SHAPES vD1_SHAPES vD2_SHAPES vD3_SHAPES vD4_SHAPES vD5_SHAPES vD6_SHAPES vD7_SHAPES vD8_SHAPES vD9_SHAPES vD10_SHAPES vD11_SHAPES vD12_SHAPES vD13_SHAPES vD14_SHAPES vD15_SHAPES vD16_SHAPES vD17_SHAPES:Addr} (aW_SHAPES:nsIn K mainGlobals "SHAPES"=some (some (.ref c_SHAPES))) (lW_SHAPES:K.lookup c_SHAPES=some ⟨.type "dict",none,.dict #[⟨PyData.keyHash w.params "copy",.str "copy" kD0_SHAPES,.ref vD0_SHAPES⟩,⟨PyData.keyHash w.params "pick",.str "pick" kD1_SHAPES,.ref vD1_SHAPES⟩,⟨PyData.keyHash w.params "add",.str "add" kD2_SHAPES,.ref vD2_SHAPES⟩,⟨PyData.keyHash w.params "sub",.str "sub" kD3_SHAPES,.ref vD3_SHAPES⟩,⟨PyData.keyHash w.params "addstop",.str "addstop" kD4_SHAPES,.ref vD4_SHAPES⟩,⟨PyData.keyHash w.params "substop",.str "substop" kD5_SHAPES,.ref vD5_SHAPES⟩,⟨PyData.keyHash w.params "low",.str "low" kD6_SHAPES,.ref vD6_SHAPES⟩,⟨PyData.keyHash w.params "high",.str "high" kD7_SHAPES,.ref vD7_SHAPES⟩,⟨PyData.keyHash w.params "less",.str "less" kD8_SHAPES,.ref vD8_SHAPES⟩,⟨PyData.keyHash w.params "same",.str "same" kD9_SHAPES,.ref vD9_SHAPES⟩,⟨PyData.keyHash w.params "over",.str "over" kD10_SHAPES,.ref vD10_SHAPES⟩,⟨PyData.keyHash w.params "left",.str "left" kD11_SHAPES,.ref vD11_SHAPES⟩,⟨PyData.keyHash w.params "right",.str "right" kD12_SHAPES,.ref vD12_SHAPES⟩,⟨PyData.keyHash w.params "rest",.str "rest" kD13_SHAPES,.ref vD13_SHAPES⟩,⟨PyData.keyHash w.params "div",.str "div" kD14_SHAPES,.ref vD14_SHAPES⟩,⟨PyData.keyHash w.params "times",.str "times" kD15_SHAPES,.ref vD15_SHAPES⟩,⟨PyData.keyHash w.params "mul",.str "mul" kD16_SHAPES,.ref vD16_SHAPES⟩,⟨PyData.keyHash w.params "part",.str "part" kD17_SHAPES,.ref vD17_SHAPES⟩] eD_SHAPES,#[]⟩)
  {dD0_SHAPES:Option Addr} {nD0_SHAPES:Nat} {tD0_SHAPES:Array (Option Value)} {uD0_0_SHAPES:Tok} (lD0_SHAPES:K.lookup vD0_SHAPES=some ⟨.type "tuple",dD0_SHAPES,.seq #[.str "name" uD0_0_SHAPES] nD0_SHAPES,tD0_SHAPES⟩)
  {dD1_SHAPES:Option Addr} {nD1_SHAPES:Nat} {tD1_SHAPES:Array (Option Value)} {uD1_0_SHAPES uD1_1_SHAPES uD1_2_SHAPES:Tok} (lD1_SHAPES:K.lookup vD1_SHAPES=some ⟨.type "tuple",dD1_SHAPES,.seq #[.str "name" uD1_0_SHAPES,.str "name" uD1_1_SHAPES,.str "name" uD1_2_SHAPES] nD1_SHAPES,tD1_SHAPES⟩)
  {dD2_SHAPES:Option Addr} {nD2_SHAPES:Nat} {tD2_SHAPES:Array (Option Value)} {uD2_0_SHAPES uD2_1_SHAPES:Tok} (lD2_SHAPES:K.lookup vD2_SHAPES=some ⟨.type "tuple",dD2_SHAPES,.seq #[.str "name" uD2_0_SHAPES,.str "name" uD2_1_SHAPES] nD2_SHAPES,tD2_SHAPES⟩)
  {dD3_SHAPES:Option Addr} {nD3_SHAPES:Nat} {tD3_SHAPES:Array (Option Value)} {uD3_0_SHAPES uD3_1_SHAPES:Tok} (lD3_SHAPES:K.lookup vD3_SHAPES=some ⟨.type "tuple",dD3_SHAPES,.seq #[.str "name" uD3_0_SHAPES,.str "name" uD3_1_SHAPES] nD3_SHAPES,tD3_SHAPES⟩)
  {dD4_SHAPES:Option Addr} {nD4_SHAPES:Nat} {tD4_SHAPES:Array (Option Value)} {uD4_0_SHAPES uD4_1_SHAPES:Tok} (lD4_SHAPES:K.lookup vD4_SHAPES=some ⟨.type "tuple",dD4_SHAPES,.seq #[.str "name" uD4_0_SHAPES,.str "name" uD4_1_SHAPES] nD4_SHAPES,tD4_SHAPES⟩)
  {dD5_SHAPES:Option Addr} {nD5_SHAPES:Nat} {tD5_SHAPES:Array (Option Value)} {uD5_0_SHAPES uD5_1_SHAPES:Tok} (lD5_SHAPES:K.lookup vD5_SHAPES=some ⟨.type "tuple",dD5_SHAPES,.seq #[.str "name" uD5_0_SHAPES,.str "name" uD5_1_SHAPES] nD5_SHAPES,tD5_SHAPES⟩)
  {dD6_SHAPES:Option Addr} {nD6_SHAPES:Nat} {tD6_SHAPES:Array (Option Value)} {uD6_0_SHAPES uD6_1_SHAPES:Tok} (lD6_SHAPES:K.lookup vD6_SHAPES=some ⟨.type "tuple",dD6_SHAPES,.seq #[.str "name" uD6_0_SHAPES,.str "name" uD6_1_SHAPES] nD6_SHAPES,tD6_SHAPES⟩)
  {dD7_SHAPES:Option Addr} {nD7_SHAPES:Nat} {tD7_SHAPES:Array (Option Value)} {uD7_0_SHAPES uD7_1_SHAPES:Tok} (lD7_SHAPES:K.lookup vD7_SHAPES=some ⟨.type "tuple",dD7_SHAPES,.seq #[.str "name" uD7_0_SHAPES,.str "name" uD7_1_SHAPES] nD7_SHAPES,tD7_SHAPES⟩)
  {dD8_SHAPES:Option Addr} {nD8_SHAPES:Nat} {tD8_SHAPES:Array (Option Value)} {uD8_0_SHAPES uD8_1_SHAPES:Tok} (lD8_SHAPES:K.lookup vD8_SHAPES=some ⟨.type "tuple",dD8_SHAPES,.seq #[.str "name" uD8_0_SHAPES,.str "name" uD8_1_SHAPES] nD8_SHAPES,tD8_SHAPES⟩)
  {dD9_SHAPES:Option Addr} {nD9_SHAPES:Nat} {tD9_SHAPES:Array (Option Value)} {uD9_0_SHAPES uD9_1_SHAPES:Tok} (lD9_SHAPES:K.lookup vD9_SHAPES=some ⟨.type "tuple",dD9_SHAPES,.seq #[.str "name" uD9_0_SHAPES,.str "name" uD9_1_SHAPES] nD9_SHAPES,tD9_SHAPES⟩)
  {dD10_SHAPES:Option Addr} {nD10_SHAPES:Nat} {tD10_SHAPES:Array (Option Value)} {uD10_0_SHAPES uD10_1_SHAPES:Tok} (lD10_SHAPES:K.lookup vD10_SHAPES=some ⟨.type "tuple",dD10_SHAPES,.seq #[.str "name" uD10_0_SHAPES,.str "name" uD10_1_SHAPES] nD10_SHAPES,tD10_SHAPES⟩)
  {dD11_SHAPES:Option Addr} {nD11_SHAPES:Nat} {tD11_SHAPES:Array (Option Value)} {uD11_0_SHAPES uD11_1_SHAPES:Tok} (lD11_SHAPES:K.lookup vD11_SHAPES=some ⟨.type "tuple",dD11_SHAPES,.seq #[.str "name" uD11_0_SHAPES,.str "shift" uD11_1_SHAPES] nD11_SHAPES,tD11_SHAPES⟩)
  {dD12_SHAPES:Option Addr} {nD12_SHAPES:Nat} {tD12_SHAPES:Array (Option Value)} {uD12_0_SHAPES uD12_1_SHAPES:Tok} (lD12_SHAPES:K.lookup vD12_SHAPES=some ⟨.type "tuple",dD12_SHAPES,.seq #[.str "name" uD12_0_SHAPES,.str "shift" uD12_1_SHAPES] nD12_SHAPES,tD12_SHAPES⟩)
  {dD13_SHAPES:Option Addr} {nD13_SHAPES:Nat} {tD13_SHAPES:Array (Option Value)} {uD13_0_SHAPES uD13_1_SHAPES:Tok} (lD13_SHAPES:K.lookup vD13_SHAPES=some ⟨.type "tuple",dD13_SHAPES,.seq #[.str "name" uD13_0_SHAPES,.str "divisor" uD13_1_SHAPES] nD13_SHAPES,tD13_SHAPES⟩)
  {dD14_SHAPES:Option Addr} {nD14_SHAPES:Nat} {tD14_SHAPES:Array (Option Value)} {uD14_0_SHAPES uD14_1_SHAPES uD14_2_SHAPES:Tok} (lD14_SHAPES:K.lookup vD14_SHAPES=some ⟨.type "tuple",dD14_SHAPES,.seq #[.str "name" uD14_0_SHAPES,.str "divisor" uD14_1_SHAPES,.str "way" uD14_2_SHAPES] nD14_SHAPES,tD14_SHAPES⟩)
  {dD15_SHAPES:Option Addr} {nD15_SHAPES:Nat} {tD15_SHAPES:Array (Option Value)} {uD15_0_SHAPES uD15_1_SHAPES uD15_2_SHAPES:Tok} (lD15_SHAPES:K.lookup vD15_SHAPES=some ⟨.type "tuple",dD15_SHAPES,.seq #[.str "name" uD15_0_SHAPES,.str "fraction" uD15_1_SHAPES,.str "way" uD15_2_SHAPES] nD15_SHAPES,tD15_SHAPES⟩)
  {dD16_SHAPES:Option Addr} {nD16_SHAPES:Nat} {tD16_SHAPES:Array (Option Value)} {uD16_0_SHAPES uD16_1_SHAPES uD16_2_SHAPES:Tok} (lD16_SHAPES:K.lookup vD16_SHAPES=some ⟨.type "tuple",dD16_SHAPES,.seq #[.str "name" uD16_0_SHAPES,.str "name" uD16_1_SHAPES,.str "way" uD16_2_SHAPES] nD16_SHAPES,tD16_SHAPES⟩)
  {dD17_SHAPES:Option Addr} {nD17_SHAPES:Nat} {tD17_SHAPES:Array (Option Value)} {uD17_0_SHAPES uD17_1_SHAPES:Tok} (lD17_SHAPES:K.lookup vD17_SHAPES=some ⟨.type "tuple",dD17_SHAPES,.seq #[.str "name" uD17_0_SHAPES,.str "divisor" uD17_1_SHAPES] nD17_SHAPES,tD17_SHAPES⟩)
  {tS_LETTERS:Tok} (aS_LETTERS:nsIn K mainGlobals "LETTERS"=some (some (.str "abcdefghijklmnopqrstuvwxyz" tS_LETTERS)))
  {tN_MOST_LINES:Tok} (aN_MOST_LINES:nsIn K mainGlobals "MOST_LINES"=some (some (.int 60 tN_MOST_LINES)))
  {tN_MOST_NAMES:Tok} (aN_MOST_NAMES:nsIn K mainGlobals "MOST_NAMES"=some (some (.int 30 tN_MOST_NAMES)))
  {tN_MOST_LOOPS:Tok} (aN_MOST_LOOPS:nsIn K mainGlobals "MOST_LOOPS"=some (some (.int 3 tN_MOST_LOOPS)))
  {tN_MOST_ROWS:Tok} (aN_MOST_ROWS:nsIn K mainGlobals "MOST_ROWS"=some (some (.int 600 tN_MOST_ROWS)))
  (kf_og:PySem.W.specialIn K (.builtin "object.__class__") "__get__"=some (some (.builtin "getset_descriptor.__get__")))
  (kf_ot:PySem.W.takesIn K (.builtin "object.__class__")=some true)
  (kf_fcA:findIn K (.ref c_Row) "__class__"=some (some (.builtin "object.__class__")))
  (kf_fcB:findIn K (.ref c_Repeat) "__class__"=some (some (.builtin "object.__class__")))
  (kf_moA:mroIn K c_Row (.type "object")=some true)
  (kf_moB:mroIn K c_Repeat (.type "object")=some true)
  (kf_if:isClsIn K c_Repeat=true)
  (kf_tf:typeIn K (.ref c_Repeat)=some (.type "type"))
  (kf_mAB:mroIn K c_Row (.ref c_Repeat)=some false)
  (kf_mAA:mroIn K c_Row (.ref c_Row)=some true)
  (kf_mBB:mroIn K c_Repeat (.ref c_Repeat)=some true)
  (kf_kr_SHAPES:(c_SHAPES == PySem.sysModules)=false)
  (kf_if_Unknown:isClsIn K c_Unknown=true)
  (kf_tf_Unknown:typeIn K (.ref c_Unknown)=some (.type "type"))
  (kf_mf_Unknown:mroIn K c_Unknown (.ref c_Unknown)=some true)
  (kf_wb_Unknown:mroIn K c_Unknown (.type "BaseException")=some true)
  (kf_ga_Unknown:findIn K (.ref c_Unknown) "__getattribute__"=some (some (.builtin "BaseException.__getattribute__")))
  (kf_gn_Unknown:findIn K (.ref c_Unknown) "__getattr__"=some none)
  (kf_gc_Unknown:findIn K (.ref c_Unknown) "__class__"=some (some (.builtin "object.__class__")))
  (kf_mo_Unknown:mroIn K c_Unknown (.type "object")=some true)
  (kf_mb_Unknown:mroIn K c_Unknown (.type "BaseException")=some true)
  (kf_hd_Unknown:hasDictIn K c_Unknown=true)
  (kf_nf_Unknown:findIn K (.ref c_Unknown) "line"=some none)
  (kf_nn_Unknown:findIn K (.ref c_Unknown) "name"=some none)
  (kf_if_WrongKind:isClsIn K c_WrongKind=true)
  (kf_tf_WrongKind:typeIn K (.ref c_WrongKind)=some (.type "type"))
  (kf_mf_WrongKind:mroIn K c_WrongKind (.ref c_WrongKind)=some true)
  (kf_wb_WrongKind:mroIn K c_WrongKind (.type "BaseException")=some true)
  (kf_ga_WrongKind:findIn K (.ref c_WrongKind) "__getattribute__"=some (some (.builtin "BaseException.__getattribute__")))
  (kf_gn_WrongKind:findIn K (.ref c_WrongKind) "__getattr__"=some none)
  (kf_gc_WrongKind:findIn K (.ref c_WrongKind) "__class__"=some (some (.builtin "object.__class__")))
  (kf_mo_WrongKind:mroIn K c_WrongKind (.type "object")=some true)
  (kf_mb_WrongKind:mroIn K c_WrongKind (.type "BaseException")=some true)
  (kf_hd_WrongKind:hasDictIn K c_WrongKind=true)
  (kf_nf_WrongKind:findIn K (.ref c_WrongKind) "line"=some none)
  (kf_nn_WrongKind:findIn K (.ref c_WrongKind) "name"=some none)
  (kf_if_Twice:isClsIn K c_Twice=true)
  (kf_tf_Twice:typeIn K (.ref c_Twice)=some (.type "type"))
  (kf_mf_Twice:mroIn K c_Twice (.ref c_Twice)=some true)
  (kf_wb_Twice:mroIn K c_Twice (.type "BaseException")=some true)
  (kf_ga_Twice:findIn K (.ref c_Twice) "__getattribute__"=some (some (.builtin "BaseException.__getattribute__")))
  (kf_gn_Twice:findIn K (.ref c_Twice) "__getattr__"=some none)
  (kf_gc_Twice:findIn K (.ref c_Twice) "__class__"=some (some (.builtin "object.__class__")))
  (kf_mo_Twice:mroIn K c_Twice (.type "object")=some true)
  (kf_mb_Twice:mroIn K c_Twice (.type "BaseException")=some true)
  (kf_hd_Twice:hasDictIn K c_Twice=true)
  (kf_nf_Twice:findIn K (.ref c_Twice) "line"=some none)
  (kf_nn_Twice:findIn K (.ref c_Twice) "name"=some none)
  (kf_m_WrongKind_Unknown:mroIn K c_WrongKind (.ref c_Unknown)=some false)
  (kf_m_Twice_Unknown:mroIn K c_Twice (.ref c_Unknown)=some false)
  (kf_m_Twice_WrongKind:mroIn K c_Twice (.ref c_WrongKind)=some false)
  (z_isinstance:nsIn K mainGlobals "isinstance"=some none) (z_int:nsIn K mainGlobals "int"=some none) (z_bool:nsIn K mainGlobals "bool"=some none) (z_str:nsIn K mainGlobals "str"=some none) (z_list:nsIn K mainGlobals "list"=some none) (z_tuple:nsIn K mainGlobals "tuple"=some none) (z_dict:nsIn K mainGlobals "dict"=some none) (z_len:nsIn K mainGlobals "len"=some none) (z_max:nsIn K mainGlobals "max"=some none) (z_min:nsIn K mainGlobals "min"=some none) (z_range:nsIn K mainGlobals "range"=some none) (z_all:nsIn K mainGlobals "all"=some none) (z_sum:nsIn K mainGlobals "sum"=some none) (z_zip:nsIn K mainGlobals "zip"=some none) (z_enumerate:nsIn K mainGlobals "enumerate"=some none) :
  ∃ fd:FuncData,(∀ (s:Shared) (v:Value),BindsTo s fd ⟨[v],[]⟩ [("_law_script",v)])/\∀ base:Heap,K.In base->base.Ns mainGlobals mg->FnOk l.prog w K mg base CX0 12 fa fd ["_law_script"] ((spLaw K)):=by
 have e:=hfa.symm.trans (mg_of X G a57)
 cases e
 let cc:Ad:=⟨c_Kind,c_Plain,c_Signed,c_Pointed,c_Row,c_Repeat,c_Draft,c_Program,c_Unknown,c_WrongKind,c_Twice,c_WiseError,c_WAY_WORDS,c_RESERVED,c_READ_PLAIN,c_READ_ALIKE,c_SHAPES⟩
 have T:Txt K mg cc:=⟨mg_none_of X G z_isinstance,mg_none_of X G z_int,mg_none_of X G z_bool,mg_none_of X G z_str,mg_none_of X G z_list,mg_none_of X G z_tuple,mg_none_of X G z_dict,mg_none_of X G z_len,mg_none_of X G z_max,mg_none_of X G z_min,mg_none_of X G z_range,mg_none_of X G z_all,mg_none_of X G z_sum,mg_none_of X G z_zip,mg_none_of X G z_enumerate,mg_of X G aC_Kind,⟨pg_Kind,hd_Kind,po_Kind,sa_Kind⟩,mg_of X G aC_Plain,⟨pg_Plain,hd_Plain,po_Plain,sa_Plain⟩,na_Plain_width,na_Plain_point,mg_of X G aC_Signed,⟨pg_Signed,hd_Signed,po_Signed,sa_Signed⟩,na_Signed_width,na_Signed_point,mg_of X G aC_Pointed,⟨pg_Pointed,hd_Pointed,po_Pointed,sa_Pointed⟩,na_Pointed_width,na_Pointed_point,mg_of X G aC_Row,⟨pg_Row,hd_Row,po_Row,sa_Row⟩,na_Row_line,na_Row_deed,na_Row_goals,na_Row_reads,na_Row_numbers,na_Row_way,mg_of X G aC_Repeat,⟨pg_Repeat,hd_Repeat,po_Repeat,sa_Repeat⟩,na_Repeat_line,na_Repeat_times,na_Repeat_rows,mg_of X G aC_Draft,⟨pg_Draft,hd_Draft,po_Draft,sa_Draft⟩,na_Draft_width,na_Draft_inputs,na_Draft_rows,na_Draft_outs,na_Draft_row_pairs,na_Draft_loops,na_Draft_met,mg_of X G aC_Program,⟨pg_Program,hd_Program,po_Program,sa_Program⟩,na_Program_width,na_Program_inputs,na_Program_rows,na_Program_outs,na_Program_kinds,na_Program_source,mg_of X G aC_Unknown,mg_of X G aC_WrongKind,mg_of X G aC_Twice,mg_of X G aC_WiseError,mg_of X G aW_WAY_WORDS,fun H=>.inr ⟨_,_,_,lW_WAY_WORDS,rfl,rfl,(by show 4<=sizeLine; decide),.cons ⟨_,rfl⟩ (.cons ⟨_,rfl⟩ (.cons ⟨_,rfl⟩ (.cons ⟨_,rfl⟩ (.nil))))⟩,mg_of X G aW_RESERVED,fun H=>.inr ⟨_,_,_,lW_RESERVED,rfl,rfl,(by show 31<=sizeLine; decide),.cons ⟨_,rfl⟩ (.cons ⟨_,rfl⟩ (.cons ⟨_,rfl⟩ (.cons ⟨_,rfl⟩ (.cons ⟨_,rfl⟩ (.cons ⟨_,rfl⟩ (.cons ⟨_,rfl⟩ (.cons ⟨_,rfl⟩ (.cons ⟨_,rfl⟩ (.cons ⟨_,rfl⟩ (.cons ⟨_,rfl⟩ (.cons ⟨_,rfl⟩ (.cons ⟨_,rfl⟩ (.cons ⟨_,rfl⟩ (.cons ⟨_,rfl⟩ (.cons ⟨_,rfl⟩ (.cons ⟨_,rfl⟩ (.cons ⟨_,rfl⟩ (.cons ⟨_,rfl⟩ (.cons ⟨_,rfl⟩ (.cons ⟨_,rfl⟩ (.cons ⟨_,rfl⟩ (.cons ⟨_,rfl⟩ (.cons ⟨_,rfl⟩ (.cons ⟨_,rfl⟩ (.cons ⟨_,rfl⟩ (.cons ⟨_,rfl⟩ (.cons ⟨_,rfl⟩ (.cons ⟨_,rfl⟩ (.cons ⟨_,rfl⟩ (.cons ⟨_,rfl⟩ (.nil)))))))))))))))))))))))))))))))⟩,mg_of X G aW_READ_PLAIN,fun H=>.inr ⟨_,_,_,lW_READ_PLAIN,rfl,rfl,(by show 5<=sizeLine; decide),.cons ⟨_,rfl⟩ (.cons ⟨_,rfl⟩ (.cons ⟨_,rfl⟩ (.cons ⟨_,rfl⟩ (.cons ⟨_,rfl⟩ (.nil)))))⟩,mg_of X G aW_READ_ALIKE,fun H=>.inr ⟨_,_,_,lW_READ_ALIKE,rfl,rfl,(by show 8<=sizeLine; decide),.cons ⟨_,rfl⟩ (.cons ⟨_,rfl⟩ (.cons ⟨_,rfl⟩ (.cons ⟨_,rfl⟩ (.cons ⟨_,rfl⟩ (.cons ⟨_,rfl⟩ (.cons ⟨_,rfl⟩ (.cons ⟨_,rfl⟩ (.nil))))))))⟩,mg_of X G aW_SHAPES,⟨_,mg_of X G aS_LETTERS⟩,⟨_,mg_of X G aN_MOST_LINES⟩,⟨_,mg_of X G aN_MOST_NAMES⟩,⟨_,mg_of X G aN_MOST_LOOPS⟩,⟨_,mg_of X G aN_MOST_ROWS⟩,kf_og,kf_ot,kf_fcA,kf_fcB,kf_moA,kf_moB,kf_if,kf_tf,kf_mAB,kf_mAA,kf_mBB,kf_kr_SHAPES,kf_if_Unknown,kf_tf_Unknown,kf_mf_Unknown,kf_wb_Unknown,kf_ga_Unknown,kf_gn_Unknown,kf_gc_Unknown,kf_mo_Unknown,kf_mb_Unknown,kf_hd_Unknown,kf_nf_Unknown,kf_nn_Unknown,kf_if_WrongKind,kf_tf_WrongKind,kf_mf_WrongKind,kf_wb_WrongKind,kf_ga_WrongKind,kf_gn_WrongKind,kf_gc_WrongKind,kf_mo_WrongKind,kf_mb_WrongKind,kf_hd_WrongKind,kf_nf_WrongKind,kf_nn_WrongKind,kf_if_Twice,kf_tf_Twice,kf_mf_Twice,kf_wb_Twice,kf_ga_Twice,kf_gn_Twice,kf_gc_Twice,kf_mo_Twice,kf_mb_Twice,kf_hd_Twice,kf_nf_Twice,kf_nn_Twice,kf_m_WrongKind_Unknown,kf_m_Twice_Unknown,kf_m_Twice_WrongKind⟩
 obtain ⟨_,F1,k1,b1⟩:=l1.bs ["self","line","name"] fun _ _ _ _ _ _ _ _ _=>rfl
 obtain ⟨_,F2,k2,b2⟩:=l2.bs ["self","line","name"] fun _ _ _ _ _ _ _ _ _=>rfl
 obtain ⟨_,F3,k3,b3⟩:=l3.bs ["self","line","name"] fun _ _ _ _ _ _ _ _ _=>rfl
 obtain ⟨_,F4,k4,b4⟩:=l4.bs ["thing"] fun _ _ _ _ _ _ _=>rfl
 obtain ⟨_,F5,k5,b5⟩:=l5.bs ["thing","low","high"] fun _ _ _ _ _ _ _ _ _=>rfl
 obtain ⟨_,F6,k6,b6⟩:=l6.bs ["width"] fun _ _ _ _ _ _ _=>rfl
 obtain ⟨_,F7,k7,b7⟩:=l7.bs ["self","width","point"] fun _ _ _ _ _ _ _ _ _=>rfl
 obtain ⟨_,F8,k8,b8⟩:=l8.bs ["self","width"] fun _ _ _ _ _ _ _ _=>rfl
 obtain ⟨_,F9,k9,b9⟩:=l9.bs ["self","width"] fun _ _ _ _ _ _ _ _=>rfl
 obtain ⟨_,F10,k10,b10⟩:=l10.bs ["self","width","point"] fun _ _ _ _ _ _ _ _ _=>rfl
 obtain ⟨_,F11,k11,b11⟩:=l11.bs ["self"] fun _ _ _ _ _ _ _=>rfl
 obtain ⟨_,F12,k12,b12⟩:=l12.bs ["self"] fun _ _ _ _ _ _ _=>rfl
 obtain ⟨_,F13,k13,b13⟩:=l13.bs ["self"] fun _ _ _ _ _ _ _=>rfl
 obtain ⟨_,F14,k14,b14⟩:=l14.bs ["one","other"] fun _ _ _ _ _ _ _ _=>rfl
 obtain ⟨_,F15,k15,b15⟩:=l15.bs ["width"] fun _ _ _ _ _ _ _=>rfl
 obtain ⟨_,F16,k16,b16⟩:=l16.bs ["figures"] fun _ _ _ _ _ _ _=>rfl
 obtain ⟨_,F17,k17,b17⟩:=l17.bs ["word","most"] fun _ _ _ _ _ _ _ _=>rfl
 obtain ⟨_,F18,k18,b18⟩:=l18.bs [] fun _ _ _ _ _ _=>rfl
 obtain ⟨_,F19,k19,b19⟩:=l19.bs ["self","line","deed","goals"] fun _ _ _ _ _ _ _ _ _ _=>rfl
 obtain ⟨_,F20,k20,b20⟩:=l20.bs ["self","line","times"] fun _ _ _ _ _ _ _ _ _=>rfl
 obtain ⟨_,F21,k21,b21⟩:=l21.bs ["self","width"] fun _ _ _ _ _ _ _ _=>rfl
 obtain ⟨_,F22,k22,b22⟩:=l22.bs ["self","line","words"] fun _ _ _ _ _ _ _ _ _=>rfl
 obtain ⟨_,F23,k23,b23⟩:=l23.bs ["self","line","words"] fun _ _ _ _ _ _ _ _ _=>rfl
 obtain ⟨_,F24,k24,b24⟩:=l24.bs ["self","line","words"] fun _ _ _ _ _ _ _ _ _=>rfl
 obtain ⟨_,F25,k25,b25⟩:=l25.bs ["self","line","words"] fun _ _ _ _ _ _ _ _ _=>rfl
 obtain ⟨_,F26,k26,b26⟩:=l26.bs ["self"] fun _ _ _ _ _ _ _=>rfl
 obtain ⟨_,F27,k27,b27⟩:=l27.bs ["self","line","words"] fun _ _ _ _ _ _ _ _ _=>rfl
 obtain ⟨_,F28,k28,b28⟩:=l28.bs ["self"] fun _ _ _ _ _ _ _=>rfl
 obtain ⟨_,F29,k29,b29⟩:=l29.bs ["self"] fun _ _ _ _ _ _ _=>rfl
 obtain ⟨_,F30,k30,b30⟩:=l30.bs ["word"] fun _ _ _ _ _ _ _=>rfl
 obtain ⟨_,F31,k31,b31⟩:=l31.bs ["word","low","high"] fun _ _ _ _ _ _ _ _ _=>rfl
 obtain ⟨_,F32,k32,b32⟩:=l32.bs ["width","words"] fun _ _ _ _ _ _ _ _=>rfl
 obtain ⟨_,F33,k33,b33⟩:=l33.bs ["width","line","words"] fun _ _ _ _ _ _ _ _ _=>rfl
 obtain ⟨_,F34,k34,b34⟩:=l34.bs ["width","row","part","word"] fun _ _ _ _ _ _ _ _ _ _=>rfl
 obtain ⟨_,F35,k35,b35⟩:=l35.bs ["width","word"] fun _ _ _ _ _ _ _ _=>rfl
 obtain ⟨_,F36,k36,b36⟩:=l36.bs ["text"] fun _ _ _ _ _ _ _=>rfl
 obtain ⟨_,F37,k37,b37⟩:=l37.bs ["self","draft","kinds","source"] fun _ _ _ _ _ _ _ _ _ _=>rfl
 obtain ⟨_,F38,k38,b38⟩:=l38.bs ["rows"] fun _ _ _ _ _ _ _=>rfl
 obtain ⟨_,F39,k39,b39⟩:=l39.bs ["names","kinds","word"] fun _ _ _ _ _ _ _ _ _=>rfl
 obtain ⟨_,F40,k40,b40⟩:=l40.bs ["width","row","kinds"] fun _ _ _ _ _ _ _ _ _=>rfl
 obtain ⟨_,F41,k41,b41⟩:=l41.bs ["width","row","told","kinds"] fun _ _ _ _ _ _ _ _ _ _=>rfl
 obtain ⟨_,F42,k42,b42⟩:=l42.bs ["width","row","told","kinds"] fun _ _ _ _ _ _ _ _ _ _=>rfl
 obtain ⟨_,F43,k43,b43⟩:=l43.bs ["outs","kinds"] fun _ _ _ _ _ _ _ _=>rfl
 obtain ⟨_,F44,k44,b44⟩:=l44.bs ["draft"] fun _ _ _ _ _ _ _=>rfl
 obtain ⟨_,F45,k45,b45⟩:=l45.bs ["text"] fun _ _ _ _ _ _ _=>rfl
 obtain ⟨_,F46,k46,b46⟩:=l46.bs ["_law_script","_law_k"] fun _ _ _ _ _ _ _ _=>rfl
 obtain ⟨_,F47,k47,b47⟩:=l47.bs ["_law_cell_here"] fun _ _ _ _ _ _ _=>rfl
 obtain ⟨_,F48,k48,b48⟩:=l48.bs ["_law_box_here","_law_many"] fun _ _ _ _ _ _ _ _=>rfl
 obtain ⟨_,F49,k49,b49⟩:=l49.bs ["_law_box_here","_law_width"] fun _ _ _ _ _ _ _ _=>rfl
 obtain ⟨_,F50,k50,b50⟩:=l50.bs ["_law_spec_here"] fun _ _ _ _ _ _ _=>rfl
 obtain ⟨_,F51,k51,b51⟩:=l51.bs ["_law_box_here","_law_names"] fun _ _ _ _ _ _ _ _=>rfl
 obtain ⟨_,F52,k52,b52⟩:=l52.bs ["_law_box_here","_law_width","_law_names"] fun _ _ _ _ _ _ _ _ _=>rfl
 obtain ⟨_,F53,k53,b53⟩:=l53.bs ["_law_row_here","_law_kinds","_law_width"] fun _ _ _ _ _ _ _ _ _=>rfl
 obtain ⟨_,F54,k54,b54⟩:=l54.bs ["_law_box_here","_law_rows"] fun _ _ _ _ _ _ _ _=>rfl
 obtain ⟨_,F55,k55,b55⟩:=l55.bs ["_law_ins","_law_rows","_law_places","_law_outs","_law_behind","_law_width"] fun _ _ _ _ _ _ _ _ _ _ _ _=>rfl
 obtain ⟨_,F56,k56,b56⟩:=l56.bs ["_law_text"] fun _ _ _ _ _ _ _=>rfl
 have F57:=fun_mk (st:=kH) l57 c57 k57
 refine⟨fnOf "law" "law" (eu kH) (c9 kH) (av kH) .none kV57 dc57 pm57 an57 cd57 ct57,fun s v=>.of_eq rfl,fun base _ _=>?_⟩
 have XM_Unknown:XMk l.prog w K mg base 1 "Unknown" c_Unknown ["self","line","name"] ["line","name"]:=⟨_,_,fQ F1 T ⟨xe_Unknown,xs_Unknown,xm_Unknown,xf_Unknown,xk_Unknown⟩ xn_Unknown_line xn_Unknown_name,b1,⟨xe_Unknown,xs_Unknown,xm_Unknown,xf_Unknown,xk_Unknown⟩,mg_of X G aC_Unknown,rfl⟩
 have XM_WrongKind:XMk l.prog w K mg base 1 "WrongKind" c_WrongKind ["self","line","name"] ["line","name"]:=⟨_,_,dX F2 T ⟨xe_WrongKind,xs_WrongKind,xm_WrongKind,xf_WrongKind,xk_WrongKind⟩ xn_WrongKind_line xn_WrongKind_name,b2,⟨xe_WrongKind,xs_WrongKind,xm_WrongKind,xf_WrongKind,xk_WrongKind⟩,mg_of X G aC_WrongKind,rfl⟩
 have XM_Twice:XMk l.prog w K mg base 1 "Twice" c_Twice ["self","line","name"] ["line","name"]:=⟨_,_,hZ F3 T ⟨xe_Twice,xs_Twice,xm_Twice,xf_Twice,xk_Twice⟩ xn_Twice_line xn_Twice_name,b3,⟨xe_Twice,xs_Twice,xm_Twice,xf_Twice,xk_Twice⟩,mg_of X G aC_Twice,rfl⟩
 have B_Kind___init__:BHas l.prog w K mg base 1 "Kind" "__init__" ["self","width","point"] (iO K):=⟨c_Kind,_,_,⟨rd_Kind,ga_Kind,fn_Kind___init__,rfl,k7⟩,iE F7 T ,b7,mg_of X G aC_Kind⟩
 have H_is_whole:Has l.prog w K mg base 1 "is_whole" ["thing"] nZ:=⟨_,_,og F4 T ,b4,k4,mg_of X G a4⟩
 have H_is_between:Has l.prog w K mg base 2 "is_between" ["thing","low","high"] gz:=⟨_,_,kA F5 T H_is_whole,b5,k5,mg_of X G a5⟩
 have H_need_width:Has l.prog w K mg base 3 "need_width" ["width"] iT:=⟨_,_,j7 F6 T H_is_between,b6,k6,mg_of X G a6⟩
 have C_Plain:CHas l.prog w K mg base 4 c_Plain "Plain" ["self","width"] (jt cc 0):=⟨_,_,⟨mk_Plain,a8,i8,kc_Plain⟩,ip F8 T H_need_width B_Kind___init__,b8,mg_of X G aC_Plain⟩
 have C_Signed:CHas l.prog w K mg base 4 c_Signed "Signed" ["self","width"] (jt cc 1):=⟨_,_,⟨mk_Signed,a9,i9,kc_Signed⟩,gy F9 T H_need_width B_Kind___init__,b9,mg_of X G aC_Signed⟩
 have C_Pointed:CHas l.prog w K mg base 4 c_Pointed "Pointed" ["self","width","point"] (nS cc):=⟨_,_,⟨mk_Pointed,a10,i10,kc_Pointed⟩,fJ F10 T H_need_width H_is_between B_Kind___init__,b10,mg_of X G aC_Pointed⟩
 have M_Plain_word:MHas l.prog w K mg base 1 c_Plain "word" ["self"] (spWd 0):=⟨T.cl_Plain,_,_,⟨a11,i11,k11⟩,kI F11 T ,b11⟩
 have M_Signed_word:MHas l.prog w K mg base 1 c_Signed "word" ["self"] (spWd 1):=⟨T.cl_Signed,_,_,⟨a12,i12,k12⟩,jB F12 T ,b12⟩
 have M_Pointed_word:MHas l.prog w K mg base 1 c_Pointed "word" ["self"] (spWd 2):=⟨T.cl_Pointed,_,_,⟨a13,i13,k13⟩,jo F13 T ,b13⟩
 have C_Row:CHas l.prog w K mg base 1 c_Row "Row" ["self","line","deed","goals"] (qc cc):=⟨_,_,⟨mk_Row,a19,i19,kc_Row⟩,iQ F19 T ,b19,mg_of X G aC_Row⟩
 have C_Repeat:CHas l.prog w K mg base 1 c_Repeat "Repeat" ["self","line","times"] (rV cc):=⟨_,_,⟨mk_Repeat,a20,i20,kc_Repeat⟩,gm F20 T ,b20,mg_of X G aC_Repeat⟩
 have C_Draft:CHas l.prog w K mg base 1 c_Draft "Draft" ["self","width"] (spDrI cc):=⟨_,_,⟨mk_Draft,a21,i21,kc_Draft⟩,ij F21 T ,b21,mg_of X G aC_Draft⟩
 have H_number_in:Has l.prog w K mg base 1 "number_in" ["figures"] qo:=⟨_,_,mr F16 T ,b16,k16,mg_of X G a16⟩
 have H_whole_in:Has l.prog w K mg base 2 "whole_in" ["word","most"] qM:=⟨_,_,m5 F17 T H_number_in,b17,k17,mg_of X G a17⟩
 have H_number_told:Has l.prog w K mg base 3 "number_told" ["word","low","high"] jp:=⟨_,_,jG F31 T H_whole_in,b31,k31,mg_of X G a31⟩
 have H_kind_told:Has l.prog w K mg base 6 "kind_told" ["width","words"] (spKT cc):=⟨_,_,lP F32 T H_number_told C_Plain C_Signed C_Pointed,b32,k32,mg_of X G a32⟩
 have H_is_name:Has l.prog w K mg base 1 "is_name" ["word"] spNm:=⟨_,_,pO F30 T ,b30,k30,mg_of X G a30⟩
 have M_Draft_takes_in:MHas l.prog w K mg base 7 c_Draft "takes_in" ["self","line","words"] (spIn cc):=⟨T.cl_Draft,_,_,⟨a23,i23,k23⟩,hU F23 T H_kind_told H_is_name,b23⟩
 have M_Draft_takes_out:MHas l.prog w K mg base 2 c_Draft "takes_out" ["self","line","words"] (spOut cc):=⟨T.cl_Draft,_,_,⟨a24,i24,k24⟩,gF F24 T H_is_name,b24⟩
 have M_Draft_rows_here:MHas l.prog w K mg base 1 c_Draft "rows_here" ["self"] (mh cc):=⟨T.cl_Draft,_,_,⟨a28,i28,k28⟩,gL F28 T ,b28⟩
 have M_Draft_takes_repeat:MHas l.prog w K mg base 4 c_Draft "takes_repeat" ["self","line","words"] (spRep cc):=⟨T.cl_Draft,_,_,⟨a25,i25,k25⟩,d3 F25 T H_number_told C_Repeat M_Draft_rows_here,b25⟩
 have M_Draft_takes_end:MHas l.prog w K mg base 2 c_Draft "takes_end" ["self"] (spEnd cc):=⟨T.cl_Draft,_,_,⟨a26,i26,k26⟩,fT F26 T  M_Draft_rows_here,b26⟩
 have H_fraction_told:Has l.prog w K mg base 4 "fraction_told" ["width","word"] spFrT:=⟨_,_,iD F35 T H_number_told,b35,k35,mg_of X G a35⟩
 have H_all_ways:Has l.prog w K mg base 1 "all_ways" [] rN:=⟨_,_,mR F18 T ,b18,k18,mg_of X G a18⟩
 have H_put_into:Has l.prog w K mg base 5 "put_into" ["width","row","part","word"] (spPut cc):=⟨_,_,nE F34 T H_number_told H_is_name H_fraction_told H_all_ways,b34,k34,mg_of X G a34⟩
 have H_row_told:Has l.prog w K mg base 6 "row_told" ["width","line","words"] (spRT cc):=⟨_,_,m7 F33 T H_put_into H_is_name C_Row (⟨_,gd_mk (ents:=[("copy",kD0_SHAPES,vD0_SHAPES),("pick",kD1_SHAPES,vD1_SHAPES),("add",kD2_SHAPES,vD2_SHAPES),("sub",kD3_SHAPES,vD3_SHAPES),("addstop",kD4_SHAPES,vD4_SHAPES),("substop",kD5_SHAPES,vD5_SHAPES),("low",kD6_SHAPES,vD6_SHAPES),("high",kD7_SHAPES,vD7_SHAPES),("less",kD8_SHAPES,vD8_SHAPES),("same",kD9_SHAPES,vD9_SHAPES),("over",kD10_SHAPES,vD10_SHAPES),("left",kD11_SHAPES,vD11_SHAPES),("right",kD12_SHAPES,vD12_SHAPES),("rest",kD13_SHAPES,vD13_SHAPES),("div",kD14_SHAPES,vD14_SHAPES),("times",kD15_SHAPES,vD15_SHAPES),("mul",kD16_SHAPES,vD16_SHAPES),("part",kD17_SHAPES,vD17_SHAPES)]) lW_SHAPES (by show (["copy","pick","add","sub","addstop","substop","low","high","less","same","over","left","right","rest","div","times","mul","part"]:List Str).Nodup; decide +kernel) ⟨rfl,rfl,rfl⟩,fun k hk=>match k,hk with | 0,_=>⟨_,rfl,fun H=>.inr ⟨_,_,_,lD0_SHAPES,rfl,rfl,(by show 1<=sizeLine; decide),.cons ⟨_,rfl⟩ (.nil)⟩⟩ | 1,_=>⟨_,rfl,fun H=>.inr ⟨_,_,_,lD2_SHAPES,rfl,rfl,(by show 2<=sizeLine; decide),.cons ⟨_,rfl⟩ (.cons ⟨_,rfl⟩ (.nil))⟩⟩ | 2,_=>⟨_,rfl,fun H=>.inr ⟨_,_,_,lD3_SHAPES,rfl,rfl,(by show 2<=sizeLine; decide),.cons ⟨_,rfl⟩ (.cons ⟨_,rfl⟩ (.nil))⟩⟩ | 3,_=>⟨_,rfl,fun H=>.inr ⟨_,_,_,lD4_SHAPES,rfl,rfl,(by show 2<=sizeLine; decide),.cons ⟨_,rfl⟩ (.cons ⟨_,rfl⟩ (.nil))⟩⟩ | 4,_=>⟨_,rfl,fun H=>.inr ⟨_,_,_,lD5_SHAPES,rfl,rfl,(by show 2<=sizeLine; decide),.cons ⟨_,rfl⟩ (.cons ⟨_,rfl⟩ (.nil))⟩⟩ | 5,_=>⟨_,rfl,fun H=>.inr ⟨_,_,_,lD6_SHAPES,rfl,rfl,(by show 2<=sizeLine; decide),.cons ⟨_,rfl⟩ (.cons ⟨_,rfl⟩ (.nil))⟩⟩ | 6,_=>⟨_,rfl,fun H=>.inr ⟨_,_,_,lD7_SHAPES,rfl,rfl,(by show 2<=sizeLine; decide),.cons ⟨_,rfl⟩ (.cons ⟨_,rfl⟩ (.nil))⟩⟩ | 7,_=>⟨_,rfl,fun H=>.inr ⟨_,_,_,lD11_SHAPES,rfl,rfl,(by show 2<=sizeLine; decide),.cons ⟨_,rfl⟩ (.cons ⟨_,rfl⟩ (.nil))⟩⟩ | 8,_=>⟨_,rfl,fun H=>.inr ⟨_,_,_,lD12_SHAPES,rfl,rfl,(by show 2<=sizeLine; decide),.cons ⟨_,rfl⟩ (.cons ⟨_,rfl⟩ (.nil))⟩⟩ | 9,_=>⟨_,rfl,fun H=>.inr ⟨_,_,_,lD8_SHAPES,rfl,rfl,(by show 2<=sizeLine; decide),.cons ⟨_,rfl⟩ (.cons ⟨_,rfl⟩ (.nil))⟩⟩ | 10,_=>⟨_,rfl,fun H=>.inr ⟨_,_,_,lD9_SHAPES,rfl,rfl,(by show 2<=sizeLine; decide),.cons ⟨_,rfl⟩ (.cons ⟨_,rfl⟩ (.nil))⟩⟩ | 11,_=>⟨_,rfl,fun H=>.inr ⟨_,_,_,lD1_SHAPES,rfl,rfl,(by show 3<=sizeLine; decide),.cons ⟨_,rfl⟩ (.cons ⟨_,rfl⟩ (.cons ⟨_,rfl⟩ (.nil)))⟩⟩ | 12,_=>⟨_,rfl,fun H=>.inr ⟨_,_,_,lD14_SHAPES,rfl,rfl,(by show 3<=sizeLine; decide),.cons ⟨_,rfl⟩ (.cons ⟨_,rfl⟩ (.cons ⟨_,rfl⟩ (.nil)))⟩⟩ | 13,_=>⟨_,rfl,fun H=>.inr ⟨_,_,_,lD13_SHAPES,rfl,rfl,(by show 2<=sizeLine; decide),.cons ⟨_,rfl⟩ (.cons ⟨_,rfl⟩ (.nil))⟩⟩ | 14,_=>⟨_,rfl,fun H=>.inr ⟨_,_,_,lD10_SHAPES,rfl,rfl,(by show 2<=sizeLine; decide),.cons ⟨_,rfl⟩ (.cons ⟨_,rfl⟩ (.nil))⟩⟩ | 15,_=>⟨_,rfl,fun H=>.inr ⟨_,_,_,lD15_SHAPES,rfl,rfl,(by show 3<=sizeLine; decide),.cons ⟨_,rfl⟩ (.cons ⟨_,rfl⟩ (.cons ⟨_,rfl⟩ (.nil)))⟩⟩ | 16,_=>⟨_,rfl,fun H=>.inr ⟨_,_,_,lD16_SHAPES,rfl,rfl,(by show 3<=sizeLine; decide),.cons ⟨_,rfl⟩ (.cons ⟨_,rfl⟩ (.cons ⟨_,rfl⟩ (.nil)))⟩⟩ | 17,_=>⟨_,rfl,fun H=>.inr ⟨_,_,_,lD17_SHAPES,rfl,rfl,(by show 2<=sizeLine; decide),.cons ⟨_,rfl⟩ (.cons ⟨_,rfl⟩ (.nil))⟩⟩ | _+18,h=>absurd h (by lia)⟩),b33,k33,mg_of X G a33⟩
 have M_Draft_takes_row:MHas l.prog w K mg base 7 c_Draft "takes_row" ["self","line","words"] (spRow cc):=⟨T.cl_Draft,_,_,⟨a27,i27,k27⟩,gA F27 T H_row_told M_Draft_rows_here,b27⟩
 have M_Draft_takes:MHas l.prog w K mg base 8 c_Draft "takes" ["self","line","words"] (mT cc):=⟨T.cl_Draft,_,_,⟨a22,i22,k22⟩,jE F22 T  M_Draft_takes_in M_Draft_takes_out M_Draft_takes_repeat M_Draft_takes_end M_Draft_takes_row,b22⟩
 have M_Draft_is_too_much:MHas l.prog w K mg base 1 c_Draft "is_too_much" ["self"] (qJ cc):=⟨T.cl_Draft,_,_,⟨a29,i29,k29⟩,eU F29 T ,b29⟩
 have C_Program:CHas l.prog w K mg base 1 c_Program "Program" ["self","draft","kinds","source"] (spPrI cc):=⟨_,_,⟨mk_Program,a37,i37,kc_Program⟩,fz F37 T ,b37,mg_of X G aC_Program⟩
 have RC:∀ d,Has l.prog w K mg base (d+1) "count_rows" ["rows"] (spN (spCR cc) d):=fun d=>by
  induction d with
  | zero=>exact⟨_,_,FnOk.void,b38,k38,mg_of X G a38⟩
  | succ d ih=>exact⟨_,_,kG F38 T  ih,b38,k38,mg_of X G a38⟩
 have H_count_rows:Has l.prog w K mg base 7 "count_rows" ["rows"] (spCR cc 6):=hasMono (RC 6) (by decide)
 have H__law_box:Has l.prog w K mg base 1 "_law_box" ["_law_cell_here"] spBox:=⟨_,_,nN F47 T ,b47,k47,mg_of X G a47⟩
 have H__law_take:Has l.prog w K mg base 1 "_law_take" ["_law_box_here","_law_many"] iX:=⟨_,_,lU F48 T ,b48,k48,mg_of X G a48⟩
 have H__law_looped:Has l.prog w K mg base 2 "_law_looped" ["_law_box_here","_law_rows"] r6:=⟨_,_,jH F54 T H__law_take,b54,k54,mg_of X G a54⟩
 have H__law_made:Has l.prog w K mg base 1 "_law_made" ["_law_row_here","_law_kinds","_law_width"] sB:=⟨_,_,mE F53 T ,b53,k53,mg_of X G a53⟩
 have H__law_due:Has l.prog w K mg base 2 "_law_due" ["_law_ins","_law_rows","_law_places","_law_outs","_law_behind","_law_width"] spDue:=⟨_,_,oh F55 T H__law_made,b55,k55,mg_of X G a55⟩
 have H__law_cell:Has l.prog w K mg base 1 "_law_cell" ["_law_script","_law_k"] (rW K):=⟨_,_,mq F46 T ,b46,k46,mg_of X G a46⟩
 have H__law_some:Has l.prog w K mg base 2 "_law_some" ["_law_box_here","_law_names"] oq:=⟨_,_,mj F51 T H__law_take,b51,k51,mg_of X G a51⟩
 have H__law_row:Has l.prog w K mg base 3 "_law_row" ["_law_box_here","_law_width","_law_names"] qy:=⟨_,_,mV F52 T H__law_some H__law_take,b52,k52,mg_of X G a52⟩
 have H__law_spec:Has l.prog w K mg base 2 "_law_spec" ["_law_box_here","_law_width"] mY:=⟨_,_,lE F49 T H__law_take,b49,k49,mg_of X G a49⟩
 have H_first_walk:Has l.prog w K mg base 9 "first_walk" ["text"] (spFW cc):=⟨_,_,kK F36 T H_number_told C_Draft M_Draft_takes M_Draft_is_too_much,b36,k36,mg_of X G a36⟩
 have H_need_outs:HasY l.prog w K mg base 3 "need_outs" ["outs","kinds"] (spNO cc):=⟨_,_,mf F43 T  XM_Unknown XM_Twice,b43,k43,mg_of X G a43⟩
 have H_not_of_word:Has l.prog w K mg base 2 "not_of_word" ["names","kinds","word"] (spNW cc):=⟨_,_,jA F39 T  (fun i h=>match i,h with | 0,_=>M_Plain_word | 1,_=>M_Signed_word | 2,_=>M_Pointed_word | _+3,h=>absurd h (by lia)),b39,k39,mg_of X G a39⟩
 have H_half:Has l.prog w K mg base 1 "half" ["width"] sf:=⟨_,_,ok_half F15 T ,b15,k15,mg_of X G a15⟩
 have H_same_kind:Has l.prog w K mg base 2 "same_kind" ["one","other"] (pc cc):=⟨_,_,lY F14 T  (fun i h=>match i,h with | 0,_=>M_Plain_word | 1,_=>M_Signed_word | 2,_=>M_Pointed_word | _+3,h=>absurd h (by lia)),b14,k14,mg_of X G a14⟩
 have H_wrongly_read:Has l.prog w K mg base 3 "wrongly_read" ["width","row","kinds"] (spWR cc):=⟨_,_,ja F40 T H_not_of_word H_half H_same_kind,b40,k40,mg_of X G a40⟩
 have H_kind_put:Has l.prog w K mg base 6 "kind_put" ["width","row","told","kinds"] (spKP cc):=⟨_,_,ol F41 T C_Plain,b41,k41,mg_of X G a41⟩
 have H_need_row:HasY l.prog w K mg base 7 "need_row" ["width","row","told","kinds"] (spNR cc):=⟨_,_,oj F42 T H_wrongly_read H_kind_put H_same_kind XM_Unknown XM_WrongKind,b42,k42,mg_of X G a42⟩
 have H_second_walk:HasY l.prog w K mg base 8 "second_walk" ["draft"] (spSW cc):=⟨_,_,jC F44 T H_need_outs H_need_row XM_Twice,b44,k44,mg_of X G a44⟩
 have H_read_program:HasY l.prog w K mg base 10 "read_program" ["text"] (spRP cc):=⟨_,_,jf F45 T H_first_walk H_second_walk H_count_rows C_Program,b45,k45,mg_of X G a45⟩
 have H__law_told:Has l.prog w K mg base 11 "_law_told" ["_law_text"] oa:=⟨_,_,mw F56 T H_read_program,b56,k56,mg_of X G a56⟩
 have H__law_kind_words:Has l.prog w K mg base 1 "_law_kind_words" ["_law_spec_here"] spKW:=⟨_,_,fX F50 T ,b50,k50,mg_of X G a50⟩
 exact ok_law F57 T H__law_box H__law_looped H__law_due H__law_cell H__law_take H__law_row H__law_some H__law_spec H__law_told H__law_kind_words
theorem walk {l:PySem.W.OpenLaw}{q:Program}{loose:List Str}{XP:(Str->Option Value)->Heap->Prop}{YP:World->Heap->Prop}{d:DefRec}{K:Params->Frag}(hn:l.most=some 63) (hdf:d.params.defaults=[])
  (hY:∀ (w:World) (h:Heap),YP w h->(K w.params).In h)
  (F:∀ (w:World) (mg:Str->Option Value) (fa:Addr) (h:Heap),(K w.params).In h->h.Ns mainGlobals mg->mg d.name=some (.ref fa) ->
   ∃ fd:FuncData,(∀ (s:Shared) (u:Value),BindsTo s fd ⟨[u],[]⟩ [("_law_script",u)])/\∀ base:Heap,(K w.params).In base->base.Ns mainGlobals mg->FnOk l.prog w (K w.params) mg base CX0 12 fa fd ["_law_script"] (spLaw (K w.params))) :
  PySem.W.WalkO q loose XP YP l.row.toRowW d [] (fun f vs=>PySem.call f vs) :=
 L2.walk_of (n:=63) (k:=12) (x:="_law_script") (CX:=fun _=>CX0) (sp:=fun w=>spLaw (K w.params)) hn (by decide) hdf ⟨rfl,by decide,by decide,rfl⟩ hY F (fun _ _ a ns hl _ hS=>⟨a,ns,rfl,hS,hl,fun _=>rfl⟩) fun _ _ _ _ _ z=>z
end Ow
open PySem PySem.W PyProof.Rows
namespace PySem.W.Fast
def tw12342438564512734559:=0
def tw4651787921606165311:=0
def tw15852854099281837609:=0
def tw1289017808271857767:=0
def tw15701072624938789236:=0
def tw15405405709120743932:=0
def tw17932439274952364689:=0
def tw9305269400340566363:=0
def tw12304719167016949323:=0
def tw11295843896426495126:=0
def tw16545889530756614037:=0
def tw6076207343373856554:=0
def tw2359145273075054664:=0
def tw18434731081361745801:=0
def tw1432317390190763628:=0
def tw7373424825403568665:=0
def tw4410925813038339631:=0
def tw11785810281185539877:=0
def tw5628510123551857862:=0
def tw17980134147215373126:=0
def tw5067301722220430517:=0
def tw8715754507142186325:=0
def tw4193132789757591133:=0
def tw15932521285638714463:=0
def tw6408518487944330013:=0
def tw7885851335622859125:=0
def tw15915167840352710701:=0
def tw1534674232854733168:=0
def tw711535693869320592:=0
def tw9120490215162468148:=0
def tw4610589789523115052:=0
def tw11602992524420370167:=0
def tw15142993247963253044:=0
def tw1502621324664219790:=0
def tw1285487941487240160:=0
def tw11024457068780640485:=0
def tw2732391211068090729:=0
def tw6969108398187985672:=0
def tw2231698399637784671:=0
def tw16283666294501203575:=0
def tw12467846107481444646:=0
def tw12135464938101571802:=0
def tw5279469969625198655:=0
def tw10862594624206251398:=0
def tw13185792728296096193:=0
def tw6184461306077544390:=0
def tw2574552046458334146:=0
def tw15017114786850786237:=0
def tw3289503728229202245:=0
def tw5584365177094274783:=0
def tw10364899879663204567:=0
def tw12361471262075599119:=0
def tw11463487155153133190:=0
def tw1936663986336474481:=0
def tw15959881473679095011:=0
def tw13457001530196133217:=0
def tw1014647758226464118:=0
def tw13173780985698305439:=0
def tw3122398041831851242:=0
def tw5186743520253785436:=0
def tw16323853433263998528:=0
def tw6444357064929217525:=0
def tw15947423435725041354:=0
def tw8402339700805834346:=0
def tw15755261778788689076:=0
def tw6476632594107384745:=0
def tw6879431443887717458:=0
def tw1527213510991876780:=0
def tw5644754628173096929:=0
def tw2521462796868115807:=0
def tw14705005657845438959:=0
def tw4378623958930613408:=0
def tw6241510808633358080:=0
def tw4892516096093601021:=0
def tw7697850639372488358:=0
def tw15388019521014593151:=0
def tw8117103929886138572:=0
def tw570334516278883828:=0
def tw12502557077332949752:=0
def tw8493629957155388346:=0
def tw13935299524944218900:=0
def tw17134496985984557944:=0
def tw17866569224012440409:=0
def tw6028577460392137804:=0
def tw430986754152277815:=0
def tw3000969822185750448:=0
def tw530251458513669431:=0
def tw18258940557899687907:=0
def tw11340553550515068505:=0
def tw14688294271728804723:=0
def tw10445904588518126344:=0
def tw7053020842675581106:=0
def tw12835193377116826114:=0
def tw7720621388828242436:=0
def tw15136940384445736827:=0
def tw878849322999675351:=0
def tw18057381526391274087:=0
def tw4181088565624256004:=0
def tw16789150653524662174:=0
def tw5003493534246970880:=0
def tw15137801662775046271:=0
def tw15023126787138258124:=0
def tw6621097547409753932:=0
def tw9943349980314325214:=0
def tw5400025945118330779:=0
def tw2769627508045326168:=0
def tw418847332702175915:=0
def tw17401234018157206570:=0
def tw2457459165582836667:=0
def tw17012116005748792510:=0
def tw662104863568992091:=0
def tw5847536702674930473:=0
def tw14790891443740135440:=0
def tw12539339098332164168:=0
def tw17412270402232080760:=0
def tw6168393260059782328:=0
def tw15211406738765022245:=0
def tw17637794817671342515:=0
def tw12830926037318956861:=0
def tw5198953157075536549:=0
def tw12103613782344538263:=0
def tw13326384707086639651:=0
def tw15742637056752824217:=0
def tw1492731206563399651:=0
def tw4062357942261536164:=0
def tw2559574806059314632:=0
def tw5270156430857453221:=0
def tw2455109672915146661:=0
def tw2702809656008735573:=0
def tw18373045243990894799:=0
def tw262511030625515113:=0
def tw3743349741281950976:=0
def tw13986904200882929123:=0
def tw12446815299631562700:=0
def tw9466548877804384968:=0
def tw12021889361570589161:=0
def tw18402027263734809206:=0
def tw155107689699253305:=0
def tw13068634224752924384:=0
def tw13435200231320814180:=0
def tw15671371888124572265:=0
def tw2741405816874646208:=0
def tw11015822636265736041:=0
def tw10865788396262597665:=0
def tw881385149127089181:=0
def tw5039527750322284892:=0
def tw12585137745088737273:=0
def tw11984439542992126533:=0
def tw13657190624244488416:=0
def tw9195567090120536368:=0
def tw4692804076144336507:=0
def tw12610072565681721752:=0
def tw15528306197638733261:=0
def tw16946178889128300666:=0
def tw17671990901075597102:=0
def tw6173099899157899104:=0
def tw14721900534383795971:=0
def tw2545079638613539286:=0
def tw263270329576586933:=0
def tw1879816953719585945:=0
def tw12096480267898904542:=0
def tw18172070646495491307:=0
def tw16323476893075380485:=0
def tw14939558265277964110:=0
def tw18026844684172540614:=0
def tw8006138357389283107:=0
def tw9351478745570737698:=0
def tw11912577239628640150:=0
def tw10869521581987153406:=0
def tw18271256336160327034:=0
def tw7926516002252308022:=0
def tw7811324857355542795:=0
def tw6384372095577011447:=0
def tw15652017668640835614:=0
def tw9427875323934902525:=0
def tw3605606653033348970:=0
def tw3002831752768715920:=0
def tw4978443027720140041:=0
def tw17182947506356521858:=0
def tw2094041962380199282:=0
def tw12374968076090860945:=0
def tw17734069203141224052:=0
def tw11177205126485224785:=0
def tw4382733739961936572:=0
def tw8789120260442400600:=0
def tw10891133737212653129:=0
def tw4051360550042931359:=0
def tw9630074807221122465:=0
def tw17861613239532326798:=0
def tw3988058522995819542:=0
def tw14822747973501156711:=0
def tw3877080023524996677:=0
def tw3108859310618258142:=0
def tw17693452466532020607:=0
def tw1942612942699102872:=0
def tw4980487550677548474:=0
def tw14467179852146792538:=0
def tw1284932589556821387:=0
def tw16222095611640108125:=0
def tw184752884846238774:=0
def tw1915170399887357461:=0
def tw6561522106642409493:=0
def tw13265596075606111161:=0
def tw6029749000186082462:=0
def tw9145755174795831793:=0
def tw4275697048396486361:=0
def tw8500159802463369557:=0
def tw6556880069152014101:=0
def tw3311129860620586048:=0
def tw15255177343545218930:=0
def tw9215162253747833904:=0
def tw7962711007924800116:=0
def tw12563763195099668241:=0
def tw12117558621763977025:=0
def tw16262371139738666345:=0
def tw9646446576612342685:=0
def tw5308786774855090503:=0
def tw2439529078549720142:=0
def tw16536558432438248632:=0
def tw7154239987821179557:=0
def tw14761664630922657308:=0
def tw13052608627144486637:=0
def tw4739867251049645791:=0
def tw11331195857596322436:=0
def tw7019732095039642626:=0
def tw6885645686334569672:=0
def tw12354124632831501597:=0
def tw2250876330982057894:=0
def tw15360805132069123030:=0
def tw14624451561529125609:=0
def tw14233466256420611505:=0
def tw10738804111503867904:=0
def tw9021225257447317202:=0
def tw7613055930572481108:=0
def tw613356287554969835:=0
def tw10136565063257438053:=0
def tw8755149929209423328:=0
def tw5141306957616908294:=0
def tw15710611248453599168:=0
def tw42907947255377408:=0
def tw11594244602846922974:=0
def tw10485141817220379186:=0
def tw13831228276616486708:=0
def tw11187215216933985049:=0
def tw14195710437668466160:=0
def tw15964856355996656183:=0
def tw6906066905220428325:=0
def tw1310019320977553712:=0
def tw18183476786267336188:=0
def tw1252925476110784286:=0
def tw18094660480891246909:=0
def tw275830907600944339:=0
def tw423683828554936527:=0
def tw14246429996508461723:=0
def tw6149433244179997280:=0
def tw10871028519881084722:=0
def tw10482438443677928613:=0
def tw10070383843634483502:=0
def tw8247708544500587123:=0
def tw385624615971982133:=0
def tw14562362726804024177:=0
def tw3032662579293504018:=0
def tw3888212700248978420:=0
def tw14615377715927023812:=0
def tw14344125703953434472:=0
def tw17377244782429237436:=0
def tw2260117190277130346:=0
def tw10504511927881594542:=0
def tw13397857296804570472:=0
def tw4777184499111611447:=0
def tw14623904466734590095:=0
def tw1200129698622009432:=0
def tw1818763643366403590:=0
def tw5984451450968060756:=0
def tw10061097266011170970:=0
def tw14808837669593320889:=0
def tw9708005986973097491:=0
def tw3735753639279047683:=0
def tw3467304235080301398:=0
def tw11103455852621705956:=0
def tw7736669814210774404:=0
def tw4659670265078076081:=0
def tw6683015993891105082:=0
def tw4545481415853791137:=0
def tw10750393749648434576:=0
def tw15780062306544951655:=0
def tw1275943938391818291:=0
def tw6608371299349643067:=0
def tw17258291795687575465:=0
def tw2977995467644285614:=0
def tw16070564000447245857:=0
def tw7256563073577065782:=0
def tw3627583171967869191:=0
def tw18428566193538774257:=0
def tw10578964916053113845:=0
def tw5619374790278972884:=0
def tw13738950753721965368:=0
def tw946340491766877192:=0
def tw17989089281406981993:=0
def tw14363700556595785256:=0
def tw6909003044635628102:=0
def tw16844514083711477595:=0
def tw8341478633430561177:=0
def tw16808459629428034045:=0
def tw12557524848946562256:=0
def tw5732004335211792949:=0
def tw9432115659264082954:=0
def tw4599780708052048878:=0
def tw13369792701341216007:=0
def tw17384842308614832920:=0
def tw2171686906658626436:=0
def tw5395534943468394425:=0
def tw16133662474431885769:=0
def tw1028678136188254932:=0
def tw13651993081851827477:=0
def tw15671026727438138041:=0
def tw9770846864434447002:=0
def tw14337964822389126477:=0
def tw5323489609299868919:=0
def tw10730346814178499137:=0
def tw11373276880224238345:=0
def tw17247000583842430130:=0
def tw4387783593804239296:=0
def tw2756171444664075879:=0
def tw11303163849706558215:=0
def tw1900039648676846782:=0
def tw10677242889914344938:=0
def tw14095468398792783789:=0
def tw17023313152202314661:=0
def tw9850872356081646112:=0
def tw17701473058802261511:=0
def tw12653340171452821120:=0
def tw13450610371099031541:=0
def tw16175505627056774357:=0
def tw6339576284467917152:=0
def tw15928984827595576606:=0
def tw4733264034801530127:=0
def tw13210128664148160339:=0
def tw6390477100155686096:=0
def tw11281312732286675141:=0
def tw7012548226388175930:=0
def tw12928396884350353369:=0
def tw8356146806992563584:=0
def tw1611434042147169261:=0
def tw15875998398805342951:=0
def tw5251643492141674225:=0
def tw11456155889414847899:=0
def tw5663566151580739938:=0
def tw2385023158246466140:=0
def tw6082795830129419341:=0
def tw3646633450270307592:=0
def tw3449522474887223554:=0
def tw3288823953079425030:=0
def tw10422527212134487690:=0
def tw13790319850389650443:=0
def tw14949269996140209037:=0
def tw11100233393765739261:=0
def tw5642865254209852623:=0
def tw12475993022315387929:=0
def tw16778289235969493468:=0
def tw15919103671135195674:=0
def tw9579640415765886845:=0
def tw2222607109420132320:=0
def tw17887193624521594019:=0
def tw17443124195508635882:=0
def tw4929677539195642698:=0
def tw1513893517435663064:=0
def tw1253345021603909875:=0
def tw15490671598107624393:=0
def tw8749155095656811861:=0
def tw3274903634436329655:=0
def tw15447640384038528958:=0
def tw15086975485595806351:=0
def tw3452875307781765930:=0
def tw5777955543103714727:=0
def tw250077076146447278:=0
def tw3755310296409049410:=0
def tw5020571351388653992:=0
def tw1952463758275742346:=0
def tw8036591881639793048:=0
def tw12936986919699379536:=0
def tw8034612926993248581:=0
def tw2852118188306736928:=0
def tw6577307802075302036:=0
def tw9642874901332741844:=0
def tw17832411336012342494:=0
def tw2765330319772094083:=0
def tw15232373641248921172:=0
def tw4394343388105881154:=0
def tw6488424661322194693:=0
def tw9747905432729637913:=0
def tw2353797811113678655:=0
def tw695627560089474592:=0
def tw378187195918984642:=0
def tw16649135563206951599:=0
def tw14029825723995585878:=0
def tw1515347332340730595:=0
def tw2144392922794985695:=0
def tw13588924114979198123:=0
def tw10993479605887423594:=0
def tw16481878050692750998:=0
def tw15372929511315821730:=0
def tw1077912078135308954:=0
def tw13433208494196930472:=0
def tw8004289032250837061:=0
def tw3926344173050839266:=0
def tw16145766022572071215:=0
def tw11911903069800134705:=0
def tw5571502144582615238:=0
def tw12474820526595321506:=0
def tw8829921577089348766:=0
def tw8297695366949095324:=0
def tw16323938294919926230:=0
def tw16832352236537057222:=0
def tw6090633676205014588:=0
def tw5977592774032420066:=0
def tw8491266788521202281:=0
def tw17365183039096865392:=0
def tw6766924678936210133:=0
def tw795541193061965678:=0
def tw9460020094798360229:=0
def tw9737266422608521847:=0
def tw3688770356803851498:=0
def tw17501042656157045851:=0
def tw1779558072781384830:=0
def tw2105673689626219869:=0
def tw14033032864008224062:=0
def tw14224090839743548479:=0
def tw14925265972104561573:=0
def tw11121804281757642092:=0
def tw17487426649016256995:=0
def tw2326927254049490752:=0
def tw3361506019201222997:=0
def tw2558133400035095016:=0
def tw17945791562201416571:=0
def tw9441526929343582951:=0
def tw5318409700716760608:=0
def tw674987240957836013:=0
def tw6095739556990630050:=0
def tw9342035468550187931:=0
def tw1474312863493372120:=0
def tw7639727758809290631:=0
def tw9642036078740909674:=0
def tw12600614204502261601:=0
def tw11605740890308474291:=0
def tw10999505271438198205:=0
def tw11012783800254112949:=0
def tw10550330582293367177:=0
def tw13460644509707685341:=0
def tw10448077289598289496:=0
def tw6893890121853972454:=0
def tw14270879563894718024:=0
def tw10996518302808247146:=0
def tw4523833525342711518:=0
def tw3710258095817863574:=0
def tw8436631365594318423:=0
def tw15798780243167741300:=0
def tw11511712608170189612:=0
def tw12916197167614885614:=0
def tw1731426566393552476:=0
def tw11848404677558689834:=0
def tw12546800243062701444:=0
def tw14335880705901028583:=0
def tw7405887139213898775:=0
def tw17807748270501490690:=0
def tw12109505610256322686:=0
def tw8206918972038069899:=0
def tw13790088170546259990:=0
def tw16195199639709643051:=0
def tw16262508232923404335:=0
def tw11668322328779925054:=0
def tw1086927608611833020:=0
def tw16449486214941802237:=0
def tw12522188643959067278:=0
def tw15890700447879618051:=0
def tw3548476971562079314:=0
def tw13831084436902390341:=0
def tw15135997620203452611:=0
def tw15341008650282167713:=0
def tw3778376884512026478:=0
def tw2808074136485139056:=0
def tw2191065884796750282:=0
def tw4570294220139286931:=0
def tw8846901341194485967:=0
def tw10392206558060363395:=0
def tw5439493012600836630:=0
def tw5540622276272860256:=0
def tw5012986307709844716:=0
def tw8497049793932614893:=0
def tw15973248382489955811:=0
def tw5985077933875183927:=0
def tw8260324833874766253:=0
def tw13328447882226886702:=0
def tw13765387797247158344:=0
def tw11361521661979545539:=0
def tw16498442787001166294:=0
def tw10504404580552887212:=0
def tw15997535494347163975:=0
def tw2106956372655904019:=0
def tw5911494444965496347:=0
def tw7459628499794832734:=0
def tw6375294815335538716:=0
def tw1562771942690951275:=0
def tw4611062557468231724:=0
def tw8808670256586933314:=0
def tw11368094724376253705:=0
def tw16347773416568910001:=0
def tw3739852009293918892:=0
def tw7686511676186114092:=0
def tw10292536510298861784:=0
def tw13708923426682954833:=0
def tw6715448274842566525:=0
def tw11273448260134681275:=0
def tw12849705526219369226:=0
def tw15285558323382012750:=0
def tw3987076103072154862:=0
def tw10723063748624248518:=0
def tw7614167377477837608:=0
def tw17597839421267533790:=0
def tw6059119858552073410:=0
def tw14992471320949980847:=0
def tw3584916244094767682:=0
def tw12639985205179346255:=0
def tw989150550083948405:=0
def tw11974417988199417737:=0
def tw12448437039365857543:=0
def tw11814457979284945269:=0
def tw3141129168902700280:=0
def tw170732581066501316:=0
def tw8266109746667673195:=0
def tw7267513032356943215:=0
def tw16237053950362635170:=0
def tw17585611611844654401:=0
def tw8722684142573659263:=0
def tw5444665009917047577:=0
def tw15725728927387981318:=0
def tw8951190461344657496:=0
def tw10416705820470049184:=0
def tw4936985123321051589:=0
def tw1498913171466185045:=0
def tw3129905300325467342:=0
def tw8447272263979546375:=0
def tw1668971549226476417:=0
def tw5840836915885729058:=0
def tw4329320500987349846:=0
def tw9874390545934693094:=0
def tw8151776677019834695:=0
def tw17495908649688197080:=0
def tw12261785359386622580:=0
def tw15515099510916286721:=0
def tw14856244450854303116:=0
def tw8362180114125136471:=0
def tw5915440067748296877:=0
def tw14879134909281813790:=0
def tw5892055558172167403:=0
def tw9204750927663201436:=0
def tw12886428540957279838:=0
def tw8405392596459077956:=0
def tw5169327989056216432:=0
def tw14959230526924909712:=0
def tw1346938588315148071:=0
def tw6169190026487973193:=0
def tw8279229700844823976:=0
def tw9037057359307679875:=0
def tw15604488699784339290:=0
def tw11898736035736741073:=0
def tw141304435530941317:=0
def tw9628893655883248515:=0
def tw5492729376235198881:=0
def tw1094516895436412106:=0
def tw7627194671439126927:=0
def tw1578664696341821038:=0
def tw17529715204957035040:=0
def tw610817778096647368:=0
def tw10991995442948614808:=0
def tw12831441776704558369:=0
def tw8912598109078287520:=0
def tw17905799234358536936:=0
def tw15143525383929102291:=0
def tw16088127049947307048:=0
def tw6731818158766427131:=0
def tw3273365495995550519:=0
def tw1502180521845454275:=0
def tw7646072812000202566:=0
def tw17357639654831279921:=0
def tw16859288615298183228:=0
def tw10314933883435018611:=0
def tw389347304633260435:=0
def tw812113583316669075:=0
def tw1128953858339284289:=0
def tw8790697346570120313:=0
def tw4402284874152521745:=0
def tw15568166399146157161:=0
def tw17821025742968679084:=0
def tw9948456215754137344:=0
def tw1657875015668963028:=0
def tw7878711532737602707:=0
def tw11745460852854454895:=0
def tw1528358963050826379:=0
def tw13276250698707279093:=0
def tw894996003400300507:=0
def tw3973390081734513332:=0
def tw18076787559628012918:=0
def tw16223838699036686684:=0
def tw4985324463225928898:=0
def tw2434881814878277597:=0
def tw3813006642570670376:=0
def tw10267061252219017377:=0
def tw16301386564096516542:=0
def tw7615803757309008752:=0
def tw60286616524704504:=0
def tw1575050722515260235:=0
def tw1043402179431974785:=0
def tw12090014716291309935:=0
def tw17992038969891919305:=0
def tw12735972930077788272:=0
def tw2965770305465512881:=0
def tw5238824375676904741:=0
def tw17819824069706462356:=0
def tw14122246649309463115:=0
def tw5695552157302125016:=0
def tw8074379366501744604:=0
def tw12787465797034253234:=0
def tw17241575597002977570:=0
def tw6450216766771745775:=0
def tw2975157949749637195:=0
def tw18324332494562430927:=0
def tw15027158725141990571:=0
def tw16434284559916808423:=0
def tw13468755212296008511:=0
def tw785813550312606736:=0
def tw10057881856433191894:=0
def tw7147791875617593334:=0
def tw11152425324100437195:=0
def tw7441526124871296224:=0
def tw11968345356619634775:=0
def tw12540359800372510309:=0
def tw12045385487463401011:=0
def tw10224803750734267013:=0
def tw5973236303887915905:=0
def tw3802713208385068311:=0
def tw726291514495876723:=0
def tw17498863727030717456:=0
def tw16408977181951959138:=0
def tw14432932971956758007:=0
def tw14256902246868429901:=0
def tw9425516736259688394:=0
def tw9982707002990804659:=0
def tw13286898578399721047:=0
def tw11692688744927471347:=0
def tw12512857565058279159:=0
def tw854084754091518743:=0
def tw8527716182900989545:=0
def tw1777644465020974688:=0
def tw4624382183558146935:=0
def tw14651339427891003351:=0
def tw17119014437607172019:=0
def tw1625461076155649392:=0
def tw6651436818405921101:=0
def tw16693739213107103041:=0
def tw5309517722502417460:=0
def tw17366763911718444116:=0
def tw174890616984620835:=0
def tw8392598510510702626:=0
def tw1936702382108004738:=0
def tw1185868191837534388:=0
def tw10150881048077875218:=0
def tw9444983404661807597:=0
def tw16609648296029366957:=0
def tw9664223257643254164:=0
def tw7051749600883704504:=0
def tw3064663680047393453:=0
def tw13490816303075092811:=0
def tw16469780567363217860:=0
def tw15784175215166318253:=0
def tw13793346229465673156:=0
def tw6948156927065078725:=0
def tw3575873266905262053:=0
def tw6126606666296960997:=0
def tw17196711266176055256:=0
def tw3548217430848611778:=0
def tw9836880000070401034:=0
def tw9689954078207334344:=0
def tw10098304639645701093:=0
def tw5690272567979198514:=0
def tw5724040277035771364:=0
def tw8534210876350611705:=0
def tw1223361981941164345:=0
def tw15766570347019983953:=0
def tw4131213738535222681:=0
def tw11747116552470682666:=0
def tw15668084544912790969:=0
def tw8854562264655196820:=0
def tw1028559471724711906:=0
def tw6263918525367632569:=0
def tw10353263041257107590:=0
def tw979017824561806073:=0
def tw5977530100255071275:=0
def tw4916039361184215118:=0
def tw1878163411661085926:=0
def tw2757569815823273074:=0
def tw14004282477955164651:=0
def tw18047773179959383558:=0
def tw12899311773710646763:=0
def tw4483788315974360169:=0
def tw10702334661735189934:=0
def tw5803366082331442234:=0
def tw276292256195137966:=0
def tw13184691149121888902:=0
def tw4333768624677721550:=0
def tw15708190565551446266:=0
def tw13191896313270771962:=0
def tw15009968817302488558:=0
def tw4359566338551737824:=0
def tw18255520958441300146:=0
def tw616363312663637498:=0
def tw9494683047555720740:=0
def tw15453074460491319688:=0
def tw7701945809122059664:=0
def tw9511869154165851898:=0
def tw6073823269421926388:=0
def tw14207635930107336358:=0
def tw16336295637263643747:=0
def tw10304636020751876251:=0
def tw6362752348425892558:=0
def tw15343665761616264180:=0
def tw11351986380307228480:=0
def tw9173379880705821906:=0
def tw13932697354836662939:=0
def tw12447549513382752008:=0
def tw2223530575907928814:=0
def tw7792088186808426706:=0
def tw16370269194736006894:=0
def tw12868673632221658918:=0
def tw11020737832090464163:=0
def tw6115976807359245589:=0
def tw11590363437703622668:=0
def tw11910166158021961216:=0
def tw14455205427696651634:=0
def tw12006454110890519984:=0
def tw18026838828551142475:=0
def tw4308579072358351584:=0
def tw3566191683159639445:=0
def tw2403973052632422805:=0
def tw17500202850501623253:=0
def tw12699780419812275420:=0
def tw15350396594328138972:=0
def tw5929560421991194598:=0
def tw14530897867101095753:=0
def tw375632757310361141:=0
def tw11814002145749496649:=0
def tw1406946143777048615:=0
def tw2322670866542972352:=0
def tw12526788500092003332:=0
def tw13064539453836702546:=0
def tw15270575961091702670:=0
def tw13826441069701952352:=0
def tw11825662673627798354:=0
def tw141736247582528753:=0
def tw12067238435184570599:=0
def tw16010422549763280757:=0
def tw1405825712725350493:=0
def tw949879629938945966:=0
def tw18080707273523572629:=0
def tw2803116225313832853:=0
def tw4325502619503286197:=0
def tw8241618931200819343:=0
def tw12739362068303660381:=0
def tw5827034962948853117:=0
def tw4388588874302842847:=0
def tw4955089693038445024:=0
def tw4984136565620173226:=0
def tw6388909373316893309:=0
def tw2122545845436889315:=0
def tw3226187519377566709:=0
def tw17582526519032937836:=0
def tw12462689467714207011:=0
def tw6055892778710441938:=0
def tw15445594558935731439:=0
def tw4808779912755408915:=0
def tw13201920124010675745:=0
def tw17467178868006238636:=0
def tw12894019387608021450:=0
def tw13684392832552326636:=0
def tw18085620466405480783:=0
def tw8656693420702607702:=0
def tw7547884799365238412:=0
def tw8469716971832827205:=0
def tw8513075848604081536:=0
def tw18274080545033726567:=0
end PySem.W.Fast
set_option maxRecDepth 100000 in
set_option maxHeartbeats 0 in
theorem PySem.Challenge.cw_overwise_k63_names_and_kinds_refused_holds : PySem.Challenge.rw_overwise_k63_names_and_kinds_refused.Holds := by
 w_on; o_law; k_head; (case hw=>w_witness2)
 k_fill
 refine Ow.walk (l:=PySem.Challenge.rw_overwise_k63_names_and_kinds_refused) rfl rfl (fun w h Y=>PySem.W.kIn_of Y) ?F
 case F =>
  intro w mg fa h KX G hmg
  refine' Ow.all_mk KX G hmg ?_ ?_ ?_ ?_ ?_ ?_ ?_ ?_ ?_ ?_ ?_ ?_ ?_ ?_ ?_ ?_ ?_ ?_ ?_ ?_ ?_ ?_ ?_ ?_ ?_ ?_ ?_ ?_ ?_ ?_ ?_ ?_ ?_ ?_ ?_ ?_ ?_ ?_ ?_ ?_ ?_ ?_ ?_ ?_ ?_ ?_ ?_ ?_ ?_ ?_ ?_ ?_ ?_ ?_ ?_ ?_ ?_ ?_ ?_ ?_ ?_ ?_ ?_ ?_ ?_ ?_ ?_ ?_ ?_ ?_ ?_ ?_ ?_ ?_ ?_ ?_ ?_ ?_ ?_ ?_ ?_ ?_ ?_ ?_ ?_ ?_ ?_ ?_ ?_ ?_ ?_ ?_ ?_ ?_ ?_ ?_ ?_ ?_ ?_ ?_ ?_ ?_ ?_ ?_ ?_ ?_ ?_ ?_ ?_ ?_ ?_ ?_ ?_ ?_ ?_ ?_ ?_ ?_ ?_ ?_ ?_ ?_ ?_ ?_ ?_ ?_ ?_ ?_ ?_ ?_ ?_ ?_ ?_ ?_ ?_ ?_ ?_ ?_ ?_ ?_ ?_ ?_ ?_ ?_ ?_ ?_ ?_ ?_ ?_ ?_ ?_ ?_ ?_ ?_ ?_ ?_ ?_ ?_ ?_ ?_ ?_ ?_ ?_ ?_ ?_ ?_ ?_ ?_ ?_ ?_ ?_ ?_ ?_ ?_ ?_ ?_ ?_ ?_ ?_ ?_ ?_ ?_ ?_ ?_ ?_ ?_ ?_ ?_ ?_ ?_ ?_ ?_ ?_ ?_ ?_ ?_ ?_ ?_ ?_ ?_ ?_ ?_ ?_ ?_ ?_ ?_ ?_ ?_ ?_ ?_ ?_ ?_ ?_ ?_ ?_ ?_ ?_ ?_ ?_ ?_ ?_ ?_ ?_ ?_ ?_ ?_ ?_ ?_ ?_ ?_ ?_ ?_ ?_ ?_ ?_ ?_ ?_ ?_ ?_ ?_ ?_ ?_ ?_ ?_ ?_ ?_ ?_ ?_ ?_ ?_ ?_ ?_ ?_ ?_ ?_ ?_ ?_ ?_ ?_ ?_ ?_ ?_ ?_ ?_ ?_ ?_ ?_ ?_ ?_ ?_ ?_ ?_ ?_ ?_ ?_ ?_ ?_ ?_ ?_ ?_ ?_ ?_ ?_ ?_ ?_ ?_ ?_ ?_ ?_ ?_ ?_ ?_ ?_ ?_ ?_ ?_ ?_ ?_ ?_ ?_ ?_ ?_ ?_ ?_ ?_ ?_ ?_ ?_ ?_ ?_ ?_ ?_ ?_ ?_ ?_ ?_ ?_ ?_ ?_ ?_ ?_ ?_ ?_ ?_ ?_ ?_ ?_ ?_ ?_ ?_ ?_ ?_ ?_ ?_ ?_ ?_ ?_ ?_ ?_ ?_ ?_ ?_ ?_ ?_ ?_ ?_ ?_
  any_goals first | (apply Ow.FB.of <;> k_is) | k_is | rfl | decide
  any_goals first | (apply Ow.FB.of <;> k_is) | k_is | rfl | decide
  any_goals kernel_rfl
