import PyProof.Rows.All
import OpenK.KLaw
import OpenK.KWalk
import KE.KSearch
import KE.KFinFacts
import KE.RegKTryOn
import KE.KUnpack
import KE.KRevSl
import KE.KDictOf
import KE.KDictList
import KE.KDictSum
import Wide.FinOn
import PyProof.EqAt
import PyProof.EqKinds
import PyProof.TupleCall
import KE.BitLaws
import KE.IntBitsLaws
import KE.KLam
import KE.KIntText
import KE.KMinKey
import KE.KSortKey
import KE.KNestM
import PySem.Challenge.RW_overwise_k20_refused
set_option Elab.async false
set_option linter.all false
set_option maxRecDepth 100000
open Nat (le_succ lt_irrefl lt_of_lt_of_le lt_succ_of_lt lt_succ_self lt_trans zero_le)
open List (append_nil filterMap_cons getD_eq_getElem?_getD getElem_mem length_append length_cons length_map length_range length_take map_append map_cons map_map mem_append_left mem_append_right mem_cons mem_cons_of_mem mem_cons_self mem_of_getElem? mem_singleton nodup_nil not_mem_nil size_toArray)
open Int (ediv_le_self ediv_nonneg mul_le_mul_of_nonneg_left mul_le_mul_of_nonneg_right mul_left_comm mul_one mul_sub one_mul pow_add pow_pos pow_succ pow_zero sub_mul toNat_natCast)
open PySem.W (findIn keepIn Frag fnOf codeIn mg_of nsIn isFn kitOne mroIn hasDictIn plainGet plainOver makesIn typeIn mg_none_of isClsIn instObj exmOne)
namespace L2
open PySem PySem.Spec PyProof.Rows
abbrev Key:=Sum Int Str
def qi:Key->Value->Bool
 | .inl k,v=>Value.isInt k v
 | .inr x,v=>Value.isStrOf x v
def keyH (w:World):Key->Int
 | .inl k=>hashInt k
 | .inr x=>hashStr w x
theorem aP:∀ {k:Key}{v:Value},qi k v=true->(∃ i t,k=Sum.inl i/\v=Value.int i t)\/(∃ x t,k=Sum.inr x/\v=Value.str x t)
 | .inl i,v,h=>by
  obtain⟨t,e⟩:=Value.isInt_shape (k:=i) (v:=v) h
  exact .inl ⟨i,t,rfl,e⟩
 | .inr x,v,h=>by
  obtain⟨t,e⟩:=Value.isStrOf_shape (x:=x) (v:=v) h
  exact .inr ⟨x,t,rfl,e⟩
theorem sX (i:Int) (t:Tok):qi (.inl i) (.int i t)=true:=by simp[qi,Value.isInt]
theorem qA (x:Str) (t:Tok):qi (.inr x) (.str x t)=true:=by simp[qi,Value.isStrOf]
theorem key_ll (a b:Int):decide ((Sum.inl a:Key)=Sum.inl b)=(a == b):=by
 by_cases e:a=b
 ·subst e; simp
 ·have h:¬ (Sum.inl a:Key)=Sum.inl b:=fun q=>e (Sum.inl.inj q)
  rw[decide_eq_false h]
  exact(beq_eq_false_iff_ne.mpr e).symm
theorem key_rr (a b:Str):decide ((Sum.inr a:Key)=Sum.inr b)=decide (a=b):=by
 by_cases e:a=b
 ·subst e; simp
 ·have h:¬ (Sum.inr a:Key)=Sum.inr b:=fun q=>e (Sum.inr.inj q)
  rw[decide_eq_false h,decide_eq_false e]
theorem key_lr (a:Int) (b:Str):decide ((Sum.inl a:Key)=Sum.inr b)=false:=decide_eq_false (fun q=>nomatch q)
theorem key_rl (a:Str) (b:Int):decide ((Sum.inr a:Key)=Sum.inl b)=false:=decide_eq_false (fun q=>nomatch q)
def aH (prog:Program) (w:World):PySem.KeyKind prog w Key where
 is:=qi
 hash:=keyH w
 inj:=fun v a b ha hb=>by
  rcases aP ha with ⟨i,t,rfl,rfl⟩ | ⟨x,t,rfl,rfl⟩
  ·rcases aP hb with ⟨j,u,rfl,e⟩ | ⟨y,u,rfl,e⟩
   ·injection e with e1 _; rw[e1]
   ·exact nomatch e
  ·rcases aP hb with ⟨j,u,rfl,e⟩ | ⟨y,u,rfl,e⟩
   ·exact nomatch e
   ·injection e with e1 _; rw[e1]
 byValue:=fun k v h=>by
  rcases aP h with ⟨i,t,rfl,rfl⟩ | ⟨x,t,rfl,rfl⟩ <;> rfl
 pyHash:=fun hv h=>by
  rcases aP hv with ⟨i,t,rfl,rfl⟩ | ⟨x,t,rfl,rfl⟩
  ·exact wpAny_pyHash_int h
  ·exact wpAny_pyHash_str h
 eqBool:=fun hu hv h=>by
  rcases aP hu with ⟨i,t,rfl,rfl⟩ | ⟨x,t,rfl,rfl⟩
  ·rcases aP hv with ⟨j,u,rfl,rfl⟩ | ⟨y,u,rfl,rfl⟩
   ·rw[key_ll] at h; exact wpAny_eqBool_int h
   ·rw[key_lr] at h; exact SeqAt.EqAt.int_str i t y u _ _ _ _ h
  ·rcases aP hv with ⟨j,u,rfl,rfl⟩ | ⟨y,u,rfl,rfl⟩
   ·rw[key_rl] at h; exact SeqAt.EqAt.str_int x t j u _ _ _ _ h
   ·rw[key_rr] at h; exact wpAny_eqBool_str h
 «strs»:=fun k x t v h=>by
  rcases aP h with ⟨i,u,rfl,e⟩ | ⟨y,u,rfl,e⟩
  ·exact nomatch e
  ·injection e with e1 _
   subst e1
   cases v <;> rfl
theorem jo (prog:Program) (w:World) (i:Int) (t:Tok):(aH prog w).is (.inl i) (.int i t)=true:=sX i t
theorem oA (prog:Program) (w:World) (x:Str) (t:Tok):(aH prog w).is (.inr x) (.str x t)=true:=qA x t
end L2
namespace L2
open PySem PySem.Spec PyProof.Rows
inductive V where
 | non | bl (b:Bool) | int (i:Int) | str (x:Str) | byt (b:Array UInt8) | flt (b:UInt64) | ref (a:Addr) | ty (n:String)
 deriving DecidableEq
def RelV:V->Value->Prop
 | .non,u=>u=Value.none
 | .bl b,u=>u=Value.bool b
 | .int i,u=>∃ t,u=Value.int i t
 | .str x,u=>∃ t,u=Value.str x t
 | .byt b,u=>∃ t,u=Value.bytes b t
 | .flt b,u=>∃ t,u=Value.float b t
 | .ref a,u=>u=Value.ref a
 | .ty n,u=>u=Value.type n
abbrev Vals:List V->List Value->Prop:=Paired RelV
theorem Vals.length {xs:List V}{us:List Value}(r:Vals xs us):xs.length=us.length:=Paired.length r
theorem Vals.get:∀ {xs:List V}{us:List Value}{i:Nat}{x:V},Vals xs us->xs[i]?=some x->∃ u,us[i]?=some u/\RelV x u
 | _,_,_,_,.nil,e=>by simp at e
 | _,_,0,_,.cons r _,e=>by simp at e; subst e; exact⟨_,rfl,r⟩
 | _,_,i+1,x,.cons _ t,e=>by
  obtain⟨u,h1,h2⟩:=Vals.get (i:=i) (x:=x) t (by simpa using e)
  exact⟨u,by simpa using h1,h2⟩
theorem Vals.set {x:V}{u:Value}(r:RelV x u):∀ {xs:List V}{us:List Value}(i:Nat),Vals xs us->Vals (xs.set i x) (us.set i u)
 | _,_,_,.nil=>.nil
 | _,_,0,.cons _ t=>.cons r t
 | _,_,i+1,.cons q t=>.cons q (Vals.set r i t)
theorem Vals.append:∀ {xs ys:List V}{us ws:List Value},Vals xs us->Vals ys ws->Vals (xs++ys) (us++ws)
 | _,_,_,_,.nil,s=>s
 | _,_,_,_,.cons r t,s=>.cons r (Vals.append t s)
theorem Vals.take:∀ {xs:List V}{us:List Value}(n:Nat),Vals xs us->Vals (xs.take n) (us.take n)
 | _,_,0,_=>.nil
 | _,_,_+1,.nil=>.nil
 | _,_,n+1,.cons r t=>.cons r (Vals.take n t)
theorem Vals.drop:∀ {xs:List V}{us:List Value}(n:Nat),Vals xs us->Vals (xs.drop n) (us.drop n)
 | _,_,0,r=>r
 | _,_,_+1,.nil=>.nil
 | _,_,n+1,.cons _ t=>Vals.drop n t
def RelO:Option V->Option Value->Prop
 | some v,some u=>RelV v u
 | none,none=>True
 | _,_=>False
def KV {κ:Type}:List (κ×V)->List (κ×Value)->Prop:=Paired fun (p:κ×V) (q:κ×Value)=>p.1=q.1/\RelV p.2 q.2
def kV:Key->V
 | .inl i=>.int i
 | .inr x=>.str x
inductive HO where
 /-- a list -/
 | lst (xs:List V)
 /-- a tuple (never changes) -/
 | tup (xs:List V)
 /-- a dict whose keys are ints and texts; one whose keys are tuples of ints and texts (the empty one is both) -/
 | dK (kvs:List (Key×V)) | dT (kvs:List (List Key×V))
 /-- a set of ints: its members,its size -/
 | set (S:Int->Bool) (n:Nat)
 /-- an instance of the class at C,its dict at dx,its attributes -/
 | ins (C dx:Addr) (fs:List (Str×V))
 /-- the dict of the instance at x -/
 | own (x:Addr)
 /-- the dict of an exception -/
 | xd (fs:List (Str×V))
 /-- a bound method,f of x -/
 | met (f x:Addr)
 /-- a range object lo,lo+1,.. below hi -/
 | rng (lo hi:Int)
 /-- a thing that is known to the object (the script; a dict while a loop walks it): read,never written while it is so -/
 | frz (o:Obj) (u:HO)
 /-- a code object's table -/
 | tbl (ps:Array Value)
 /-- any other thing,by what is true of its one object (a def of one's own: SetO a S n:=HO.ext fun h=>..) -/
 | ext (φ:Heap->Prop)
abbrev Hp:=Addr->Option HO
def upd (H:Hp) (a:Addr) (o:HO):Hp:=fun b=>if b=a then some o else H b
theorem ah {H:Hp}{a:Addr}{o:HO}:upd H a o a=some o:=by unfold upd; rw[if_pos rfl]
theorem ao {H:Hp}{a b:Addr}{o:HO}(h:b≠a):upd H a o b=H b:=by unfold upd; rw[if_neg h]
theorem ne_of {H:Hp}{a b:Addr}{o u:HO}(h:H a=some o) (h':H b=some u) (d:o≠u):a≠b:=by
 intro e; subst e; rw[h] at h'; exact d (Option.some.inj h')
theorem az {H:Hp}{a b:Addr}{o:HO}(h:H a=some o) (h':H b=none):a≠b:=by
 intro e; subst e; rw[h] at h'; cases h'
section
variable (P:Program) (w:World)
def ObjOk (H:Hp) (h:Heap) (a:Addr):HO->Prop
 | .lst xs=>xs.length<=sizeLine/\∃ (its:List Value) (n:Nat),Vals xs its/\h.get? a=some { cls:=.type "list",data:=.seq its.toArray n }
 | .tup xs=>xs.length<=sizeLine/\∃ its:List Value,Vals xs its/\IsTup h a its.toArray
 | .dK kvs=>kvs.length<=sizeLine/\(a == sysModules)=false/\∃ vs,KV kvs vs/\h.DictOf (aH P w) a vs
 | .dT kvs=>kvs.length<=sizeLine/\(a == sysModules)=false/\∃ xs:List (List Key×Addr×Value),
   Paired (fun (p:List Key×V) (q:List Key×Addr×Value)=>p.1=q.1/\H q.2.1=some (.tup (p.1.map kV))/\RelV p.2 q.2.2) kvs xs /\
   ∃ o es ep,h.get? a=some o/\o.ExactDict/\o.data=.dict es ep/\es.toList=xs.map (entryOfKey (tupleKind (aH P w)))/\(xs.map (·.1)).Nodup
 | .set S n=>h.SetOf (intKind P w) a S n
 | .ins C dx fs=>H dx=some (.own a)/\fs.length<=1000/\dx≠a/\h.get? a=some (instObj C dx) /\
   ∃ mA,h.Ns1 dx mA/\(∀ f,RelO (fs.lookup f) (mA f))/\PySem.Within mA (fs.map (·.1))
 | .own _=>∃ o,h.get? a=some o
 | .xd fs=>∃ mA,h.Ns1 a mA/\∀ f,RelO (fs.lookup f) (mA f)
 | .rng lo hi=>∃ t u v,h.get? a=some { cls:=.type "range",data:=.fields #[.int lo t,.int hi u,.int 1 v] }
 | .frz o u=>h.get? a=some o/\ObjOk H h a u
 | .tbl ps=>h.get? a=some { cls:=.none,data:=.fields ps }
 | .met f x=>h.get? a=some (PySem.W.methodObj (.ref f) (.ref x))
 | .ext φ=>φ h/\(∃ o,h.get? a=some o)/\∀ h1 h2:Heap,φ h1->(∀ o,h1.get? a=some o->h2.get? a=some o)->φ h2
def HOk (H:Hp) (h:Heap):Prop:=∀ a o,H a=some o->ObjOk P w H h a o
end
section
variable {P:Program}{w:World}{H H':Hp}{h h':Heap}{a:Addr}{o:HO}
theorem ObjOk.lt (x:ObjOk P w H h a o):a<h.objs.size:=by
 cases o with
 | lst xs=>obtain⟨_,_,_,_,e⟩:=x; exact Heap.lt_size e
 | tup xs=>obtain⟨_,_,_,p⟩:=x; exact p.lt
 | dK kvs=>obtain⟨_,_,_,_,o,_,_,e,_⟩:=x; exact Heap.lt_size e
 | dT kvs=>obtain⟨_,_,_,_,o,_,_,e,_⟩:=x; exact Heap.lt_size e
 | set S n=>obtain⟨o,_,_,_,e,_⟩:=x; exact Heap.lt_size e
 | ins C dx fs=>obtain⟨_,_,_,e,_⟩:=x; exact Heap.lt_size e
 | own y=>obtain⟨_,e⟩:=x; exact Heap.lt_size e
 | xd fs=>obtain⟨_,⟨_,_,_,e,_⟩,_⟩:=x; exact Heap.lt_size e
 | rng lo hi=>obtain⟨_,_,_,e⟩:=x; exact Heap.lt_size e
 | frz ob u=>obtain⟨e,_⟩:=x; exact Heap.lt_size e
 | tbl ps=>exact Heap.lt_size (show h.get? a=some _ from x)
 | met f y=>exact Heap.lt_size (show h.get? a=some _ from x)
 | ext φ=>obtain⟨_,⟨_,e⟩,_⟩:=x; exact Heap.lt_size e
theorem Paired.mapP {α β:Type}{F G:α->β->Prop}:∀ {l₁:List α}{l₂:List β},Paired F l₁ l₂->(∀ a b,F a b->G a b)->Paired G l₁ l₂
 | _,_,.nil,_=>.nil
 | _,_,.cons r t,f=>.cons (f _ _ r) (Paired.mapP t f)
theorem ObjOk.stay (x:ObjOk P w H h a o) (k:∀ b u,(b=a\/H b=some (.own a))->h.get? b=some u->h'.get? b=some u)
  (ho:∀ b,H b=some (.own a)->H' b=some (.own a)) (ht:∀ b xs,H b=some (.tup xs)->H' b=some (.tup xs)):ObjOk P w H' h' a o:=by
 induction o with
 | lst xs=>obtain⟨z,its,n,r,e⟩:=x; exact⟨z,its,n,r,k _ _ (.inl rfl) e⟩
 | tup xs=>obtain⟨z,its,r,ob,e,c⟩:=x; exact⟨z,its,r,ob,k _ _ (.inl rfl) e,c⟩
 | dK kvs=>obtain⟨z,y,vs,r,ob,es,ep,e,c⟩:=x; exact⟨z,y,vs,r,ob,es,ep,k _ _ (.inl rfl) e,c⟩
 | dT kvs =>
  obtain⟨z,y,xs,r,ob,es,ep,e,c⟩:=x
  exact⟨z,y,xs,Paired.mapP r fun p q z=>⟨z.1,ht _ _ z.2.1,z.2.2⟩,ob,es,ep,k _ _ (.inl rfl) e,c⟩
 | set S n=>obtain⟨ob,es,ep,t,e,c⟩:=x; exact⟨ob,es,ep,t,k _ _ (.inl rfl) e,c⟩
 | ins C dx fs =>
  obtain⟨d,z,ne,e,mA,⟨od,es,ep,e2,c⟩,r⟩:=x
  exact⟨ho _ d,z,ne,k _ _ (.inl rfl) e,mA,⟨od,es,ep,k _ _ (.inr d) e2,c⟩,r⟩
 | own y=>obtain⟨ob,e⟩:=x; exact⟨ob,k _ _ (.inl rfl) e⟩
 | xd fs=>obtain⟨mA,⟨od,es,ep,e,c⟩,r⟩:=x; exact⟨mA,⟨od,es,ep,k _ _ (.inl rfl) e,c⟩,r⟩
 | rng lo hi=>obtain⟨t,u,v,e⟩:=x; exact⟨t,u,v,k _ _ (.inl rfl) e⟩
 | frz ob u ih=>obtain⟨e,q⟩:=x; exact⟨k _ _ (.inl rfl) e,ih q⟩
 | tbl ps =>
  have e:h.get? a=some { cls:=.none,data:=.fields ps }:=x
  show h'.get? a=some { cls:=.none,data:=.fields ps }
  exact k a _ (.inl rfl) e
 | met f y =>
  have e:h.get? a=some (PySem.W.methodObj (.ref f) (.ref y)):=x
  show h'.get? a=some (PySem.W.methodObj (.ref f) (.ref y))
  exact k a _ (.inl rfl) e
 | ext φ=>obtain⟨p,⟨o,e⟩,st⟩:=x; exact⟨st _ _ p fun o q=>k _ _ (.inl rfl) q,⟨o,k _ _ (.inl rfl) e⟩,st⟩
theorem HOk.lt (x:HOk P w H h) (e:H a=some o):a<h.objs.size:=(x a o e).lt
theorem HOk.fresh (x:HOk P w H h) (e:h.objs.size<=a):H a=none:=by
 cases q:H a with
 | none=>rfl
 | some u=>exact absurd (lt_of_lt_of_le (x.lt q) e) (lt_irrefl _)
theorem HOk.kept (x:HOk P w H h) (k:∀ b u,h.get? b=some u->h'.get? b=some u):HOk P w H h':=fun a o e =>
 (x a o e).stay (fun b u _ q=>k b u q) (fun _ q=>q) fun _ _ q=>q
theorem HOk.laid (x:HOk P w H h) (k:∀ b u,h.get? b=some u->h'.get? b=some u) (hp:h.objs.size<=a) (new:ObjOk P w (upd H a o) h' a o):HOk P w (upd H a o) h':=fun b u e=>by
 have hn:=x.fresh hp
 by_cases hb:b=a
 ·subst hb; rw[ah] at e; cases e; exact new
 ·rw[ao hb] at e
  exact(x b u e).stay (fun c v _ q=>k c v q) (fun c q=>by rw[ao (az q hn)]; exact q) fun c xs q=>by rw[ao (az q hn)]; exact q
end
def Rd (H:Hp) (a:Addr) (u:HO):Prop:=H a=some u\/∃ o,H a=some (.frz o u)
theorem Rd.ok {P:Program}{w:World}{H:Hp}{h:Heap}{a:Addr}{u:HO}(r:Rd H a u) (x:HOk P w H h):ObjOk P w H h a u:=by
 rcases r with r | ⟨o,r⟩
 ·exact x a u r
 ·obtain⟨_,q⟩:=x a _ r
  exact q
def Mut:Option HO->Prop
 | some (.lst _)=>True
 | some (.dK _)=>True
 | some (.dT _)=>True
 | some (.set _ _)=>True
 | some (.ins _ _ _)=>True
 | some (.ext _)=>True
 | _=>False
section
variable {P:Program}{w:World}{H:Hp}{h h':Heap}{x e:Addr}{o':HO}
theorem HOk.write (ok:HOk P w H h) (mu:Mut (H x)) (he:e=x\/H e=some (.own x)) (k:∀ b u,b≠e->h.get? b=some u->h'.get? b=some u) (heo:∃ u,h'.get? e=some u)
  (new:ObjOk P w (upd H x o') h' x o'):HOk P w (upd H x o') h':=fun b u q=>by
 have nown:∀ c y,H c=some (.own y)->c≠x:=fun c y r z=>by subst z; rw[r] at mu; exact mu
 have ntup:∀ c xs,H c=some (.tup xs)->c≠x:=fun c xs r z=>by subst z; rw[r] at mu; exact mu
 by_cases hb:b=x
 ·subst hb; rw[ah] at q; cases q; exact new
 ·rw[ao hb] at q
  by_cases hbe:b=e
  ·have q':H b=some (.own x):=by
    rcases he with z | z
    ·exact absurd (hbe.trans z) hb
    ·rw[hbe]; exact z
   rw[q] at q'; cases q'
   obtain⟨v,hv⟩:=heo
   exact⟨v,by rw[hbe]; exact hv⟩
  ·refine(ok b u q).stay (fun c v hc r=>k c v ?_ r) (fun c r=>by rw[ao (nown c b r)]; exact r) fun c xs r=>by rw[ao (ntup c xs r)]; exact r
   rcases hc with rfl | hc
   ·exact hbe
   ·rintro rfl
    rcases he with z | z
    ·exact nown c b hc z
    ·rw[hc] at z; cases z; exact hb rfl
end
structure Un (fs ex:List Addr) (H H':Hp) (h h':Heap):Prop where
 keep:∀ b o,h.get? b=some o->H b=none->b∉fs->b∉ex->h'.get? b=some o
 slot:∀ b o,h.get? b=some o->H b=none->b∈fs->b∉ex->∃ sl,h'.get? b=some { o with slots:=sl }
 free:∀ b o,h.get? b=some o->H b=none->b∉ex->H' b=none
 there:∀ b o,h.get? b=some o->b∉ex->∃ o',h'.get? b=some o'
 tups:∀ b xs,H b=some (.tup xs)->H' b=some (.tup xs)
 frzs:∀ b o u,H b=some (.frz o u)->H' b=some (.frz o u)
 tbls:∀ b ps,H b=some (.tbl ps)->∃ more,H' b=some (.tbl (ps++more))
section
variable {fs fs' ex ex':List Addr}{H H1 H2:Hp}{h h1 h2 h':Heap}{a x e:Addr}{o:HO}
theorem Un.any (u:Un fs ex H H1 h h1) {b:Addr}{ob:Obj}(q:h.get? b=some ob) (n:H b=none) (hx:b∉ex):∃ sl,h1.get? b=some { ob with slots:=sl }:=by
 by_cases hb:b∈fs
 ·exact u.slot b ob q n hb hx
 ·exact⟨ob.slots,u.keep b ob q n hb hx⟩
theorem Un.kept (k:∀ b u,h.get? b=some u->h'.get? b=some u):Un fs ex H H h h' :=
 ⟨fun b ob q _ _ _=>k b ob q,fun b ob q _ _ _=>⟨ob.slots,k b ob q⟩,fun _ _ _ n _=>n,fun b ob q _=>⟨ob,k b ob q⟩,fun _ _ q=>q,fun _ _ _ q=>q,fun _ ps q=>⟨#[],by rw[q]; simp⟩⟩
theorem Un.refl:Un fs ex H H h h:=Un.kept fun _ _ q=>q
theorem Un.laid (k:∀ b u,h.get? b=some u->h'.get? b=some u) (hp:h.objs.size<=a) (hn:H a=none):Un fs ex H (upd H a o) h h' where
 keep:=fun b u q _ _ _=>k b u q
 slot:=fun b u q _ _ _=>⟨u.slots,k b u q⟩
 free:=fun b u q n _=>by rw[ao (Nat.ne_of_lt (lt_of_lt_of_le (Heap.lt_size q) hp))]; exact n
 there:=fun b u q _=>⟨u,k b u q⟩
 tups:=fun b xs q=>by rw[ao (az q hn)]; exact q
 frzs:=fun b u xs q=>by rw[ao (az q hn)]; exact q
 tbls:=fun b ps q=>⟨#[],by rw[ao (az q hn),q]; simp⟩
theorem Un.write (mu:Mut (H x)) (he:e=x\/H e=some (.own x)) (k:∀ b u,b≠e->h.get? b=some u->h'.get? b=some u) (heo:∃ u,h'.get? e=some u):Un fs ex H (upd H x o) h h':=by
 have hx:∀ b,H b=none->b≠x:=fun b n z=>by subst z; rw[n] at mu; exact mu
 have hb:∀ b,H b=none->b≠e:=fun b n z=>by
  subst z
  rcases he with r | r
  ·exact hx b n r
  ·rw[n] at r; cases r
 have hm:∀ b u,H b=some u->¬ Mut (some u)->b≠x:=fun b u q nm z=>by subst z; rw[q] at mu; exact nm mu
 refine⟨fun b u q n _ _=>k b u (hb b n) q,fun b u q n _ _=>⟨u.slots,k b u (hb b n) q⟩,fun b u q n _=>by rw[ao (hx b n)]; exact n,fun b u q _=>?_,
  fun b xs q=>by rw[ao (hm b _ q fun z=>z)]; exact q,fun b u xs q=>by rw[ao (hm b _ q fun z=>z)]; exact q,fun b ps q=>⟨#[],by rw[ao (hm b _ q fun z=>z),q]; simp⟩⟩
 by_cases hbe:b=e
 ·subst hbe; exact heo
 ·exact⟨u,k b u hbe q⟩
end
def trk (h:Heap) (H:Hp):List Addr:=(List.range h.objs.size).filter fun a=>(H a).isSome
def hidT (h:Heap) (H:Hp):Heap:=PySem.W.hideAll h (trk h H)
theorem rN (h:Heap) (H:Hp):(hidT h H).objs.size=h.objs.size:=PySem.W.hideAll_size _ _
theorem hidT_get {h:Heap}{H:Hp}{b:Addr}{o:Obj}(e:h.get? b=some o) (n:H b=none):(hidT h H).get? b=some o :=
 PySem.W.hideAll_get _ e fun hm=>by
  have q:(H b).isSome=true:=(List.mem_filter.mp hm).2
  rw[n] at q; simp at q
theorem of_hidT {h:Heap}{H:Hp}{b:Addr}{o:Obj}(e:(hidT h H).get? b=some o):h.get? b=some o/\H b=none:=by
 have e':h.get? b=some o:=PySem.W.of_hideAll (trk h H) e
 refine⟨e',?_⟩
 cases q:H b with
 | none=>rfl
 | some x =>
  have hm:b∈trk h H:=List.mem_filter.mpr ⟨List.mem_range.mpr (Heap.lt_size e'),by simp[q]⟩
  have z:(hidT h H).get? b=none:=PySem.W.hideAll_none (trk h H) hm
  rw[z] at e; cases e
end L2
namespace L2
open PySem PySem.Spec PyProof.Rows
structure Mod (K:Frag) (mg:Str->Option Value) (base:Heap):Prop where
 kin:K.In base
 glob:base.Ns mainGlobals mg
 blt:∃ mb,base.Ns builtinsNs mb/\∀ x:Str,x≠"__name__"->mb x=bootBuiltins x
 nolimit:base.NoLimit
structure Cx where
 prog:Program
 w:World
 K:Frag
 mg:Str->Option Value
 base:Heap
 A:Around
 N:List Str
 s₀:Shared
 H₀:Hp
 env:Env
 outer:List Env
 stack:List Env
 ex:List Addr
 fn:Str->Bool
 calm:Bool
 pn:List (Addr×Obj)
 xe:Value->Shared->Prop
def frs (l:List Env):List Addr:=l.filterMap (·.frame)
abbrev Cx.fs (X:Cx):List Addr:=frs X.outer
def Vis (sc:Scope) (x:Str):Prop:=sc.names.lookup x=some .local\/sc.names.lookup x=some .cell\/sc.names.lookup x=some .free
def Loc (sc:Scope) (x:Str):Prop:=sc.names.lookup x=some .local\/sc.names.lookup x=some .cell
def Look (env:Env) (h:Heap) (m:Str->Option Value) (x:Str) (u:Value):Prop :=
 (env.kindOf x=some .local/\m x=some u)\/((env.kindOf x=some .cell\/env.kindOf x=some .free)/\∃ c,env.cells.lookup x=some c/\h.IsCell c (some u))
structure Cx.Ok (X:Cx):Prop where
 mod:Mod X.K X.mg X.base
 kind:X.env.scope.kind=.function
 glob:X.env.globals=mainGlobals
 blt:X.env.builtins=builtinsNs
 above:X.s₀.heap.objs.size<=X.env.locals
 inj:∀ x y c,X.env.cells.lookup x=some c->X.env.cells.lookup y=some c->x=y
 has:∀ x,(X.env.kindOf x=some .cell\/X.env.kindOf x=some .free)->∃ c,X.env.cells.lookup x=some c
 cab:∀ x c,X.fn x=true->X.env.cells.lookup x=some c->X.s₀.heap.objs.size<=c
 hd:X.calm=true->X.A.handled=none
 frames:X.A.frames=some X.stack
 stk:X.stack=X.outer\/(X.stack=X.env::X.outer/\X.env.frame=some X.env.locals)
 exf:∀ b∈X.ex,b≠X.env.locals/\∀ x c,X.env.cells.lookup x=some c->c≠b
 bs:∀ b o,X.base.get? b=some o->X.s₀.heap.get? b=some o/\X.H₀ b=none
 bsz:X.base.objs.size<=X.s₀.heap.objs.size
 noex:∀ b o,X.base.get? b=some o->b∉X.ex
 exfs:∀ b∈X.ex,b∉X.fs
 funs:X.s₀.heap.FunFrames X.base X.outer
 frf:∀ b∈X.fs,X.H₀ b=none
structure Inv (X:Cx) (pins:List (Addr×Obj)) (σ:List (Option V)) (H:Hp) (s:Shared):Prop where
 ok:X.Ok
 os:s.os=X.s₀.os
 bare:AllBare s.gens
 base:Un X.fs X.ex X.H₀ H X.s₀.heap s.heap
 loc:∃ m,s.heap.Ns X.env.locals m/\∀ (i:Nat) (x:Str) (v:V),X.N[i]?=some x->σ[i]?=some (some v)->Vis X.env.scope x->∃ u,RelV v u/\Look X.env s.heap m x u
 cell:∀ x c,X.env.cells.lookup x=some c->∃ v,s.heap.IsCell c v
 free:H X.env.locals=none
 freeC:∀ x c,X.env.cells.lookup x=some c->H c=none
 pin:∀ p∈X.pn++pins,s.heap.get? p.1=some p.2/\H p.1=none/\p.1≠X.env.locals/\p.1∉X.fs/\∀ v,p.2.data≠.cell v
 hok:HOk X.prog X.w H s.heap
 len:σ.length=X.N.length
section
variable {X:Cx}{pins:List (Addr×Obj)}{σ:List (Option V)}{H H':Hp}{s:Shared}{h':Heap}
theorem Cx.Ok.nofr (ok:X.Ok) {b:Addr}{o:Obj}(e:X.base.get? b=some o):b∉X.fs:=fun hb=>by
 have:=(ok.funs.mem hb).1
 rw[e] at this; cases this
theorem Inv.bs (I:Inv X pins σ H s):∀ b o,X.base.get? b=some o->s.heap.get? b=some o/\H b=none:=fun b o e =>
 ⟨I.base.keep b o (I.ok.bs b o e).1 (I.ok.bs b o e).2 (I.ok.nofr e) (I.ok.noex b o e),I.base.free b o (I.ok.bs b o e).1 (I.ok.bs b o e).2 (I.ok.noex b o e)⟩
theorem Inv.bk (I:Inv X pins σ H s):∀ b o,X.base.get? b=some o->s.heap.get? b=some o:=fun b o e=>(I.bs b o e).1
theorem Inv.mod (I:Inv X pins σ H s):Mod X.K X.mg X.base:=I.ok.mod
theorem Inv.kIn (I:Inv X pins σ H s):X.K.In s.heap:=I.ok.mod.kin.keeps I.bk
theorem Inv.nolimit (I:Inv X pins σ H s):s.heap.NoLimit:=I.ok.mod.nolimit.keeps I.bk
theorem Inv.lt (I:Inv X pins σ H s):X.env.locals<s.heap.objs.size:=let ⟨_,hn,_⟩:=I.loc; hn.lt
theorem Inv.sz (I:Inv X pins σ H s):X.s₀.heap.objs.size<=s.heap.objs.size:=Nat.le_trans I.ok.above (Nat.le_of_lt I.lt)
theorem Inv.nofs (I:Inv X pins σ H s) {a:Addr}(h:s.heap.objs.size<=a):a∉X.fs:=fun hb=>by
 obtain⟨_,o,ho,_⟩:=I.ok.funs.mem hb
 exact absurd (lt_of_lt_of_le (Heap.lt_size ho) (Nat.le_trans I.sz h)) (lt_irrefl _)
theorem Inv.cne (I:Inv X pins σ H s):∀ x c,X.env.cells.lookup x=some c->c≠X.env.locals:=fun x c e z=>by
 obtain⟨v,o,ho,hd⟩:=I.cell x c e
 obtain⟨m,⟨o',es,ep,ho',hd',_⟩,_⟩:=I.loc
 rw[z,ho'] at ho; cases ho; rw[hd'] at hd; cases hd
theorem Inv.funs (I:Inv X pins σ H s):s.heap.FunFrames X.base X.outer:=by
 have all:∀ (l:List Env),(∀ b∈frs l,b∈X.fs)->X.s₀.heap.FunFrames X.base l->s.heap.FunFrames X.base l:=by
  intro l
  induction l with
  | nil=>intro _ _; trivial
  | cons env r ih =>
   intro hs hl
   obtain⟨hk,⟨L,o,hf,hn,ho,hd⟩,hr⟩:=hl
   have hL:L∈X.fs:=hs L (by unfold frs; rw[filterMap_cons,hf]; exact mem_cons_self)
   obtain⟨sl,e⟩:=I.base.slot L o ho (I.ok.frf L hL) hL fun z=>I.ok.exfs L z hL
   exact⟨hk,⟨L,_,hf,hn,e,hd⟩,ih (fun b hb=>hs b (by unfold frs; rw[filterMap_cons,hf]; exact mem_cons_of_mem _ hb)) hr⟩
 exact all X.outer (fun _ hb=>hb) I.ok.funs
theorem Inv.stack (I:Inv X pins σ H s):s.heap.FunFrames X.base X.stack:=by
 rcases I.ok.stk with e | ⟨e,hf⟩
 ·rw[e]; exact I.funs
 ·rw[e]
  obtain⟨m,hn,_⟩:=I.loc
  refine .cons (by rw[I.ok.kind]; decide) hf hn ?_ I.funs
  exact Heap.get?_none_of_le (Nat.le_trans I.ok.bsz I.ok.above)
theorem Inv.stkSub (I:Inv X pins σ H s):∀ b∈frs X.stack,b∈X.env.locals::X.fs:=fun b hb=>by
 rcases I.ok.stk with e | ⟨e,hf⟩
 ·rw[e] at hb; exact mem_cons_of_mem _ hb
 ·rw[e] at hb
  unfold frs at hb
  rw[filterMap_cons,hf] at hb
  exact hb
theorem Inv.stkFree (I:Inv X pins σ H s):∀ b∈frs X.stack,H b=none:=fun b hb=>by
 rcases List.mem_cons.mp (I.stkSub b hb) with e | hb
 ·rw[e]; exact I.free
 ·obtain⟨_,o,ho,_⟩:=I.ok.funs.mem hb
  exact I.base.free b o ho (I.ok.frf b hb) fun z=>I.ok.exfs b z hb
theorem Inv.step {g':Array GenState}{t':Nat}{d':Drawn}{ch:List Addr}(I:Inv X pins σ H s)
  (hch:∀ b∈ch,(b∈X.ex\/X.s₀.heap.objs.size<=b)/\b≠X.env.locals/\(∀ x c,X.env.cells.lookup x=some c->c≠b)/\∀ p∈X.pn++pins,p.1≠b)
  (keep:∀ b o,b≠X.env.locals->b∉X.fs->b∉ch->s.heap.get? b=some o->H b=none->h'.get? b=some o)
  (slot:∀ b o,b≠X.env.locals->b∈X.fs->b∉ch->s.heap.get? b=some o->H b=none->∃ sl,h'.get? b=some { o with slots:=sl }) (free:∀ b o,b∉ch->s.heap.get? b=some o->H b=none->H' b=none)
  (there:∀ b o,b∉ch->s.heap.get? b=some o->∃ o',h'.get? b=some o')
  (tups:∀ b xs,H b=some (.tup xs)->H' b=some (.tup xs)) (frzs:∀ b o u,H b=some (.frz o u)->H' b=some (.frz o u)) (tbls:∀ b ps,H b=some (.tbl ps)->∃ more,H' b=some (.tbl (ps++more)))
  (ns:∀ m,s.heap.Ns X.env.locals m->h'.Ns X.env.locals m) (hok:HOk X.prog X.w H' h') (hg:AllBare g') :
  Inv X pins σ H' { s with heap:=h',gens:=g',drawn:=d',toks:=t' }:=by
 have neL:∀ b o,X.s₀.heap.get? b=some o->b≠X.env.locals:=fun b o e=>Nat.ne_of_lt (lt_of_lt_of_le (Heap.lt_size e) I.ok.above)
 have neC:∀ b o,X.s₀.heap.get? b=some o->b∉X.ex->b∉ch:=fun b o e hx hb=>by
  rcases(hch b hb).1 with z | z
  ·exact hx z
  ·exact absurd (lt_of_lt_of_le (Heap.lt_size e) z) (lt_irrefl _)
 have cellK:∀ x c,X.env.cells.lookup x=some c->∀ v,s.heap.IsCell c v->h'.IsCell c v:=fun x c e v ⟨o,ho,hd⟩=>by
  have nch:c∉ch:=fun z=>(hch c z).2.2.1 x c e rfl
  by_cases hc:c∈X.fs
  ·obtain⟨sl,q⟩:=slot c o (I.cne x c e) hc nch ho (I.freeC x c e)
   exact⟨_,q,hd⟩
  ·exact⟨o,keep c o (I.cne x c e) hc nch ho (I.freeC x c e),hd⟩
 refine⟨I.ok,I.os,hg,⟨fun b o e n hb hx=>?_,fun b o e n hb hx=>?_,fun b o e n hx=>?_,fun b o e hx=>?_,fun b xs e=>tups b xs (I.base.tups b xs e),fun b o xs e=>frzs b o xs (I.base.frzs b o xs e),fun b ps e=>?_⟩,?_,fun x c e=>?_,?_,fun x c e=>?_,fun p hp=>?_,hok,I.len⟩
 ·exact keep b o (neL b o e) hb (neC b o e hx) (I.base.keep b o e n hb hx) (I.base.free b o e n hx)
 ·obtain⟨sl,e1⟩:=I.base.slot b o e n hb hx
  obtain⟨sl',e2⟩:=slot b _ (neL b o e) hb (neC b o e hx) e1 (I.base.free b o e n hx)
  exact⟨sl',e2⟩
 ·obtain⟨o',e1⟩:=I.base.there b o e hx
  exact free b o' (neC b o e hx) e1 (I.base.free b o e n hx)
 ·obtain⟨o',e1⟩:=I.base.there b o e hx
  exact there b o' (neC b o e hx) e1
 ·obtain⟨m1,e1⟩:=I.base.tbls b ps e
  obtain⟨m2,e2⟩:=tbls b _ e1
  exact⟨m1++m2,by rw[e2,Array.append_assoc]⟩
 ·obtain⟨m,hn,hl⟩:=I.loc
  refine⟨m,ns m hn,fun i x v e1 e2 e3=>?_⟩
  obtain⟨u,r,l⟩:=hl i x v e1 e2 e3
  refine⟨u,r,?_⟩
  rcases l with l | ⟨k,c,e,z⟩
  ·exact .inl l
  ·exact .inr ⟨k,c,e,cellK x c e _ z⟩
 ·obtain⟨v,z⟩:=I.cell x c e
  exact⟨v,cellK x c e v z⟩
 ·obtain⟨m,⟨o,_,_,ho,_⟩,_⟩:=I.loc
  exact free _ o (fun z=>(hch _ z).2.1 rfl) ho I.free
 ·obtain⟨v,o,ho,hd⟩:=I.cell x c e
  exact free c o (fun z=>(hch c z).2.2.1 x c e rfl) ho (I.freeC x c e)
 ·obtain⟨e,n,ne,nf,d⟩:=I.pin p hp
  have nch:p.1∉ch:=fun z=>(hch p.1 z).2.2.2 p hp rfl
  exact⟨keep p.1 p.2 ne nf nch e n,free p.1 p.2 nch e n,ne,nf,d⟩
theorem Inv.un {t':Nat}(I:Inv X pins σ H s) (u:Un X.fs [] H H' s.heap h') (hok:HOk X.prog X.w H' h'):Inv X pins σ H' { s with heap:=h',toks:=t' }:=by
 obtain⟨m,⟨o,es,ep,ho,r⟩,_⟩:=id I.loc
 obtain⟨sl,hL⟩:=u.any ho I.free (by simp)
 exact I.step (g':=s.gens) (d':=s.drawn) (ch:=[]) (fun _ z=>nomatch z) (fun b o _ hb _ e n=>u.keep b o e n hb (by simp)) (fun b o _ hb _ e n=>u.slot b o e n hb (by simp)) (fun b o _ e n=>u.free b o e n (by simp)) (fun b o _ e=>u.there b o e (by simp)) u.tups u.frzs u.tbls (fun m' hm=>by
  obtain⟨o',es',ep',ho',r'⟩:=hm
  rw[ho] at ho'; cases ho'
  exact⟨_,es',ep',hL,r'⟩) hok I.bare
theorem Inv.call {g':Array GenState}{t':Nat}{d':Drawn}{ch:List Addr}(I:Inv X pins σ H s) (u:Un (frs X.stack) ch H H' s.heap h') (hok:HOk X.prog X.w H' h') (hg:AllBare g')
  (hch:∀ b∈ch,(b∈X.ex\/X.s₀.heap.objs.size<=b)/\b≠X.env.locals/\(∀ x c,X.env.cells.lookup x=some c->c≠b)/\∀ p∈X.pn++pins,p.1≠b) :
  Inv X pins σ H' { s with heap:=h',gens:=g',drawn:=d',toks:=t' }:=by
 obtain⟨m,⟨o,es,ep,ho,r⟩,_⟩:=id I.loc
 obtain⟨sl,hL⟩:=u.any ho I.free fun z=>(hch _ z).2.1 rfl
 exact I.step (ch:=ch) hch (fun b o hL hb hc e n=>u.keep b o e n (fun z=>(List.mem_cons.mp (I.stkSub b z)).elim hL hb) hc) (fun b o _ _ hc e n=>u.any e n hc) (fun b o hc e n=>u.free b o e n hc) (fun b o hc e=>u.there b o e hc) u.tups u.frzs u.tbls (fun m' hm=>by
  obtain⟨o',es',ep',ho',r'⟩:=hm
  rw[ho] at ho'; cases ho'
  exact⟨_,es',ep',hL,r'⟩) hok hg
theorem Inv.turned {t':Nat}{it:Addr}(I:Inv X pins σ H s) (k:∀ b o,b≠it->s.heap.get? b=some o->h'.get? b=some o) (hn:H it=none) (hL:it≠X.env.locals)
  (h1:it∈X.ex\/X.s₀.heap.objs.size<=it) (h2:∀ x c,X.env.cells.lookup x=some c->c≠it) (h3:∀ p∈X.pn++pins,p.1≠it):Inv X pins σ H { s with heap:=h',toks:=t' }:=by
 have nit:∀ b u,H b=some u->b≠it:=fun b u e z=>by rw[z,hn] at e; cases e
 refine I.step (g':=s.gens) (d':=s.drawn) (ch:=[it]) (fun b hb=>?_) (fun b o _ _ hc e _=>k b o (fun z=>hc (by simp[z])) e) (fun b o _ _ hc e _=>⟨o.slots,k b o (fun z=>hc (by simp[z])) e⟩) (fun _ _ _ _ n=>n)
  (fun b o hc e=>⟨o,k b o (fun z=>hc (by simp[z])) e⟩) (fun _ _ e=>e) (fun _ _ _ e=>e) (fun b ps e=>⟨#[],by rw[e]; simp⟩) (fun m hm=>?_) (fun b u e=>?_) I.bare
 ·have e:b=it:=by simpa using hb
  subst e
  exact⟨h1,hL,h2,h3⟩
 ·obtain⟨o,es,ep,ho,r⟩:=hm
  exact⟨o,es,ep,k _ o (Ne.symm hL) ho,r⟩
 ·refine(I.hok b u e).stay (fun c v hc q=>k c v ?_ q) (fun _ q=>q) fun _ _ q=>q
  rcases hc with z | z
  ·rw[z]; exact nit b u e
  ·exact nit c _ z
theorem Inv.tok (I:Inv X pins σ H s) (t:Nat):Inv X pins σ H { s with toks:=t }:=I.un (h':=s.heap) (t':=t) Un.refl I.hok
theorem Inv.kept {t':Nat}(I:Inv X pins σ H s) (k:∀ b u,s.heap.get? b=some u->h'.get? b=some u):Inv X pins σ H { s with heap:=h',toks:=t' }:=I.un (Un.kept k) (I.hok.kept k)
theorem Inv.laid {a:Addr}{o:HO}{t':Nat}(I:Inv X pins σ H s) (k:∀ b u,s.heap.get? b=some u->h'.get? b=some u) (hp:s.heap.objs.size<=a) (new:ObjOk X.prog X.w (upd H a o) h' a o) :
  Inv X pins σ (upd H a o) { s with heap:=h',toks:=t' }:=I.un (Un.laid k hp (I.hok.fresh hp)) (I.hok.laid k hp new)
theorem Inv.write {x e:Addr}{o:HO}{t':Nat}(I:Inv X pins σ H s) (mu:Mut (H x)) (he:e=x\/H e=some (.own x)) (k:∀ b u,b≠e->s.heap.get? b=some u->h'.get? b=some u) (heo:∃ u,h'.get? e=some u)
  (new:ObjOk X.prog X.w (upd H x o) h' x o):Inv X pins σ (upd H x o) { s with heap:=h',toks:=t' }:=I.un (Un.write mu he k heo) (I.hok.write mu he k heo new)
theorem Inv.pins_of {pins':List (Addr×Obj)}(I:Inv X pins σ H s) (h:∀ p∈pins',s.heap.get? p.1=some p.2/\H p.1=none/\p.1≠X.env.locals/\p.1∉X.fs/\∀ v,p.2.data≠.cell v):Inv X pins' σ H s :=
 ⟨I.ok,I.os,I.bare,I.base,I.loc,I.cell,I.free,I.freeC,fun p hp=>(List.mem_append.mp hp).elim (fun z=>I.pin p (mem_append_left _ z)) (h p),I.hok,I.len⟩
theorem kg {N:List Str}(hN:N.Nodup) {i j:Nat}{x:Str}(a:N[i]?=some x) (b:N[j]?=some x):i=j:=by
 obtain⟨h1,e1⟩:=List.getElem?_eq_some_iff.mp a
 obtain⟨h2,e2⟩:=List.getElem?_eq_some_iff.mp b
 exact(List.getElem_inj hN).mp (e1.trans e2.symm)
theorem lT {M:Model}{A:Around}{E:Value->Shared->Prop}{i:Nat}{x:Str}{v:V}{u:Value}{Q:Unit->Shared->Prop}(I:Inv X pins σ H s) (hN:X.N.Nodup) (hi:X.N[i]?=some x) (hx:Loc X.env.scope x) (r:RelV v u)
  (h:∀ s',Inv X pins (σ.set i (some v)) H s'->(∃ a,Heap.SameBut a s.heap s'.heap/\(a=X.env.locals\/X.env.cells.lookup x=some a))->Q () s') (hf:X.fn x=true\/X.env.scope.names.lookup x=some .local:=by first | exact .inl rfl | exact .inr rfl | assumption):wpAny M A (storeName X.env x u) Q E s:=by
 obtain⟨m,hn,hl⟩:=id I.loc
 have hcls:(X.env.scope.kind == .class || (X.env.scope.kind == .module&&X.env.locals != X.env.globals))=false:=by rw[I.ok.kind]; rfl
 have hiσ:i<σ.length:=by rw[I.len]; exact(List.getElem?_eq_some_iff.mp hi).1
 have cne:=I.cne
 have tracked:∀ {a:Addr} {h':Heap},(∃ o,s.heap.get? a=some o/\H a=none)->Heap.SameBut a s.heap h'->HOk X.prog X.w H h':=fun {a h'} ha hs b ob e=>by
  obtain⟨_,_,hfree⟩:=ha
  refine(I.hok b ob e).stay (fun c w' hc q=>(hs.2 c ?_).trans q) (fun _ q=>q) fun _ _ q=>q
  rintro rfl
  rcases hc with rfl | hc
  ·rw[hfree] at e; cases e
  ·rw[hfree] at hc; cases hc
 rcases hx with hk | hk
 ·refine wpAny_storeName_local hk hn (fun h' hn' hs=>?_) hcls
  obtain⟨oL,_,_,hoL,_⟩:=id hn
  refine h _ ⟨I.ok,I.os,I.bare,⟨fun b o e n hb hx=>?_,fun b o e n hb hx=>?_,I.base.free,fun b o e hx=>?_,I.base.tups,I.base.frzs,I.base.tbls⟩,⟨_,hn',fun j y v' e1 e2 e3=>?_⟩,fun y c e=>?_,I.free,I.freeC,fun p hp=>?_,tracked ⟨oL,hoL,I.free⟩ hs,by simpa using I.len⟩ ⟨_,hs,.inl rfl⟩
  ·exact(hs.2 b (Nat.ne_of_lt (lt_of_lt_of_le (Heap.lt_size e) I.ok.above))).trans (I.base.keep b o e n hb hx)
  ·obtain⟨sl,e1⟩:=I.base.slot b o e n hb hx
   exact⟨sl,(hs.2 b (Nat.ne_of_lt (lt_of_lt_of_le (Heap.lt_size e) I.ok.above))).trans e1⟩
  ·obtain⟨o',e1⟩:=I.base.there b o e hx
   exact⟨o',(hs.2 b (Nat.ne_of_lt (lt_of_lt_of_le (Heap.lt_size e) I.ok.above))).trans e1⟩
  ·by_cases hj:j=i
   ·subst hj
    rw[hi] at e1; cases e1
    rw[List.getElem?_set_self hiσ] at e2
    cases e2
    exact⟨u,r,.inl ⟨hk,by simp⟩⟩
   ·rw[List.getElem?_set_ne (Ne.symm hj)] at e2
    obtain⟨u',r',q⟩:=hl j y v' e1 e2 e3
    refine⟨u',r',?_⟩
    rcases q with ⟨k,e⟩ | ⟨k,c,e,z⟩
    ·refine .inl ⟨k,?_⟩
     have:y≠x:=fun e=>hj (kg hN e1 (e ▸ hi))
     simp[this,e]
    ·exact .inr ⟨k,c,e,z.sameBut hs (cne y c e)⟩
  ·obtain⟨w',z⟩:=I.cell y c e
   exact⟨w',z.sameBut hs (cne y c e)⟩
  ·obtain⟨e,n,ne,nf,d⟩:=I.pin p hp
   exact⟨(hs.2 p.1 ne).trans e,n,ne,nf,d⟩
 ·have hfn:X.fn x=true:=by
   rcases hf with z | z
   ·exact z
   ·rw[z] at hk; cases hk
  obtain⟨c,hc⟩:=I.ok.has x (.inl hk)
  obtain⟨w',z⟩:=I.cell x c hc
  refine wpAny_storeName_cell I.ok.kind hk hc z (fun h' hc' hs=>?_)
  obtain⟨oc,hoc,hocd⟩:=id z
  refine h { s with heap:=h' } ⟨I.ok,I.os,I.bare,⟨fun b o e n hb hx=>?_,fun b o e n hb hx=>?_,I.base.free,fun b o e hx=>?_,I.base.tups,I.base.frzs,I.base.tbls⟩,⟨m,hn.sameBut hs (Ne.symm (cne x c hc)),fun j y v' e1 e2 e3=>?_⟩,fun y c' e=>?_,I.free,I.freeC,fun p hp=>?_,tracked ⟨oc,hoc,I.freeC x c hc⟩ hs,by simpa using I.len⟩ ⟨c,hs,.inr hc⟩
  ·exact(hs.2 b (Nat.ne_of_lt (lt_of_lt_of_le (Heap.lt_size e) (I.ok.cab x c hfn hc)))).trans (I.base.keep b o e n hb hx)
  ·obtain⟨sl,e1⟩:=I.base.slot b o e n hb hx
   exact⟨sl,(hs.2 b (Nat.ne_of_lt (lt_of_lt_of_le (Heap.lt_size e) (I.ok.cab x c hfn hc)))).trans e1⟩
  ·obtain⟨o',e1⟩:=I.base.there b o e hx
   exact⟨o',(hs.2 b (Nat.ne_of_lt (lt_of_lt_of_le (Heap.lt_size e) (I.ok.cab x c hfn hc)))).trans e1⟩
  ·by_cases hj:j=i
   ·subst hj
    rw[hi] at e1; cases e1
    rw[List.getElem?_set_self hiσ] at e2
    cases e2
    exact⟨u,r,.inr ⟨.inl hk,c,hc,hc'⟩⟩
   ·rw[List.getElem?_set_ne (Ne.symm hj)] at e2
    obtain⟨u',r',q⟩:=hl j y v' e1 e2 e3
    refine⟨u',r',?_⟩
    rcases q with q | ⟨k,c',e,z'⟩
    ·exact .inl q
    ·refine .inr ⟨k,c',e,z'.sameBut hs ?_⟩
     rintro rfl
     exact hj (kg hN e1 (I.ok.inj _ _ _ e hc ▸ hi))
  ·by_cases hcc:c'=c
   ·subst hcc; exact⟨_,hc'⟩
   ·obtain⟨w2,z2⟩:=I.cell y c' e
    exact⟨w2,z2.sameBut hs hcc⟩
  ·obtain⟨e,n,ne,nf,d⟩:=I.pin p hp
   refine⟨(hs.2 p.1 ?_).trans e,n,ne,nf,d⟩
   intro q
   rw[q,hoc] at e
   have q':oc=p.2:=Option.some.inj e
   exact d w' (by rw[<- q']; exact hocd)
theorem gp {M:Model}{A:Around}{E:Value->Shared->Prop}{i:Nat}{x:Str}{v:V}{u:Value}{Q:Unit->Shared->Prop}(I:Inv X pins σ H s) (hN:X.N.Nodup) (hi:X.N[i]?=some x) (hx:Loc X.env.scope x) (r:RelV v u)
  (h:∀ s',Inv X pins (σ.set i (some v)) H s'->Q () s') (hf:X.fn x=true\/X.env.scope.names.lookup x=some .local:=by first | exact .inl rfl | exact .inr rfl | assumption):wpAny M A (storeName X.env x u) Q E s :=
 lT I hN hi hx r (fun s' I' _=>h s' I') hf
theorem Inv.call' {s':Shared}{ch:List Addr}(I:Inv X pins σ H s) (ho:s'.os=s.os) (u:Un (frs X.stack) ch H H' s.heap s'.heap) (hok:HOk X.prog X.w H' s'.heap) (hg:AllBare s'.gens)
  (hch:∀ b∈ch,(b∈X.ex\/X.s₀.heap.objs.size<=b)/\b≠X.env.locals/\(∀ x c,X.env.cells.lookup x=some c->c≠b)/\∀ p∈X.pn++pins,p.1≠b):Inv X pins σ H' s':=by
 obtain⟨h',g',d',t',o'⟩:=s'
 have e:o'=s.os:=ho
 subst e
 exact I.call (g':=g') (t':=t') (d':=d') u hok hg hch
end
abbrev XK:=Value->Option Addr->Hp->Prop
abbrev St:=List (Option V)
abbrev VK:=V->Hp->Prop
abbrev TE:=St->Hp->VK->Prop
abbrev TT:=St->Hp->(Bool->Hp->Prop)->Prop
abbrev TA:=St->Hp->(List V->Hp->Prop)->Prop
structure Ends where
 nx:St->Hp->Prop
 rt:VK
 bk:St->Hp->Prop:=fun _ _=>False
 ct:St->Hp->Prop:=fun _ _=>False
abbrev TS:=Ends->St->Hp->Prop
def EP (X:Cx) (pins:List (Addr×Obj)) (σ:St) (Q:VK) (u:Value) (s':Shared):Prop:=∃ v H',Inv X pins σ H' s'/\RelV v u/\Q v H'
def TP (X:Cx) (pins:List (Addr×Obj)) (σ:St) (Q:Bool->Hp->Prop) (b:Bool) (s':Shared):Prop:=∃ H',Inv X pins σ H' s'/\Q b H'
def AP (X:Cx) (pins:List (Addr×Obj)) (σ:St) (Q:List V->Hp->Prop) (us:List Value) (s':Shared):Prop:=∃ vs H',Inv X pins σ H' s'/\Vals vs us/\Q vs H'
def SP (X:Cx) (pins:List (Addr×Obj)) (D:Ends) (f:Flow) (s':Shared):Prop :=
 match f with
 | .next=>∃ σ' H',Inv X pins σ' H' s'/\D.nx σ' H'
 | .brk=>∃ σ' H',Inv X pins σ' H' s'/\D.bk σ' H'
 | .cont=>∃ σ' H',Inv X pins σ' H' s'/\D.ct σ' H'
 | .ret u=>∃ v σ' H',Inv X pins σ' H' s'/\RelV v u/\D.rt v H'
def PE (X:Cx) (e:Expr) (t:TE):Prop :=
 ∀ (pins:List (Addr×Obj)) (s:Shared) (σ:St) (H:Hp) (Q:VK),Inv X pins σ H s->t σ H Q->wpAny (model X.prog X.w) X.A (eval e X.env) (EP X pins σ Q) X.xe s
def PT (X:Cx) (e:Expr) (t:TT):Prop :=
 ∀ (pins:List (Addr×Obj)) (s:Shared) (σ:St) (H:Hp) (Q:Bool->Hp->Prop),Inv X pins σ H s->t σ H Q->wpAny (model X.prog X.w) X.A (isTrue e X.env (eval e X.env)) (TP X pins σ Q) X.xe s
def PW (X:Cx) (e:Expr) (t:TT):Prop :=
 ∀ (whole:Sem Value) (pins:List (Addr×Obj)) (s:Shared) (σ:St) (H:Hp) (Q:Bool->Hp->Prop),Inv X pins σ H s->t σ H Q->wpAny (model X.prog X.w) X.A (isTrue e X.env whole) (TP X pins σ Q) X.xe s
theorem PW.pt {X:Cx}{e:Expr}{t:TT}(h:PW X e t):PT X e t:=h _
def PA (X:Cx) (es:List Expr) (t:TA):Prop :=
 ∀ (pos:Pos) (pins:List (Addr×Obj)) (s:Shared) (σ:St) (H:Hp) (Q:List V->Hp->Prop),Inv X pins σ H s->t σ H Q->wpAny (model X.prog X.w) X.A (spliced (backTo pos (starEach es X.env))) (AP X pins σ Q) X.xe s
def PS (X:Cx) (st:Stmt) (t:TS):Prop :=
 ∀ (pins:List (Addr×Obj)) (s:Shared) (σ:St) (H:Hp) (D:Ends),Inv X pins σ H s->t D σ H->wpAny (model X.prog X.w) X.A (exec st X.env) (SP X pins D) X.xe s
def PSs (X:Cx) (st:List Stmt) (t:TS):Prop :=
 ∀ (pins:List (Addr×Obj)) (s:Shared) (σ:St) (H:Hp) (D:Ends),Inv X pins σ H s->t D σ H->wpAny (model X.prog X.w) X.A (execs st X.env) (SP X pins D) X.xe s
theorem thn {α:Type}{t:Sem α}{Q Q':α->Shared->Prop}{M:Model}{A:Around}{E:Value->Shared->Prop}{s:Shared}(h:wpAny M A t Q E s) (hQ:∀ a s,Q a s->Q' a s):wpAny M A t Q' E s:=wpAny_mono h hQ fun _ _ x=>x
end L2
namespace L2
open PySem PySem.Spec PyProof.Rows
section
variable {X:Cx}
def dF (i:Nat):TE:=fun σ H Q=>∃ v,σ[i]?=some (some v)/\Q v H
def tC (v:V):TE:=fun _ H Q=>Q v H
theorem sg {i:Nat}{x:Str}{pos:Pos}(hN:X.N[i]?=some x) (hv:Vis X.env.scope x) (hd:(x == ("__debug__":Str))=false:=by decide) (hcd:(x == ("__classdict__":Str))=false:=by decide):PE X (.Name x pos) (dF i):=by
 intro pins s σ H Q I h
 obtain⟨v,e,h⟩:=h
 obtain⟨m,hn,hl⟩:=I.loc
 obtain⟨u,r,l⟩:=hl i x v hN e hv
 have fin:EP X pins σ Q u s:=⟨v,H,I,r,h⟩
 rcases l with ⟨hk,hm⟩ | ⟨hk,c,hc,hcell⟩
 ·exact wpAny_Name (wpAny_loadName_local I.ok.kind hk hn hm fin) hd
 ·rcases hk with hk | hk
  ·exact wpAny_Name (wpAny_loadName_cell I.ok.kind hk hc hcell fin) hd
  ·exact wpAny_Name (wpAny_loadName_free I.ok.kind hk hc hcell fin hcd) hd
theorem ac {i j pos}:PE X (.Constant (.int i) j pos) (tC (.int i)):=fun _ _ _ H _ I h=>wpAny_Constant_int ⟨.int i,H,I.tok _,⟨_,rfl⟩,h⟩
theorem iB {b j pos}:PE X (.Constant (.bool b) j pos) (tC (.bl b)):=fun _ _ _ H _ I h=>Constant_bool ⟨.bl b,H,I,rfl,h⟩
theorem cE {j pos}:PE X (.Constant .none j pos) (tC .non):=fun _ _ _ H _ I h=>Constant_none ⟨.non,H,I,rfl,h⟩
theorem aM {x j pos}:PE X (.Constant (.str x) j pos) (tC (.str x)):=fun _ _ _ H _ I h=>Calls.Constant_str ⟨.str x,H,I.tok _,⟨_,rfl⟩,h⟩
def Gl (X:Cx) (x:Str):Prop:=X.env.kindOf x=some .globalImplicit
theorem fM {E:Value->Shared->Prop}{pins:List (Addr×Obj)}{s:Shared}{σ:St}{H:Hp}{x:Str}{u:Value}{pos:Pos}{Q:Value->Shared->Prop}(I:Inv X pins σ H s) (hg:Gl X x) (hm:X.mg x=some u) (h:Q u s)
  (hd:(x == ("__debug__":Str))=false:=by decide):wpAny (model X.prog X.w) X.A (eval (.Name x pos) X.env) Q E s :=
 Calls.Name_function_global I.ok.kind hg (Calls.loadGlobal_global (by rw[I.ok.glob]; exact I.mod.glob.keeps I.bk) hm h) hd
theorem lK {E:Value->Shared->Prop}{pins:List (Addr×Obj)}{s:Shared}{σ:St}{H:Hp}{x:Str}{u:Value}{pos:Pos}{Q:Value->Shared->Prop}(I:Inv X pins σ H s) (hg:Gl X x) (hm:X.mg x=none) (hv:bootBuiltins x=some u) (h:Q u s)
  (hn:x≠"__name__":=by decide) (hd:(x == ("__debug__":Str))=false:=by decide):wpAny (model X.prog X.w) X.A (eval (.Name x pos) X.env) Q E s:=by
 obtain⟨mb,h1,h2⟩:=I.mod.blt
 exact Calls.Name_function_global I.ok.kind hg (Calls.loadGlobal_builtin (by rw[I.ok.glob]; exact I.mod.glob.keeps I.bk) hm (by rw[I.ok.blt]; exact h1.keeps I.bk) ((h2 x hn).trans hv) h) hd
theorem pe_glob {x:Str}{v:V}{u:Value}{pos:Pos}(hg:Gl X x) (hm:X.mg x=some u) (r:RelV v u) (hd:(x == ("__debug__":Str))=false:=by decide):PE X (.Name x pos) (tC v) :=
 fun _ _ _ H _ I h=>fM I hg hm ⟨v,H,I,r,h⟩ hd
theorem pe_bltn {x:Str}{v:V}{u:Value}{pos:Pos}(hg:Gl X x) (hm:X.mg x=none) (hv:bootBuiltins x=some u) (r:RelV v u) (hn:x≠"__name__":=by decide) (hd:(x == ("__debug__":Str))=false:=by decide):PE X (.Name x pos) (tC v) :=
 fun _ _ _ H _ I h=>lK I hg hm hv ⟨v,H,I,r,h⟩ hn hd
variable {a b:Expr}{ta tb:TE}{pos:Pos}
def tB (t:TE):TT:=fun σ H Q=>t σ H fun x H1=>∃ c,x=.bl c/\Q c H1
theorem aY {e:Expr}{t:TE}(h:PE X e t) (he:∀ whole,isTrue e X.env whole=(do let v <- whole; standAt e.pos; holding [v] (truthy v)):=by intro _; rfl):PT X e (tB t):=by
 intro pins s σ H Q I hw
 refine isTrue_plain (thn (h pins s σ H _ I hw) fun v s1 ⟨x,H1,I1,r1,q1⟩=>?_) (he _)
 obtain⟨d,rfl,q⟩:=q1
 cases r1
 exact wpAny_truthy_bool ⟨H1,I1,q⟩
variable {tA tB':TT}{rest:List Expr}
def tAnd (t u:TT):TT:=fun σ H Q=>t σ H fun c H1=>if c=true then u σ H1 Q else Q false H1
def tOr (t u:TT):TT:=fun σ H Q=>t σ H fun c H1=>if c=true then Q true H1 else u σ H1 Q
def tNot (t:TT):TT:=fun σ H Q=>t σ H fun c H1=>Q (!c) H1
theorem sA (ha:PT X a tA):PW X (.BoolOp .And [a] pos) tA:=by
 intro wh pins s σ H Q I h
 refine isTrue_and (thn (ha pins s σ H Q I h) fun c s1 e=>?_)
 cases c with
 | true=>exact isTrue_and_nil e
 | false=>exact e
theorem i6 (ha:PT X a tA):PW X (.BoolOp .Or [a] pos) tA:=by
 intro wh pins s σ H Q I h
 refine isTrue_or (thn (ha pins s σ H Q I h) fun c s1 e=>?_)
 cases c with
 | false=>exact isTrue_or_nil e
 | true=>exact e
theorem pw_and (ha:PT X a tA) (hb:PW X (.BoolOp .And (b::rest) pos) tB'):PW X (.BoolOp .And (a::b::rest) pos) (tAnd tA tB'):=by
 intro wh pins s σ H Q I h
 refine isTrue_and (thn (ha pins s σ H _ I h) fun c s1 ⟨H1,I1,q1⟩=>?_)
 cases c with
 | true=>exact hb wh pins s1 σ H1 Q I1 q1
 | false=>exact⟨H1,I1,q1⟩
theorem lr (ha:PT X a tA) (hb:PW X (.BoolOp .Or (b::rest) pos) tB'):PW X (.BoolOp .Or (a::b::rest) pos) (tOr tA tB'):=by
 intro wh pins s σ H Q I h
 refine isTrue_or (thn (ha pins s σ H _ I h) fun c s1 ⟨H1,I1,q1⟩=>?_)
 cases c with
 | true=>exact⟨H1,I1,q1⟩
 | false=>exact hb wh pins s1 σ H1 Q I1 q1
theorem bt (ha:PT X a tA):PT X (.UnaryOp .Not a pos) (tNot tA):=by
 intro pins s σ H Q I h
 exact isTrue_not (ha pins s σ H (fun c H1=>Q (!c) H1) I h)
def tAndV (ta tb:TE):TE:=fun σ H Q=>ta σ H fun x H1=>∃ c,x=.bl c/\if c=true then tb σ H1 Q else Q (.bl false) H1
def tOrV (ta tb:TE):TE:=fun σ H Q=>ta σ H fun x H1=>∃ c,x=.bl c/\if c=true then Q (.bl true) H1 else tb σ H1 Q
def tNotV (ta:TE):TE:=fun σ H Q=>ta σ H fun x H1=>∃ c,x=.bl c/\Q (.bl (!c)) H1
theorem oN {op}{t:TE}(h:PE X a t):PE X (.BoolOp op [a] pos) t:=fun pins s σ H Q I hw=>BoolOp_one (h pins s σ H Q I hw)
theorem rO (ha:PE X a ta) (hb:PE X (.BoolOp .And (b::rest) pos) tb):PE X (.BoolOp .And (a::b::rest) pos) (tAndV ta tb):=by
 intro pins s σ H Q I h
 refine BoolOp_and (thn (ha pins s σ H _ I h) fun v s1 ⟨x,H1,I1,r1,q1⟩=>?_)
 obtain⟨c,rfl,q1⟩:=q1
 cases r1
 refine wpAny_truthy_bool ?_
 cases c with
 | true=>exact hb pins s1 σ H1 Q I1 q1
 | false=>exact⟨.bl false,H1,I1,rfl,q1⟩
theorem pe_or (ha:PE X a ta) (hb:PE X (.BoolOp .Or (b::rest) pos) tb):PE X (.BoolOp .Or (a::b::rest) pos) (tOrV ta tb):=by
 intro pins s σ H Q I h
 refine BoolOp_or (thn (ha pins s σ H _ I h) fun v s1 ⟨x,H1,I1,r1,q1⟩=>?_)
 obtain⟨c,rfl,q1⟩:=q1
 cases r1
 refine wpAny_truthy_bool ?_
 cases c with
 | false=>exact hb pins s1 σ H1 Q I1 q1
 | true=>exact⟨.bl true,H1,I1,rfl,q1⟩
theorem pe_not (ha:PE X a ta):PE X (.UnaryOp .Not a pos) (tNotV ta):=by
 intro pins s σ H Q I h
 refine UnaryOp_ (thn (ha pins s σ H _ I h) fun v s1 ⟨x,H1,I1,r1,q1⟩=>?_)
 obtain⟨c,rfl,q1⟩:=q1
 cases r1
 exact not_of (wpAny_truthy_bool ⟨.bl (!c),H1,I1,rfl,q1⟩)
def tIf (t:TT) (ta tb:TE):TE:=fun σ H Q=>t σ H fun c H1=>if c=true then ta σ H1 Q else tb σ H1 Q
theorem pe_ifExp {c:Expr}(hc:PT X c tA) (ha:PE X a ta) (hb:PE X b tb):PE X (.IfExp c a b pos) (tIf tA ta tb):=by
 intro pins s σ H Q I h
 refine wpAny_IfExp (thn (hc pins s σ H _ I h) fun d s1 ⟨H1,I1,q1⟩=>?_)
 cases d with
 | true=>exact ha pins s1 σ H1 Q I1 q1
 | false=>exact hb pins s1 σ H1 Q I1 q1
end
end L2
namespace L2
open PySem PySem.Spec PyProof.Rows
def SqL (K:Frag) (H:Hp) (a:Addr) (xs:List V):Prop :=
 Rd H a (.lst xs) \/
  ∃ (o:Obj) (its:Array Value) (n:Nat),K.lookup a=some o/\o.cls=.type "list"/\o.dict=none/\o.data=.seq its n/\its.size<=sizeLine/\Vals xs its.toList
def SqT (K:Frag) (H:Hp) (a:Addr) (xs:List V):Prop :=
 Rd H a (.tup xs) \/
  ∃ (o:Obj) (its:Array Value) (n:Nat),K.lookup a=some o/\o.cls=.type "tuple"/\o.data=.seq its n/\its.size<=sizeLine/\Vals xs its.toList
def absV:Value->Option V
 | .none=>some .non
 | .bool b=>some (.bl b)
 | .int i _=>some (.int i)
 | .str x _=>some (.str x)
 | .bytes b _=>some (.byt b)
 | .float b _=>some (.flt b)
 | .ref a=>some (.ref a)
 | .type n=>some (.ty n)
 | _=>none
theorem RelV.abs {x:V}{u:Value}(r:RelV x u):absV u=some x:=by
 cases x with
 | non=>cases r; rfl
 | bl _=>cases r; rfl
 | int _=>obtain⟨t,rfl⟩:=r; rfl
 | str _=>obtain⟨t,rfl⟩:=r; rfl
 | byt _=>obtain⟨t,rfl⟩:=r; rfl
 | flt _=>obtain⟨t,rfl⟩:=r; rfl
 | ref _=>cases r; rfl
 | ty _=>cases r; rfl
theorem RelV.inj {x y:V}{u:Value}(r:RelV x u) (q:RelV y u):x=y:=Option.some.inj (r.abs.symm.trans q.abs)
theorem Vals.inj:∀ {xs ys:List V}{us:List Value},Vals xs us->Vals ys us->xs=ys
 | _,_,_,.nil,.nil=>rfl
 | _,_,_,.cons r t,.cons r' t'=>by rw[r.inj r',Vals.inj t t']
section
variable {X:Cx}{pins:List (Addr×Obj)}{σ:St}{H:Hp}{s:Shared}{a:Addr}{xs ys:List V}
theorem SqL.of {K:Frag}(h:H a=some (.lst xs)):SqL K H a xs:=.inl (.inl h)
theorem SqT.of {K:Frag}(h:H a=some (.tup xs)):SqT K H a xs:=.inl (.inl h)
theorem Inv.list (I:Inv X pins σ H s) (h:SqL X.K H a xs):∃ its:List Value,Vals xs its/\PlainL s.heap a its.toArray/\xs.length<=sizeLine:=by
 rcases h with h | ⟨o,its,n,hk,hc,hd,hs,hz,r⟩
 ·obtain⟨z,its,n,r,e⟩:=h.ok I.hok
  exact⟨its,r,⟨_,n,e,rfl,rfl,rfl⟩,z⟩
 ·refine⟨its.toList,r,⟨o,n,I.kIn a o hk,hc,hd,by simpa using hs⟩,?_⟩
  have e:=r.length
  simp only[Array.length_toList] at e
  omega
theorem Inv.tuple (I:Inv X pins σ H s) (h:SqT X.K H a xs):∃ its:List Value,Vals xs its/\IsTup s.heap a its.toArray/\xs.length<=sizeLine:=by
 rcases h with h | ⟨o,its,n,hk,hc,hs,hz,r⟩
 ·obtain⟨z,its,r,p⟩:=h.ok I.hok
  exact⟨its,r,p,z⟩
 ·refine⟨its.toList,r,⟨o,I.kIn a o hk,hc,n,by simpa using hs⟩,?_⟩
  have e:=r.length
  simp only[Array.length_toList] at e
  omega
theorem Inv.list_inj (I:Inv X pins σ H s) (h:SqL X.K H a xs) (h':SqL X.K H a ys):xs=ys:=by
 obtain⟨its,r,⟨o,n,e,_,_,d⟩,_⟩:=I.list h
 obtain⟨its',r',⟨o',n',e',_,_,d'⟩,_⟩:=I.list h'
 rw[e] at e'; cases e'
 rw[d] at d'
 injection d' with d1 _
 have:its=its':=by simpa using congrArg Array.toList d1
 subst this
 exact r.inj r'
theorem Inv.tuple_inj (I:Inv X pins σ H s) (h:SqT X.K H a xs) (h':SqT X.K H a ys):xs=ys:=by
 obtain⟨its,r,⟨o,e,_,n,d⟩,_⟩:=I.tuple h
 obtain⟨its',r',⟨o',e',_,n',d'⟩,_⟩:=I.tuple h'
 rw[e] at e'; cases e'
 rw[d] at d'
 injection d' with d1 _
 have:its=its':=by simpa using congrArg Array.toList d1
 subst this
 exact r.inj r'
end
abbrev Cx.wish (X:Cx) (E:Value->Shared->Prop):Cx:={ X with xe:=E }
abbrev Cx.nox (X:Cx):Cx:=X.wish fun _ _=>False
theorem Cx.Ok.wish {X:Cx}(ok:X.Ok) (E:Value->Shared->Prop):(X.wish E).Ok :=
 ⟨ok.mod,ok.kind,ok.glob,ok.blt,ok.above,ok.inj,ok.has,ok.cab,ok.hd,ok.frames,ok.stk,ok.exf,ok.bs,ok.bsz,ok.noex,ok.exfs,ok.funs,ok.frf⟩
theorem Cx.Ok.unwish {X:Cx}{E:Value->Shared->Prop}(ok:(X.wish E).Ok):X.Ok :=
 ⟨ok.mod,ok.kind,ok.glob,ok.blt,ok.above,ok.inj,ok.has,ok.cab,ok.hd,ok.frames,ok.stk,ok.exf,ok.bs,ok.bsz,ok.noex,ok.exfs,ok.funs,ok.frf⟩
section
variable {X:Cx}{pins:List (Addr×Obj)}{σ:St}{H:Hp}{s:Shared}{E:Value->Shared->Prop}
theorem Inv.wish (I:Inv X pins σ H s) (E:Value->Shared->Prop):Inv (X.wish E) pins σ H s:=⟨I.ok.wish E,I.os,I.bare,I.base,I.loc,I.cell,I.free,I.freeC,I.pin,I.hok,I.len⟩
theorem Inv.unwish (I:Inv (X.wish E) pins σ H s):Inv X pins σ H s:=⟨I.ok.unwish,I.os,I.bare,I.base,I.loc,I.cell,I.free,I.freeC,I.pin,I.hok,I.len⟩
theorem SP.unwish {D:Ends}{f:Flow}{s':Shared}(h:SP (X.wish E) pins D f s'):SP X pins D f s':=by
 cases f with
 | next=>obtain⟨σ',H',I,q⟩:=h; exact⟨σ',H',I.unwish,q⟩
 | brk=>obtain⟨σ',H',I,q⟩:=h; exact⟨σ',H',I.unwish,q⟩
 | cont=>obtain⟨σ',H',I,q⟩:=h; exact⟨σ',H',I.unwish,q⟩
 | ret u=>obtain⟨v,σ',H',I,r,q⟩:=h; exact⟨v,σ',H',I.unwish,r,q⟩
theorem PE.nox {e:Expr}{t:TE}(h:PE X.nox e t):PE X e t:=fun pins s σ H Q I hw =>
 wpAny_mono (h pins s σ H Q (I.wish _) hw) (fun _ _ ⟨v,H',I',r,q⟩=>⟨v,H',I'.unwish,r,q⟩) fun _ _ z=>False.elim z
theorem PSs.nox {st:List Stmt}{t:TS}(h:PSs X.nox st t):PSs X st t:=fun pins s σ H D I hw =>
 wpAny_mono (h pins s σ H D (I.wish _) hw) (fun _ _ q=>q.unwish) fun _ _ z=>False.elim z
end
section
variable {X:Cx}{st:Stmt}{rest:List Stmt}{t u:TS}{e:Expr}{te:TE}{pos:Pos}
def tNext:TS:=fun D σ H=>D.nx σ H
def tSeq (t u:TS):TS:=fun D σ H=>t { D with nx:=u D } σ H
theorem au:PSs X [] tNext:=fun _ _ σ H _ I h=>wpAny_execs_nil ⟨σ,H,I,h⟩
theorem af (h1:PS X st t) (h2:PSs X rest u):PSs X (st::rest) (tSeq t u):=by
 intro pins s σ H D I h
 refine wpAny_execs_cons (thn (h1 pins s σ H { D with nx:=u D } I h) fun f s1 q=>?_)
 cases f with
 | next =>
  obtain⟨σ',H',I',q⟩:=q
  exact h2 pins s1 σ' H' D I' q
 | ret v=>exact q
 | brk=>exact q
 | cont=>exact q
theorem ag (h1:PS X st t):PSs X [st] t:=by
 intro pins s σ H D I h
 refine wpAny_execs_cons (thn (h1 pins s σ H D I h) fun f s1 q=>?_)
 cases f with
 | next=>exact wpAny_execs_nil q
 | ret v=>exact q
 | brk=>exact q
 | cont=>exact q
theorem Inv.quiet {pins:List (Addr×Obj)}{σ:St}{H:Hp}{s:Shared}(I:Inv X pins σ H s):interactive X.env=false:=by simp[interactive,I.ok.kind]
def tDrop (te:TE):TS:=fun D σ H=>te σ H fun _ H1=>D.nx σ H1
theorem aF (he:PE X e te) (hs:swapsWith e none pos.line X.env=pure false:=by rfl):PS X (.Expr e pos) (tDrop te):=by
 intro pins s σ H D I h
 exact wpAny_Expr_any (thn (he pins s σ H _ I h) fun v s1 ⟨x,H1,I1,r1,q1⟩=>⟨σ,H1,I1,q1⟩) I.quiet hs
def tRet (te:TE):TS:=fun D σ H=>te σ H D.rt
theorem aq (he:PE X e te):PS X (.Return (some e) pos) (tRet te):=by
 intro pins s σ H D I h
 exact wpAny_Return_some (thn (he pins s σ H _ I h) fun v s1 ⟨x,H1,I1,r1,q1⟩=>⟨x,σ,H1,I1,r1,q1⟩)
def tIfS (c:TT) (t u:TS):TS:=fun D σ H=>c σ H fun b H1=>if b=true then t D σ H1 else u D σ H1
theorem aB {c:Expr}{a b:List Stmt}{tc:TT}(hc:PT X c tc) (ha:PSs X a t) (hb:PSs X b u):PS X (.If c a b pos) (tIfS tc t u):=by
 intro pins s σ H D I h
 refine wpAny_If (thn (hc pins s σ H _ I h) fun d s1 ⟨H1,I1,q1⟩=>?_)
 cases d with
 | true=>exact ha pins s1 σ H1 D I1 q1
 | false=>exact hb pins s1 σ H1 D I1 q1
def tNever:TS:=fun _ _ _=>False
theorem fZ:PS X st tNever:=fun _ _ _ _ _ _ h=>h.elim
end
abbrev TG:=V->St->Hp->(St->Hp->Prop)->Prop
def PG (X:Cx) (target:Expr) (t:TG):Prop :=
 ∀ (pins:List (Addr×Obj)) (s:Shared) (σ:St) (H:Hp) (v:V) (u:Value) (Q:St->Hp->Prop),Inv X pins σ H s->RelV v u->t v σ H Q ->
  wpAny (model X.prog X.w) X.A (assign target X.env u) (fun _ s'=>∃ σ' H',Inv X pins σ' H' s'/\Q σ' H') X.xe s
abbrev TSet:=V->V->V->Hp->(Hp->Prop)->Prop
def PSet (X:Cx) (t:TSet):Prop :=
 ∀ (pins:List (Addr×Obj)) (s:Shared) (σ:St) (H:Hp) (o i v:V) (ov iv u:Value) (Q:Hp->Prop),Inv X pins σ H s->RelV o ov->RelV i iv->RelV v u->t o i v H Q ->
  wpAny (model X.prog X.w) X.A (setItem ov iv u) (fun _ s'=>∃ H',Inv X pins σ H' s'/\Q H') X.xe s
section
variable {X:Cx}{pos:Pos}
def lA (i:Nat):TG:=fun v σ H Q=>Q (σ.set i (some v)) H
theorem fE {i:Nat}{x:Str}(hN:X.N.Nodup) (hi:X.N[i]?=some x) (hx:Loc X.env.scope x) (hf:X.fn x=true\/X.env.scope.names.lookup x=some .local:=by first | exact .inl rfl | exact .inr rfl | assumption):PG X (.Name x pos) (lA i):=by
 intro pins s σ H v u Q I r h
 exact wpAny_assign_Name (gp I hN hi hx r (fun s' I'=>⟨_,H,I',h⟩) hf)
def gSub (to ti:TE) (t:TSet):TG:=fun v σ H Q=>to σ H fun o H1=>ti σ H1 fun i H2=>t o i v H2 fun H3=>Q σ H3
theorem iq {o i:Expr}{to ti:TE}{t:TSet}(ho:PE X o to) (hi:PE X i ti) (hs:PSet X t)
  (ha:∀ v,assign (.Subscript o i pos) X.env v=(do
   let ov <- holding [v] (eval o X.env)
   let iv <- holding [v,ov] (eval i X.env)
   standAt pos
   holding [v,ov,iv] (setItem ov iv v)
   release [v,ov,iv] []):=by intro _; rfl):PG X (.Subscript o i pos) (gSub to ti t):=by
 intro pins s σ H v u Q I r h
 rw[ha]
 refine wpAny_bind (wpAny_holding (thn (ho pins s σ H _ I h) fun ov s1 ⟨x,H1,I1,r1,q1⟩=>?_))
 refine wpAny_bind (wpAny_holding (thn (hi pins s1 σ H1 _ I1 q1) fun iv s2 ⟨y,H2,I2,r2,q2⟩=>?_))
 refine wpAny_bind (wpAny_standAt (wpAny_bind (wpAny_holding (thn (hs pins s2 σ H2 x y v ov iv u _ I2 r1 r2 r q2) fun _ s3 ⟨H3,I3,q3⟩=>?_))))
 exact wpAny_release ⟨σ,H3,I3,q3⟩
def tAsg (te:TE) (g:TG):TS:=fun D σ H=>te σ H fun x H1=>g x σ H1 D.nx
theorem gr {tg e:Expr}{te:TE}{g:TG}(he:PE X e te) (hg:PG X tg g) (hs:swapsWithSole [tg] e pos.line X.env=pure false:=by rfl) (hw:swappedStores [tg] e X.env=pure none:=by rfl)
  (h1:(assignEach [tg] X.env).map (·.2)=[assign tg X.env]:=by rfl):PS X (.Assign [tg] e pos) (tAsg te g):=by
 intro pins s σ H D I h
 refine wpAny_Assign_stores (thn (he pins s σ H _ I h) fun v s1 ⟨x,H1,I1,r1,q1⟩=>?_) hs hw
 rw[h1]
 exact thn (hg pins s1 σ H1 x v _ I1 r1 q1) fun _ s2 q=>q
theorem aw {i:Nat}{x:Str}{e:Expr}{te:TE}{pos':Pos}(hN:X.N.Nodup) (hi:X.N[i]?=some x) (hx:Loc X.env.scope x) (he:PE X e te) (hs:swapsWith e (some (.Name x pos')) pos.line X.env=pure false:=by rfl) (hf:X.fn x=true\/X.env.scope.names.lookup x=some .local:=by first | exact .inl rfl | exact .inr rfl | assumption) :
  PS X (.Assign [.Name x pos'] e pos) (tAsg te (lA i)):=by
 intro pins s σ H D I h
 refine wpAny_Assign_Name (thn (he pins s σ H _ I h) fun v s1 ⟨y,H1,I1,r1,q1⟩=>?_) hs
 exact gp I1 hN hi hx r1 (fun s2 I2=>⟨_,H1,I2,q1⟩) hf
end
section
variable {X:Cx}{pos:Pos}
def tWhile (c:TT) (tb:TS):TS:=fun D σ H=>∃ W:Nat->St->Hp->Prop,(∃ m,W m σ H)/\∀ m σ H,W m σ H ->
 c σ H fun b H1=>if b=true then ∃ N:St->Hp->Prop,(∀ σ' H',N σ' H'->∃ m',m'<m/\W m' σ' H')/\tb { D with nx:=N,ct:=N,bk:=D.nx } σ H1 else D.nx σ H1
theorem iK {c:Expr}{body:List Stmt}{tc:TT}{tb:TS}(hp:PassesOwn (model X.prog X.w) X.A X.env X.xe) (hc:PT X c tc) (hb:PSs X body tb):PS X (.While c body [] pos) (tWhile tc tb):=by
 intro pins s σ H D I h
 obtain⟨W,⟨m0,w0⟩,turn⟩:=h
 refine wpAny_While (codeAny_whileLoop (fun n s'=>∃ σ' H',Inv X pins σ' H' s'/\W n σ' H') ?_ m0 ⟨σ,H,I,w0⟩)
 rintro n s1 ⟨σ1,H1,I1,w1⟩
 refine wpAny_passesOwn hp (thn (hc pins s1 σ1 H1 _ I1 (turn n σ1 H1 w1)) fun b s2 ⟨H2,I2,q2⟩=>?_)
 cases b with
 | true =>
  obtain⟨N,hN,q2⟩:=q2
  rw[if_pos rfl]
  refine wpAny_passesOwn hp (thn (hb pins s2 σ1 H2 _ I2 q2) fun f s3 q3=>?_)
  cases f with
  | next =>
   obtain⟨σ3,H3,I3,n3⟩:=q3
   obtain⟨m',hm,w3⟩:=hN σ3 H3 n3
   exact⟨m',hm,σ3,H3,I3,w3⟩
  | cont =>
   obtain⟨σ3,H3,I3,n3⟩:=q3
   obtain⟨m',hm,w3⟩:=hN σ3 H3 n3
   exact⟨m',hm,σ3,H3,I3,w3⟩
  | brk=>exact q3
  | ret v=>exact q3
 | false =>
  rw[if_neg Bool.false_ne_true]
  exact wpAny_execs_nil ⟨σ1,H2,I2,q2⟩
end
structure It where
 go:Nat->Hp->Prop
 yld:Nat->Hp->V->Hp->Prop
 stop:Nat->Hp->Prop
def jU (X:Cx) (pins:List (Addr×Obj)) (H:Hp) (b:Addr):Prop :=
 H b=none/\b≠X.env.locals/\b∉X.fs/\(b∈X.ex\/X.s₀.heap.objs.size<=b)/\(∀ x c,X.env.cells.lookup x=some c->c≠b)/\∀ p∈X.pn++pins,p.1≠b
theorem Inv.fpOk {X:Cx}{pins:List (Addr×Obj)}{σ:St}{H H':Hp}{s:Shared}{b:Addr}(I:Inv X pins σ H s) (hb:s.heap.objs.size<=b) (hn:H' b=none):jU X pins H' b:=by
 refine⟨hn,Nat.ne_of_gt (lt_of_lt_of_le I.lt hb),I.nofs hb,.inr (Nat.le_trans I.sz hb),fun x c e z=>?_,fun p hp z=>?_⟩
 ·obtain⟨v,q⟩:=I.cell x c e
  exact absurd (lt_of_lt_of_le q.lt (by rw[z]; exact hb)) (lt_irrefl _)
 ·exact absurd (lt_of_lt_of_le (Heap.lt_size (I.pin p hp).1) (by rw[z]; exact hb)) (lt_irrefl _)
structure Turn (P:Program) (w:World) (K:Frag) (tg:Expr) (J:It) (fp:List Addr) (it:Addr) (tn:Nat->Heap->Prop):Prop where
 mem:it∈fp
 obj:∀ i h,tn i h->∀ b∈fp,∃ o,h.get? b=some o/\∀ v,o.data≠.cell v
 keep:∀ i h h',tn i h->(∀ b∈fp,∀ o,h.get? b=some o->h'.get? b=some o)->tn i h'
 item:∀ (X:Cx),X.prog=P->X.w=w->X.K=K->X.calm=true->∀ (i:Nat) (pins:List (Addr×Obj)) (s:Shared) (σ:St) (H:Hp) (E:Value->Shared->Prop),Inv X pins σ H s->(∀ b∈fp,jU X pins H b)->tn i s.heap->J.go i H ->
  wpAny (model P w) X.A (pyNext (.ref it)) (fun r s1=>∃ u,r=some u /\
   wpAny (model P w) X.A (letOwnedTupleGo tg (.ref it) u) (fun _ s2=>∃ x H',Inv X pins σ H' s2/\RelV x u/\J.yld i H x H'/\tn (i+1) s2.heap/\∀ b∈fp,H' b=none) E s1) E s
 done:∀ (X:Cx),X.prog=P->X.w=w->X.K=K->X.calm=true->∀ (i:Nat) (pins:List (Addr×Obj)) (s:Shared) (σ:St) (H:Hp) (E:Value->Shared->Prop),Inv X pins σ H s->(∀ b∈fp,jU X pins H b)->tn i s.heap->J.stop i H ->
  wpAny (model P w) X.A (pyNext (.ref it)) (fun r s1=>r=none/\Inv X pins σ H s1) E s
 self:∀ (A:Around) (i:Nat) (s:Shared) (Q:Value->Shared->Prop) (E:Value->Shared->Prop),tn i s.heap->Q (.ref it) s->wpAny (model P w) A (pyIter (.ref it)) Q E s
abbrev TI:=St->Hp->(It->Hp->Prop)->Prop
def PIE (X:Cx) (pins:List (Addr×Obj)) (σ:St) (tg:Expr) (R:It->Hp->Prop) (itv:Value) (s2:Shared):Prop :=
 ∃ (it:Addr) (fp:List Addr) (tn:Nat->Heap->Prop) (J:It) (H':Hp),itv=.ref it/\Inv X pins σ H' s2/\Turn X.prog X.w X.K tg J fp it tn/\tn 0 s2.heap/\(∀ b∈fp,jU X pins H' b)/\R J H'
def PI (X:Cx) (tg iter:Expr) (wi:TI):Prop :=
 ∀ (pins:List (Addr×Obj)) (s:Shared) (σ:St) (H:Hp) (R:It->Hp->Prop),Inv X pins σ H s->wi σ H R ->
  wpAny (model X.prog X.w) X.A (eval iter X.env) (fun v s1=>wpAny (model X.prog X.w) X.A (pyIter v) (PIE X pins σ tg R) X.xe s1) X.xe s
theorem go_of {M:Model}{A:Around}{E:Value->Shared->Prop}{s:Shared}{tg:Expr}{it:Addr}{u:Value}{o:Obj}{n:String}{vs:Array Value}{Q:Unit->Shared->Prop}(ho:s.heap.get? it=some o) (hc:o.cls=.type n) (hd:o.data=.fields vs)
  (hn:["enumerate","zip","dict_itemiterator","dict_reverseitemiterator","odict_iterator","itertools.zip_longest","itertools.pairwise"].contains n=false) (hQ:Q () s):wpAny M A (letOwnedTupleGo tg (.ref it) u) Q E s:=by
 unfold letOwnedTupleGo
 cases tg <;> first
  | exact wpAny_pure hQ
  | (cases u <;> first
    | exact wpAny_pure hQ
    | (refine wpAny_bind (wpAny_load ho ?_)
       rw[hc,hd]
       show wpAny M A (if (["enumerate","zip","dict_itemiterator","dict_reverseitemiterator","odict_iterator","itertools.zip_longest","itertools.pairwise"].contains n&&vs[0]? == some (rawInt _))=true then _ else _) Q E s
       rw[if_neg (by intro h; rw[hn,Bool.false_and] at h; cases h)]
       exact wpAny_pure hQ))
def Itl (K:Frag) (a:Addr):It :=
 ⟨fun i H=>∃ xs x,SqL K H a xs/\xs[i]?=some x,fun i H x H'=>H'=H/\∀ xs,SqL K H a xs->xs[i]?=some x,fun i H=>∃ xs,SqL K H a xs/\xs.length<=i⟩
def Itt (K:Frag) (a:Addr):It :=
 ⟨fun i H=>∃ xs x,SqT K H a xs/\xs[i]?=some x,fun i H x H'=>H'=H/\∀ xs,SqT K H a xs->xs[i]?=some x,fun i H=>∃ xs,SqT K H a xs/\xs.length<=i⟩
def Itr (lo:Int) (n:Nat):It:=⟨fun i _=>i<n,fun i H x H'=>H'=H/\x=.int (lo+i),fun i _=>n<=i⟩
theorem sP {P:Program}{w:World}{K:Frag}{tg:Expr}(a it:Addr):Turn P w K tg (Itl K a) [it] it (fun i h=>h.IsListIter it a i) where
 mem:=by simp
 obj:=fun i h st b hb=>by
  have e:b=it:=by simpa using hb
  subst e
  obtain⟨o,e,c,d⟩:=st
  exact⟨o,e,fun v z=>by rw[d] at z; cases z⟩
 keep:=fun i h h' st k=>st.at fun o e=>k it (by simp) o e
 item:=by
  intro X hP hw hK hc i pins s σ H E I hf st hg
  subst hP hw hK
  obtain⟨xs,x,hq,hx⟩:=hg
  obtain⟨its,rv,p,hz⟩:=I.list hq
  obtain⟨u,hu,ru⟩:=rv.get hx
  obtain⟨f0,f1,f2,f3,f4,f5⟩:=hf it (by simp)
  refine wpAny_pyNext_list_item st p.isList (x:=u) (by simpa using hu) fun h' st' sb=>?_
  have I1:Inv X pins σ H { s with heap:=h' }:=I.turned (t':=s.toks) (fun b o hb e=>(sb.2 b hb).trans e) f0 f1 f3 f4 f5
  obtain⟨o,e,c,d⟩:=id st'
  exact⟨u,rfl,go_of (s:={ s with heap:=h' }) e c d (by decide) ⟨x,H,I1,ru,⟨rfl,fun ys hy=>by rw[I.list_inj hy hq]; exact hx⟩,st',fun b hb=>(hf b hb).1⟩⟩
 done:=by
  intro X hP hw hK hc i pins s σ H E I hf st hg
  subst hP hw hK
  obtain⟨xs,hq,hx⟩:=hg
  obtain⟨its,rv,p,hz⟩:=I.list hq
  obtain⟨f0,f1,f2,f3,f4,f5⟩:=hf it (by simp)
  have hl:=rv.length
  exact wpAny_pyNext_list_end (I.ok.hd hc) st p.isList (by simp; omega) fun h' eb=>⟨rfl,I.turned (t':=s.toks) (fun b o hb e=>eb b o hb e) f0 f1 f3 f4 f5⟩
 self:=fun _ _ _ _ _ st h=>wpAny_pyIter_listiter st h
theorem pG {P:Program}{w:World}{K:Frag}{tg:Expr}(a it:Addr):Turn P w K tg (Itt K a) [it] it (fun i h=>h.IsTupleIter it a i) where
 mem:=by simp
 obj:=fun i h st b hb=>by
  have e:b=it:=by simpa using hb
  subst e
  obtain⟨o,e,c,d⟩:=st
  exact⟨o,e,fun v z=>by rw[d] at z; cases z⟩
 keep:=fun i h h' st k=>st.at fun o e=>k it (by simp) o e
 item:=by
  intro X hP hw hK hc i pins s σ H E I hf st hg
  subst hP hw hK
  obtain⟨xs,x,hq,hx⟩:=hg
  obtain⟨its,rv,p,hz⟩:=I.tuple hq
  obtain⟨u,hu,ru⟩:=rv.get hx
  obtain⟨f0,f1,f2,f3,f4,f5⟩:=hf it (by simp)
  refine wpAny_pyNext_tuple_item st (show s.heap.IsTuple a its.toArray from p) (x:=u) (by simpa using hu) fun h' st' sb=>?_
  have I1:Inv X pins σ H { s with heap:=h' }:=I.turned (t':=s.toks) (fun b o hb e=>(sb.2 b hb).trans e) f0 f1 f3 f4 f5
  obtain⟨o,e,c,d⟩:=id st'
  exact⟨u,rfl,go_of (s:={ s with heap:=h' }) e c d (by decide) ⟨x,H,I1,ru,⟨rfl,fun ys hy=>by rw[I.tuple_inj hy hq]; exact hx⟩,st',fun b hb=>(hf b hb).1⟩⟩
 done:=by
  intro X hP hw hK hc i pins s σ H E I hf st hg
  subst hP hw hK
  obtain⟨xs,hq,hx⟩:=hg
  obtain⟨its,rv,p,hz⟩:=I.tuple hq
  obtain⟨f0,f1,f2,f3,f4,f5⟩:=hf it (by simp)
  have hl:=rv.length
  exact wpAny_pyNext_tuple_end (I.ok.hd hc) st (show s.heap.IsTuple a its.toArray from p) (by simp; omega) fun h' eb=>⟨rfl,I.turned (t':=s.toks) (fun b o hb e=>eb b o hb e) f0 f1 f3 f4 f5⟩
 self:=fun _ _ _ _ _ st h=>wpAny_pyIter_tupleiter st h
theorem pH {P:Program}{w:World}{K:Frag}{tg:Expr}(it:Addr) (lo:Int) (n:Nat):Turn P w K tg (Itr lo n) [it] it (fun i h=>IsRangeIter h it (lo+(i:Nat)*1) ((n:Int)-(i:Nat)) 1) where
 mem:=by simp
 obj:=fun i h st b hb=>by
  have e:b=it:=by simpa using hb
  subst e
  exact⟨_,st,fun v z=>by
   have z':Data.fields _=Data.cell v:=z
   cases z'⟩
 keep:=fun i h h' st k=>k it (by simp) _ st
 item:=by
  intro X hP hw hK hc i pins s σ H E I hf st hg
  subst hP hw hK
  obtain⟨f0,f1,f2,f3,f4,f5⟩:=hf it (by simp)
  have W:=Walks.range (prog:=X.prog) (w:=X.w) (I.ok.hd hc) it lo 1 n
  refine W.item i s _ _ hg st fun v h' tk hv st' kk=>?_
  obtain⟨t,rfl⟩:=hv
  have I1:Inv X pins σ H { s with heap:=h',toks:=tk }:=I.turned (fun b o hb e=>kk b o (by simpa using hb) e) f0 f1 f3 f4 f5
  refine⟨_,rfl,go_of (s:={ s with heap:=h',toks:=tk }) (n:="range_iterator") st' rfl rfl (by decide) ⟨.int (lo+i),H,I1,⟨t,?_⟩,⟨rfl,rfl⟩,st',fun b hb=>(hf b hb).1⟩⟩
  rw[mul_one]
 done:=by
  intro X hP hw hK hc i pins s σ H E I hf st hg
  subst hP hw hK
  obtain⟨f0,f1,f2,f3,f4,f5⟩:=hf it (by simp)
  exact wpAny_pyNext_range_end (I.ok.hd hc) st (by have:n<=i:=hg; omega) fun h' eb=>⟨rfl,I.turned (t':=s.toks) (fun b o hb e=>eb b o hb e) f0 f1 f3 f4 f5⟩
 self:=fun _ _ _ _ _ st h=>wpAny_pyIter_rangeiter st h
end L2
namespace L2
open PySem PySem.Spec PyProof.Rows
section
variable {X:Cx}{tg:Expr}
def iList (K:Frag) (tl:TE):TI:=fun σ H R=>tl σ H fun x H1=>∃ a,x=.ref a/\(∃ xs,SqL K H1 a xs)/\R (Itl K a) H1
def iTup (K:Frag) (tl:TE):TI:=fun σ H R=>tl σ H fun x H1=>∃ a,x=.ref a/\(∃ xs,SqT K H1 a xs)/\R (Itt K a) H1
theorem i0 {l:Expr}{tl:TE}(hl:PE X l tl):PI X tg l (iList X.K tl):=by
 intro pins s σ H R I h
 refine thn (hl pins s σ H _ I h) fun v s1 ⟨x,H1,I1,r1,q1⟩=>?_
 obtain⟨a,e,⟨xs,hq⟩,q⟩:=q1
 subst e
 cases r1
 obtain⟨its,rv,p,hz⟩:=I1.list hq
 refine wpAny_pyIter_list p.isList ?_
 refine⟨s1.heap.objs.size,[s1.heap.objs.size],_,_,H1,rfl,I1.kept (t':=s1.toks) fun b o e=>Heap.get?_push_of_some _ e,sP a _,⟨_,Heap.get?_push_size _ rfl,rfl,rfl⟩,fun b hb=>?_,q⟩
 have e:b=s1.heap.objs.size:=by simpa using hb
 subst e
 exact I1.fpOk (Nat.le_refl _) (I1.hok.fresh (Nat.le_refl _))
theorem pi_tup {l:Expr}{tl:TE}(hl:PE X l tl):PI X tg l (iTup X.K tl):=by
 intro pins s σ H R I h
 refine thn (hl pins s σ H _ I h) fun v s1 ⟨x,H1,I1,r1,q1⟩=>?_
 obtain⟨a,e,⟨xs,hq⟩,q⟩:=q1
 subst e
 cases r1
 obtain⟨its,rv,p,hz⟩:=I1.tuple hq
 refine wpAny_pyIter_tuple (show s1.heap.IsTuple a its.toArray from p) ?_
 refine⟨s1.heap.objs.size,[s1.heap.objs.size],_,_,H1,rfl,I1.kept (t':=s1.toks) fun b o e=>Heap.get?_push_of_some _ e,pG a _,⟨_,Heap.get?_push_size _ rfl,rfl,rfl⟩,fun b hb=>?_,q⟩
 have e:b=s1.heap.objs.size:=by simpa using hb
 subst e
 exact I1.fpOk (Nat.le_refl _) (I1.hok.fresh (Nat.le_refl _))
theorem range_it {pins:List (Addr×Obj)}{σ:St}{H:Hp}{s:Shared}{R:It->Hp->Prop}{E:Value->Shared->Prop}{lo hi:Int}{t u v:Tok}{tk:Nat}(I:Inv X pins σ H s) (h1:-(2^62)<=lo) (h2:lo<2^62) (h3:-(2^62)<=hi) (h4:hi<2^62)
  (q:R (Itr lo (hi-lo).toNat) H):wpAny (model X.prog X.w) X.A (pyIter (.ref s.heap.objs.size)) (PIE X pins σ tg R) E { s with heap:=s.heap.push { cls:=.type "range",data:=.fields #[.int lo t,.int hi u,.int 1 v] },toks:=tk }:=by
 refine wpAny_pyIter_range (IsRange.new ..) (small_one h1 h2 h3 h4) ?_
 have I1:Inv X pins σ H { s with heap:=s.heap.push { cls:=.type "range",data:=.fields #[.int lo t,.int hi u,.int 1 v] },toks:=tk }:=I.kept fun b o e=>Heap.get?_push_of_some _ e
 refine⟨(s.heap.push { cls:=.type "range",data:=.fields #[.int lo t,.int hi u,.int 1 v] }).objs.size,[(s.heap.push { cls:=.type "range",data:=.fields #[.int lo t,.int hi u,.int 1 v] }).objs.size],_,_,H,rfl,
  I1.kept (t':=tk) fun b o e=>Heap.get?_push_of_some _ e,pH _ lo (hi-lo).toNat,?_,fun b hb=>?_,q⟩
 ·have e1:lo+((0:Nat):Int)*1=lo:=by simp
  have e2:(((hi-lo).toNat:Nat):Int)-((0:Nat):Int)=Builtin.Range.rangeSize lo hi 1:=by rw[rangeSize_one]; split <;> omega
  show IsRangeIter _ _ (lo+((0:Nat):Int)*1) ((((hi-lo).toNat:Nat):Int)-((0:Nat):Int)) 1
  rw[e1,e2]
  exact Heap.get?_push_size _ rfl
 ·have e:b=(s.heap.push { cls:=.type "range",data:=.fields #[.int lo t,.int hi u,.int 1 v] }).objs.size:=by simpa using hb
  subst e
  exact I1.fpOk (Nat.le_refl _) (I1.hok.fresh (Nat.le_refl _))
def iRng1 (ta:TA):TI:=fun σ H R=>ta σ H fun vs H1=>∃ j:Int,vs=[.int j]/\-(2^62)<=j/\j<2^62/\R (Itr 0 j.toNat) H1
theorem cA {a:Expr}{ta:TA}{p pos:Pos}(hg:Gl X "range") (hm:X.mg "range"=none) (ha:PA X [a] ta) (hs:starEach [a] X.env=[(false,eval a X.env)]:=by rfl):PI X tg (.Call (.Name "range" p) [a] [] pos) (iRng1 ta):=by
 intro pins s σ H R I h
 refine Call_ (lK I hg hm boot_range (PyProof.Rows.callWith_type1 (thn (ha pos pins s σ H _ I h) fun us s1 ⟨vs,H1,I1,r1,q1⟩=>?_) hs rfl))
 obtain⟨j,e,q1,q2,q⟩:=q1
 subst e
 cases r1 with
 | cons r rr =>
  cases rr
  obtain⟨t,rfl⟩:=r
  exact call_range_1 (range_it I1 (by omega) (by omega) q1 q2 (by simpa using q))
def tFor (wi:TI) (g:TG) (tb:TS):TS:=fun D σ H=>wi σ H fun J H1=>∃ W:Nat->Nat->St->Hp->Prop,(∃ m,W 0 m σ H1)/\∀ i m σ H,W i m σ H ->
 (J.stop i H/\D.nx σ H)\/(J.go i H/\∃ N:St->Hp->Prop,(∀ σ' H',N σ' H'->∃ m',m'<m/\W (i+1) m' σ' H')/\∀ x H',J.yld i H x H'->g x σ H' fun σ2 H2=>tb { D with nx:=N,ct:=N,bk:=D.nx } σ2 H2)
def oF (fp:List Addr) (h:Heap):List (Addr×Obj):=fp.filterMap fun b=>(h.get? b).map fun o=>(b,o)
theorem ck {fp:List Addr}{h:Heap}{b:Addr}{o:Obj}(hb:b∈fp) (e:h.get? b=some o):(b,o)∈oF fp h:=List.mem_filterMap.mpr ⟨b,hb,by rw[e]; rfl⟩
theorem qB {fp:List Addr}{h:Heap}{p:Addr×Obj}(hp:p∈oF fp h):p.1∈fp/\h.get? p.1=some p.2:=by
 obtain⟨b,hb,e⟩:=List.mem_filterMap.mp hp
 cases q:h.get? b with
 | none=>rw[q] at e; cases e
 | some o =>
  rw[q] at e
  have e':(b,o)=p:=Option.some.inj e
  subst e'
  exact⟨hb,q⟩
theorem Inv.pinned {pins:List (Addr×Obj)}{σ:St}{H:Hp}{s:Shared}{fp:List Addr}(I:Inv X pins σ H s) (hf:∀ b∈fp,jU X pins H b) (ho:∀ b∈fp,∃ o,s.heap.get? b=some o/\∀ v,o.data≠.cell v):Inv X (pins++oF fp s.heap) σ H s :=
 I.pins_of fun p hp=>(List.mem_append.mp hp).elim (fun z=>I.pin p (mem_append_right _ z)) fun z=>by
  obtain⟨hb,e⟩:=qB z
  obtain⟨f0,f1,f2,_⟩:=hf p.1 hb
  obtain⟨o,e',d⟩:=ho p.1 hb
  rw[e] at e'; cases e'
  exact⟨e,f0,f1,f2,d⟩
theorem Inv.unpinned {pins pl:List (Addr×Obj)}{σ:St}{H:Hp}{s:Shared}(I:Inv X (pins++pl) σ H s):Inv X pins σ H s:=I.pins_of fun p hp=>I.pin p (mem_append_right _ (mem_append_left _ hp))
theorem ja {iter:Expr}{body:List Stmt}{wi:TI}{g:TG}{tb:TS}{pos:Pos}(hp:PassesOwn (model X.prog X.w) X.A X.env X.xe) (hc:X.calm=true) (hi:PI X tg iter wi) (hg:PG X tg g) (hb:PSs X body tb)
  (hs:∀ x,foldedSetIterable iter X.env x=pure x:=by intro _; rfl):PS X (.For tg iter body [] pos) (tFor wi g tb):=by
 intro pins s σ H D I h
 refine wpAny_For (thn (hi pins s σ H _ I h) fun v s1 h1=>thn h1 fun itv s2 h2=>?_) hs
 obtain⟨it,fp,tn,J,H2,e,I2,T,st2,f2,W,⟨m0,w0⟩,turn⟩:=h2
 subst e
 have stat:∀ {H':Hp},(∀ b∈fp,H' b=none)->∀ b∈fp,jU X pins H' b:=fun hn b hb=>⟨hn b hb,(f2 b hb).2⟩
 refine codeAny_forLoop_any (fun n s'=>∃ i σ' H',Inv X pins σ' H' s'/\tn i s'.heap/\(∀ b∈fp,H' b=none)/\W i n σ' H') ?_ m0 ⟨0,σ,H2,I2,st2,fun b hb=>(f2 b hb).1,w0⟩
 rintro n s3 ⟨i,σ3,H3,I3,st3,fr3,w3⟩
 rcases turn i n σ3 H3 w3 with ⟨stop,qn⟩ | ⟨go,N,hN,step⟩
 ·refine wpAny_passesOwn hp (thn (T.done X rfl rfl rfl hc i pins s3 σ3 H3 X.xe I3 (stat fr3) st3 stop) fun r s4 ⟨hr,I4⟩=>?_)
  subst hr
  exact wpAny_execs_nil ⟨σ3,H3,I4,qn⟩
 ·refine wpAny_passesOwn hp (thn (T.item X rfl rfl rfl hc i pins s3 σ3 H3 X.xe I3 (stat fr3) st3 go) fun r s4 ⟨u,hr,h4⟩=>?_)
  subst hr
  refine wpAny_passesOwn hp (thn h4 fun _ s5 ⟨x,H5,I5,r5,y5,st5,fr5⟩=>?_)
  have I5':=I5.pinned (stat fr5) (T.obj _ _ st5)
  refine wpAny_passesOwn hp (thn (hg _ s5 σ3 H5 x u _ I5' r5 (step x H5 y5)) fun _ s6 ⟨σ6,H6,I6,q6⟩=>?_)
  refine wpAny_passesOwn hp (thn (hb _ s6 σ6 H6 _ I6 q6) fun f s7 q7=>?_)
  have again:∀ {σ7:St} {H7:Hp},Inv X (pins++oF fp s5.heap) σ7 H7 s7->N σ7 H7->∃ m,m<n/\∃ i σ' H',Inv X pins σ' H' s7/\tn i s7.heap/\(∀ b∈fp,H' b=none)/\W i m σ' H':=fun {σ7 H7} I7 n7=>by
   obtain⟨m',hm,w7⟩:=hN σ7 H7 n7
   refine⟨m',hm,i+1,σ7,H7,I7.unpinned,T.keep _ _ _ st5 fun b hb o e=>(I7.pin (b,o) (mem_append_right _ (mem_append_right _ (ck hb e)))).1,fun b hb=>?_,w7⟩
   obtain⟨o,e,d⟩:=T.obj _ _ st5 b hb
   exact(I7.pin (b,o) (mem_append_right _ (mem_append_right _ (ck hb e)))).2.1
  cases f with
  | next=>obtain⟨σ7,H7,I7,n7⟩:=q7; exact again I7 n7
  | cont=>obtain⟨σ7,H7,I7,n7⟩:=q7; exact again I7 n7
  | brk=>obtain⟨σ7,H7,I7,q7⟩:=q7; exact⟨σ7,H7,I7.unpinned,q7⟩
  | ret v=>obtain⟨x7,σ7,H7,I7,r7,q7⟩:=q7; exact⟨x7,σ7,H7,I7.unpinned,r7,q7⟩
end
theorem oH {K:Frag}{a:Addr}{xs:List V}{g:TG}{tb:TS}{D:Ends}{σ:St}{H:Hp}(Pv:Nat->St->Hp->Prop) (h0:Pv 0 σ H) (hl:∀ i σ H,i<=xs.length->Pv i σ H->SqL K H a xs)
  (hs:∀ i x σ H,xs[i]?=some x->Pv i σ H->g x σ H fun σ2 H2=>tb { D with nx:=Pv (i+1),ct:=Pv (i+1),bk:=D.nx } σ2 H2) (hd:∀ σ H,Pv xs.length σ H->D.nx σ H) :
  ∃ W:Nat->Nat->St->Hp->Prop,(∃ m,W 0 m σ H)/\∀ i m σ H,W i m σ H ->
   ((Itl K a).stop i H/\D.nx σ H)\/((Itl K a).go i H/\∃ N:St->Hp->Prop,(∀ σ' H',N σ' H'->∃ m',m'<m/\W (i+1) m' σ' H')/\∀ x H',(Itl K a).yld i H x H'->g x σ H' fun σ2 H2=>tb { D with nx:=N,ct:=N,bk:=D.nx } σ2 H2):=by
 refine⟨fun i m σ H=>m=xs.length-i/\i<=xs.length/\Pv i σ H,⟨xs.length,by simp,zero_le _,h0⟩,?_⟩
 rintro i m σ H ⟨rfl,hi,p⟩
 have q:=hl i σ H hi p
 by_cases hlt:i<xs.length
 ·refine .inr ⟨⟨xs,xs[i],q,by simp[hlt]⟩,Pv (i+1),fun σ' H' p'=>⟨xs.length-(i+1),by omega,rfl,hlt,p'⟩,fun x H' y=>?_⟩
  obtain⟨e,y⟩:=y
  subst e
  exact hs i x σ _ (y xs q) p
 ·have e:i=xs.length:=by omega
  subst e
  exact .inl ⟨⟨xs,q,Nat.le_refl _⟩,hd σ H p⟩
theorem for_tup {K:Frag}{a:Addr}{xs:List V}{g:TG}{tb:TS}{D:Ends}{σ:St}{H:Hp}(Pv:Nat->St->Hp->Prop) (h0:Pv 0 σ H) (hl:∀ i σ H,i<=xs.length->Pv i σ H->SqT K H a xs)
  (hs:∀ i x σ H,xs[i]?=some x->Pv i σ H->g x σ H fun σ2 H2=>tb { D with nx:=Pv (i+1),ct:=Pv (i+1),bk:=D.nx } σ2 H2) (hd:∀ σ H,Pv xs.length σ H->D.nx σ H) :
  ∃ W:Nat->Nat->St->Hp->Prop,(∃ m,W 0 m σ H)/\∀ i m σ H,W i m σ H ->
   ((Itt K a).stop i H/\D.nx σ H)\/((Itt K a).go i H/\∃ N:St->Hp->Prop,(∀ σ' H',N σ' H'->∃ m',m'<m/\W (i+1) m' σ' H')/\∀ x H',(Itt K a).yld i H x H'->g x σ H' fun σ2 H2=>tb { D with nx:=N,ct:=N,bk:=D.nx } σ2 H2):=by
 refine⟨fun i m σ H=>m=xs.length-i/\i<=xs.length/\Pv i σ H,⟨xs.length,by simp,zero_le _,h0⟩,?_⟩
 rintro i m σ H ⟨rfl,hi,p⟩
 have q:=hl i σ H hi p
 by_cases hlt:i<xs.length
 ·refine .inr ⟨⟨xs,xs[i],q,by simp[hlt]⟩,Pv (i+1),fun σ' H' p'=>⟨xs.length-(i+1),by omega,rfl,hlt,p'⟩,fun x H' y=>?_⟩
  obtain⟨e,y⟩:=y
  subst e
  exact hs i x σ _ (y xs q) p
 ·have e:i=xs.length:=by omega
  subst e
  exact .inl ⟨⟨xs,q,Nat.le_refl _⟩,hd σ H p⟩
theorem gt {lo:Int}{n:Nat}{g:TG}{tb:TS}{D:Ends}{σ:St}{H:Hp}(Pv:Nat->St->Hp->Prop) (h0:Pv 0 σ H)
  (hs:∀ i σ H,i<n->Pv i σ H->g (.int (lo+i)) σ H fun σ2 H2=>tb { D with nx:=Pv (i+1),ct:=Pv (i+1),bk:=D.nx } σ2 H2) (hd:∀ σ H,Pv n σ H->D.nx σ H) :
  ∃ W:Nat->Nat->St->Hp->Prop,(∃ m,W 0 m σ H)/\∀ i m σ H,W i m σ H ->
   ((Itr lo n).stop i H/\D.nx σ H)\/((Itr lo n).go i H/\∃ N:St->Hp->Prop,(∀ σ' H',N σ' H'->∃ m',m'<m/\W (i+1) m' σ' H')/\∀ x H',(Itr lo n).yld i H x H'->g x σ H' fun σ2 H2=>tb { D with nx:=N,ct:=N,bk:=D.nx } σ2 H2):=by
 refine⟨fun i m σ H=>m=n-i/\i<=n/\Pv i σ H,⟨n,by simp,zero_le _,h0⟩,?_⟩
 rintro i m σ H ⟨rfl,hi,p⟩
 by_cases hlt:i<n
 ·refine .inr ⟨hlt,Pv (i+1),fun σ' H' p'=>⟨n-(i+1),by omega,rfl,hlt,p'⟩,fun x H' y=>?_⟩
  obtain⟨e,y⟩:=y
  subst e y
  exact hs i σ _ hlt p
 ·have e:i=n:=by omega
  subst e
  exact .inl ⟨Nat.le_refl _,hd σ H p⟩
theorem iO {c:TT}{tb:TS}{D:Ends}{σ:St}{H:Hp}(Pv:St->Hp->Prop) (μ:St->Hp->Nat) (h0:Pv σ H)
  (hs:∀ σ H,Pv σ H->c σ H fun b H1=>if b=true then tb { D with nx:=fun σ' H'=>Pv σ' H'/\μ σ' H'<μ σ H,ct:=fun σ' H'=>Pv σ' H'/\μ σ' H'<μ σ H,bk:=D.nx } σ H1 else D.nx σ H1)
  (mono:∀ σ H Q Q',(∀ b H1,Q b H1->Q' b H1)->c σ H Q->c σ H Q'):tWhile c tb D σ H:=by
 refine⟨fun m σ H=>m=μ σ H/\Pv σ H,⟨_,rfl,h0⟩,?_⟩
 rintro m σ H ⟨rfl,p⟩
 refine mono σ H _ _ (fun b H1 q=>?_) (hs σ H p)
 cases b with
 | true=>exact⟨_,fun σ' H' ⟨p',l⟩=>⟨_,l,rfl,p'⟩,q⟩
 | false=>exact q
end L2
namespace L2
open PySem PySem.Spec PyProof.Rows
abbrev R2:=V->V->Hp->VK->Prop
def OpR (X:Cx) (f:Value->Value->Sem Value) (r:R2):Prop :=
 ∀ (pins:List (Addr×Obj)) (s:Shared) (σ:St) (H:Hp) (x y:V) (v u:Value) (Q:VK),Inv X pins σ H s->RelV x v->RelV y u->r x y H Q ->
  wpAny (model X.prog X.w) X.A (f v u) (EP X pins σ Q) X.xe s
def UnR (X:Cx) (f:Value->Sem Value) (r:V->Hp->VK->Prop):Prop :=
 ∀ (pins:List (Addr×Obj)) (s:Shared) (σ:St) (H:Hp) (x:V) (v:Value) (Q:VK),Inv X pins σ H s->RelV x v->r x H Q ->
  wpAny (model X.prog X.w) X.A (f v) (EP X pins σ Q) X.xe s
def fF (X:Cx) (f:Value) (r:List V->Hp->VK->Prop):Prop :=
 ∀ (pins:List (Addr×Obj)) (s:Shared) (σ:St) (H:Hp) (xs:List V) (us:List Value) (Q:VK),Inv X pins σ H s->Vals xs us->r xs H Q ->
  wpAny (model X.prog X.w) X.A (call f us) (EP X pins σ Q) X.xe s
def tOp (r:R2) (ta tb:TE):TE:=fun σ H Q=>ta σ H fun x H1=>tb σ H1 fun y H2=>r x y H2 Q
def tUn (r:V->Hp->VK->Prop) (ta:TE):TE:=fun σ H Q=>ta σ H fun x H1=>r x H1 Q
def rI (C:Int->Int->Prop) (g:Int->Int->V):R2:=fun x y H Q=>∃ i j,x=.int i/\y=.int j/\C i j/\Q (g i j) H
def rI0 (g:Int->Int->V):R2:=fun x y H Q=>∃ i j,x=.int i/\y=.int j/\Q (g i j) H
def rU (g:Int->V):V->Hp->VK->Prop:=fun x H Q=>∃ i,x=.int i/\Q (g i) H
section
variable {X:Cx}{a b c:Expr}{ta tb tc:TE}{pos:Pos}
theorem binT (ha:PE X a ta) (hb:PE X b tb) {pins:List (Addr×Obj)}{s:Shared}{σ:St}{H:Hp}{R:V->V->Hp->Prop}(I:Inv X pins σ H s)
  (h:ta σ H fun x H1=>tb σ H1 fun y H2=>R x y H2) {Q:Value->Shared->Prop} {f:Value->Value->Sem Value}
  (hf:∀ v u s2 x y H2,Inv X pins σ H2 s2->RelV x v->RelV y u->R x y H2->wpAny (model X.prog X.w) X.A (f v u) Q X.xe s2) :
  wpAny (model X.prog X.w) X.A (eval a X.env) (fun v s₁=>wpAny (model X.prog X.w) X.A (eval b X.env) (fun u s₂=>wpAny (model X.prog X.w) X.A (f v u) Q X.xe s₂) X.xe s₁) X.xe s:=by
 refine thn (ha pins s σ H _ I h) fun v s1 ⟨x,H1,I1,r1,q1⟩=>?_
 refine thn (hb pins s1 σ H1 _ I1 q1) fun u s2 ⟨y,H2,I2,r2,q2⟩=>?_
 exact hf v u s2 x y H2 I2 r1 r2 q2
theorem ap {op:Operator}{r:R2}(ho:OpR X (binaryOp op) r) (ha:PE X a ta) (hb:PE X b tb):PE X (.BinOp a op b pos) (tOp r ta tb):=by
 intro pins s σ H Q I h
 exact wpAny_BinOp (binT ha hb I h fun v u s2 x y H2 I2 rx ry q=>ho pins s2 σ H2 x y v u Q I2 rx ry q)
theorem pe_un {op:UnaryOp}{r:V->Hp->VK->Prop}(ho:UnR X (unaryOp op) r) (ha:PE X a ta):PE X (.UnaryOp op a pos) (tUn r ta):=by
 intro pins s σ H Q I h
 exact UnaryOp_ (thn (ha pins s σ H _ I h) fun v s1 ⟨x,H1,I1,r1,q1⟩=>ho pins s1 σ H1 x v Q I1 r1 q1)
theorem opI {f:Value->Value->Sem Value}{C:Int->Int->Prop}{g:Int->Int->Int}
  (rule:∀ (i j:Int) (t u:Tok) (s:Shared) (Q:Value->Shared->Prop) (E:Value->Shared->Prop),C i j->Q (.int (g i j) s.toks) { s with toks:=s.toks+1 }->wpAny (model X.prog X.w) X.A (f (.int i t) (.int j u)) Q E s) :
  OpR X f (rI C fun i j=>.int (g i j)):=by
 intro pins s σ H x y v u Q I rx ry h
 obtain⟨i,j,rfl,rfl,hc,q⟩:=h
 obtain⟨t,rfl⟩:=rx
 obtain⟨t',rfl⟩:=ry
 exact rule i j t t' s _ _ hc ⟨.int (g i j),H,I.tok _,⟨_,rfl⟩,q⟩
theorem opI0 {f:Value->Value->Sem Value}{g:Int->Int->Int}
  (rule:∀ (i j:Int) (t u:Tok) (s:Shared) (Q:Value->Shared->Prop) (E:Value->Shared->Prop),Q (.int (g i j) s.toks) { s with toks:=s.toks+1 }->wpAny (model X.prog X.w) X.A (f (.int i t) (.int j u)) Q E s) :
  OpR X f (rI0 fun i j=>.int (g i j)):=by
 intro pins s σ H x y v u Q I rx ry h
 obtain⟨i,j,rfl,rfl,q⟩:=h
 obtain⟨t,rfl⟩:=rx
 obtain⟨t',rfl⟩:=ry
 exact rule i j t t' s _ _ ⟨.int (g i j),H,I.tok _,⟨_,rfl⟩,q⟩
theorem opB0 {f:Value->Value->Sem Value}{g:Int->Int->Bool}
  (rule:∀ (i j:Int) (t u:Tok) (s:Shared) (Q:Value->Shared->Prop) (E:Value->Shared->Prop),Q (.bool (g i j)) s->wpAny (model X.prog X.w) X.A (f (.int i t) (.int j u)) Q E s) :
  OpR X f (rI0 fun i j=>.bl (g i j)):=by
 intro pins s σ H x y v u Q I rx ry h
 obtain⟨i,j,rfl,rfl,q⟩:=h
 obtain⟨t,rfl⟩:=rx
 obtain⟨t',rfl⟩:=ry
 exact rule i j t t' s _ _ ⟨.bl (g i j),H,I,rfl,q⟩
def CDiv (i j:Int):Prop:=0<j/\j<1073741824
def CPow (i j:Int):Prop:=0<=j/\j<=1000000/\i.natAbs<2^64
def CMul (i j:Int):Prop:=(-(2^64)<i/\i<2^64)\/(-(2^64)<j/\j<2^64)
theorem CMul.ok {i j:Int}(h:CMul i j):IntMulOk i j:=by
 rcases h with ⟨h1,h2⟩ | ⟨h1,h2⟩
 ·exact .of_left (intBits_le_64 h1 h2)
 ·exact .of_right (intBits_le_64 h1 h2)
theorem qf (k:Nat):(0:Int)<=2^k:=by
 rw[two_pow_cast]
 exact Int.natCast_nonneg _
theorem aA:OpR X (binaryOp .Add) (rI0 fun i j=>.int (i+j)):=opI0 fun _ _ _ _ _ _ _ q=>add_int q
theorem aQ:OpR X (binaryOp .Sub) (rI0 fun i j=>.int (i-j)):=opI0 fun _ _ _ _ _ _ _ q=>sub_int q
theorem fR:OpR X (binaryOp .Mult) (rI CMul fun i j=>.int (i*j)):=opI fun _ _ _ _ _ _ _ hc q=>mul_int q hc.ok
theorem nu:OpR X (binaryOp .FloorDiv) (rI CDiv fun i j=>.int (i/j)):=opI fun i j _ _ _ _ _ hc q=>by
 have h1:(0:Int)<j:=hc.1
 have h2:j<1073741824:=hc.2
 exact floordiv_int (by omega) (by rw[Int.fdiv_eq_ediv_of_nonneg i (by omega)]; exact q) (.inl (PyProof.noPylong_small (by omega)))
theorem dX:OpR X (binaryOp .Mod) (rI (fun _ j=>0<j) fun i j=>.int (i%j)):=opI fun i j _ _ _ _ _ hc q=>by
 have h1:(0:Int)<j:=hc
 exact mod_int' (by omega) (by rw[Int.fmod_eq_emod_of_nonneg i (by omega)]; exact q)
theorem ip:OpR X (binaryOp .Pow) (rI CPow fun i j=>.int (i^j.toNat)):=opI fun _ _ _ _ _ _ _ hc q=>pow_int_small hc.1 hc.2.1 hc.2.2 q
theorem aS:OpR X (binaryOp .LShift) (rI CPow fun i j=>.int (i*2^j.toNat)):=opI fun _ _ _ _ _ _ _ hc q=>lshift_int_small hc.1 hc.2.1 hc.2.2 q
theorem sN:OpR X (binaryOp .RShift) (rI (fun _ j=>0<=j) fun i j=>.int (i/2^j.toNat)):=opI fun i j _ _ _ _ _ hc q =>
 rshift_int hc (by rw[Int.fdiv_eq_ediv_of_nonneg i (qf _)]; exact q)
theorem unI {f:Value->Sem Value}{g:Int->Int}
  (rule:∀ (i:Int) (t:Tok) (s:Shared) (Q:Value->Shared->Prop) (E:Value->Shared->Prop),Q (.int (g i) s.toks) { s with toks:=s.toks+1 }->wpAny (model X.prog X.w) X.A (f (.int i t)) Q E s) :
  UnR X f (rU fun i=>.int (g i)):=by
 intro pins s σ H x v Q I rx h
 obtain⟨i,rfl,q⟩:=h
 obtain⟨t,rfl⟩:=rx
 exact rule i t s _ _ ⟨.int (g i),H,I.tok _,⟨_,rfl⟩,q⟩
theorem sY:UnR X (unaryOp .USub) (rU fun i=>.int (-i)):=unI fun _ _ _ _ _ q=>neg_int q
end
def scal:V->V->Bool
 | .non,.non=>true | .non,.int _=>true | .int _,.non=>true | .non,.bl _=>true | .bl _,.non=>true | .non,.str _=>true | .str _,.non=>true
 | .int _,.int _=>true | .bl _,.bl _=>true | .str _,.str _=>true | .byt _,.byt _=>true
 | .int _,.str _=>true | .str _,.int _=>true | .bl _,.str _=>true | .str _,.bl _=>true
 | _,_=>false
def rEq:R2:=fun x y H Q=>scal x y=true/\Q (.bl (decide (x=y))) H
def rNe:R2:=fun x y H Q=>scal x y=true/\Q (.bl (!decide (x=y))) H
theorem sK {i j:Int}:decide (V.int i=V.int j)=(i == j):=by
 rw[Bool.eq_iff_iff]
 simp
theorem dec_bl {i j:Bool}:decide (V.bl i=V.bl j)=(i == j):=by
 rw[Bool.eq_iff_iff]
 simp
theorem rJ {i j:Str}:decide (V.str i=V.str j)=(i == j):=by
 rw[Bool.eq_iff_iff]
 simp
theorem ss {i j:Array UInt8}:decide (V.byt i=V.byt j)=(i.toList == j.toList):=by
 rw[Bool.eq_iff_iff]
 cases i
 cases j
 simp
section
variable {X:Cx}{a b c:Expr}{ta tb tc:TE}{pos:Pos}
theorem aK {pins:List (Addr×Obj)}{σ:St}{H:Hp}{s:Shared}{Q:VK}{k k':Bool}(I:Inv X pins σ H s) (q:Q (.bl k) H) (e:k=k'):EP X pins σ Q (.bool k') s:=by
 subst e
 exact⟨.bl k,H,I,rfl,q⟩
theorem aO:OpR X (compareOp .Eq) rEq:=by
 intro pins s σ H x y v u Q I rx ry h
 obtain⟨hs,q⟩:=h
 cases x with
 | non =>
  cases rx
  cases y with
  | non=>cases ry; exact PySem.EqNone.eq_none_none (aK I q (by simp))
  | bl j=>cases ry; exact PySem.EqNone.eq_none_bool (aK I q (by simp))
  | int j=>obtain⟨t',rfl⟩:=ry; exact PySem.EqNone.eq_none_int (aK I q (by simp))
  | str j=>obtain⟨t',rfl⟩:=ry; exact PySem.EqNone.eq_none_str (aK I q (by simp))
  | _=>exact absurd (show false=true from hs) Bool.false_ne_true
 | bl i =>
  cases rx
  cases y with
  | non=>cases ry; exact PySem.EqNone.eq_bool_none (aK I q (by simp))
  | bl j=>cases ry; exact eq_bool (aK I q dec_bl)
  | str j=>obtain⟨t',rfl⟩:=ry; exact PySem.EqMixed.eq_bool_str (aK I q (by simp))
  | _=>exact absurd (show false=true from hs) Bool.false_ne_true
 | int i =>
  obtain⟨t,rfl⟩:=rx
  cases y with
  | non=>cases ry; exact PySem.EqNone.eq_int_none (aK I q (by simp))
  | int j=>obtain⟨t',rfl⟩:=ry; exact eq_int (aK I q sK)
  | str j=>obtain⟨t',rfl⟩:=ry; exact PySem.EqMixed.eq_int_str (aK I q (by simp))
  | _=>exact absurd (show false=true from hs) Bool.false_ne_true
 | str i =>
  obtain⟨t,rfl⟩:=rx
  cases y with
  | non=>cases ry; exact PySem.EqNone.eq_str_none (aK I q (by simp))
  | bl j=>cases ry; exact PySem.EqMixed.eq_str_bool (aK I q (by simp))
  | int j=>obtain⟨t',rfl⟩:=ry; exact PySem.EqMixed.eq_str_int (aK I q (by simp))
  | str j=>obtain⟨t',rfl⟩:=ry; exact eq_str (aK I q rJ)
  | _=>exact absurd (show false=true from hs) Bool.false_ne_true
 | byt i =>
  obtain⟨t,rfl⟩:=rx
  cases y with
  | byt j=>obtain⟨t',rfl⟩:=ry; exact PySem.W.eq_bytes (aK I q ss)
  | _=>exact absurd (show false=true from hs) Bool.false_ne_true
 | _=>cases y <;> exact absurd (show false=true from hs) Bool.false_ne_true
theorem op_ne:OpR X (compareOp .NotEq) rNe:=by
 intro pins s σ H x y v u Q I rx ry h
 obtain⟨hs,q⟩:=h
 cases x with
 | non =>
  cases rx
  cases y with
  | non=>cases ry; exact PySem.EqNone.ne_none_none (aK I q (by simp))
  | bl j=>cases ry; exact PySem.EqNone.ne_none_bool (aK I q (by simp))
  | int j=>obtain⟨t',rfl⟩:=ry; exact PySem.EqNone.ne_none_int (aK I q (by simp))
  | str j=>obtain⟨t',rfl⟩:=ry; exact PySem.EqNone.ne_none_str (aK I q (by simp))
  | _=>exact absurd (show false=true from hs) Bool.false_ne_true
 | bl i =>
  cases rx
  cases y with
  | non=>cases ry; exact PySem.EqNone.ne_bool_none (aK I q (by simp))
  | bl j=>cases ry; exact ne_bool (aK I q (congrArg not dec_bl))
  | str j=>obtain⟨t',rfl⟩:=ry; exact PySem.EqMixed.ne_bool_str (aK I q (by simp))
  | _=>exact absurd (show false=true from hs) Bool.false_ne_true
 | int i =>
  obtain⟨t,rfl⟩:=rx
  cases y with
  | non=>cases ry; exact PySem.EqNone.ne_int_none (aK I q (by simp))
  | int j=>obtain⟨t',rfl⟩:=ry; exact ne_int (aK I q (congrArg not sK))
  | str j=>obtain⟨t',rfl⟩:=ry; exact PySem.EqMixed.ne_int_str (aK I q (by simp))
  | _=>exact absurd (show false=true from hs) Bool.false_ne_true
 | str i =>
  obtain⟨t,rfl⟩:=rx
  cases y with
  | non=>cases ry; exact PySem.EqNone.ne_str_none (aK I q (by simp))
  | bl j=>cases ry; exact PySem.EqMixed.ne_str_bool (aK I q (by simp))
  | int j=>obtain⟨t',rfl⟩:=ry; exact PySem.EqMixed.ne_str_int (aK I q (by simp))
  | str j=>obtain⟨t',rfl⟩:=ry; exact ne_str (aK I q (congrArg not rJ))
  | _=>exact absurd (show false=true from hs) Bool.false_ne_true
 | byt i =>
  obtain⟨t,rfl⟩:=rx
  cases y with
  | byt j=>obtain⟨t',rfl⟩:=ry; exact PySem.W.ne_bytes (aK I q (congrArg not ss))
  | _=>exact absurd (show false=true from hs) Bool.false_ne_true
 | _=>cases y <;> exact absurd (show false=true from hs) Bool.false_ne_true
theorem nG:OpR X (compareOp .Lt) (rI0 fun i j=>.bl (decide (i<j))):=opB0 fun _ _ _ _ _ _ _ q=>lt_int q
theorem op_le:OpR X (compareOp .LtE) (rI0 fun i j=>.bl (decide (i<=j))):=opB0 fun _ _ _ _ _ _ _ q=>le_int q
theorem p4:OpR X (compareOp .Gt) (rI0 fun i j=>.bl (decide (j<i))):=opB0 fun _ _ _ _ _ _ _ q=>gt_int q
theorem op_ge:OpR X (compareOp .GtE) (rI0 fun i j=>.bl (decide (j<=i))):=opB0 fun _ _ _ _ _ _ _ q=>ge_int q
theorem sT:OpR X (compareOp .Is) (fun x y H Q=>y=.non/\Q (.bl (decide (x=.non))) H):=by
 intro pins s σ H x y v u Q I rx ry h
 obtain⟨rfl,q⟩:=h
 cases ry
 refine is_none_gen (aK I q ?_)
 cases x <;> first
  | (cases rx; rfl)
  | (obtain⟨t,rfl⟩:=rx; rfl)
theorem op_notN:OpR X (compareOp .IsNot) (fun x y H Q=>y=.non/\Q (.bl (!decide (x=.non))) H):=by
 intro pins s σ H x y v u Q I rx ry h
 obtain⟨rfl,q⟩:=h
 cases ry
 refine isnot_none_gen (aK I q ?_)
 cases x <;> first
  | (cases rx; rfl)
  | (obtain⟨t,rfl⟩:=rx; rfl)
theorem ax (b:Expr) {op:CmpOp}(h:op≠.In:=by decide) (h2:op≠.NotIn:=by decide):behindInMarks op b=false:=by
 have e1:(op == CmpOp.In)=false:=by cases op <;> first | rfl | exact absurd rfl h
 have e2:(op == CmpOp.NotIn)=false:=by cases op <;> first | rfl | exact absurd rfl h2
 cases b <;> simp[behindInMarks,e1,e2]
theorem iR {op:CmpOp}{r:R2}(ho:OpR X (compareOp op) r) (ha:PE X a ta) (hb:PE X b tb) (hm:behindInMarks op b=false):PE X (.Compare a [op] [b] pos) (tOp r ta tb):=by
 intro pins s σ H Q I h
 exact wpAny_Compare1 (binT ha hb I h fun v u s2 x y H2 I2 rx ry q=>ho pins s2 σ H2 x y v u Q I2 rx ry q) hm
def tTest (t:TE):TT:=fun σ H Q=>t σ H fun x H'=>∃ k,x=.bl k/\Q k H'
theorem ar {op:CmpOp}{r:R2}(ho:OpR X (compareOp op) r) (ha:PE X a ta) (hb:PE X b tb) (hm:behindInMarks op b=false):PT X (.Compare a [op] [b] pos) (tTest (tOp r ta tb)):=by
 intro pins s σ H Q I h
 refine wpAny_isTrue_Compare1 (thn (ha pins s σ H _ I h) fun v s1 ⟨x,H1,I1,r1,q1⟩=>thn (hb pins s1 σ H1 _ I1 q1) fun u s2 ⟨y,H2,I2,r2,q2⟩ =>
  thn (ho pins s2 σ H2 x y v u _ I2 r1 r2 q2) fun c s3 ⟨z,H3,I3,r3,k,e,q3⟩=>?_) hm
 subst e
 cases r3
 exact wpAny_truthy_bool ⟨H3,I3,q3⟩
def tChain (r r':R2) (ta tb tc:TE):TE:=fun σ H Q=>ta σ H fun x H1=>tb σ H1 fun y H2=>r x y H2 fun z H3=>∃ k,z=.bl k /\
 (if k=true then tc σ H3 fun w' H4=>r' y w' H4 Q else Q (.bl false) H3)
theorem pe_chain {op op':CmpOp}{r r':R2}(ho:OpR X (compareOp op) r) (ho':OpR X (compareOp op') r') (ha:PE X a ta) (hb:PE X b tb) (hc:PE X c tc)
  (hm:lastMarks [op,op'] [b,c]=false:=by with_unfolding_all rfl):PE X (.Compare a [op,op'] [b,c] pos) (tChain r r' ta tb tc):=by
 intro pins s σ H Q I h
 refine Compare_chain (thn (ha pins s σ H _ I h) fun v s1 ⟨x,H1,I1,r1,q1⟩=>chain_link (thn (hb pins s1 σ H1 _ I1 q1) fun u s2 ⟨y,H2,I2,r2,q2⟩ =>
  thn (ho pins s2 σ H2 x y v u _ I2 r1 r2 q2) fun d s3 ⟨z,H3,I3,r3,k,e,q3⟩=>?_)) hm
 subst e
 cases r3
 refine wpAny_truthy_bool ?_
 cases k with
 | false=>exact ite_ff ⟨.bl false,H3,I3,rfl,q3⟩
 | true=>exact ite_tt (chain_last (thn (hc pins s3 σ H3 _ I3 q3) fun w' s4 ⟨z',H4,I4,r4,q4⟩=>ho' pins s4 σ H4 y z' u w' Q I4 r2 r4 q4))
theorem pt_chain {op op':CmpOp}{r r':R2}(ho:OpR X (compareOp op) r) (ho':OpR X (compareOp op') r') (ha:PE X a ta) (hb:PE X b tb) (hc:PE X c tc)
  (hm:lastMarks [op,op'] [b,c]=false:=by with_unfolding_all rfl):PT X (.Compare a [op,op'] [b,c] pos) (tTest (tChain r r' ta tb tc)):=by
 intro pins s σ H Q I h
 refine isTrue_chain (thn (ha pins s σ H _ I h) fun v s1 ⟨x,H1,I1,r1,q1⟩=>test_link (thn (hb pins s1 σ H1 _ I1 q1) fun u s2 ⟨y,H2,I2,r2,q2⟩ =>
  thn (ho pins s2 σ H2 x y v u _ I2 r1 r2 q2) fun d s3 ⟨z,H3,I3,r3,k,e,q3⟩=>?_)) hm
 subst e
 cases r3
 refine wpAny_truthy_bool ?_
 cases k with
 | false =>
  obtain⟨k',e',q'⟩:=q3
  cases e'
  exact ite_ff ⟨H3,I3,q'⟩
 | true =>
  refine ite_tt (test_last (thn (hc pins s3 σ H3 _ I3 q3) fun w' s4 ⟨z',H4,I4,r4,q4⟩=>thn (ho' pins s4 σ H4 y z' u w' _ I4 r2 r4 q4) fun d' s5 ⟨z2,H5,I5,r5,k2,e2,q5⟩=>?_))
  subst e2
  cases r5
  exact wpAny_truthy_bool ⟨H5,I5,q5⟩
theorem oM:(sizeLine:Nat)<2^63:=by rw[sizeLine_eq]; decide
theorem oh {x:V}{us:List Value}(r:Vals [x] us):∃ u,us=[u]/\RelV x u:=by
 cases r with
 | cons r1 r2=>cases r2; exact⟨_,rfl,r1⟩
theorem vals2 {x y:V}{us:List Value}(r:Vals [x,y] us):∃ u w',us=[u,w']/\RelV x u/\RelV y w':=by
 cases r with
 | cons r1 r2 =>
  cases r2 with
  | cons r3 r4=>cases r4; exact⟨_,_,rfl,r1,r3⟩
theorem qx (hc:X.calm=true):fF X (.builtin "max") (fun xs H Q=>∃ i j,xs=[.int i,.int j]/\Q (.int (if j > i then j else i)) H):=by
 intro pins s σ H xs us Q I r h
 obtain⟨i,j,rfl,q⟩:=h
 obtain⟨u,w',rfl,⟨t,rfl⟩,⟨t',rfl⟩⟩:=vals2 r
 refine max_two_ints (I.ok.hd hc) fun h' tk k=>⟨_,H,I.kept k,?_,q⟩
 by_cases hj:j > i
 ·rw[if_pos hj,if_pos hj]; exact⟨_,rfl⟩
 ·rw[if_neg hj,if_neg hj]; exact⟨_,rfl⟩
theorem mr (hc:X.calm=true):fF X (.builtin "min") (fun xs H Q=>∃ i j,xs=[.int i,.int j]/\Q (.int (if j<i then j else i)) H):=by
 intro pins s σ H xs us Q I r h
 obtain⟨i,j,rfl,q⟩:=h
 obtain⟨u,w',rfl,⟨t,rfl⟩,⟨t',rfl⟩⟩:=vals2 r
 refine min_two_ints (I.ok.hd hc) fun h' tk k=>⟨_,H,I.kept k,?_,q⟩
 by_cases hj:j<i
 ·rw[if_pos hj,if_pos hj]; exact⟨_,rfl⟩
 ·rw[if_neg hj,if_neg hj]; exact⟨_,rfl⟩
theorem d9:fF X (.type "str") (fun xs H Q=>∃ i,xs=[.int i]/\i.natAbs.log2<1920/\Q (.str (toString i)) H):=by
 intro pins s σ H xs us Q I r h
 obtain⟨i,rfl,hz,q⟩:=h
 obtain⟨u,rfl,t,rfl⟩:=oh r
 exact PySem.P.str_of_int hz ⟨.str _,H,I.tok _,⟨_,rfl⟩,q⟩
end
end L2
namespace L2
open PySem PySem.Spec PyProof.Rows
structure ObjM (h:Heap) (x dx C:Addr) (mA:Str->Option Value):Prop where
 obj:h.get? x=some (instObj C dx)
 ns:h.Ns1 dx mA
 ne:dx≠x
theorem ma {h:Heap}{dx:Addr}{mA:Str->Option Value}(n:h.Ns1 dx mA):∃ od,h.get? dx=some od/\∀ name,PySem.W.lookIn name od=some (mA name):=by
 obtain⟨o,es,ep,ho,hd,hk,_,hm⟩:=n
 refine⟨o,ho,fun name=>?_⟩
 have e:=hm name
 unfold nsFind findBy at e
 rw[<- Array.find?_toList] at e
 unfold PySem.W.lookIn
 rw[hd]
 dsimp only
 split
 ·rename_i y q
  rw[q] at e
  exact congrArg some e
 ·rename_i q
  rw[q] at e
  have a:es.toList.any (·.refKey)=false:=by
   rw[List.any_eq_false]
   intro y hy
   obtain⟨z,t,hkey⟩:=hk y (Array.mem_toList_iff.mp hy)
   simp[DictEntry.refKey,hkey]
  have a':¬ es.toList.any (·.refKey)=true:=by rw[a]; exact Bool.false_ne_true
  rw[if_neg a']
  exact congrArg some e
theorem ObjM.look {h:Heap}{x dx C:Addr}{mA:Str->Option Value}(I:ObjM h x dx C mA):∃ od,PySem.W.InstAt h x (instObj C dx) C (some od)/\∀ name,PySem.W.lookIn name od=some (mA name) :=
 let ⟨od,ho,hl⟩:=ma I.ns
 ⟨od,⟨I.obj,rfl,rfl,ho⟩,hl⟩
section
variable {prog:Program}{w:World}{A:Around}{E:Value->Shared->Prop}{s:Shared}{K:Frag}{x dx C f:Addr}{mA:Str->Option Value}{name:Str}{v:Value}
theorem get_map {expr:Bool}{Q:Value->Shared->Prop}(X:K.In s.heap) (I:ObjM s.heap x dx C mA) (hg:plainGet K C name=true) (hh:hasDictIn K C=true)
  (ha:findIn K (.ref C) name=some none) (hv:mA name=some v) (hv':PySem.W.handedIn v=true) (h:Q v { s with toks:=s.toks+1 }) :
  wpAny (model prog w) A (getAttr (.ref x) name expr) Q E s:=by
 obtain⟨od,J,hl⟩:=I.look
 exact PySem.W.get_value X J (PySem.W.plainGet_of hg).1 (PySem.W.findObj_own hh ha rfl (by rw[hl,hv])) hv' h
theorem get_meth {pl:Sem Bool}{Q:Value×List Value->Shared->Prop}(X:K.In s.heap) (I:ObjM s.heap x dx C mA) (hg:plainGet K C name=true)
  (hf:findIn K (.ref C) name=some (some (.ref f))) (ht:isFn K (.ref f)=true) (hv:mA name=none) (h:Q (.ref f,[.ref x]) s) :
  wpAny (model prog w) A (getMethod (.ref x) name pl) Q E s:=by
 obtain⟨od,J,hl⟩:=I.look
 exact PySem.W.method_fn X J (PySem.W.plainGet_of hg).1 (PySem.W.plainGet_of hg).2 hf (beq_iff_eq.mp ht) (by show (PySem.W.lookIn name od).map (·.isSome)=some false; rw[hl,hv]; rfl) h
theorem set_map {ns:List Str}{Q:Unit->Shared->Prop}(X:K.In s.heap) (I:ObjM s.heap x dx C mA)
  (hs:findIn K (.ref C) "__setattr__"=some (some (.builtin "object.__setattr__"))) (hp:plainOver K C=true) (ht:PySem.W.takerIn K C name=some none) (hh:hasDictIn K C=true)
  (hw:PySem.Within mA ns) (hsz:ns.length<=sizeLine)
  (h:∀ h',ObjM h' x dx C (fun y=>if y=name then some v else mA y)->Heap.SameBut dx s.heap h'->Q () { s with heap:=h',toks:=s.toks+2 }) :
  wpAny (model prog w) A (setAttr (.ref x) name v) Q E s:=by
 obtain⟨od,J,hl⟩:=I.look
 refine PySem.W.set_plain X J hs (PySem.W.osa_open (s:={ s with toks:=s.toks+1 }) (r:=none) X J hp ht fun b=>?_)
 obtain⟨cd,hc,hd'⟩:=PySem.W.any_some hh
 have hx:s.heap.get? x=some ⟨.ref C,some dx,.plain,#[]⟩:=I.obj
 refine wpAny_bind (wpAny_pure (wpAny_bind (wpAny_bind (wpAny_loadPart hx (wpAny_bind (PySem.W.Looks.here (s:={ s with toks:=s.toks+1 }) (PySem.W.looks_clsIn X hc) ?_))))))
 rw[hd']
 refine wpAny_pure (a:=some dx) (wpAny_bind (wpAny_pure (wpAny_bind ?_)))
 refine wpAny_nsSet1 (s:={ s with toks:=s.toks+1 }) I.ns fun h' hn2 hs2=>?_
 obtain⟨oD,esD,epD,hoD,hdD,hcD⟩:=hn2.count (PySem.Within.cons name v hw)
 refine wpAny_bind (wpAny_lookBehind hoD (by rw[hdD]; exact pastItsLine_dict (Nat.le_trans hcD (by rw[length_cons]; omega))) ?_)
 exact wpAny_pure (h _ ⟨(hs2.2 _ (Ne.symm I.ne)).trans I.obj,hn2,I.ne⟩ hs2)
theorem make_map {R:Result->Shared->Prop}{vs:List Value}{kw:List (Str×Value)}(X:K.In s.heap) (hm:makesIn K C=true)
  (hi:findIn K (.ref C) "__init__"=some (some (.ref f))) (hf:typeIn K (.ref f)=some (.type "function"))
  (h:codeAny (model prog w) (A.under (.builtin "type.__call__" ⟨.ref C::vs,kw⟩)) (.call (.ref f) ⟨.ref (s.heap.objs.size+1)::vs,kw⟩) (PySem.W.InitBack (s.heap.objs.size+1) R)
   { s with heap:=(s.heap.push PySem.W.emptyDict).push (instObj C s.heap.objs.size) }) :
  codeAny (model prog w) A (.call (.ref C) ⟨vs,kw⟩) R s:=by
 obtain⟨hh,g,d,t,os⟩:=s
 exact PySem.W.make_core (PySem.W.makes_of X hm) (PySem.W.looks_findIn X hi) (fun self=>PySem.W.bind_fn X self hf) (.inl rfl) h
end
def mI (f:Str) (v:V):List (Str×V)->List (Str×V)
 | []=>[(f,v)]
 | (g,x)::r=>if g=f then (g,v)::r else (g,x)::mI f v r
theorem ji (f g:Str) (v:V):∀ fs:List (Str×V),(mI f v fs).lookup g=if g=f then some v else fs.lookup g
 | []=>by
  show List.lookup g [(f,v)]=_
  by_cases h:g=f
  ·have hb:(g == f)=true:=beq_iff_eq.mpr h
   simp only[List.lookup,hb,if_pos h]
  ·have hb:(g == f)=false:=beq_eq_false_iff_ne.mpr h
   simp only[List.lookup,hb,if_neg h]
 | (k,x)::r=>by
  have ih:=ji f g v r
  rw[show mI f v ((k,x)::r)=(if k=f then (k,v)::r else (k,x)::mI f v r) from rfl]
  by_cases hk:k=f
  ·rw[if_pos hk]
   by_cases h:g=k
   ·have hb:(g == k)=true:=beq_iff_eq.mpr h
    simp only[List.lookup,hb,if_pos (h.trans hk)]
   ·have hb:(g == k)=false:=beq_eq_false_iff_ne.mpr h
    simp only[List.lookup,hb,if_neg (fun e:g=f=>h (e.trans hk.symm))]
  ·rw[if_neg hk]
   by_cases h:g=k
   ·have hb:(g == k)=true:=beq_iff_eq.mpr h
    simp only[List.lookup,hb,if_neg (fun e:g=f=>hk (h.symm.trans e))]
   ·have hb:(g == k)=false:=beq_eq_false_iff_ne.mpr h
    simp only[List.lookup,hb]
    exact ih
theorem iW (f:Str) (v:V):∀ fs:List (Str×V),f∈(mI f v fs).map (·.1)/\∀ g,g∈fs.map (·.1)->g∈(mI f v fs).map (·.1)
 | []=>⟨by simp[mI],fun g h=>by simp at h⟩
 | (k,x)::r=>by
  obtain⟨i1,i2⟩:=iW f v r
  rw[show mI f v ((k,x)::r)=(if k=f then (k,v)::r else (k,x)::mI f v r) from rfl]
  by_cases hk:k=f
  ·rw[if_pos hk]
   subst hk
   exact⟨by simp,fun g h=>by simpa using h⟩
  ·rw[if_neg hk]
   refine⟨?_,fun g h=>?_⟩
   ·rw[map_cons]
    exact mem_cons_of_mem _ i1
   ·rw[map_cons] at h ⊢
    rcases List.mem_cons.mp h with e | e
    ·exact List.mem_cons.mpr (.inl e)
    ·exact mem_cons_of_mem _ (i2 g e)
theorem jB (f:Str) (v:V):∀ fs:List (Str×V),(mI f v fs).length<=fs.length+1
 | []=>by simp[mI]
 | (k,x)::r=>by
  have ih:=jB f v r
  rw[show mI f v ((k,x)::r)=(if k=f then (k,v)::r else (k,x)::mI f v r) from rfl]
  by_cases hk:k=f
  ·rw[if_pos hk,length_cons,length_cons]; omega
  ·rw[if_neg hk,length_cons,length_cons]; omega
theorem RelO.some_of {v:V}{o:Option Value}(r:RelO (some v) o):∃ u,o=some u/\RelV v u:=by
 cases o with
 | none=>exact(show False from r).elim
 | some u=>exact⟨u,rfl,r⟩
theorem RelO.none_of {o:Option Value}(r:RelO none o):o=none:=by
 cases o with
 | none=>rfl
 | some u=>exact(show False from r).elim
theorem lQ {v:V}{u:Value}(r:RelV v u):PySem.W.handedIn u=true:=by
 cases v with
 | non=>cases (show u=Value.none from r); rfl
 | bl b=>cases (show u=Value.bool b from r); rfl
 | int i=>obtain⟨t,e⟩:=(show ∃ t,u=Value.int i t from r); cases e; rfl
 | str x=>obtain⟨t,e⟩:=(show ∃ t,u=Value.str x t from r); cases e; rfl
 | byt b=>obtain⟨t,e⟩:=(show ∃ t,u=Value.bytes b t from r); cases e; rfl
 | flt b=>obtain⟨t,e⟩:=(show ∃ t,u=Value.float b t from r); cases e; rfl
 | ref a=>cases (show u=Value.ref a from r); rfl
 | ty n=>cases (show u=Value.type n from r); rfl
section
variable {P:Program}{w:World}{H H':Hp}{h h':Heap}{a C dx:Addr}{fs fs':List (Str×V)}
theorem kO (hok:HOk P w H h) (e:H a=some (.ins C dx fs)):∃ mA,ObjM h a dx C mA/\(∀ f,RelO (fs.lookup f) (mA f))/\PySem.Within mA (fs.map (·.1))/\fs.length<=1000/\H dx=some (.own a):=by
 obtain⟨d,z,ne,ob,mA,n,r,q⟩:=(show ObjOk P w H h a (.ins C dx fs) from hok a _ e)
 exact⟨mA,⟨ob,n,ne⟩,r,q,z,d⟩
end
structure Cls (K:Frag) (C:Addr):Prop where
 pg:plainGet K C Str.empty=true
 hd:hasDictIn K C=true
 po:plainOver K C=true
 sa:findIn K (.ref C) "__setattr__"=some (some (.builtin "object.__setattr__"))
theorem Cls.get {K:Frag}{C:Addr}(c:Cls K C) (f:Str):plainGet K C f=true:=c.pg
def NoAttr (K:Frag) (C:Addr) (f:Str):Prop:=findIn K (.ref C) f=some none
theorem NoAttr.taker {K:Frag}{C:Addr}{f:Str}(n:NoAttr K C f):PySem.W.takerIn K C f=some none:=by
 unfold PySem.W.takerIn
 rw[show findIn K (.ref C) f=some none from n]
 rfl
structure Meth (K:Frag) (C:Addr) (m:Str) (f:Addr):Prop where
 at_:findIn K (.ref C) m=some (some (.ref f))
 fn:isFn K (.ref f)=true
 kp:keepIn K (.ref f)=true
section
variable {X:Cx}{pins:List (Addr×Obj)}{σ:St}{H:Hp}{s:Shared}{a C dx:Addr}{fs:List (Str×V)}{f:Str}{v:V}{A:Around}{E:Value->Shared->Prop}
theorem pC {b:Bool}{Q:Value->Shared->Prop}(I:Inv X pins σ H s) (e:H a=some (.ins C dx fs)) (c:Cls X.K C) (n:NoAttr X.K C f) (l:fs.lookup f=some v)
  (h:∀ u s',Inv X pins σ H s'->RelV v u->Q u s'):wpAny (model X.prog X.w) A (getAttr (.ref a) f b) Q E s:=by
 obtain⟨mA,O,r,_,_,_⟩:=kO I.hok e
 obtain⟨u,hu,ru⟩:=RelO.some_of (v:=v) (o:=mA f) (by rw[<- l]; exact r f)
 exact get_map I.kIn O (c.get f) c.hd n hu (lQ ru) (h u _ (I.tok _) ru)
theorem jV {m:Str}{g:Addr}{pl:Sem Bool}{Q:Value×List Value->Shared->Prop}(I:Inv X pins σ H s) (e:H a=some (.ins C dx fs)) (c:Cls X.K C) (k:Meth X.K C m g) (l:fs.lookup m=none)
  (h:Q (.ref g,[.ref a]) s):wpAny (model X.prog X.w) A (getMethod (.ref a) m pl) Q E s:=by
 obtain⟨mA,O,r,_,_,_⟩:=kO I.hok e
 have hn:mA m=none:=RelO.none_of (by rw[<- l]; exact r m)
 exact get_meth I.kIn O (c.get m) k.at_ k.fn hn h
theorem qm {y:V}{u:Value}{Q:Unit->Shared->Prop}(I:Inv X pins σ H s) (e:H a=some (.ins C dx fs)) (c:Cls X.K C) (n:NoAttr X.K C f) (hl:fs.length<1000) (ry:RelV y u)
  (h:∀ s',Inv X pins σ (upd H a (.ins C dx (mI f y fs))) s'->Q () s'):wpAny (model X.prog X.w) A (setAttr (.ref a) f u) Q E s:=by
 obtain⟨mA,O,r,wi,_,ho⟩:=kO I.hok e
 have hz:(fs.map (·.1)).length<=sizeLine:=by rw[length_map,sizeLine_eq]; omega
 refine set_map I.kIn O c.sa c.po n.taker c.hd wi hz fun h' O' sb=>h _ ?_
 have hd:∃ o,h'.get? dx=some o:=let ⟨o,_,_,e',_⟩:=O'.ns; ⟨o,e'⟩
 refine I.write (x:=a) (e:=dx) (by rw[e]; exact True.intro) (.inr ho) (fun b q hb z=>(sb.2 b hb).trans z) hd ?_
 refine⟨by rw[ao O.ne]; exact ho,?_,O.ne,O'.obj,_,O'.ns,fun g=>?_,fun g hg=>?_⟩
 ·have:=jB f y fs; omega
 ·show RelO ((mI f y fs).lookup g) (if g=f then some u else mA g)
  rw[ji]
  by_cases q:g=f
  ·rw[if_pos q,if_pos q]; exact ry
  ·rw[if_neg q,if_neg q]; exact r g
 ·by_cases q:g=f
  ·rw[q]; exact(iW f y fs).1
  ·refine(iW f y fs).2 g (wi g fun z=>hg ?_)
   show (if g=f then some u else mA g)=none
   rw[if_neg q]; exact z
theorem Inv.made (I:Inv X pins σ H s):Inv X pins σ (upd (upd H s.heap.objs.size (.own (s.heap.objs.size+1))) (s.heap.objs.size+1) (.ins C s.heap.objs.size []))
  { s with heap:=(s.heap.push PySem.W.emptyDict).push (instObj C s.heap.objs.size) }:=by
 have e1:(s.heap.push PySem.W.emptyDict).get? s.heap.objs.size=some PySem.W.emptyDict:=Heap.get?_push_size s.heap rfl
 have e2:((s.heap.push PySem.W.emptyDict).push (instObj C s.heap.objs.size)).get? (s.heap.objs.size+1)=some (instObj C s.heap.objs.size):=by
  have:=Heap.get?_push_size (s.heap.push PySem.W.emptyDict) (o:=instObj C s.heap.objs.size) rfl
  rwa [Heap.size_push] at this
 have e3:(s.heap.push PySem.W.emptyDict).Ns s.heap.objs.size (fun _=>none):=⟨PySem.W.emptyDict,#[],_,e1,rfl,(fun e he=>absurd he (by simp)),fun _=>rfl⟩
 have I1:=I.laid (a:=s.heap.objs.size) (o:=.own (s.heap.objs.size+1)) (h':=s.heap.push PySem.W.emptyDict) (t':=s.toks) (fun b u q=>Heap.get?_push_of_some _ q) (Nat.le_refl _) ⟨_,e1⟩
 refine I1.laid (a:=s.heap.objs.size+1) (o:=.ins C s.heap.objs.size []) (t':=s.toks) (fun b u q=>Heap.get?_push_of_some _ q) (Nat.le_of_eq (Heap.size_push _ _)) ?_
 have ne:s.heap.objs.size≠s.heap.objs.size+1:=Nat.ne_of_lt (lt_succ_self _)
 refine⟨by rw[ao ne,ah],zero_le _,ne,e2,fun _=>none,(Heap.Ns1.of_empty e3).at fun o q=>Heap.get?_push_of_some _ q,fun _=>True.intro,fun y hy=>absurd rfl hy⟩
theorem rX {prog:Program}{w:World}{env:Env}{e:Expr}{f:Str}{pos:Pos}{s:Shared}{Q:Value->Shared->Prop}(hb:attributeBase e f env (eval e env)=eval e env)
  (h:wpAny (model prog w) A (eval e env) (fun o s₁=>wpAny (model prog w) A (getAttr o f true) Q E s₁) E s):wpAny (model prog w) A (eval (.Attribute e f pos) env) Q E s :=
 Attribute_any_ h (by rw[arm_eval_Attribute,hb])
end
def tFld (K:Frag) (ta:TE) (f:Str):TE:=fun σ H Q=>ta σ H fun x H1=>∃ a C dx fs v,x=.ref a/\H1 a=some (.ins C dx fs)/\Cls K C/\NoAttr K C f/\fs.lookup f=some v/\Q v H1
def sFld (K:Frag) (ta tv:TE) (f:Str):TS:=fun D σ H=>tv σ H fun y H1=>ta σ H1 fun x H2=>∃ a C dx fs,x=.ref a/\H2 a=some (.ins C dx fs)/\Cls K C/\NoAttr K C f/\fs.length<1000 /\
 D.nx σ (upd H2 a (.ins C dx (mI f y fs)))
section
variable {X:Cx}{o e value:Expr}{f:Str}{pos pos' tpos:Pos}{ta tv:TE}
theorem ba (he:PE X e ta) (hb:attributeBase e f X.env (eval e X.env)=eval e X.env):PE X (.Attribute e f pos) (tFld X.K ta f):=by
 intro pins s σ H Q I h
 refine rX hb (thn (he pins s σ H _ I h) fun u s1 ⟨x,H1,I1,rx,a,C,dx,fs,v,ex,ea,c,n,l,q⟩=>?_)
 subst ex
 obtain rfl:u=Value.ref a:=rx
 exact pC I1 ea c n l fun u' s2 I2 ru=>⟨v,H1,I2,ru,q⟩
theorem eW (ha:PE X o ta) (hv:PE X value tv) (hs:swapsWith value (some (.Attribute o f pos')) pos.line X.env=pure false):PS X (.Assign [.Attribute o f pos'] value pos) (sFld X.K ta tv f):=by
 intro pins s σ H D I h
 refine plainObj_wpAny_Assign_Attribute (thn (hv pins s σ H _ I h) fun u s1 ⟨y,H1,I1,ry,q⟩=>thn (ha pins s1 σ H1 _ I1 q) fun ov s2 ⟨x,H2,I2,rx,a,C,dx,fs,ex,ea,c,n,l,q2⟩=>?_) hs
 subst ex
 obtain rfl:ov=Value.ref a:=rx
 exact qm I2 ea c n l ry fun s3 I3=>⟨σ,_,I3,q2⟩
end
section
variable {X:Cx}{pins:List (Addr×Obj)}{σ:St}{H:Hp}{s:Shared}{A:Around}{E:Value->Shared->Prop}{Q:Value->Shared->Prop}{c:Value}{b:Bool}
inductive TyOf (K:Frag) (H:Hp):V->Value->Prop where
 | non:TyOf K H .non (.type "NoneType")
 | bl (x:Bool):TyOf K H (.bl x) (.type "bool")
 | int (i:Int):TyOf K H (.int i) (.type "int")
 | str (x:Str):TyOf K H (.str x) (.type "str")
 | flt (x:UInt64):TyOf K H (.flt x) (.type "float")
 | lst {a:Addr} {xs:List V} (e:H a=some (.lst xs)):TyOf K H (.ref a) (.type "list")
 | frz {a:Addr} {o:Obj} {xs:List V} (e:H a=some (.frz o (.lst xs))):TyOf K H (.ref a) (.type "list")
 | tup {a:Addr} {xs:List V} (e:H a=some (.tup xs)):TyOf K H (.ref a) (.type "tuple")
 | dK {a:Addr} {kvs:List (Key×V)} (e:H a=some (.dK kvs)):TyOf K H (.ref a) (.type "dict")
 | dT {a:Addr} {kvs:List (List Key×V)} (e:H a=some (.dT kvs)):TyOf K H (.ref a) (.type "dict")
 | ins {a C dx:Addr} {fs:List (Str×V)} (e:H a=some (.ins C dx fs)) (cl:Cls K C) (ha:findIn K (.ref C) "__class__"=some (some (.builtin "object.__class__")))
   (hn:PySem.W.specialIn K (.builtin "object.__class__") "__get__"=some (some (.builtin "getset_descriptor.__get__"))) (htk:PySem.W.takesIn K (.builtin "object.__class__")=some true)
   (hm:mroIn K C (.type "object")=some true):TyOf K H (.ref a) (.ref C)
theorem qy {x:V}{u t:Value}(I:Inv X pins σ H s) (rx:RelV x u) (ty:TyOf X.K H x t) (e:kitOne X.K t c=some b) (h:∀ tk,Q (.bool b) { s with toks:=tk }) :
  wpAny (model X.prog X.w) A (call (.builtin "isinstance") [u,c]) Q E s:=by
 cases ty with
 | non=>cases (show u=Value.none from rx); exact PySem.W.kia_one PySem.W.kitx_none I.kIn True.intro e (fun z=>nomatch z) h
 | bl y=>cases (show u=Value.bool y from rx); exact PySem.W.kia_one PySem.W.kitx_bool I.kIn True.intro e (fun z=>nomatch z) h
 | int i=>obtain⟨t,q⟩:=(show ∃ t,u=Value.int i t from rx); cases q; exact PySem.W.kia_one PySem.W.kitx_int I.kIn True.intro e (fun z=>nomatch z) h
 | str y=>obtain⟨t,q⟩:=(show ∃ t,u=Value.str y t from rx); cases q; exact PySem.W.kia_one PySem.W.kitx_str I.kIn True.intro e (fun z=>nomatch z) h
 | flt y=>obtain⟨t,q⟩:=(show ∃ t,u=Value.float y t from rx); cases q; exact PySem.W.kia_one PySem.W.kitx_float I.kIn True.intro e (fun z=>nomatch z) h
 | @lst a xs ea =>
  cases (show u=Value.ref a from rx)
  obtain⟨_,_,n,_,h1⟩:=(show ObjOk X.prog X.w H s.heap a (.lst xs) from I.hok a _ ea)
  exact PySem.W.kia_one PySem.W.kitx_list I.kIn ⟨_,h1,rfl⟩ e (fun z=>nomatch z) h
 | @frz a ob xs ea =>
  cases (show u=Value.ref a from rx)
  obtain⟨_,_,_,n,_,h1⟩:=(show ObjOk X.prog X.w H s.heap a (.frz ob (.lst xs)) from I.hok a _ ea)
  exact PySem.W.kia_one PySem.W.kitx_list I.kIn ⟨_,h1,rfl⟩ e (fun z=>nomatch z) h
 | @tup a xs ea =>
  cases (show u=Value.ref a from rx)
  obtain⟨_,_,_,p⟩:=(show ObjOk X.prog X.w H s.heap a (.tup xs) from I.hok a _ ea)
  obtain⟨o,h1,h2,_⟩:=p
  exact PySem.W.kia_one PySem.W.kitx_tuple I.kIn ⟨o,h1,h2⟩ e (fun z=>nomatch z) h
 | @dK a kvs ea =>
  cases (show u=Value.ref a from rx)
  obtain⟨_,_,vs,_,p⟩:=(show ObjOk X.prog X.w H s.heap a (.dK kvs) from I.hok a _ ea)
  obtain⟨o,es,ep,h1,h2,_⟩:=p
  exact PySem.W.kia_one PySem.W.kitx_dict I.kIn ⟨o,h1,h2.1⟩ e (fun z=>nomatch z) h
 | @dT a kvs ea =>
  cases (show u=Value.ref a from rx)
  obtain⟨_,_,xs,_,o,es,ep,h1,h2,_⟩:=(show ObjOk X.prog X.w H s.heap a (.dT kvs) from I.hok a _ ea)
  exact PySem.W.kia_one PySem.W.kitx_dict I.kIn ⟨o,h1,h2.1⟩ e (fun z=>nomatch z) h
 | @ins a C dx fs ea cl ha hn htk hm =>
  cases (show u=Value.ref a from rx)
  obtain⟨mA,O,_⟩:=kO I.hok ea
  obtain⟨od,J,_⟩:=O.look
  exact PySem.W.kia_one (PySem.W.kitx_own (cl.get _) cl.hd ha hn htk hm) I.kIn J e (fun z=>nomatch z) h
end
end L2
namespace L2
open PySem PySem.Spec PyProof.Rows
structure Room (k:Nat) (A:Around):Prop where
 hd:A.handled=none
 dp:A.depth+3*k+5<recursionLimit
 un:A.units+16*k+200<cLine
 gd:A.guards=some []
theorem Room.mono {j k:Nat}{A:Around}(r:Room k A) (h:j<=k):Room j A:=⟨r.hd,by have:=r.dp; omega,by have:=r.un; omega,r.gd⟩
theorem Room.deeper {k:Nat}{A:Around}(r:Room (k+1) A) (env:Env):Room k (A.deeper env) :=
 ⟨r.hd,by have:=r.dp; show A.depth+1+3*k+5<_; omega,by have:=r.un; show A.units+3+16*k+200<_; omega,r.gd⟩
theorem Room.in1 {k:Nat}{A:Around}(r:Room (k+1) A):Room k A.in1 :=
 ⟨r.hd,by have:=r.dp; show A.depth+3*k+5<_; omega,by have:=r.un; show A.units+1+16*k+200<_; omega,r.gd⟩
theorem qb {A:Around}{C:Addr}{us:List Value}{kw:List (Str×Value)}:(A.under (.builtin "type.__call__" ⟨.ref C::us,kw⟩)).depth=A.depth+1:=by
 first | rfl | simp[Around.under,Code.weight,Code.isCreation,Code.isGuard,Code.isCaller,Code.frames,Code.isFrame,guardIds]
theorem pU {A:Around}{C:Addr}{us:List Value}{kw:List (Str×Value)}:(A.under (.builtin "type.__call__" ⟨.ref C::us,kw⟩)).units=A.units+1:=by
 first | rfl | simp[Around.under,Code.cUnits,Code.frames,Code.isFrame]
theorem Room.make {k:Nat}{A:Around}(r:Room (k+1) A) (C:Addr) (us:List Value) (kw:List (Str×Value)):Room k (A.under (.builtin "type.__call__" ⟨.ref C::us,kw⟩)) :=
 ⟨r.hd,by have:=r.dp; rw[qb]; omega,by have:=r.un; rw[pU]; omega,r.gd⟩
theorem Room.depth {k:Nat}{A:Around}(r:Room k A):A.depth<recursionLimit:=by have:=r.dp; omega
theorem Room.units {k:Nat}{A:Around}(r:Room k A):A.units+64<cLine:=by have:=r.un; omega
def li:TA:=fun _ H Q=>Q [] H
def aX (ta:TE) (tr:TA):TA:=fun σ H Q=>ta σ H fun x H1=>tr σ H1 fun xs H2=>Q (x::xs) H2
section
variable {X:Cx}{e:Expr}{es:List Expr}{te:TE}{t:TA}{pos:Pos}
theorem ae:PA X [] li:=fun _ _ _ _ H Q I h=>Calls.spliced_nil ⟨[],H,I,.nil,h⟩
theorem aa (ha:PE X e te) (hr:PA X es t) (hs:starEach (e::es) X.env=(false,eval e X.env)::starEach es X.env:=by rfl):PA X (e::es) (aX te t):=by
 intro pos pins s σ H Q I h
 rw[hs]
 show wpAny _ _ (spliced ((false,eval e X.env)::backTo pos (starEach es X.env))) _ _ s
 refine Calls.spliced_cons (thn (ha pins s σ H _ I h) fun u s1 ⟨x,H1,I1,r1,q1⟩=>?_)
 exact thn (hr pos pins s1 σ H1 _ I1 q1) fun us s2 ⟨xs,H2,I2,r2,q2⟩=>⟨x::xs,H2,I2,.cons r1 r2,q2⟩
def tTup (t:TA):TE:=fun σ H Q=>t σ H fun xs H1=>xs.length<=sizeLine/\∀ p,H1 p=none->Q (.ref p) (upd H1 p (.tup xs))
def tLst (t:TA):TE:=fun σ H Q=>t σ H fun xs H1=>xs.length<=sizeLine/\∀ p,H1 p=none->Q (.ref p) (upd H1 p (.lst xs))
theorem aG {x1}(h:PA X es t):PE X (.Tuple es x1 pos) (tTup t):=by
 intro pins s σ H Q I hq
 refine wpAny_Tuple_spliced (thn (h pos pins s σ H _ I hq) fun us s1 ⟨xs,H1,I1,r,z,q⟩=>⟨by rw[<- r.length]; exact z,?_⟩)
 have hf:H1 s1.heap.objs.size=none:=I1.hok.fresh (Nat.le_refl _)
 refine⟨.ref s1.heap.objs.size,upd H1 s1.heap.objs.size (.tup xs),I1.laid (t':=s1.toks) (fun b u e=>Heap.get?_push_of_some _ e) (Nat.le_refl _) ?_,rfl,q _ hf⟩
 exact⟨z,us,r,⟨_,Heap.get?_push_size _ rfl,rfl,_,rfl⟩⟩
theorem bX (h:PA X es t):PE X (.List es pos) (tLst t):=by
 intro pins s σ H Q I hq
 refine wpAny_List_spliced (thn (h pos pins s σ H _ I hq) fun us s1 ⟨xs,H1,I1,r,z,q⟩=>⟨by rw[<- r.length]; exact z,?_⟩)
 have hf:H1 s1.heap.objs.size=none:=I1.hok.fresh (Nat.le_refl _)
 refine⟨.ref s1.heap.objs.size,upd H1 s1.heap.objs.size (.lst xs),I1.laid (t':=s1.toks) (fun b u e=>Heap.get?_push_of_some _ e) (Nat.le_refl _) ?_,rfl,q _ hf⟩
 exact⟨z,us,0,r,Heap.get?_push_size _ rfl⟩
end
abbrev Sp:=List V->Hp->VK->XK->Prop
abbrev CXT:=List Env->Hp->Shared->XK->Value->Shared->Prop
structure Env0 (P:Program) (w:World) (K:Frag) (mg:Str->Option Value) (base:Heap) (A:Around) (outer:List Env) (s:Shared) (H:Hp):Prop where
 frames:A.frames=some outer
 mod:Mod K mg base
 bs:∀ b o,base.get? b=some o->s.heap.get? b=some o/\H b=none
 bsz:base.objs.size<=s.heap.objs.size
 funs:s.heap.FunFrames base outer
 frf:∀ b∈frs outer,H b=none
 hok:HOk P w H s.heap
 bare:AllBare s.gens
def CE (outer:List Env) (P:Program) (w:World) (H:Hp) (s:Shared) (Q:VK) (u:Value) (s':Shared):Prop :=
 ∃ v H',s'.os=s.os/\AllBare s'.gens/\Un (frs outer) [] H H' s.heap s'.heap/\HOk P w H' s'.heap/\RelV v u/\Q v H'
def CR (CX:CXT) (outer:List Env) (P:Program) (w:World) (H:Hp) (s:Shared) (Q:VK) (E:XK) (r:Result) (s':Shared):Prop :=
 match r with
 | .ok (.ret u)=>CE outer P w H s Q u s'
 | .ok _=>False
 | .error e=>CX outer H s E e s'
structure FnOk (P:Program) (w:World) (K:Frag) (mg:Str->Option Value) (base:Heap) (CX:CXT) (k:Nat) (f:Addr) (fd:FuncData) (ps:List Str) (sp:Sp):Prop where
 len:∀ vs H Q E,sp vs H Q E->vs.length=ps.length
 run:∀ (A:Around) (outer:List Env) (s:Shared) (H:Hp) (args:Args) (us:List Value) (vs:List V) (Q:VK) (E:XK),Room k A->Env0 P w K mg base A outer s H->BindsTo s fd args (ps.zip us)->Vals vs us->sp vs H Q E ->
  codeAny (model P w) A (.call (.ref f) args) (CR CX outer P w H s Q E) s
theorem FnOk.imp {P:Program}{w:World}{K:Frag}{mg:Str->Option Value}{base:Heap}{CX:CXT}{k:Nat}{f:Addr}{fd:FuncData}{ps:List Str}{sp sp':Sp}(F:FnOk P w K mg base CX k f fd ps sp)
  (h:∀ vs H Q E,sp' vs H Q E->sp vs H Q E):FnOk P w K mg base CX k f fd ps sp' :=
 ⟨fun vs H Q E q=>F.len vs H Q E (h _ _ _ _ q),fun A outer s H args us vs Q E hr he hb hv hs=>F.run A outer s H args us vs Q E hr he hb hv (h _ _ _ _ hs)⟩
theorem Env0.make {P:Program}{w:World}{K:Frag}{mg:Str->Option Value}{base:Heap}{A:Around}{outer:List Env}{s:Shared}{H:Hp}(e:Env0 P w K mg base A outer s H) (C:Addr) (us:List Value) (kw:List (Str×Value)) :
  Env0 P w K mg base (A.under (.builtin "type.__call__" ⟨.ref C::us,kw⟩)) outer s H:=⟨by first | exact e.frames | (simpa [Around.under,Code.envs,Code.isFrame,pushEnvs] using e.frames),e.mod,e.bs,e.bsz,e.funs,e.frf,e.hok,e.bare⟩
section
variable {X:Cx}{pins:List (Addr×Obj)}{σ:St}{H:Hp}{s s':Shared}
theorem Inv.env0 (I:Inv X pins σ H s):Env0 X.prog X.w X.K X.mg X.base X.A X.stack s H :=
 ⟨I.ok.frames,I.ok.mod,I.bs,Nat.le_trans I.ok.bsz I.sz,I.stack,I.stkFree,I.hok,I.bare⟩
theorem Inv.after {Q:VK}{u:Value}(I:Inv X pins σ H s) (h:CE X.stack X.prog X.w H s Q u s'):EP X pins σ Q u s':=by
 obtain⟨v,H',os,bare,un,hok,r,q⟩:=h
 obtain⟨hh,g,d,t,os'⟩:=s'
 obtain rfl:os'=s.os:=os
 exact⟨v,H',I.call (h':=hh) (g':=g) (d':=d) (t':=t) (ch:=[]) un hok bare (fun b z=>absurd z (by simp)),r,q⟩
end
def cU (sp:Sp) (dvs:List V) (E:XK) (t:TA):TE:=fun σ H Q=>t σ H fun vs H1=>sp (vs++dvs) H1 Q E
def tMake (C:Addr) (sp:Sp) (dvs:List V) (E:XK) (t:TA):TE:=fun σ H Q=>t σ H fun vs H1=>∀ x dx,H1 x=none->H1 dx=none->dx≠x ->
 sp (.ref x::(vs++dvs)) (upd (upd H1 dx (.own x)) x (.ins C dx [])) (fun v H2=>v=.non/\Q (.ref x) H2) E
def Binds (K:Frag) (fd:FuncData) (ps:List Str) (ds:List Value):Prop :=
 ∀ (s:Shared) (us:List Value),K.In s.heap->(us++ds).length=ps.length->BindsTo s fd ⟨us,[]⟩ (ps.zip (us++ds))
theorem Binds.all {K:Frag}{fd:FuncData}{ps:List Str}(h:∀ us:List Value,us.length=ps.length->bindArgs fd ⟨us,[]⟩=pure (ps.zip us)):Binds K fd ps []:=fun s us _ hl=>by
 rw[append_nil] at hl ⊢
 exact .of_eq (h us hl)
def eX (CX:CXT) (X:Cx) (E:XK):Prop:=∀ (pins:List (Addr×Obj)) (σ:St) (H:Hp) (s:Shared) (e:Value) (s':Shared),Inv X pins σ H s->CX X.stack H s E e s'->X.xe e s'
section
variable {X:Cx}{CX:CXT}{k:Nat}{f C:Addr}{fd:FuncData}{ps:List Str}{sp:Sp}{dvs:List V}{ds:List Value}{E:XK}{x m:Str}{p pos apos:Pos}{e o:Expr}{es:List Expr}{ta:TE}{t:TA}
theorem oX {pins:List (Addr×Obj)}{σ:St}{H:Hp}{s:Shared}{Q:VK}{us:List Value}{vs:List V}(F:FnOk X.prog X.w X.K X.mg X.base CX k f fd ps sp) (hr:Room k X.A) (hb:Binds X.K fd ps ds) (hd:Vals dvs ds) (hx:eX CX X E)
  (I:Inv X pins σ H s) (r:Vals vs us) (h:sp (vs++dvs) H Q E):wpAny (model X.prog X.w) X.A (call (.ref f) us) (EP X pins σ Q) X.xe s:=by
 have r2:Vals (vs++dvs) (us++ds):=r.append hd
 have hl:(us++ds).length=ps.length:=by rw[<- r2.length]; exact F.len _ _ _ _ h
 refine wpAny_call (codeAny_mono (F.run X.A X.stack s H ⟨us,[]⟩ (us++ds) (vs++dvs) Q E hr I.env0 (hb s us I.kIn hl) r2 h) fun r s' hq=>?_)
 cases r with
 | error e=>exact hx pins σ H s e s' I hq
 | ok fl =>
  cases fl with
  | ret u=>exact I.after hq
  | next=>exact False.elim hq
  | brk=>exact False.elim hq
  | cont=>exact False.elim hq
theorem kB (F:FnOk X.prog X.w X.K X.mg X.base CX k f fd ps sp) (hr:Room k X.A) (hg:Gl X x) (hm:X.mg x=some (.ref f)) (hk:keepIn X.K (.ref f)=true) (hb:Binds X.K fd ps ds) (hd:Vals dvs ds) (hx:eX CX X E)
  (ha:PA X (e::es) t) (hdb:(x == ("__debug__":Str))=false:=by decide) (he:starEach (e::es) X.env=(false,eval e X.env)::starEach es X.env:=by rfl) (hpl:(backTo pos (starEach es X.env)).any (·.1)=false:=by rfl) :
  PE X (.Call (.Name x p) (e::es) [] pos) (cU sp dvs E t):=by
 intro pins s σ H Q I h
 refine wpAny_Call_Name_kw (fM I hg hm ?_ hdb)
 refine PySem.W.callWith_K (h₀:=X.base) I.ok.mod.kin hk (thn (ha pos pins s σ H _ I h) fun us s1 ⟨vs,H1,I1,r,q⟩=>⟨I1.kIn,?_⟩) he hpl
 exact oX F hr hb hd hx I1 r q
theorem pe_call0 (F:FnOk X.prog X.w X.K X.mg X.base CX k f fd ps sp) (hr:Room k X.A) (hg:Gl X x) (hm:X.mg x=some (.ref f)) (hk:keepIn X.K (.ref f)=true) (hb:Binds X.K fd ps ds) (hd:Vals dvs ds) (hx:eX CX X E)
  (hdb:(x == ("__debug__":Str))=false:=by decide):PE X (.Call (.Name x p) [] [] pos) (cU sp dvs E li):=by
 intro pins s σ H Q I h
 refine wpAny_Call_Name_kw (fM I hg hm ?_ hdb)
 exact PySem.W.callWith_K0 I.kIn hk (oX (us:=[]) F hr hb hd hx I .nil h)
structure Mk (K:Frag) (C f:Addr):Prop where
 makes:makesIn K C=true
 init:findIn K (.ref C) "__init__"=some (some (.ref f))
 fn:isFn K (.ref f)=true
 kp:keepIn K (.ref C)=true
theorem run_make {pins:List (Addr×Obj)}{σ:St}{H:Hp}{s:Shared}{Q:VK}{us:List Value}{vs:List V}(M:Mk X.K C f) (F:FnOk X.prog X.w X.K X.mg X.base CX k f fd ps sp) (hr:Room (k+1) X.A) (hb:Binds X.K fd ps ds) (hd:Vals dvs ds)
  (hx:eX CX X E) (I:Inv X pins σ H s) (r:Vals vs us)
  (h:∀ x dx,H x=none->H dx=none->dx≠x->sp (.ref x::(vs++dvs)) (upd (upd H dx (.own x)) x (.ins C dx [])) (fun v H2=>v=.non/\Q (.ref x) H2) E) :
  wpAny (model X.prog X.w) X.A (call (.ref C) us) (EP X pins σ Q) X.xe s:=by
 have hq:=h (s.heap.objs.size+1) s.heap.objs.size (I.hok.fresh (le_succ _)) (I.hok.fresh (Nat.le_refl _)) (Nat.ne_of_lt (lt_succ_self _))
 have I2:=Inv.made (C:=C) I
 have r2:Vals (V.ref (s.heap.objs.size+1)::(vs++dvs)) (Value.ref (s.heap.objs.size+1)::(us++ds)):=.cons rfl (r.append hd)
 have hl:(Value.ref (s.heap.objs.size+1)::us++ds).length=ps.length:=by
  have e:=r2.length
  rw[F.len _ _ _ _ hq] at e
  exact e.symm
 refine wpAny_call (make_map (f:=f) I.kIn M.makes M.init (beq_iff_eq.mp M.fn) (codeAny_mono (F.run _ X.stack _ _ ⟨Value.ref (s.heap.objs.size+1)::us,[]⟩ (Value.ref (s.heap.objs.size+1)::(us++ds)) _ _ E (hr.make C us [])
  (I2.env0.make C us []) (hb _ (Value.ref (s.heap.objs.size+1)::us) I2.kIn hl) r2 hq) fun r s' hq'=>?_))
 cases r with
 | error e=>exact hx pins σ _ _ e s' I2 hq'
 | ok fl =>
  cases fl with
  | ret u =>
   obtain⟨v,H',I3,rv,ev,q3⟩:=I2.after hq'
   subst ev
   exact⟨rv,⟨V.ref (s.heap.objs.size+1),H',I3,rfl,q3⟩⟩
  | next=>exact False.elim hq'
  | brk=>exact False.elim hq'
  | cont=>exact False.elim hq'
theorem pe_make (M:Mk X.K C f) (F:FnOk X.prog X.w X.K X.mg X.base CX k f fd ps sp) (hr:Room (k+1) X.A) (hg:Gl X x) (hm:X.mg x=some (.ref C)) (hb:Binds X.K fd ps ds) (hd:Vals dvs ds) (hx:eX CX X E)
  (ha:PA X (e::es) t) (hdb:(x == ("__debug__":Str))=false:=by decide) (he:starEach (e::es) X.env=(false,eval e X.env)::starEach es X.env:=by rfl) (hpl:(backTo pos (starEach es X.env)).any (·.1)=false:=by rfl) :
  PE X (.Call (.Name x p) (e::es) [] pos) (tMake C sp dvs E t):=by
 intro pins s σ H Q I h
 refine wpAny_Call_Name_kw (fM I hg hm ?_ hdb)
 refine PySem.W.callWith_K (h₀:=X.base) I.ok.mod.kin M.kp (thn (ha pos pins s σ H _ I h) fun us s1 ⟨vs,H1,I1,r,q⟩=>⟨I1.kIn,?_⟩) he hpl
 exact run_make M F hr hb hd hx I1 r q
end
section
variable {X:Cx}{CX:CXT}{k:Nat}{f C:Addr}{fd:FuncData}{ps ks:List Str}{sp:Sp}{E:XK}{x m:Str}{p pos apos kpos:Pos}{e o:Expr}{es:List Expr}{kws:List Keyword}{te ta:TE}{t tk:TA}{nm:Option Str}
variable {g:List Value->List Value->List Value}{gV:List V->List V->List V}
end
structure FnScope (N P:List Str) (sc:Scope):Prop where
 kind:sc.kind=.function
 co:sc.isCoroutine=false
 gen:sc.isGenerator=false
 nd:N.Nodup
 pre:N.take P.length=P
 par:∀ x∈P,sc.names.lookup x=some .local\/sc.names.lookup x=some .cell
 nofree:∀ y∈sc.names,y.2≠.free
theorem mm {kindOf:Str->Option NameKind}{x:Str}:∀ {binds:List (Str×Value)}{m:Str->Option Value},(∀ v,(x,v)∉binds)->bindL kindOf binds m x=m x
 | [],_,_=>rfl
 | (n,v)::r,m,h=>by
  unfold bindL
  rw[mm fun w hw=>h w (mem_cons_of_mem _ hw)]
  split
  ·have:x≠n:=by rintro rfl; exact h v mem_cons_self
   simp[this]
  ·rfl
theorem me {kindOf:Str->Option NameKind}{x:Str}:∀ {binds:List (Str×Value)}{m:Str->Option Value},(∀ v,(x,v)∉binds)->bindC kindOf binds m x=m x
 | [],_,_=>rfl
 | (n,v)::r,m,h=>by
  unfold bindC
  rw[me fun w hw=>h w (mem_cons_of_mem _ hw)]
  split
  ·rfl
  ·have:x≠n:=by rintro rfl; exact h v mem_cons_self
   simp[this]
theorem mk {kindOf:Str->Option NameKind}{x:Str}{v:Value}:∀ {P:List Str}{vs:List Value}{i:Nat}{m:Str->Option Value},P.Nodup->P[i]?=some x->vs[i]?=some v->kindOf x=some .local ->
  bindL kindOf (P.zip vs) m x=some v
 | [],_,_,_,_,h,_,_=>by simp at h
 | _::_,[],_,_,_,_,h,_=>by simp at h
 | p::P,w::vs,0,m,nd,h1,h2,hk=>by
  simp at h1 h2; subst h1; subst h2
  show bindL kindOf ((p,w)::P.zip vs) m p=_
  unfold bindL
  rw[mm fun v hv=>(List.nodup_cons.mp nd).1 (List.of_mem_zip hv).1,if_pos hk]
  simp
 | p::P,w::vs,i+1,m,nd,h1,h2,hk=>by
  show bindL kindOf ((p,w)::P.zip vs) m x=_
  unfold bindL
  exact mk (i:=i) (List.nodup_cons.mp nd).2 (by simpa using h1) (by simpa using h2) hk
theorem mi {kindOf:Str->Option NameKind}{x:Str}{v:Value}:∀ {P:List Str}{vs:List Value}{i:Nat}{m:Str->Option Value},P.Nodup->P[i]?=some x->vs[i]?=some v->kindOf x≠some .local ->
  bindC kindOf (P.zip vs) m x=some v
 | [],_,_,_,_,h,_,_=>by simp at h
 | _::_,[],_,_,_,_,h,_=>by simp at h
 | p::P,w::vs,0,m,nd,h1,h2,hk=>by
  simp at h1 h2; subst h1; subst h2
  show bindC kindOf ((p,w)::P.zip vs) m p=_
  unfold bindC
  rw[me fun v hv=>(List.nodup_cons.mp nd).1 (List.of_mem_zip hv).1,if_neg hk]
  simp
 | p::P,w::vs,i+1,m,nd,h1,h2,hk=>by
  show bindC kindOf ((p,w)::P.zip vs) m x=_
  unfold bindC
  exact mi (i:=i) (List.nodup_cons.mp nd).2 (by simpa using h1) (by simpa using h2) hk
def start (N:List Str) (vs:List V):St:=vs.map some++List.replicate (N.length-vs.length) none
def cQ (CX:CXT) (P:Program) (w:World) (K:Frag) (mg:Str->Option Value) (base:Heap) (N:List Str) (qual:Str) (scope:Scope) (f:Addr) (cd:Value) (A:Around) (outer:List Env) (s:Shared) (H:Hp) (E:XK):Cx where
 prog:=P
 w:=w
 K:=K
 mg:=mg
 base:=base
 A:=A.deeper (envOfC qual scope s.heap.objs.size f cd)
 N:=N
 s₀:=s
 H₀:=H
 env:=envOfC qual scope s.heap.objs.size f cd
 outer:=outer
 stack:=envOfC qual scope s.heap.objs.size f cd::outer
 ex:=[]
 calm:=true
 fn:=fun _=>true
 pn:=[]
 xe:=fun e s'=>wpAny (model P w) (A.deeper (envOfC qual scope s.heap.objs.size f cd)) (leaving (envOfC qual scope s.heap.objs.size f cd) e) (fun _ s''=>CX outer H s E e s'') (fun e' s''=>CX outer H s E e' s'') s'
theorem oE {sc:Scope}{n:Nat}{x:Str}(h:sc.names.lookup x=some .cell):∃ c,(cellsFrom n sc.names []).lookup x=some c:=by
 have q:=PySem.W.cellsFrom_some sc.names n [] (.inl h)
 exact Option.isSome_iff_exists.mp q
theorem jw {CX:CXT}{P:Program}{w:World}{K:Frag}{mg:Str->Option Value}{base:Heap}{N ps:List Str}{qual:Str}{scope:Scope}{f:Addr}{cd:Value}{A:Around}{outer:List Env}{s s1:Shared}{H:Hp}{E:XK}{us:List Value}{vs:List V}
  (S:FnScope N ps scope) (hd:A.handled=none) (e0:Env0 P w K mg base A outer s H) (hl:vs.length=ps.length) (r:Vals vs us)
  (x:InCallC s s.heap.objs.size (bindL (envOfC qual scope s.heap.objs.size f cd).kindOf (ps.zip us) fun _=>none) (cellsFrom (s.heap.objs.size+1) scope.names []) (bindC (envOfC qual scope s.heap.objs.size f cd).kindOf (ps.zip us) fun _=>none) s1) :
  Inv (cQ CX P w K mg base N qual scope f cd A outer s H E) [] (start N vs) H s1:=by
 have hpl:ps.length<=N.length:=by have:=congrArg List.length S.pre; rw[length_take] at this; omega
 obtain⟨h1,tk,rfl,hk⟩:=x.done
 have noA:∀ b:Addr,b∉(cQ CX P w K mg base N qual scope f cd A outer s H E).ex:=fun b z=>absurd (show b∈([]:List Addr) from z) (by simp)
 refine⟨⟨e0.mod,S.kind,rfl,rfl,Nat.le_refl _,fun y z c h1 h2=>?_,fun y hy=>?_,fun y c _ h=>?_,fun _=>hd,Around.frames_deeper e0.frames,.inr ⟨rfl,rfl⟩,fun b z=>absurd z (noA b),e0.bs,e0.bsz,fun b _ _=>noA b,fun b z=>absurd z (noA b),e0.funs,e0.frf⟩,
  rfl,e0.bare,Un.kept hk,⟨_,x.toInCall.ns,fun i y v h1 h2 h3=>?_⟩,fun y c h=>⟨_,x.cell y c h⟩,e0.hok.fresh (Nat.le_refl _),fun y c h=>?_,fun p hp=>absurd (show p∈([]:List (Addr×Obj)) from hp) (by simp),e0.hok.kept hk,?_⟩
 ·exact name_of_addr x.apart (PySem.mem_of_lookup h1) (PySem.mem_of_lookup h2)
 ·have hy:scope.names.lookup y=some .cell\/scope.names.lookup y=some .free:=hy
  rcases hy with hy | hy
  ·exact oE hy
  ·exact absurd rfl (S.nofree _ (PySem.mem_of_lookup hy))
 ·exact Nat.le_of_lt (x.above y c (PySem.mem_of_lookup h))
 ·have hi:i<vs.length:=by
   unfold start at h2
   by_cases hi:i<vs.length
   ·exact hi
   ·rw[List.getElem?_append_right (by simpa using hi)] at h2
    rw[List.getElem?_replicate] at h2
    split at h2 <;> cases h2
  have ha:vs[i]?=some v:=by
   unfold start at h2
   rw[List.getElem?_append_left (by simpa using hi),List.getElem?_map] at h2
   cases e:vs[i]? with
   | none=>rw[e] at h2; cases h2
   | some a=>rw[e] at h2; cases h2; rfl
  obtain⟨u,hu,rv⟩:=r.get ha
  have hp:ps[i]?=some y:=by
   rw[<- S.pre,List.getElem?_take_of_lt (by omega)]; exact h1
  have ndP:ps.Nodup:=by rw[<- S.pre]; exact S.nd.sublist (List.take_sublist _ _)
  refine⟨u,rv,?_⟩
  rcases S.par y (mem_of_getElem? hp) with k | k
  ·exact .inl ⟨k,mk ndP hp hu k⟩
  ·obtain⟨c,e⟩:=oE (n:=s.heap.objs.size+1) k
   refine .inr ⟨.inl k,c,e,?_⟩
   have q:=x.cell y c e
   rw[mi ndP hp hu (by show scope.names.lookup y≠_; rw[k]; decide)] at q
   exact q
 ·exact e0.hok.fresh (Nat.le_of_lt (x.above y c (PySem.mem_of_lookup h)))
 ·unfold start
  show _=N.length
  rw[length_append,length_map,List.length_replicate]
  omega
theorem fn_of {CX:CXT}{P:Program}{w:World}{K:Frag}{mg:Str->Option Value}{base:Heap}{k:Nat}{f:Addr}{name qual:Str}{params:Arguments}{body:List Stmt}{scope:Scope}{dV kV doc pm cdv ct oc:Value}{an od:Option Addr}
  {osl:Array (Option Value)} {N ps:List Str} {sp:Sp} (lk:K.lookup f=some ⟨oc,od,.func (fnOf name qual params body scope dV kV doc pm an cdv ct),osl⟩) (hcd:codeIn K cdv qual=true) (S:FnScope N ps scope)
  (len:∀ vs H Q E,sp vs H Q E->vs.length=ps.length)
  (hbody:∀ (A:Around) (outer:List Env) (s:Shared) (H:Hp) (vs:List V) (Q:VK) (E:XK),Room k (A.deeper (envOfC qual scope s.heap.objs.size f cdv))->sp vs H Q E ->
   ∃ t,PSs (cQ CX P w K mg base N qual scope f cdv A outer s H E) body t/\t { nx:=fun _ H'=>Q .non H',rt:=Q } (start N vs) H) :
  FnOk P w K mg base CX (k+1) f (fnOf name qual params body scope dV kV doc pm an cdv ct) ps sp:=by
 refine⟨len,fun A outer s H args us vs Q E hr e0 hb r hsp=>?_⟩
 have hl:=len _ _ _ _ hsp
 have KX:K.In s.heap:=e0.mod.kin.keeps fun b o e=>(e0.bs b o e).1
 have lim:s.heap.NoLimit:=e0.mod.nolimit.keeps fun b o e=>(e0.bs b o e).1
 have hkind:∀ y∈ps.zip us,scope.names.lookup y.1=some .local\/(scope.names.lookup y.1=some .cell/\((cellsFrom (s.heap.objs.size+1) scope.names []).lookup y.1).isSome=true):=fun ⟨n,v⟩ hy=>by
  rcases S.par n (List.of_mem_zip hy).1 with q | q
  ·exact .inl q
  ·exact .inr ⟨q,PySem.W.cellsFrom_some _ _ _ (.inl q)⟩
 refine codeAny_call_function hr.depth (KX _ _ lk) rfl S.co S.gen rfl (PySem.W.codeRec_of KX hcd) (hb _ _ _ _ ?_)
 refine wpAny_newFunctionEnv_cells S.kind hkind fun env he s1 x=>?_
 subst he
 refine⟨lim.keeps x.toInCall.keep,codeAny_func ?_⟩
 obtain⟨t,ht,hq⟩:=hbody A outer s H vs Q E (hr.deeper _) hsp
 have I:Inv (cQ CX P w K mg base N qual scope f cdv A outer s H E) [] (start N vs) H s1:=jw S hr.hd e0 hl r x
 refine wpAny_mono (ht [] s1 (start N vs) H _ I hq) (fun fl s' hs=>?_) fun e s' hs=>hs
 have fin:∀ {σ':St} {H':Hp} {v:V} {u:Value},Inv (cQ CX P w K mg base N qual scope f cdv A outer s H E) [] σ' H' s'->RelV v u->Q v H'->CE outer P w H s Q u s' :=
  fun {σ' H' v u} J rv q=>⟨v,H',J.os,J.bare,J.base,J.hok,rv,q⟩
 cases fl with
 | ret u =>
  obtain⟨v,σ',H',J,rv,q⟩:=hs
  exact fin J rv q
 | next =>
  obtain⟨σ',H',J,q⟩:=hs
  exact fin (v:=V.non) (u:=Value.none) J rfl q
 | brk =>
  obtain⟨_,_,_,q⟩:=hs
  exact False.elim q
 | cont =>
  obtain⟨_,_,_,q⟩:=hs
  exact False.elim q
end L2
namespace L2
open PySem PySem.Spec PyProof.Rows
section
variable {X:Cx}{x:Str}{p pos:Pos}{e:Expr}{es:List Expr}{t:TA}{id T:String}{r:List V->Hp->VK->Prop}
def tCB (r:List V->Hp->VK->Prop) (t:TA):TE:=fun σ H Q=>t σ H fun vs H1=>r vs H1 Q
theorem aW (hc:fF X (.builtin id) r) (hg:Gl X x) (hm:X.mg x=none) (hv:bootBuiltins x=some (.builtin id)) (ha:PA X (e::es) t) (hn:x≠"__name__":=by decide) (hdb:(x == ("__debug__":Str))=false:=by decide)
  (he:starEach (e::es) X.env=(false,eval e X.env)::starEach es X.env:=by rfl) (hpl:(backTo pos (starEach es X.env)).any (·.1)=false:=by rfl):PE X (.Call (.Name x p) (e::es) [] pos) (tCB r t):=by
 intro pins s σ H Q I h
 refine wpAny_Call_Name_kw (lK I hg hm hv ?_ hn hdb)
 exact PyProof.Rows.callWith_builtin1 (thn (ha pos pins s σ H _ I h) fun us s1 ⟨vs,H1,I1,r1,q1⟩=>hc pins s1 σ H1 vs us Q I1 r1 q1) he hpl
theorem bg (hc:fF X (.type T) r) (hg:Gl X x) (hm:X.mg x=none) (hv:bootBuiltins x=some (.type T)) (ha:PA X (e::es) t) (hn:x≠"__name__":=by decide) (hdb:(x == ("__debug__":Str))=false:=by decide)
  (he:starEach (e::es) X.env=(false,eval e X.env)::starEach es X.env:=by rfl) (hpl:(backTo pos (starEach es X.env)).any (·.1)=false:=by rfl):PE X (.Call (.Name x p) (e::es) [] pos) (tCB r t):=by
 intro pins s σ H Q I h
 refine wpAny_Call_Name_kw (lK I hg hm hv ?_ hn hdb)
 exact PyProof.Rows.callWith_type1 (thn (ha pos pins s σ H _ I h) fun us s1 ⟨vs,H1,I1,r1,q1⟩=>hc pins s1 σ H1 vs us Q I1 r1 q1) he hpl
end
end L2
namespace HT
open PySem PyProof.Rows
section
open PySem.SeqAt
open PySem.AutoSeq1 (wpAny_loadPart')
open PySem.MeetsSeq PySem.MeetsSeq2 PySem.MeetsSeq3
end
section
variable {prog:Program}{w:World}{A:Around}{E:Value->Shared->Prop}{s:Shared}
def sIx (n d:Nat):Option Int->Nat
 | none=>d
 | some v=>if v<0 then (v+(n:Int)).toNat else min v.toNat n
end
end HT
namespace L2
open PySem PySem.Spec PyProof.Rows
abbrev TO:=St->Hp->(Option Int->Hp->Prop)->Prop
def PO (X:Cx) (e:Option Expr) (t:TO):Prop :=
 ∀ (pins:List (Addr×Obj)) (s:Shared) (σ:St) (H:Hp) (Q:Option Int->Hp->Prop),Inv X pins σ H s->t σ H Q ->
  wpAny (model X.prog X.w) X.A (evalPart e X.env) (fun u s'=>∃ o H',Inv X pins σ H' s'/\IsPart u o/\Q o H') X.xe s
def tNoPart:TO:=fun _ H Q=>Q none H
def tPart (t:TE):TO:=fun σ H Q=>t σ H fun x H1=>∃ i,x=.int i/\Q (some i) H1
section
variable {X:Cx}{e:Expr}{te:TE}{lo hi:Option Expr}{tl th:TO}{pos p2:Pos}
theorem po_none:PO X none tNoPart:=by
 intro pins s σ H Q I h
 rw[evalPart_none]
 exact wpAny_pure ⟨none,H,I,.none,h⟩
theorem mQ (h:PE X e te):PO X (some e) (tPart te):=by
 intro pins s σ H Q I hw
 rw[evalPart_some]
 refine thn (h pins s σ H _ I hw) fun u s1 ⟨x,H1,I1,r1,q1⟩=>?_
 obtain⟨i,rfl,q⟩:=q1
 obtain⟨t,rfl⟩:=r1
 exact⟨some i,H1,I1,.int i t,q⟩
def SlR (X:Cx) (r:V->Option Int->Option Int->Hp->VK->Prop):Prop :=
 ∀ (pins:List (Addr×Obj)) (s:Shared) (σ:St) (H:Hp) (x:V) (v vl vu:Value) (lo hi:Option Int) (sl:Addr) (Q:VK),Inv X pins σ H s->RelV x v->s.heap.IsSliceOf sl vl vu .none->IsPart vl lo->IsPart vu hi->r x lo hi H Q ->
  ∃ T id,typeLookup (.type T) "__getitem__"=pure (some (.builtin id))/\s.TypeIs v T/\wpAny (model X.prog X.w) X.A (getItem v (.ref sl)) (EP X pins σ Q) X.xe s
def tSl (r:V->Option Int->Option Int->Hp->VK->Prop) (te:TE) (tl th:TO):TE:=fun σ H Q=>te σ H fun x H1=>tl σ H1 fun l H2=>th σ H2 fun u H3=>r x l u H3 Q
theorem pe_slice {r:V->Option Int->Option Int->Hp->VK->Prop}(hr:SlR X r) (he:PE X e te) (hl:PO X lo tl) (hu:PO X hi th):PE X (.Subscript e (.Slice lo hi none p2) pos) (tSl r te tl th):=by
 intro pins s σ H Q I h
 refine Subscript_ (thn (he pins s σ H _ I h) fun v s1 ⟨x,H1,I1,r1,q1⟩=>?_)
 refine wpAny_Slice (thn (hl pins s1 σ H1 _ I1 q1) fun vl s2 ⟨l,H2,I2,pl,q2⟩=>thn (hu pins s2 σ H2 _ I2 q2) fun vu s3 ⟨u,H3,I3,pu,q3⟩=>?_)
 rw[evalPart_none]
 refine wpAny_pure ?_
 have I4:Inv X pins σ H3 { s3 with heap:=s3.heap.push { cls:=.type "slice",data:=.fields #[vl,vu,.none] } }:=I3.kept (t':=s3.toks) fun b ob q=>Heap.get?_push_of_some _ q
 obtain⟨T,id,hT,ht,hg⟩:=hr pins { s3 with heap:=s3.heap.push { cls:=.type "slice",data:=.fields #[vl,vu,.none] } } σ H3 x v vl vu l u s3.heap.objs.size Q I4 r1 (Heap.IsSliceOf.new ..) pl pu q3
 show wpAny (model X.prog X.w) X.A (subscriptTail e (.Slice lo hi none p2) v (.ref s3.heap.objs.size)) (EP X pins σ Q) X.xe { s3 with heap:=s3.heap.push { cls:=.type "slice",data:=.fields #[vl,vu,.none] } }
 exact tail_any (ops:=[.ref s3.heap.objs.size,v]) ht hT hg (by with_unfolding_all rfl)
def cutV (xs:List V) (lo hi:Option Int):List V:=(xs.drop (HT.sIx xs.length 0 lo)).take (HT.sIx xs.length xs.length hi-HT.sIx xs.length 0 lo)
theorem mW (xs:List V) (lo hi:Option Int):(cutV xs lo hi).length<=xs.length:=by
 unfold cutV
 rw[length_take,List.length_drop]
 omega
end
end L2
namespace L2
open PySem PySem.Spec PyProof.Rows
def ixN (n:Nat) (i:Int):Option Nat:=if 0<=i then (if i<n then some i.toNat else none) else if -(n:Int)<=i then some (i+n).toNat else none
def atI {α:Type}(xs:List α) (i:Int):Option α:=(ixN xs.length i).bind fun j=>xs[j]?
theorem rW {n:Nat}{i:Int}{j:Nat}(h:ixN n i=some j):seqIndex? i n=some j/\j<n/\-(n:Int)<=i/\i<n:=by
 unfold ixN at h
 by_cases h0:0<=i
 ·rw[if_pos h0] at h
  by_cases h1:i<n
  ·rw[if_pos h1] at h
   have e:i.toNat=j:=Option.some.inj h
   exact⟨by rw[seqIndex_of h0 h1,e],by omega,by omega,h1⟩
  ·rw[if_neg h1] at h; cases h
 ·rw[if_neg h0] at h
  by_cases h1:-(n:Int)<=i
  ·rw[if_pos h1] at h
   have e:(i+n).toNat=j:=Option.some.inj h
   exact⟨by rw[seqIndex_neg (by omega) h1,e],by omega,h1,by omega⟩
  ·rw[if_neg h1] at h; cases h
theorem sW {α:Type}{xs:List α}{i:Int}{v:α}(h:atI xs i=some v):∃ j,seqIndex? i xs.length=some j/\xs[j]?=some v/\j<xs.length/\-(xs.length:Int)<=i/\i<xs.length:=by
 unfold atI at h
 cases e:ixN xs.length i with
 | none=>rw[e] at h; cases h
 | some j =>
  rw[e] at h
  obtain⟨h1,h2,h3,h4⟩:=rW e
  exact⟨j,h1,h,h2,h3,h4⟩
theorem mR {α:Type}{xs:List α}{j:Nat}{v:α}(h:xs[j]?=some v):atI xs (j:Int)=some v:=by
 have hj:j<xs.length:=(List.getElem?_eq_some_iff.mp h).1
 have e:ixN xs.length (j:Int)=some j:=by
  unfold ixN
  rw[if_pos (by omega),if_pos (by omega)]; simp
 unfold atI; rw[e]; exact h
def PlainIx (b:Expr):Prop:=∀ o i,subscripted b false o i=operate [o,i] (getItem o i)
def IxR (X:Cx) (r:R2):Prop :=
 ∀ (value slice:Expr) (pins:List (Addr×Obj)) (s:Shared) (σ:St) (H:Hp) (x y:V) (v u:Value) (Q:VK),Inv X pins σ H s->RelV x v->RelV y u->r x y H Q ->
  subscripted slice false v u=operate [v,u] (getItem v u)->wpAny (model X.prog X.w) X.A (subscriptTail value slice v u) (EP X pins σ Q) X.xe s
def MtR (X:Cx) (id:String) (r:V->List V->Hp->VK->Prop):Prop :=
 ∀ (pins:List (Addr×Obj)) (s:Shared) (σ:St) (H:Hp) (x:V) (xs:List V) (v:Value) (us:List Value) (Q:VK),Inv X pins σ H s->RelV x v->Vals xs us->r x xs H Q ->
  wpAny (model X.prog X.w) X.A (call (.builtin id) (v::us)) (EP X pins σ Q) X.xe s
section
variable {X:Cx}{a b:Expr}{ta tb:TE}{pos:Pos}
theorem bo {r:R2}(hr:IxR X r) (ha:PE X a ta) (hb:PE X b tb) (hs:PlainIx b):PE X (.Subscript a b pos) (tOp r ta tb):=by
 intro pins s σ H Q I h
 exact Subscript_ (binT ha hb I h fun v u s2 x y H2 I2 rx ry q=>hr a b pins s2 σ H2 x y v u Q I2 rx ry q (hs _ _))
def rIxL (K:Frag):R2:=fun x y H Q=>∃ p xs i v,x=.ref p/\y=.int i/\SqL K H p xs/\atI xs i=some v/\Q v H
def rIxT (K:Frag):R2:=fun x y H Q=>∃ p xs i v,x=.ref p/\y=.int i/\SqT K H p xs/\atI xs i=some v/\Q v H
theorem bK:IxR X (rIxL X.K):=by
 intro value slice pins s σ H x y v u Q I rx ry h hs
 obtain⟨p,xs,i,z,rfl,rfl,hq,he,q⟩:=h
 cases rx
 obtain⟨t,rfl⟩:=ry
 obtain⟨its,r,pl,hz⟩:=I.list hq
 obtain⟨j,h1,h2,h3,h4,h5⟩:=sW he
 obtain⟨w,ew,rw'⟩:=r.get h2
 have hl:=r.length
 have hn:=oM
 have fin:EP X pins σ Q w s:=⟨z,H,I,rw',q⟩
 by_cases h0:0<=i
 ·have hj:i.toNat=j:=by
   rw[seqIndex_of h0 h5] at h1
   exact Option.some.inj h1
  exact item_listR pl.isList h0 (by omega) (by rw[hj]; simpa using ew) fin hs
 ·have hj:(i+(its.toArray.size:Int)).toNat=j:=by
   rw[seqIndex_neg (by omega) h4] at h1
   rw[size_toArray,<- hl]
   exact Option.some.inj h1
  exact subscriptTail_builtinR (x:=w) pl.isList.typeIs slot_list_getitem.lookup
   (wpAny_getItem_list_neg (Q:=fun r s'=>r=w/\EP X pins σ Q r s') pl.isList (by omega) (by rw[size_toArray] <;> omega) (by omega) (by rw[hj]; simpa using ew) ⟨rfl,fin⟩) hs
theorem bV:IxR X (rIxT X.K):=by
 intro value slice pins s σ H x y v u Q I rx ry h hs
 obtain⟨p,xs,i,z,rfl,rfl,hq,he,q⟩:=h
 cases rx
 obtain⟨t,rfl⟩:=ry
 obtain⟨its,r,pl,hz⟩:=I.tuple hq
 obtain⟨j,h1,h2,h3,h4,h5⟩:=sW he
 obtain⟨w,ew,rw'⟩:=r.get h2
 have hl:=r.length
 have hn:=oM
 have fin:EP X pins σ Q w s:=⟨z,H,I,rw',q⟩
 exact subscriptTail_builtinR (x:=w) pl.typeIs slot_tuple_getitem.lookup
  (getItem_tuple (j:=j) (Q:=fun r s'=>r=w/\EP X pins σ Q r s') pl (by omega) (by omega) (by rw[size_toArray,<- hl]; exact h1) (by simpa using ew) ⟨rfl,fin⟩) hs
theorem pJ (its:List Value) (n j:Nat) (u:Value):Obj.mapSeq (·.setIfInBounds j u) { cls:=.type "list",data:=.seq its.toArray n }={ cls:=.type "list",data:=.seq (its.set j u).toArray n }:=by
 simp[Obj.mapSeq]
theorem Inv.lst {pins:List (Addr×Obj)}{σ:St}{H:Hp}{s:Shared}{p:Addr}{xs:List V}(I:Inv X pins σ H s) (h:H p=some (.lst xs)) :
  ∃ (its:List Value) (n:Nat),Vals xs its/\s.heap.get? p=some { cls:=.type "list",data:=.seq its.toArray n }/\xs.length<=sizeLine:=by
 obtain⟨z,its,n,r,e⟩:=I.hok p _ h
 exact⟨its,n,r,e,z⟩
theorem Inv.lstUpd {pins:List (Addr×Obj)}{σ:St}{H:Hp}{s:Shared}{p:Addr}{xs ys:List V}{its its':List Value}{n n':Nat}{f:Obj->Obj}(I:Inv X pins σ H s) (h:H p=some (.lst xs))
  (ho:s.heap.get? p=some { cls:=.type "list",data:=.seq its.toArray n }) (hf:f { cls:=.type "list",data:=.seq its.toArray n }={ cls:=.type "list",data:=.seq its'.toArray n' }) (r:Vals ys its') (hz:ys.length<=sizeLine) (t:Nat) :
  Inv X pins σ (upd H p (.lst ys)) { s with heap:=s.heap.update p f,toks:=t }:=by
 have e:(s.heap.update p f).get? p=some { cls:=.type "list",data:=.seq its'.toArray n' }:=by
  rw[Heap.get?_update_self f ho (by rw[hf] <;> rfl),hf]
 refine I.write (x:=p) (e:=p) (by rw[h]; trivial) (.inl rfl) (fun b u hb q=>(Heap.get?_update_other _ _ (Ne.symm hb)).trans q) ⟨_,e⟩ ?_
 exact⟨hz,its',n',r,e⟩
def rSetL:V->V->V->Hp->(Hp->Prop)->Prop:=fun o i v H Q=>∃ p xs k j,o=.ref p/\i=.int k/\H p=some (.lst xs)/\ixN xs.length k=some j/\Q (upd H p (.lst (xs.set j v)))
theorem cC:PSet X rSetL:=by
 intro pins s σ H o i v ov iv u Q I ro ri rv h
 obtain⟨p,xs,k,j,rfl,rfl,hp,hj,q⟩:=h
 cases ro
 obtain⟨t,rfl⟩:=ri
 obtain⟨its,n,r,ho,hz⟩:=I.lst hp
 obtain⟨h1,h2,h3,h4⟩:=rW hj
 have hl:=r.length
 have hn:=oM
 have I':Inv X pins σ (upd H p (.lst (xs.set j v))) { s with heap:=s.heap.update p (Obj.mapSeq (·.setIfInBounds j u)) } :=
  I.lstUpd hp ho (pJ its n j u) (r.set rv j) (by rw[List.length_set]; exact hz) s.toks
 by_cases h0:0<=k
 ·have hk:k.toNat=j:=by
   rw[seqIndex_of h0 h4] at h1
   exact Option.some.inj h1
  exact PySem.W.ki_setAt ho h0 (by omega) (by rw[size_toArray,<- hl]; exact h4) (by rw[hk]; exact⟨_,I',q⟩)
 ·have hk:(k+(its.toArray.size:Int)).toNat=j:=by
   rw[seqIndex_neg (by omega) h3] at h1
   rw[size_toArray,<- hl]
   exact Option.some.inj h1
  exact PySem.W.ki_setBack ho (by omega) (by rw[size_toArray,<- hl]; exact h3) (by omega) (by rw[hk]; exact⟨_,I',q⟩)
theorem mx (lo hi:Option Int) (n:Nat):(sliceBounds lo hi none n).1=((HT.sIx n 0 lo:Nat):Int)/\(sliceBounds lo hi none n).2.1=((HT.sIx n n hi:Nat):Int)/\(sliceBounds lo hi none n).2.2=1:=by
 refine⟨?_,?_,rfl⟩
 ·cases lo with
  | none=>simp[sliceBounds,HT.sIx]
  | some i =>
   simp only[sliceBounds,HT.sIx,Option.getD_none,show (1:Int) > 0 by decide,if_true]
   by_cases h:i<0
   ·simp only[h,if_true] <;> omega
   ·simp only[h,if_false] <;> omega
 ·cases hi with
  | none=>simp[sliceBounds,HT.sIx]
  | some i =>
   simp only[sliceBounds,HT.sIx,Option.getD_none,show (1:Int) > 0 by decide,if_true]
   by_cases h:i<0
   ·simp only[h,if_true] <;> omega
   ·simp only[h,if_false] <;> omega
theorem kz (its:List Value) (lo hi:Option Int):slicePick its.toArray lo hi none=((its.drop (HT.sIx its.length 0 lo)).take (HT.sIx its.length its.length hi-HT.sIx its.length 0 lo)).toArray:=by
 obtain⟨h1,h2,h3⟩:=mx lo hi its.toArray.size
 unfold slicePick
 rw[h1,h2,h3]
 simp only[sliceRange_one,pick_run,size_toArray] <;> rfl
def rSlL (K:Frag):V->Option Int->Option Int->Hp->VK->Prop:=fun x lo hi H Q=>∃ a xs,x=.ref a/\SqL K H a xs/\∀ p,H p=none->Q (.ref p) (upd H p (.lst (cutV xs lo hi)))
theorem sl_list:SlR X (rSlL X.K):=by
 intro pins s σ H x v vl vu lo hi sl Q I rx hs pl pu h
 obtain⟨a,xs,rfl,hx,q⟩:=h
 cases rx
 obtain⟨its,r,ht,hz⟩:=I.list hx
 have hlen:=r.length
 refine⟨"list",_,slot_list_getitem.lookup,ht.isList.typeIs,?_⟩
 refine wpAny_getItem_list_slice ht.isList hs pl pu .none (by simp) ?_ (by rw[size_toArray] <;> omega)
 rw[kz,<- hlen]
 refine⟨.ref s.heap.objs.size,_,I.laid (t':=s.toks) (o:=.lst (cutV xs lo hi)) (fun b ob q=>Heap.get?_push_of_some _ q) (Nat.le_refl _) ?_,rfl,q _ (I.hok.fresh (Nat.le_refl _))⟩
 exact⟨Nat.le_trans (mW xs lo hi) hz,_,0,(r.drop (HT.sIx xs.length 0 lo)).take (HT.sIx xs.length xs.length hi-HT.sIx xs.length 0 lo),Heap.get?_push_size _ rfl⟩
def lH:V->Bool
 | .non=>true
 | .bl _=>true
 | .int _=>true
 | .str _=>true
 | _=>false
def eqV:V->V->Bool
 | .non,.non=>true
 | .bl a,.bl b=>a == b
 | .bl a,.int b=>(if a then 1 else 0) == b
 | .int a,.bl b=>a == (if b then 1 else 0)
 | .int a,.int b=>a == b
 | .str a,.str b=>a == b
 | _,_=>false
theorem eqAt_V {A:Around}{s:Shared}{y x:V}{u v:Value}(ry:RelV y u) (rx:RelV x v) (fy:lH y=true) (fx:lH x=true):SeqAt.EqAt A s u v (eqV y x):=by
 cases y with
 | non =>
  cases ry
  cases x with
  | non=>cases rx; exact SeqAt.EqAt.same _
  | bl b=>cases rx; exact SeqAt.EqAt.none_bool b
  | int b=>obtain⟨t,rfl⟩:=rx; exact SeqAt.EqAt.none_int b t
  | str b=>obtain⟨t,rfl⟩:=rx; exact SeqAt.EqAt.none_str b t
  | _=>exact absurd (show false=true from fx) Bool.false_ne_true
 | bl a =>
  cases ry
  cases x with
  | non=>cases rx; exact SeqAt.EqAt.bool_none a
  | bl b=>cases rx; exact SeqAt.EqAt.bool_bool a b
  | int b=>obtain⟨t,rfl⟩:=rx; exact SeqAt.EqAt.bool_int a b t
  | str b=>obtain⟨t,rfl⟩:=rx; exact SeqAt.EqAt.bool_str a b t
  | _=>exact absurd (show false=true from fx) Bool.false_ne_true
 | int a =>
  obtain⟨t',rfl⟩:=ry
  cases x with
  | non=>cases rx; exact SeqAt.EqAt.int_none a t'
  | bl b=>cases rx; exact SeqAt.EqAt.int_bool a t' b
  | int b=>obtain⟨t,rfl⟩:=rx; exact SeqAt.EqAt.int_int a t' b t
  | str b=>obtain⟨t,rfl⟩:=rx; exact SeqAt.EqAt.int_str a t' b t
  | _=>exact absurd (show false=true from fx) Bool.false_ne_true
 | str a =>
  obtain⟨t',rfl⟩:=ry
  cases x with
  | non=>cases rx; exact SeqAt.EqAt.str_none a t'
  | bl b=>cases rx; exact SeqAt.EqAt.str_bool a t' b
  | int b=>obtain⟨t,rfl⟩:=rx; exact SeqAt.EqAt.str_int a t' b t
  | str b=>obtain⟨t,rfl⟩:=rx; exact SeqAt.EqAt.str_str a t' b t
  | _=>exact absurd (show false=true from fx) Bool.false_ne_true
 | _=>exact absurd (show false=true from fy) Bool.false_ne_true
def eqU (x:V) (u:Value):Bool:=match u with
 | .none=>eqV .non x
 | .bool b=>eqV (.bl b) x
 | .int i _=>eqV (.int i) x
 | .str z _=>eqV (.str z) x
 | _=>false
theorem eqU_of {x y:V}{u:Value}(r:RelV y u) (f:lH y=true):eqU x u=eqV y x:=by
 cases y with
 | non=>cases r; rfl
 | bl b=>cases r; rfl
 | int i=>obtain⟨t,rfl⟩:=r; rfl
 | str z=>obtain⟨t,rfl⟩:=r; rfl
 | _=>exact absurd (show false=true from f) Bool.false_ne_true
theorem mY {x:V}:∀ {xs:List V}{us:List Value},Vals xs us->xs.all lH=true->us.any (eqU x)=xs.any fun y=>eqV y x
 | _,_,.nil,_=>rfl
 | y::xs,u::us,.cons r t,f=>by
  rw[List.all_cons,Bool.and_eq_true] at f
  rw[List.any_cons,List.any_cons,eqU_of r f.1,mY t f.2]
theorem kM {A:Around}{s:Shared}{x:V}{v:Value}(rx:RelV x v) (fx:lH x=true):∀ {xs:List V}{us:List Value},Vals xs us->xs.all lH=true->∀ u∈us,SeqAt.EqAt A s u v (eqU x u)
 | _,_,.nil,_=>fun u hu=>by cases hu
 | y::xs,u::us,.cons r t,f=>fun u' hu=>by
  rw[List.all_cons,Bool.and_eq_true] at f
  rcases List.mem_cons.mp hu with rfl | hu
  ·rw[eqU_of r f.1]; exact eqAt_V r rx f.1 fx
  ·exact kM rx fx t f.2 u' hu
def inV (x:V) (xs:List V):Bool:=xs.any fun y=>eqV y x
def rIn (K:Frag) (neg:Bool):R2:=fun x y H Q=>∃ p xs,y=.ref p/\(SqL K H p xs\/SqT K H p xs)/\lH x=true/\xs.all lH=true/\Q (.bl (if neg then !inV x xs else inV x xs)) H
theorem rj:OpR X (compareOp .In) (rIn X.K false):=by
 intro pins s σ H x y v u Q I rx ry h
 obtain⟨p,xs,rfl,hq,fx,fs,q⟩:=h
 cases ry
 rcases hq with hq | hq
 ·obtain⟨its,r,pl,hz⟩:=I.list hq
  refine SeqAt.in_listAt (eqU x) pl.isList (fun w hw=>kM rx fx r fs w (by simpa using hw)) ⟨.bl _,H,I,rfl,?_⟩
  rw[show its.toArray.any (eqU x)=its.any (eqU x) by simp,mY r fs]
  exact q
 ·obtain⟨its,r,pl,hz⟩:=I.tuple hq
  refine SeqAt.in_tupleAt (eqU x) pl (fun w hw=>kM rx fx r fs w (by simpa using hw)) ⟨.bl _,H,I,rfl,?_⟩
  rw[show its.toArray.any (eqU x)=its.any (eqU x) by simp,mY r fs]
  exact q
theorem dR:fF X (.builtin "len") (fun xs H Q=>∃ p ys,xs=[.ref p]/\(SqL X.K H p ys\/SqT X.K H p ys)/\Q (.int ys.length) H):=by
 intro pins s σ H xs us Q I r h
 obtain⟨p,ys,rfl,hq,q⟩:=h
 obtain⟨u,rfl,rx⟩:=oh r
 cases rx
 have hn:=oM
 rcases hq with hq | hq
 ·obtain⟨its,r',pl,hz⟩:=I.list hq
  have hlen:=r'.length
  exact Calls.call_len_list pl.isList (by simp only[size_toArray] <;> omega) ⟨.int ys.length,H,I.tok _,⟨s.toks+1,by rw[size_toArray,hlen]⟩,q⟩
 ·obtain⟨its,r',pl,hz⟩:=I.tuple hq
  have hlen:=r'.length
  exact len_tuple pl (by simp only[size_toArray] <;> omega) ⟨.int ys.length,H,I.tok _,⟨s.toks+1,by rw[size_toArray,hlen]⟩,q⟩
theorem im:fF X (.type "list") (fun xs H Q=>∃ p ys,xs=[.ref p]/\(SqL X.K H p ys\/SqT X.K H p ys)/\∀ l,H l=none->Q (.ref l) (upd H l (.lst ys))):=by
 intro pins s σ H xs us Q I r h
 obtain⟨p,ys,rfl,hq,q⟩:=h
 obtain⟨u,rfl,rx⟩:=oh r
 cases rx
 have fin:∀ (its:List Value),Vals ys its->ys.length<=sizeLine->∀ (h':Heap) (c':Nat),(∀ b o',s.heap.get? b=some o'->h'.get? b=some o') ->
   h'.get? s.heap.objs.size=some { cls:=.type "list",dict:=none,data:=.seq its.toArray c',slots:=#[] }->EP X pins σ Q (.ref s.heap.objs.size) { s with heap:=h' }:=fun its r' hz h' c' kp e =>
  ⟨.ref s.heap.objs.size,_,I.laid (t':=s.toks) kp (Nat.le_refl _) (show ObjOk X.prog X.w _ h' _ (.lst ys) from ⟨hz,its,c',r',e⟩),rfl,q _ (I.hok.fresh (Nat.le_refl _))⟩
 rcases hq with hq | hq
 ·obtain⟨its,r',pl,hz⟩:=I.list hq
  have hlen:=r'.length
  obtain⟨o,ho,hc,n,hd⟩:=pl.isList
  exact call_list_seq p (.inl rfl) ho hc hd (fun h' c' kp e=>fin its r' hz h' c' kp e) (by simp only[size_toArray] <;> omega)
 ·obtain⟨its,r',pl,hz⟩:=I.tuple hq
  have hlen:=r'.length
  obtain⟨o,ho,hc,n,hd⟩:=pl
  exact call_list_seq p (.inr rfl) ho hc hd (fun h' c' kp e=>fin its r' hz h' c' kp e) (by simp only[size_toArray] <;> omega)
theorem dj:fF X (.type "tuple") (fun xs H Q=>∃ p ys,xs=[.ref p]/\((SqL X.K H p ys/\∀ l,H l=none->Q (.ref l) (upd H l (.tup ys)))\/(SqT X.K H p ys/\Q (.ref p) H))):=by
 intro pins s σ H xs us Q I r h
 obtain⟨p,ys,rfl,h⟩:=h
 obtain⟨u,rfl,rx⟩:=oh r
 cases rx
 rcases h with ⟨hq,q⟩ | ⟨hq,q⟩
 ·obtain⟨its,r',pl,hz⟩:=I.list hq
  have hlen:=r'.length
  refine call_tuple_list pl.isList (fun h' kp=>?_) (by simp only[size_toArray] <;> omega)
  have I1:Inv X pins σ H { s with heap:=h' }:=I.kept (t':=s.toks) kp
  have I2:Inv X pins σ (upd H h'.objs.size (.tup ys)) { s with heap:=h'.push { cls:=.type "tuple",data:=.seq its.toArray } } :=
   I1.laid (t':=s.toks) (fun b o e=>Heap.get?_push_of_some _ e) (Nat.le_refl _) (show ObjOk X.prog X.w _ _ _ (.tup ys) from ⟨hz,its,r',IsTup.new _ _⟩)
  exact⟨.ref h'.objs.size,_,I2,rfl,q _ (I1.hok.fresh (Nat.le_refl _))⟩
 ·obtain⟨its,r',pl,hz⟩:=I.tuple hq
  exact call_tuple_same pl ⟨.ref p,H,I,rfl,q⟩
def tyV (K:Frag) (T:String) (x:V) (H:Hp):Prop:=match x with
 | .str _=>T = "str"
 | .int _=>T = "int"
 | .ref p=>(T = "list"/\∃ xs,SqL K H p xs)\/(T = "tuple"/\∃ o,K.lookup p=some o/\o.cls=.type "tuple"/\o.dict=none) \/
   (T = "dict"/\((∃ kvs,H p=some (.dK kvs))\/∃ kvs,H p=some (.dT kvs)))\/(T = "set"/\∃ S n,H p=some (.set S n))
 | _=>False
theorem tyV_is {pins:List (Addr×Obj)}{σ:St}{H:Hp}{s:Shared}{T:String}{x:V}{v:Value}(I:Inv X pins σ H s) (r:RelV x v) (ty:tyV X.K T x H) :
  s.TypeIs v T/\∀ a,v=.ref a->∃ ob,s.heap.get? a=some ob/\ob.dict=none:=by
 cases x with
 | str z =>
  obtain⟨t,rfl⟩:=r
  cases (show T = "str" from ty)
  exact⟨typeIs_str s z t,fun _ e=>nomatch e⟩
 | int i =>
  obtain⟨t,rfl⟩:=r
  cases (show T = "int" from ty)
  exact⟨typeIs_int s i t,fun _ e=>nomatch e⟩
 | ref p =>
  cases r
  rcases ty with ⟨rfl,xs,hq⟩ | ⟨rfl,o,hk,hc,hd⟩ | ⟨rfl,hk⟩ | ⟨rfl,S,n,hk⟩
  ·obtain⟨its,_,pl,_⟩:=I.list hq
   refine⟨pl.isList.typeIs,fun a e=>?_⟩
   cases e
   obtain⟨o,n,e,c,hd,_⟩:=pl
   exact⟨o,e,hd⟩
  ·refine⟨⟨o,I.kIn p o hk,hc⟩,fun a e=>?_⟩
   cases e
   exact⟨o,I.kIn _ o hk,hd⟩
  ·have z:∃ o,s.heap.get? p=some o/\o.ExactDict:=by
    rcases hk with ⟨kvs,hk⟩ | ⟨kvs,hk⟩
    ·obtain⟨_,_,_,_,o,_,_,e,ex,_⟩:=I.hok p _ hk
     exact⟨o,e,ex⟩
    ·obtain⟨_,_,_,_,o,_,_,e,ex,_⟩:=I.hok p _ hk
     exact⟨o,e,ex⟩
   obtain⟨o,e,ex⟩:=z
   refine⟨⟨o,e,ex.1⟩,fun a e2=>?_⟩
   cases e2
   exact⟨o,e,ex.2.1⟩
  ·obtain⟨o,_,_,_,e,ex,_⟩:=I.hok p _ hk
   refine⟨⟨o,e,ex.1⟩,fun a e2=>?_⟩
   cases e2
   exact⟨o,e,ex.2.1⟩
 | _=>exact False.elim ty
def tBM0 (K:Frag) (T:String) (r:V->List V->Hp->VK->Prop) (to:TE):TE:=fun σ H Q=>to σ H fun x H1=>tyV K T x H1/\r x [] H1 Q
def tBM (K:Frag) (T:String) (r:V->List V->Hp->VK->Prop) (to:TE) (t:TA):TE:=fun σ H Q=>to σ H fun x H1=>tyV K T x H1/\t σ H1 fun xs H2=>r x xs H2 Q
variable {o e:Expr}{es:List Expr}{to:TE}{t:TA}{name:Str}{apos cpos:Pos}{T id:String}{r:V->List V->Hp->VK->Prop}
theorem lx (pa:PlainAttrs T) (slot:Slot T name id) (hty:typeOf (.builtin id)=pure (.type "method_descriptor")) (hm:MtR X id r) (ho:PE X o to)
  (hbase:attributeBase o name X.env (eval o X.env)=eval o X.env:=by rfl) (hline:(apos.endLine == cpos.line)=true:=by rfl):PE X (.Call (.Attribute o name apos) [] [] cpos) (tBM0 X.K T r to):=by
 intro pins s σ H Q I h
 refine wpAny_Call_method0_late hbase hline (thn (ho pins s σ H _ I h) fun v s1 ⟨x,H1,I1,r1,ty,q1⟩=>?_)
 obtain⟨h1,h2⟩:=tyV_is I1 r1 ty
 exact⟨T,id,pa,slot,hty,h1,h2,Calls.callWith_builtin rfl (PySem.evalArgs_none (hm pins s1 σ H1 x [] v [] Q I1 r1 .nil q1))⟩
theorem j7 (pa:PlainAttrs T) (slot:Slot T name id) (hty:typeOf (.builtin id)=pure (.type "method_descriptor")) (hm:MtR X id r) (ho:PE X o to) (ha:PA X (e::es) t)
  (hbase:attributeBase o name X.env (eval o X.env)=eval o X.env:=by rfl)
  (hfew:((backTo cpos (starEach (e::es) X.env)).all (fun x=>!x.1)&&(backToKw cpos (keywordEach [] X.env)).all (fun x=>x.1.isSome)
  &&decide ((e::es).length+([]:List Keyword).length+(if ([]:List Keyword).isEmpty then 0 else 1)<30))=true:=by rfl)
  (hline:(apos.endLine == cpos.line)=true:=by rfl) (hs:starEach (e::es) X.env=(false,eval e X.env)::starEach es X.env:=by rfl) (hplain:(backTo cpos (starEach es X.env)).any (·.1)=false:=by rfl) :
  PE X (.Call (.Attribute o name apos) (e::es) [] cpos) (tBM X.K T r to t):=by
 intro pins s σ H Q I h
 refine wpAny_Call_method_late hbase hfew hline rfl (thn (ho pins s σ H _ I h) fun v s1 ⟨x,H1,I1,r1,ty,q1⟩=>?_)
 obtain⟨h1,h2⟩:=tyV_is I1 r1 ty
 refine⟨T,id,pa,slot,hty,h1,h2,?_⟩
 have hA:=ha cpos pins s1 σ H1 _ I1 q1
 rw[hs] at hA ⊢
 refine Calls.callWith_builtin (by show (false || (backTo cpos (starEach es X.env)).any (·.1))=false; rw[hplain] <;> rfl) (Calls.evalArgs_plain ?_)
 exact thn hA fun us s2 ⟨vs,H2,I2,r2,q2⟩=>hm pins s2 σ H2 x vs v us Q I2 r1 r2 q2
/- xs.append(e),list.index on a module's tuple .. are MtR facts of 06m -/
end
end L2
namespace L2
open PySem PySem.Spec PyProof.Rows
def MtM (X:Cx) (id:String) (r:V->List V->Hp->VK->Prop):Prop :=
 ∀ (pins:List (Addr×Obj)) (s:Shared) (σ:St) (H:Hp) (x:V) (xs:List V) (v:Value) (us:List Value) (Q:VK),Inv X pins σ H s->RelV x v->Vals xs us->r x xs H Q ->
  wpAny (model X.prog X.w) X.A (call (.builtin id) (v::us)) (EP X pins σ Q) X.xe s
theorem Vals.one:∀ {x:V}{us:List Value},Vals [x] us->∃ u,us=[u]/\RelV x u
 | _,_,.cons r .nil=>⟨_,rfl,r⟩
theorem Vals.zero:∀ {us:List Value},Vals [] us->us=[]
 | _,.nil=>rfl
theorem Vals.reverse {xs:List V}{us:List Value}(h:Vals xs us):Vals xs.reverse us.reverse:=by
 induction h with
 | nil=>exact .nil
 | cons r t ih=>rw[List.reverse_cons,List.reverse_cons]; exact Vals.append ih (.cons r .nil)
section
variable {X:Cx}{pins:List (Addr×Obj)}{σ:St}{H:Hp}{s:Shared}{l b:Addr}{xs ys zs:List V}
theorem Inv.lset {its its':List Value}{n:Nat}{f:Array Value->Array Value}{t':Nat}(I:Inv X pins σ H s) (hH:H l=some (.lst xs))
  (e:s.heap.get? l=some { cls:=.type "list",data:=.seq its.toArray n }) (hf:f its.toArray=its'.toArray) (hv:Vals ys its') (hz:ys.length<=sizeLine) :
  Inv X pins σ (upd H l (.lst ys)) { s with heap:=s.heap.update l (Obj.mapSeq f),toks:=t' }:=by
 have q:=PySem.IsL.update e f
 rw[hf] at q
 refine I.write (x:=l) (e:=l) (by rw[hH]; exact trivial) (.inl rfl) (fun b' u hb hu=>(Heap.get?_update_other s.heap (Obj.mapSeq f) (Ne.symm hb)).trans hu) ⟨_,q⟩ ?_
 exact⟨hz,its',_,hv,q⟩
theorem Inv.lnew {its:List Value}{t':Nat}(I:Inv X pins σ H s) (hv:Vals ys its) (hz:ys.length<=sizeLine) :
  Inv X pins σ (upd H s.heap.objs.size (.lst ys)) { s with heap:=s.heap.push { cls:=.type "list",data:=.seq its.toArray },toks:=t' } :=
 I.laid (fun _ _ q=>Heap.get?_push_of_some _ q) (Nat.le_refl _) ⟨hz,its,0,hv,Heap.get?_push_size _ rfl⟩
theorem Inv.fresh (I:Inv X pins σ H s):H s.heap.objs.size=none:=I.hok.fresh (Nat.le_refl _)
theorem Inv.lstM (I:Inv X pins σ H s) (hH:H l=some (.lst xs)):xs.length<=sizeLine/\∃ (its:List Value) (n:Nat),Vals xs its/\xs.length=its.length/\s.heap.get? l=some { cls:=.type "list",data:=.seq its.toArray n }:=by
 obtain⟨z,its,n,r,e⟩:=I.hok l _ hH
 exact⟨z,its,n,r,r.length,e⟩
theorem j6 {n:Nat}(h:n<=sizeLine):Builtin.List.listTooLong n=false:=by
 unfold Builtin.List.listTooLong
 exact decide_eq_false (by omega)
end
section
variable {X:Cx}
def rAppend:V->List V->Hp->VK->Prop:=fun x vs H Q=>∃ l xs y,x=.ref l/\vs=[y]/\H l=some (.lst xs)/\xs.length<sizeLine/\Q .non (upd H l (.lst (xs++[y])))
theorem bW:MtM X "list.append" rAppend:=by
 intro pins s σ H x vs v us Q I rx rv h
 obtain⟨l,xs,y,rfl,rfl,hH,hz,q⟩:=h
 cases rx
 obtain⟨u,rfl,ru⟩:=rv.one
 obtain⟨z,its,n,r,hl,e⟩:=I.lstM hH
 refine call_meets F.slot_list_append ⟨_,e,rfl⟩ F.entry_list_append (F.args_list_append_2 _ _) (PySem.list_append l its.toArray n u (by rw[size_toArray]; omega)) ⟨e,?_⟩
 refine⟨.non,_,I.lset (its':=its++[u]) hH e (by simp) (r.append (.cons ru .nil)) ?_,rfl,q⟩
 rw[length_append,List.length_singleton]
 omega
def rExtend:V->List V->Hp->VK->Prop:=fun x vs H Q=>∃ l b xs zs,x=.ref l/\vs=[.ref b]/\H l=some (.lst xs)/\H b=some (.lst zs)/\xs.length+zs.length<=sizeLine/\Q .non (upd H l (.lst (xs++zs)))
theorem jy:MtM X "list.extend" rExtend:=by
 intro pins s σ H x vs v us Q I rx rv h
 obtain⟨l,b,xs,zs,rfl,rfl,hH,hB,hz,q⟩:=h
 cases rx
 obtain⟨u,rfl,ru⟩:=rv.one
 cases ru
 obtain⟨z,its,n,r,hl,e⟩:=I.lstM hH
 obtain⟨z2,its2,n2,r2,hl2,e2⟩:=I.lstM hB
 have hsz:its.toArray.size+its2.toArray.size<=sizeLine:=by rw[size_toArray,size_toArray]; omega
 have hlong:¬ (!its.toArray.isEmpty&&Builtin.List.listTooLong (its.toArray.size+its2.toArray.size))=true:=by
  rw[j6 hsz,Bool.and_false]
  exact Bool.false_ne_true
 refine call_meets F.slot_list_extend ⟨_,e,rfl⟩ F.entry_list_extend (F.args_list_extend_2 _ _)
  (AutoSeq1.list_extend_list_list_0 l its.toArray n b its2.toArray n2 hlong (by rw[size_toArray]; omega) (by omega)) ⟨e,e2,?_⟩
 refine⟨.non,_,I.lset (its':=its++its2) hH e (by simp) (r.append r2) ?_,rfl,q⟩
 rw[length_append]
 omega
end
section
variable {prog:Program}{w:World}{A:Around}{E:Value->Shared->Prop}{s:Shared}
theorem r6 (its its2:List Value) (a c:Nat):its.toArray.extract 0 a++its2.toArray++its.toArray.extract c its.toArray.size=(its.take a++its2++its.drop c).toArray:=by
 apply Array.toList_inj.mp
 first
  | (simp
     exact List.take_of_length_le (by simp))
  | simp[List.take_of_length_le]
  | simp
theorem pX {a c n:Nat}(hac:a<=c) (hc:c<=n):sliceBounds (some (a:Int)) (some (c:Int)) none n=((a:Int),(c:Int),1):=by
 simp only[sliceBounds,Option.getD_none]
 have h1:¬ ((a:Int)<0):=by omega
 have h2:¬ ((c:Int)<0):=by omega
 simp only[h1,h2,if_false,show (1:Int) > 0 by decide,if_true]
 congr 1
 ·omega
 ·congr 1; omega
set_option maxRecDepth 100000 in
theorem kG {l b sl:Addr}{items new:Array Value}{n n2:Nat}{vl vu:Value}{a c:Nat}{Q:Unit->Shared->Prop}
  (e:s.heap.get? l=some { cls:=.type "list",data:=.seq items n }) (e2:s.heap.get? b=some { cls:=.type "list",data:=.seq new n2 }) (hne:l≠b)
  (hs:s.heap.IsSliceOf sl vl vu .none) (pl:IsPart vl (some (a:Int))) (pu:IsPart vu (some (c:Int))) (hac:a<=c) (hc:c<=items.size)
  (hsz:items.size+new.size<=sizeLine) (h:Q () { s with heap:=s.heap.update l (Obj.mapSeq fun xs=>xs.extract 0 a++new++xs.extract c xs.size) }) :
  wpAny (model prog w) A (setItem (.ref l) (.ref sl) (.ref b)) Q E s:=by
 have hl:s.heap.IsList l items:=PySem.IsL.isList e
 have hb:s.heap.IsList b new:=PySem.IsL.isList e2
 obtain⟨os,hos,hcs,hds⟩:=id hs
 have hTs:s.TypeIs (.ref sl) "slice":=⟨os,hos,hcs⟩
 have hstep:¬ ((rawPart none == rawInt 0)=true):=Bool.false_ne_true
 have hsame:Builtin.List.listSameRef (.ref l) (.ref b)=false:=by
  unfold Builtin.List.listSameRef
  exact beq_eq_false_iff_ne.mpr hne
 have hmax:(max (a:Int) (c:Int)).toNat=c:=by omega
 have hz':((fun xs:Array Value=>xs.extract 0 a++new++xs.extract c xs.size) items).size<=sizeLine+1:=by
  simp only[Array.size_append,Array.size_extract]
  omega
 unfold setItem
 try with_reducible refine wpAny_holding ?_
 first | refine wpAny_bind (wpAny_pure ?_) | skip
 refine wpAny_bind (wpAny_sequenceKey hl.typeIs (by decide) ?_)
 refine wpAny_bind (wpAny_callSpecial?_slot (name:=Str.ofString "__setitem__") hl.typeIs slot_list_setitem
  (wpAny_call_entry slot_list_setitem hl.typeIs entry_list_setitem ?_ (args_list_setitem _ _ _)))
 show wpAny _ _ (Builtin.List.listSubscript? (.ref sl) >>= _) _ _ s
 refine wpAny_bind ?_
 unfold Builtin.List.listSubscript?
 refine wpAny_bind (wpAny_specialOf hTs slice_no_index ?_)
 simp only[Option.isNone_none,if_true]
 refine wpAny_pure ?_
 show wpAny _ _ (typeOf (.ref sl) >>= _) _ _ s
 refine wpAny_bind (wpAny_typeOf hTs ?_)
 first
  | rw[if_neg (by decide)]
  | refine PySem.W.KFB.if_not (by decide) ?_
 rw[listSliceParts_eq]
 refine wpAny_bind (wpAny_bind (wpAny_field hos hds (x:=.none) rfl (wpAny_bind (wpAny_listPart .none ?_))))
 rw[if_neg hstep]
 refine wpAny_bind (wpAny_field hos hds (x:=vl) rfl (wpAny_bind (wpAny_listPart pl ?_)))
 refine wpAny_bind (wpAny_field hos hds (x:=vu) rfl (wpAny_bind (wpAny_listPart pu (wpAny_pure ?_))))
 first
  | simp only[hsame,Bool.false_eq_true,if_false]
  | refine PySem.W.KFB.if_not hsame ?_
  | (dsimp only
     rw[if_neg (by rw[hsame]; exact Bool.false_ne_true)])
 refine wpAny_bind (m:=Builtin.List.listAllItems (.ref b) "must assign iterable to extended slice") ?_
 unfold Builtin.List.listAllItems
 refine wpAny_bind (wpAny_typeOf hb.typeIs ?_)
 first
  | refine PySem.W.KFB.if_so (by decide) ?_
  | rw[if_pos (by decide)]
  | simp only[beq_self_eq_true,Bool.true_or,if_true]
 unfold Builtin.List.listItems
 refine wpAny_bind (wpAny_seqItems e2 rfl (wpAny_pure ?_))
 refine wpAny_bind (wpAny_bind (wpAny_seqItems e rfl (wpAny_pure ?_)))
 refine wpAny_bind (wpAny_of_eq ((sliceIndices_raw (some (a:Int)) (some (c:Int)) none items.size (by simp)).trans (congrArg (pure:Int×Int×Int->Sem (Int×Int×Int)) (pX hac hc))) ?_)
 show wpAny _ _ (if ((1:Int) == 1)=true then _ else _) _ _ s
 rw[if_pos (by decide)]
 refine wpAny_bind (wpAny_rule ?_)
 first
  | simp only[j6 hsz,Bool.false_eq_true,if_false]
  | refine PySem.W.KFB.if_not (j6 hsz) ?_
 first | refine wpAny_bind (wpAny_pure ?_) | skip
 show wpAny _ _ (updateSeq l (fun xs=>xs.extract 0 ((a:Int)).toNat++new++xs.extract (max (a:Int) (c:Int)).toNat xs.size) >>= _) _ _ s
 rw[hmax,toNat_natCast]
 refine wpAny_bind (wpAny_updateSeq (hz:=Nat.le_trans (Nat.le_add_right _ _) hsz) (_hz':=hz') e rfl ?_)
 refine wpAny_bind (wpAny_letGo ?_)
 first
  | exact wpAny_bind (wpAny_pure (wpAny_pure ⟨.none,rfl,wpAny_pure h⟩))
  | exact wpAny_pure ⟨.none,rfl,wpAny_pure h⟩
end
section
variable {X:Cx}
theorem qu {pins:List (Addr×Obj)}{s:Shared}{σ:St}{H:Hp}{l b sl:Addr}{xs ys:List V}{a c:Int}{vl vu:Value}{Q:Unit->Shared->Prop}(I:Inv X pins σ H s)
  (hH:H l=some (.lst xs)) (hB:H b=some (.lst ys)) (hne:l≠b) (hs:s.heap.IsSliceOf sl vl vu .none) (ra:RelV (.int a) vl) (rc:RelV (.int c) vu) (h0:0<=a) (hac:a<=c) (hc:c<=xs.length)
  (hz:xs.length+ys.length<=sizeLine) (h:∀ s',Inv X pins σ (upd H l (.lst (xs.take a.toNat++ys++xs.drop c.toNat))) s'->Q () s') :
  wpAny (model X.prog X.w) X.A (setItem (.ref l) (.ref sl) (.ref b)) Q X.xe s:=by
 obtain⟨ta,rfl⟩:=ra
 obtain⟨tc,rfl⟩:=rc
 obtain⟨z,its,n,r,hl,e⟩:=I.lstM hH
 obtain⟨z2,its2,n2,r2,hl2,e2⟩:=I.lstM hB
 obtain⟨a',rfl⟩:=Int.eq_ofNat_of_zero_le h0
 obtain⟨c',rfl⟩:=Int.eq_ofNat_of_zero_le (Int.le_trans h0 hac)
 simp only[toNat_natCast] at h
 refine kG (a:=a') (c:=c') e e2 hne hs (.int _ _) (.int _ _) (by omega) (by rw[size_toArray]; omega) (by rw[size_toArray,size_toArray]; omega) (h _ ?_)
 refine I.lset (its':=its.take a'++its2++its.drop c') (t':=s.toks) hH e ?_ (Vals.append (Vals.append (r.take _) r2) (r.drop _)) ?_
 ·exact r6 its its2 a' c'
 ·rw[length_append,length_append,length_take,List.length_drop]
  omega
end
end L2
namespace Att
open PySem PySem.W PySem.Calls PyProof.Rows
theorem jt {P:Params}{h:Heap}:∀ (ns:List Int) (vs:List Value),WellAll P h vs (ns.map WData.int)->IntsAre vs ns:=by
 intro ns
 induction ns with
 | nil =>
  intro vs w
  rw[List.map_nil] at w
  cases w
  exact .nil
 | cons n ns ih =>
  intro vs w
  rw[map_cons] at w
  cases w with
  | cons a b =>
   cases a
   exact .cons _ _ (ih _ b)
theorem sU {l:OpenLaw}{n:Nat}(hn:l.most=some n) {P:Params}{h:Heap}{args:List WData}{vals:List Value}
  (hpre:l.row.toRowW.claim.pre args=true) (hwl:WellAll P h vals args) :
  ∃ a vs ns,vals=[Value.ref a]/\args=[WData.list (ns.map WData.int)]/\h.get? a=some { cls:=.type "list",data:=.seq vs.toArray }/\IntsAre vs ns/\ns.length<=n:=by
 have hsh:WShape.hasAll [] args [.list .int]=true:=(pre_splitW hpre).1
 have hc:l.pre.holds [] { args:=args }=true:=(pre_splitW hpre).2
 obtain⟨d,r,rfl,h1,h2⟩:=hasAllW_cons hsh
 obtain rfl:=hasAllW_nil h2
 obtain⟨xs,rfl,h3⟩:=hasW_list h1
 obtain⟨ns,rfl⟩:=items_int h3
 have hlen:ns.length<=n:=by
  unfold OpenLaw.pre at hc
  have h4:(WTm.not (.lt (.lit (.int (n:Int))) (.len (.arg 0)))).holds [] { args:=[.list (ns.map .int)] }=true:=by
   have h4:=(holds_andW hc).1
   rw[hn] at h4
   exact h4
  have h5:=condW_of h4 (w_not (w_lt w_lit (w_len_list (w_arg rfl))))
  rw[length_map] at h5
  refine Nat.le_of_not_lt fun q=>?_
  have q':(n:Int)<((ns.length:Nat):Int):=by omega
  first
   | (rw[decide_eq_true q'] at h5; exact absurd h5 (by decide))
   | (simp at h5; omega)
 cases hwl with
 | cons w1 w2 =>
  cases w2
  cases w1 with
  | list ho hall=>exact⟨_,_,ns,rfl,rfl,ho,jt ns _ hall,hlen⟩
theorem sB (l:OpenLaw) (args:List WData):l.row.toRowW.claim.post args (.bool true) args=true :=
 postW_of (r:=l.row.toRowW) (X:=(true == true))
  (show WShape.has [] (.bool true) .bool=true by first | rfl | decide | simp[WShape.has,WShape.arms,WShape.armsAll])
  (show (WTm.eq .res (.lit (.bool true))).value [] { args:=args,res:=some (.bool true),after:=args }=some (.bool (true == true)) from w_eq_bool (w_res rfl) w_lit) rfl
theorem attach_call {l:OpenLaw}{n:Nat}{q:Program}{loose:List Str}{XP:(Str->Option Value)->Heap->Prop}{YP:World->Heap->Prop}{d:DefRec}
  (hn:l.most=some n) (hdf:d.params.defaults=[])
  (call:∀ (w:World) (s₀ s₁:Shared) (mg mb:Str->Option Value) (fa:Addr) (o:Obj) (pm cd doc:Value) (a:Addr) (vs:List Value) (ns:List Int),
   Ground q loose [] XP w s₀ mg mb s₁.heap->YP w s₁.heap ->
   s₁.heap.get? fa=some o->o.data=.func (docDef d.name d.params d.body d.scope pm cd doc)->s₁.heap.CodeRec cd d.name->mg d.name=some (.ref fa) ->
   s₁.heap.get? a=some { cls:=.type "list",data:=.seq vs.toArray }->IntsAre vs ns->ns.length<=n->s₁.gens=#[] ->
   codeAny (model l.prog w) callerA (.call (.ref fa) ⟨[.ref a],[]⟩) (fun r s'=>r=.ok (.ret (.bool true))/\OldK s₁.heap s'.heap/\s'.os=s₁.os/\AllBare s'.gens) s₁) :
  WalkO q loose XP YP l.row.toRowW d [] (fun f vs=>PySem.call f vs):=by
 intro w s₀ s₁ mg mb G Y fa o pm cd doc dV kV ho hd hcd hD hmg hg args vals as hpre hlay hrd hwl hlo
 obtain rfl:dV=.none:=Dflts.none hD hdf
 obtain rfl:kV=.none:=Dflts.noKw hD
 obtain⟨a,vs,ns,rfl,rfl,hobj,hints,hlen⟩:=sU hn hpre hwl
 refine enter_call (codeAny_mono (call w s₀ s₁ mg mb fa o pm cd doc a vs ns G Y ho (fd_plain hd) hcd hmg hobj hints hlen hg) fun r s' hq=>?_)
 obtain⟨rfl,h2,h3,h4⟩:=hq
 exact⟨.inl ⟨.bool true,.bool true,[],rfl,fun _=>rfl,.bool true,sB l _,fun _=>⟨List.Pairwise.nil,fun _ hm=>(nomatch hm)⟩⟩,h2,h3,h4⟩
section
variable {prog:Program}{w:World}{A:Around}{E:Value->Shared->Prop}{s:Shared}{K:Frag}
def pA (h:Heap):Heap:={ h with objs:=#[] }
theorem ie (h:Heap) (b:Addr):(pA h).get? b=none:=by
 cases e:(pA h).get? b with
 | none=>rfl
 | some o=>exact absurd (Heap.lt_size e) (Nat.not_lt_zero _)
def rh (h:Heap) (L d:Addr):List (Addr×Obj):=(List.range h.objs.size).filterMap fun a=>if a=L\/a=d then none else (h.get? a).map fun o=>(a,o)
theorem mem_ledger {h:Heap}{L d a:Addr}{o:Obj}:(a,o)∈rh h L d ↔ a≠L/\a≠d/\h.get? a=some o:=by
 unfold rh
 rw[List.mem_filterMap]
 constructor
 ·rintro ⟨b,_,e⟩
  split at e
  ·cases e
  ·rename_i hb
   obtain⟨o',ho,e'⟩:=Option.map_eq_some_iff.mp e
   cases e'
   exact⟨fun q=>hb (.inl q),fun q=>hb (.inr q),ho⟩
 ·rintro ⟨n1,n2,ho⟩
  refine⟨a,List.mem_range.mpr (Heap.lt_size ho),?_⟩
  rw[if_neg (show ¬ (a=L\/a=d) from fun q=>q.elim n1 n2),ho] <;> rfl
theorem news_ledger {h:Heap}{L d:Addr}{od:Obj}(hne:d≠L) (ho:h.get? d=some od):News (pA h) L h ([]++(d,od)::rh h L d):=by
 rintro ⟨a,o⟩ hp
 rcases List.mem_cons.mp hp with e | hp
 ·cases e
  exact⟨ho,hne,ie _ _⟩
 ·obtain⟨n1,n2,e⟩:=mem_ledger.mp hp
  exact⟨e,n1,ie _ _⟩
theorem fr_all {h:Heap}{L:Addr}{m:Str->Option Value}(n:h.Ns L m):Fr (pA h) L h m :=
 ⟨n,fun b o e=>(by rw[ie] at e; cases e),zero_le _⟩
end
end Att
namespace L2
open PySem PySem.Spec PyProof.Rows
theorem dN:∀ {vs:List Value}{ns:List Int},IntsAre vs ns->Vals (ns.map V.int) vs
 | _,_,.nil=>.nil
 | _,_,.cons n t h=>.cons ⟨t,rfl⟩ (dN h)
end L2
namespace L2
open PySem PySem.Spec PyProof.Rows
end L2
namespace L2
open PySem PySem.Spec PyProof.Rows
def aJ (s:Stmt) (j:Nat):Stmt:=match s with
 | .ClassDef _ _ _ body _ _ _ _ _ _ _=>body.getD j (.Pass ⟨0,0,0,0⟩)
 | _=>.Pass ⟨0,0,0,0⟩
def cg (s:Stmt):Arguments:=match s with
 | .FunctionDef _ a _ _ _ _ _ _ _ _=>a
 | _=>{ posonlyargs:=[],args:=[],vararg:=none,kwonlyargs:=[],kw_defaults:=[],kwarg:=none,defaults:=[] }
def aU (s:Stmt):List Stmt:=match s with
 | .FunctionDef _ _ b _ _ _ _ _ _ _=>b
 | _=>[]
def aj (s:Stmt):Scope:=match s with
 | .FunctionDef _ _ _ _ _ _ sc _ _ _=>sc
 | _=>{ kind:=.function,names:=[],isGenerator:=false,isCoroutine:=false }
abbrev CX0:CXT:=fun _ _ _ _ _ _=>False
abbrev E0:XK:=fun _ _ _=>False
theorem tj {X:Cx}:eX CX0 X E0:=fun _ _ _ _ _ _ _ h=>h.elim
structure Fun (K:Frag) (x qual:Str) (st:Stmt) (f:Addr) (fd:FuncData):Prop where
 ex:∃ (oc:Value) (od:Option Addr) (kV doc pm:Value) (an:Option Addr) (cdv ct:Value) (osl:Array (Option Value)),
  fd=fnOf x qual (cg st) (aU st) (aj st) .none kV doc pm an cdv ct/\K.lookup f=some ⟨oc,od,.func fd,osl⟩/\codeIn K cdv qual=true
 kp:keepIn K (.ref f)=true
section
variable {P:Program}{w:World}{K:Frag}{mg:Str->Option Value}{base:Heap}
theorem Fun.ok {x qual:Str}{st:Stmt}{f:Addr}{fd:FuncData}{N ps:List Str}{k:Nat}{sp:Sp}(F:Fun K x qual st f fd) (S:FnScope N ps (aj st)) (len:∀ vs H Q E,sp vs H Q E->vs.length=ps.length)
  (hbody:∀ (cdv:Value) (A:Around) (outer:List Env) (s:Shared) (H:Hp) (vs:List V) (Q:VK) (E:XK),Room k (A.deeper (envOfC qual (aj st) s.heap.objs.size f cdv))->sp vs H Q E ->
   ∃ t,PSs (cQ CX0 P w K mg base N qual (aj st) f cdv A outer s H E).nox (aU st) t/\t { nx:=fun _ H'=>Q .non H',rt:=Q } (start N vs) H):FnOk P w K mg base CX0 (k+1) f fd ps sp:=by
 obtain⟨oc,od,kV,doc,pm,an,cdv,ct,osl,rfl,lk,hcd⟩:=F.ex
 refine fn_of lk hcd S len fun A outer s H vs Q E hr hsp=>?_
 obtain⟨t,h,q⟩:=hbody cdv A outer s H vs Q E hr hsp
 exact⟨t,h.nox,q⟩
theorem Fun.binds {x qual:Str}{st:Stmt}{f:Addr}{fd:FuncData}{ps:List Str}(F:Fun K x qual st f fd)
  (h:∀ (kV doc pm:Value) (an:Option Addr) (cdv ct:Value) (us:List Value),us.length=ps.length->bindArgs (fnOf x qual (cg st) (aU st) (aj st) .none kV doc pm an cdv ct) ⟨us,[]⟩=pure (ps.zip us)):Binds K fd ps []:=by
 obtain⟨oc,od,kV,doc,pm,an,cdv,ct,osl,rfl,lk,hcd⟩:=F.ex
 exact .all (h kV doc pm an cdv ct)
theorem mj {x qual:Str}{st:Stmt}{f:Addr}{oc:Value}{od an:Option Addr}{osl:Array (Option Value)}{kV doc pm cdv ct:Value}(l:K.lookup f=some ⟨oc,od,.func (fnOf x qual (cg st) (aU st) (aj st) .none kV doc pm an cdv ct),osl⟩)
  (c:codeIn K cdv qual=true) (k:keepIn K (.ref f)=true):Fun K x qual st f (fnOf x qual (cg st) (aU st) (aj st) .none kV doc pm an cdv ct):=⟨⟨oc,od,kV,doc,pm,an,cdv,ct,osl,rfl,l,c⟩,k⟩
end
theorem iD {A:Around}{k:Nat}(hr:Room k A):A.units+1<cLine:=Nat.lt_of_le_of_lt (Nat.add_le_add_left (by decide:1<=64) _) hr.units
section
variable {X:Cx}
theorem pv (i:Nat) {x:Str}{pos:Pos}(hN:X.N[i]?=some x:=by rfl) (hv:Vis X.env.scope x:=by first | exact Or.inl rfl | exact Or.inr (Or.inl rfl) | exact Or.inr (Or.inr rfl)) (hd:(x == ("__debug__":Str))=false:=by decide)
  (hcd:(x == ("__classdict__":Str))=false:=by decide):PE X (.Name x pos) (dF i):=sg hN hv hd hcd
end
theorem cT {A B:Prop}(h:B):if false=true then A else B:=by
 rw[if_neg Bool.false_ne_true]
 exact h
theorem iw {A B:Prop}(h:A):if true=true then A else B:=by
 rw[if_pos rfl]
 exact h
theorem ite2 {c A B:Prop} [Decidable c] (h1:c->A) (h2:¬ c->B):if c then A else B:=by
 by_cases h:c
 ·rw[if_pos h]
  exact h1 h
 ·rw[if_neg h]
  exact h2 h
theorem qo {c A B:Prop} [Decidable c] (hc:c) (h:B):if (!decide c)=true then A else B:=by
 rw[decide_eq_true hc]
 exact cT h
def Same (H H':Hp):Prop:=∀ b o,H b=some o->H' b=some o
theorem Same.refl (H:Hp):Same H H:=fun _ _ h=>h
theorem Same.trans {H H1 H2:Hp}(a:Same H H1) (b:Same H1 H2):Same H H2:=fun c o h=>b c o (a c o h)
theorem Same.free {H H':Hp}(e:Same H H') {l:Addr}(h:H' l=Option.none):H l=Option.none:=by
 cases q:H l with
 | none=>rfl
 | some o =>
  rw[e l o q] at h
  cases h
theorem Same.seq {K:Frag}{H H':Hp}{a:Addr}{xs:List V}(e:Same H H') (h:SqL K H a xs):SqL K H' a xs:=by
 rcases h with (h | ⟨o,h⟩) | h
 ·exact .inl (.inl (e _ _ h))
 ·exact .inl (.inr ⟨o,e _ _ h⟩)
 ·exact .inr h
end L2
set_option maxHeartbeats 4000000
namespace Ow
open PySem PySem.Spec PyProof.Rows L2
structure Has (P:Program) (w:World) (K:Frag) (mg:Str->Option Value) (base:Heap) (k:Nat) (x:Str) (ps:List Str) (sp:Sp):Prop where
 ex:∃ (f:Addr) (fd:FuncData),FnOk P w K mg base CX0 k f fd ps sp/\Binds K fd ps []/\keepIn K (.ref f)=true/\mg x=some (.ref f)
section
variable {X:Cx}{k:Nat}{x:Str}{ps:List Str}{sp:Sp}{p pos:Pos}{e:Expr}{es:List Expr}{t:TA}
theorem av (h:Has X.prog X.w X.K X.mg X.base k x ps sp) (hr:Room k X.A) (hg:Gl X x) (ha:PA X (e::es) t) (hdb:(x == ("__debug__":Str))=false:=by decide)
  (he:starEach (e::es) X.env=(false,eval e X.env)::starEach es X.env:=by rfl) (hpl:(backTo pos (starEach es X.env)).any (·.1)=false:=by rfl) :
  PE X (.Call (.Name x p) (e::es) [] pos) (cU sp [] E0 t):=by
 obtain⟨f,fd,F,b,kp,m⟩:=h.ex
 exact kB F hr hg m kp b .nil tj ha hdb he hpl
theorem pe_fn0 (h:Has X.prog X.w X.K X.mg X.base k x ps sp) (hr:Room k X.A) (hg:Gl X x) (hdb:(x == ("__debug__":Str))=false:=by decide) :
  PE X (.Call (.Name x p) [] [] pos) (cU sp [] E0 li):=by
 obtain⟨f,fd,F,b,kp,m⟩:=h.ex
 exact pe_call0 F hr hg m kp b .nil tj hdb
theorem pe_ty {T:String}(hg:Gl X x) (hm:X.mg x=none) (hv:bootBuiltins x=some (.type T)) (hn:x≠"__name__":=by decide) (hd:(x == ("__debug__":Str))=false:=by decide):PE X (.Name x pos) (tC (.ty T)):=pe_bltn (v:=.ty T) hg hm hv rfl hn hd
theorem pe_cls {C:Addr}(hg:Gl X x) (hm:X.mg x=some (.ref C)) (hd:(x == ("__debug__":Str))=false:=by decide):PE X (.Name x pos) (tC (.ref C)):=pe_glob (v:=.ref C) hg hm rfl hd
def clsV:V->Option Value
 | .ty n=>some (.type n)
 | .ref C=>some (.ref C)
 | _=>none
theorem clsV_rel {c:V}{u cv:Value}(r:RelV c u) (h:clsV c=some cv):u=cv:=by
 cases c with
 | ty n=>cases h; exact r
 | ref C=>cases h; exact r
 | _=>cases h
theorem cW:fF X (.builtin "isinstance") (fun xs H Q=>∃ x c t cv b,xs=[x,c]/\clsV c=some cv/\TyOf X.K H x t/\kitOne X.K t cv=some b/\Q (.bl b) H):=by
 intro pins s σ H xs us Q I r h
 obtain⟨x,c,t,cv,b,rfl,hc,ty,e,q⟩:=h
 obtain⟨u,u',rfl,rx,rc⟩:=vals2 r
 cases clsV_rel rc hc
 exact qy I rx ty e fun tk=>⟨.bl b,H,I.tok _,rfl,q⟩
theorem bE:OpR X (binaryOp .FloorDiv) (rI (fun _ j=>0<j/\j.natAbs.log2<9000) fun i j=>.int (i/j)):=opI fun i j _ _ _ _ _ hc q=>by
 have h1:(0:Int)<j:=hc.1
 exact floordiv_int (by omega) (by rw[Int.fdiv_eq_ediv_of_nonneg i (by omega)]; exact q) (.inl (PyProof.noPylong_of_log2 hc.2))
theorem jl:OpR X (binaryOp .Mult) (rI (fun i j=>Builtin.Int.intBits i<=100000/\Builtin.Int.intBits j<=100000) fun i j=>.int (i*j)):=opI fun _ _ _ _ _ _ _ hc q =>
 mul_int q (IntMulOk.of_bits (Nat.le_trans hc.1 (by decide)) (Nat.le_trans hc.2 (by decide)))
end
theorem jp (K:Frag):kitOne K (.type "int") (.type "int")=some true:=rfl
theorem ik (K:Frag):kitOne K (.type "int") (.type "bool")=some false:=by with_unfolding_all rfl
theorem pF (K:Frag):kitOne K (.type "bool") (.type "int")=some true:=by with_unfolding_all rfl
theorem sO (K:Frag):kitOne K (.type "bool") (.type "bool")=some true:=rfl
theorem lj {c A B:Prop} [Decidable c] (hc:c) (h:A):if decide c=true then A else B:=by
 rw[if_pos (decide_eq_true hc)]
 exact h
theorem cM {c A B:Prop} [Decidable c] (hc:¬ c) (h:B):if decide c=true then A else B:=by
 rw[if_neg (by rw[decide_eq_false hc]; decide)]
 exact h
theorem iteN {c A B:Prop} [Decidable c] (hc:¬ c) (h:A):if (!decide c)=true then A else B:=by
 rw[decide_eq_false hc]
 exact iw h
theorem p1_pos (n:Nat):(0:Int)<1*2^n:=by
 rw[one_mul]
 exact pow_pos (by decide)
theorem gJ (n:Nat):(0:Int)<2^n:=pow_pos (by decide)
theorem dG {m n:Nat}(h:m<=n):(2:Int)^m<=2^n:=by
 have e:n=m+(n-m):=by omega
 rw[e,pow_add]
 have h1:=gJ m
 have h2:(1:Int)<=2^(n-m):=gJ (n-m)
 have h3:=mul_le_mul_of_nonneg_left h2 (Int.le_of_lt h1)
 rw[mul_one] at h3
 exact h3
def SameX (p:Addr) (H H':Hp):Prop:=∀ b o,b≠p->H b=some o->H' b=some o
theorem SameX.trans {p:Addr}{H H1 H2:Hp}(a:SameX p H H1) (b:SameX p H1 H2):SameX p H H2:=fun c o n h=>b c o n (a c o n h)
theorem SameX.of {p:Addr}{H H':Hp}(a:Same H H'):SameX p H H':=fun c o _ h=>a c o h
theorem SameX.upd {p:Addr}{H:Hp}{o:HO}:SameX p H (upd H p o):=fun c u n h=>by rw[ao n]; exact h
theorem ak {H:Hp}{p:Addr}(h:H p=none) (o:HO):Same H (L2.upd H p o):=fun b u q=>by rw[ao (az q h)]; exact q
theorem getI (ns:List Int) (k:Nat) (h:k<ns.length):atI (ns.map V.int) (k:Int)=some (.int ns[k]):=mR (by rw[List.getElem?_map,List.getElem?_eq_getElem h] <;> rfl)
end Ow
namespace Ow
open PySem PySem.Spec PyProof.Rows L2
structure MHas (P:Program) (w:World) (K:Frag) (mg:Str->Option Value) (base:Heap) (k:Nat) (C:Addr) (m:Str) (ps:List Str) (sp:Sp):Prop where
 cl:Cls K C
 ex:∃ (f:Addr) (fd:FuncData),Meth K C m f/\FnOk P w K mg base CX0 k f fd ps sp/\Binds K fd ps []
def tMethP (X:Cx) (k:Nat) (m:Str) (ta:TE) (t:TA):TE:=fun σ H Q=>ta σ H fun x H1=>∃ (a C dx:Addr) (fs:List (Str×V)) (ps:List Str) (sp:Sp),x=.ref a/\H1 a=some (.ins C dx fs)/\fs.lookup m=none /\
 MHas X.prog X.w X.K X.mg X.base k C m ps sp/\t σ H1 fun vs H2=>sp (x::(vs++[])) H2 Q E0
section
variable {X:Cx}{k:Nat}{x m:Str}{C:Addr}{p pos apos:Pos}{o e:Expr}{es:List Expr}{ta:TE}{t:TA}
theorem iN {pl:Sem Bool}(he:PE X o ta) (hr:Room k X.A) (ha:PA X (e::es) t)
  (hst:starEach (e::es) X.env=(false,eval e X.env)::starEach es X.env:=by rfl) (hpl:(backTo pos (starEach es X.env)).any (·.1)=false:=by rfl)
  (ht:eval (.Call (.Attribute o m apos) (e::es) [] pos) X.env=(do
   let ov <- eval o X.env
   standAt apos.atName
   let (f,first) <- holding [ov] (getMethod ov m pl)
   callWith pos f first (backTo pos (starEach (e::es) X.env)) (backToKw pos (keywordEach [] X.env))):=by rfl) :
  PE X (.Call (.Attribute o m apos) (e::es) [] pos) (tMethP X k m ta t):=by
 intro pins s σ H Q I h
 refine PySem.W.methodCall_KW (pl:=pl) (thn (he pins s σ H _ I h) fun u s1 ⟨x,H1,I1,rx,a,C,dx,fs,ps,sp,ex,ea,l,M,q⟩=>?_) ht
 subst ex
 obtain rfl:u=Value.ref a:=rx
 obtain⟨f,fd,hm,F,hb⟩:=M.ex
 refine jV I1 ea M.cl hm l ?_
 refine PySem.W.callWith_K (first:=[.ref a]) (h₀:=X.base) I.ok.mod.kin hm.kp (thn (ha pos pins s1 σ H1 _ I1 q) fun us s2 ⟨vs,H2,I2,r,q2⟩=>⟨I2.kIn,?_⟩) hst hpl
 exact oX (us:=.ref a::us) (vs:=.ref a::vs) F hr hb .nil tj I2 (.cons rfl r) q2
theorem bU {pl:Sem Bool}(he:PE X o ta) (hr:Room k X.A)
  (ht:eval (.Call (.Attribute o m apos) [] [] pos) X.env=(do
   let ov <- eval o X.env
   standAt apos.atName
   let (f,first) <- holding [ov] (getMethod ov m pl)
   callWith pos f first (backTo pos (starEach [] X.env)) (backToKw pos (keywordEach [] X.env))):=by rfl) :
  PE X (.Call (.Attribute o m apos) [] [] pos) (tMethP X k m ta li):=by
 intro pins s σ H Q I h
 refine PySem.W.methodCall_KW (pl:=pl) (thn (he pins s σ H _ I h) fun u s1 ⟨x,H1,I1,rx,a,C,dx,fs,ps,sp,ex,ea,l,M,q⟩=>?_) ht
 subst ex
 obtain rfl:u=Value.ref a:=rx
 obtain⟨f,fd,hm,F,hb⟩:=M.ex
 refine jV I1 ea M.cl hm l ?_
 exact PySem.W.callWith_K0 (first:=[.ref a]) I1.kIn hm.kp (oX (us:=[.ref a]) (vs:=[.ref a]) F hr hb .nil tj I1 (.cons rfl .nil) q)
end
end Ow
namespace Ow
open PySem PySem.Spec PyProof.Rows L2
def bu (X:Cx) (N:List Str) (scope:Scope) (cl:List (Str×Addr)) (C:Addr) (s2:Shared) (H2:Hp) (fp:List Addr):Cx where
 prog:=X.prog
 w:=X.w
 K:=X.K
 mg:=X.mg
 base:=X.base
 A:=X.A
 N:=N
 s₀:=s2
 H₀:=H2
 env:=compEnvC scope cl C X.env
 outer:=X.stack
 stack:=X.stack
 ex:=fp
 calm:=true
 fn:=fun _=>false
 pn:=[]
 xe:=fun _ _=>False
def p8 (wi:TI) (te:TE) (cap:L2.St->L2.St):TE:=fun σ H Q=>wi σ H fun J H1=>∀ D,H1 D=none->∃ W:Nat->Nat->Hp->Prop,(∃ m,W 0 m (upd H1 D (.lst [])))/\∀ i m H,W i m H ->
 (J.stop i H/\Q (.ref D) H)\/(J.go i H/\∀ x H',J.yld i H x H'->te (some x::cap σ) H' fun y H2=>∃ ys,H2 D=some (.lst ys)/\ys.length<sizeLine/\∃ m',m'<m/\W (i+1) m' (upd H2 D (.lst (ys++[y]))))
section
variable {X:Cx}{elt iter:Expr}{x:Str}{px pos:Pos}{scope:Scope}{wi:TI}{te:TE}{N:List Str}{cl:List (Str×Addr)}{cap:L2.St->L2.St}
theorem qS (hc:X.calm=true) (hclos:closureFor scope X.env=pure cl) (hsub:∀ n c,cl.lookup n=some c->X.env.cells.lookup n=some c)
  (hcell:∀ y∈scope.names,y.2≠.cell) (hkind:scope.kind=.function) (hnames:∀ y∈scope.names,y.2=.local->scope.names.lookup y.1=some .local) (hx:scope.names.lookup x=some .local)
  (hhas:∀ y,(Env.kindOf (compEnvC scope cl 0 X.env) y=some .cell\/Env.kindOf (compEnvC scope cl 0 X.env) y=some .free)->∃ c,cl.lookup y=some c)
  (hN:(x::N).Nodup) (hcapl:∀ σ,(cap σ).length=N.length)
  (hcap:∀ (σ:L2.St) (i:Nat) (y:Str) (v:V),σ.length=X.N.length->N[i]?=some y->(cap σ)[i]?=some (some v)->(Env.kindOf (compEnvC scope cl 0 X.env) y=some .cell\/Env.kindOf (compEnvC scope cl 0 X.env) y=some .free)/\X.env.kindOf y=some .cell/\∃ j:Nat,X.N[j]?=some y/\σ[j]?=some (some v))
  (hi:PI X (.Name x px) iter wi) (he:∀ C s2 H2 fp,PE (bu X (x::N) scope cl C s2 H2 fp) elt te)
  (hs:∀ z,foldedSetIterable iter X.env z=pure z:=by intro _; rfl) :
  PE X (.ListComp elt [⟨.Name x px,iter,[],0⟩] scope pos) (p8 wi te cap):=by
 intro pins s σ H Q I h
 rw[eval_ListComp]
 refine wpAny_comprehension_free (use:=none) rfl hs hclos hkind hnames (thn (hi pins s σ H _ I h) fun xv s1 h1=>thn h1 fun itv s2 h2=>?_)
 obtain⟨it,fp,tn,J,H2,e,I2,T,st2,f2,hW⟩:=h2
 subst e
 have hD:H2 s2.heap.objs.size=none:=I2.hok.fresh (Nat.le_refl _)
 obtain⟨W,⟨m0,w0⟩,turn⟩:=hW s2.heap.objs.size hD
 refine wpAny_newObj_type (wpAny_newFunctionEnv hcell (by intro y hy; simp at hy) (fun h4 hns4 hsb4=>?_) hkind) (by show 0<=sizeLine; decide)
 dsimp only at hns4 hsb4 ⊢
 generalize hH3:s2.heap.push { cls:=.type "list",dict:=none,data:=.seq ([]:List Value).toArray }=H3 at hns4 hsb4 ⊢
 have hCz:H3.objs.size=s2.heap.objs.size+1:=by rw[<- hH3,Heap.size_push]
 have old3:∀ b o,s2.heap.get? b=some o->H3.get? b=some o:=fun b o e=>hH3 ▸ Heap.get?_push_of_some _ e
 have eD3:H3.get? s2.heap.objs.size=some { cls:=.type "list",dict:=none,data:=.seq ([]:List Value).toArray }:=hH3 ▸ Heap.get?_push_size _ rfl
 have old4:∀ b o,H3.get? b=some o->h4.get? b=some o:=fun b o e=>hsb4.extBut b o (Nat.ne_of_lt (Heap.lt_size e)) (Heap.get?_push_of_some _ e)
 have old:∀ b o,s2.heap.get? b=some o->h4.get? b=some o:=fun b o e=>old4 b o (old3 b o e)
 have szC:s2.heap.objs.size<H3.objs.size:=by rw[hCz]; exact lt_succ_self _
 have fpC:∀ b∈fp,b≠H3.objs.size:=fun b hb=>by
  obtain⟨o,ho,_⟩:=T.obj 0 _ st2 b hb
  exact Nat.ne_of_lt (lt_trans (Heap.lt_size ho) szC)
 have ok':(bu X (x::N) scope cl H3.objs.size s2 H2 fp).Ok:=by
  refine⟨I2.ok.mod,hkind,I2.ok.glob,I2.ok.blt,(Nat.le_of_lt szC),fun a b c e1 e2=>I2.ok.inj a b c (hsub a c e1) (hsub b c e2),fun y hy=>hhas y hy,fun y c z _=>absurd (show false=true from z) (by decide),
   fun _=>I2.ok.hd hc,I2.ok.frames,.inl rfl,fun b hb=>⟨fpC b hb,fun y c e=>(f2 b hb).2.2.2.2.1 y c (hsub y c e)⟩,I2.bs,Nat.le_trans I2.ok.bsz I2.sz,fun b o e hb=>?_,fun b hb z=>?_,I2.stack,I2.stkFree⟩
  ·rcases(f2 b hb).2.2.2.1 with q | q
   ·exact I2.ok.noex b o e q
   ·exact absurd (lt_of_lt_of_le (Heap.lt_size e) (Nat.le_trans I2.ok.bsz q)) (lt_irrefl _)
  ·rcases List.mem_cons.mp (I2.stkSub b z) with q | q
   ·exact(f2 b hb).2.1 q
   ·exact(f2 b hb).2.2.1 q
 have okD:ObjOk X.prog X.w (upd H2 s2.heap.objs.size (.lst [])) h4 s2.heap.objs.size (.lst []):=⟨zero_le _,[],0,.nil,old4 _ _ eD3⟩
 have I4:Inv (bu X (x::N) scope cl H3.objs.size s2 H2 fp) [] (none::cap σ) (upd H2 s2.heap.objs.size (.lst [])) { s2 with heap:=h4,toks:=s2.toks+([]:List (Str×Value)).length }:=by
  refine⟨ok',rfl,I2.bare,Un.laid old (Nat.le_refl _) hD,⟨_,hns4,fun i y v e1 e2 _=>?_⟩,fun y c e=>?_,?_,fun y c e=>?_,fun p hp=>absurd hp (by show p∉([]++[]:List (Addr×Obj)); simp),I2.hok.laid old (Nat.le_refl _) okD,?_⟩
  ·cases i with
   | zero=>simp at e2
   | succ i =>
    obtain⟨k1,k2,j,e3,e4⟩:=hcap σ i y v I2.len (show N[i]?=some y from e1) (show (cap σ)[i]?=some (some v) from e2)
    obtain⟨m,_,hl⟩:=I2.loc
    obtain⟨u,ru,lk⟩:=hl j y v e3 e4 (.inr (.inl k2))
    refine⟨u,ru,.inr ⟨k1,?_⟩⟩
    rcases lk with ⟨z,_⟩ | ⟨_,c,e5,hcl⟩
    ·rw[k2] at z; cases z
    ·obtain⟨c',e6⟩:=hhas y k1
     have:c'=c:=by
      have:=hsub y c' e6
      rw[e5] at this
      exact(Option.some.inj this).symm
     subst this
     obtain⟨oc,ho,hd⟩:=hcl
     exact⟨c',e6,oc,old _ _ ho,hd⟩
  ·obtain⟨v,oc,ho,hd⟩:=I2.cell y c (hsub y c e)
   exact⟨v,oc,old _ _ ho,hd⟩
  ·show upd H2 s2.heap.objs.size (.lst []) H3.objs.size=none
   rw[ao (Nat.ne_of_gt szC)]
   exact I2.hok.fresh (Nat.le_of_lt szC)
  ·have h1:=I2.freeC y c (hsub y c e)
   obtain⟨v,oc,ho,_⟩:=I2.cell y c (hsub y c e)
   rw[ao (Nat.ne_of_lt (Heap.lt_size ho))]
   exact h1
  ·show (none::cap σ).length=(x::N).length
   simp[hcapl]
 have stat:∀ {H':Hp},(∀ b∈fp,H' b=none)->∀ b∈fp,jU (bu X (x::N) scope cl H3.objs.size s2 H2 fp) [] H' b:=fun {H'} hn b hb =>
  ⟨hn b hb,(ok'.exf b hb).1,ok'.exfs b hb,.inl hb,(ok'.exf b hb).2,fun p hp=>absurd hp (by show p∉([]++[]:List (Addr×Obj)); simp)⟩
 have loop:codeAny (model X.prog X.w) X.A (.compLoop (.ListComp elt [⟨.Name x px,iter,[],0⟩] scope pos) 0 (.ref it) (.ref s2.heap.objs.size) (compEnvC scope cl H3.objs.size X.env))
   (compPost (model X.prog X.w) X.A X.xe none (EP X pins σ Q) (.ref s2.heap.objs.size) H3.objs.size) { s2 with heap:=h4,toks:=s2.toks+([]:List (Str×Value)).length }:=by
  refine codeAny_compLoop_list (fun n s'=>∃ (i:Nat) (z0:Option V) (H':Hp),Inv (bu X (x::N) scope cl H3.objs.size s2 H2 fp) [] (z0::cap σ) H' s'/\tn i s'.heap/\(∀ b∈fp,H' b=none)/\W i n H') ?_ m0
   ⟨0,none,_,I4,T.keep 0 _ _ st2 (fun b _ o e=>old b o e),fun b hb=>?_,w0⟩
  ·rintro n s5 ⟨i,z0,H5,I5,st5,fr5,w5⟩
   rcases turn i n H5 w5 with ⟨stop,qn⟩ | ⟨go,step⟩
   ·refine wpAny_mono (T.done (bu X (x::N) scope cl H3.objs.size s2 H2 fp) rfl rfl rfl rfl i [] s5 _ H5 _ I5 (stat fr5) st5 stop) (fun r s6 ⟨hr,I6⟩=>?_) fun _ _ z=>z
    subst hr
    obtain⟨m,hn6,_⟩:=id I6.loc
    refine⟨m,hn6,fun h' sb=>⟨.ref s2.heap.objs.size,H5,?_,rfl,qn⟩⟩
    have kp:∀ b o,b≠H3.objs.size->s6.heap.get? b=some o->h'.get? b=some o:=fun b o hb e=>sb.extBut b o hb e
    have nC:∀ b o,s2.heap.get? b=some o->b≠H3.objs.size:=fun b o e=>Nat.ne_of_lt (lt_trans (Heap.lt_size e) szC)
    have fC:H5 H3.objs.size=none:=I6.free
    refine I2.call' (ch:=fp) (s':={ s6 with heap:=h' }) I6.os ?_ ?_ I6.bare fun b hb=>⟨(f2 b hb).2.2.2.1,(f2 b hb).2.1,(f2 b hb).2.2.2.2.1,(f2 b hb).2.2.2.2.2⟩
    ·have U:Un (frs X.stack) fp H2 H5 s2.heap s6.heap:=I6.base
     exact⟨fun b o e n1 n2 n3=>kp b o (nC b o e) (U.keep b o e n1 n2 n3),fun b o e n1 n2 n3=>by
       obtain⟨sl,q⟩:=U.slot b o e n1 n2 n3
       exact⟨sl,kp b _ (nC b o e) q⟩,U.free,fun b o e n3=>by
       obtain⟨o',q⟩:=U.there b o e n3
       exact⟨o',kp b _ (nC b o e) q⟩,U.tups,U.frzs,U.tbls⟩
    ·intro b u e
     refine(I6.hok b u e).stay (fun c v hc q=>kp c v (fun z=>?_) q) (fun _ q=>q) fun _ _ q=>q
     rcases hc with y | y
     ·rw[<- y,z,fC] at e
      cases e
     ·rw[z,fC] at y
      cases y
   ·refine wpAny_mono (T.item (bu X (x::N) scope cl H3.objs.size s2 H2 fp) rfl rfl rfl rfl i [] s5 _ H5 _ I5 (stat fr5) st5 go) (fun r s6 ⟨u,hr,h6⟩=>?_) fun _ _ z=>z
    subst hr
    have key:(letOwnedTupleGo (.Name x px) (.ref it) u >>= fun _=>assign (.Name x px) (compEnvC scope cl H3.objs.size X.env) u)=assign (.Name x px) (compEnvC scope cl H3.objs.size X.env) u:=by first | rfl | exact pure_bind _ _
    dsimp only
    rw[<- key]
    refine wpAny_bind (wpAny_mono h6 (fun _ s7 ⟨v,H7,I7,r7,y7,st7,fr7⟩=>?_) fun _ _ z=>z)
    have I7':=I7.pinned (stat fr7) (T.obj _ _ st7)
    refine wpAny_assign_Name (gp (i:=0) I7' hN rfl (.inl (lookup_relabel_local hx)) r7 (fun s8 I8=>?_) (.inr (lookup_relabel_local hx)))
    refine wpAny_mono (he H3.objs.size s2 H2 fp _ s8 (some v::cap σ) H7 _ I8 (step v H7 y7)) (fun w9 s9 ⟨y,H9,I9,r9,ys,hys,hlt,m',hm,w9'⟩=>?_) fun _ _ z=>z.elim
    refine wpAny_mono (bW (X:=bu X (x::N) scope cl H3.objs.size s2 H2 fp) _ s9 _ H9 (.ref s2.heap.objs.size) [y] _ [w9] (fun _ Hn=>Hn=upd H9 s2.heap.objs.size (.lst (ys++[y]))) I9 rfl (.cons r9 .nil) ⟨_,ys,y,rfl,rfl,hys,hlt,rfl⟩) (fun _ s10 ⟨_,H10,I10,_,e10⟩=>?_) fun _ _ z=>z.elim
    subst e10
    refine⟨m',hm,i+1,some v,_,I10.unpinned,T.keep _ _ _ st7 fun b hb o e=>(I10.pin (b,o) (mem_append_right _ (mem_append_right _ (ck hb e)))).1,fun b hb=>?_,w9'⟩
    obtain⟨o,e,d⟩:=T.obj _ _ st7 b hb
    exact(I10.pin (b,o) (mem_append_right _ (mem_append_right _ (ck hb e)))).2.1
  ·obtain⟨o,ho,_⟩:=T.obj 0 _ st2 b hb
   rw[ao (Nat.ne_of_lt (Heap.lt_size ho))]
   exact(f2 b hb).1
 exact codeAny_compStart_list loop (T.self X.A 0 _ _ _ (T.keep 0 _ _ st2 (fun b _ o e=>old b o e)) loop)
theorem pe_comp0 (hc:X.calm=true) (hclos:closureFor scope X.env=pure []) (hno:∀ p∈scope.names,p.2≠.cell/\p.2≠.free) (hkind:scope.kind=.function)
  (hnames:∀ y∈scope.names,y.2=.local->scope.names.lookup y.1=some .local) (hx:scope.names.lookup x=some .local)
  (hi:PI X (.Name x px) iter wi) (he:∀ C s2 H2 fp,PE (bu X [x] scope [] C s2 H2 fp) elt te)
  (hs:∀ z,foldedSetIterable iter X.env z=pure z:=by intro _; rfl) :
  PE X (.ListComp elt [⟨.Name x px,iter,[],0⟩] scope pos) (p8 wi te fun _=>[]):=by
 refine qS (N:=[]) (cl:=[]) hc hclos (fun _ _ e=>nomatch e) (fun y hy=>(hno y hy).1) hkind hnames hx (fun y hy=>?_) (by simp) (fun _=>rfl) (fun _ i y v _ e _=>by simp at e) hi he hs
 exfalso
 have sub:∀ (l:List (Str×NameKind)),(∀ p∈l,p.2≠.cell/\p.2≠.free)->∀ p∈(l.map fun (n,k)=>if (k == NameKind.free&&X.env.scope.kind == ScopeKind.function&&X.env.kindOf n == some NameKind.cell) then (n,NameKind.cell) else (n,k)),p.2≠.cell/\p.2≠.free:=by
  intro l hl p hp
  obtain⟨q,hq,e⟩:=List.mem_map.mp hp
  have h1:=hl q hq
  obtain⟨n,k⟩:=q
  have hf:(k == NameKind.free)=false:=by
   cases k <;> first | rfl | exact absurd rfl h1.2
  rw[<- e]
  dsimp only
  rw[hf,Bool.false_and,Bool.false_and,if_neg (by decide)]
  exact h1
 have mem:∀ k,Env.kindOf (compEnvC scope [] 0 X.env) y=some k->k≠.cell/\k≠.free:=fun k e=>sub scope.names hno (y,k) (PySem.mem_of_lookup e)
 rcases hy with z | z
 ·exact(mem _ z).1 rfl
 ·exact(mem _ z).2 rfl
theorem qK {i:Nat}{y:Str}{py spos:Pos}(hNX:X.N.Nodup) (hiy:X.N[i]?=some y) (hly:Loc X.env.scope y) (hsw:swapsWith (.ListComp elt [⟨.Name x px,iter,[],0⟩] scope pos) (some (.Name y py)) spos.line X.env=pure true) (hc:X.calm=true) (hclos:closureFor scope X.env=pure cl) (hsub:∀ n c,cl.lookup n=some c->X.env.cells.lookup n=some c)
  (hcell:∀ y∈scope.names,y.2≠.cell) (hkind:scope.kind=.function) (hnames:∀ y∈scope.names,y.2=.local->scope.names.lookup y.1=some .local) (hx:scope.names.lookup x=some .local)
  (hhas:∀ y,(Env.kindOf (compEnvC scope cl 0 X.env) y=some .cell\/Env.kindOf (compEnvC scope cl 0 X.env) y=some .free)->∃ c,cl.lookup y=some c)
  (hN:(x::N).Nodup) (hcapl:∀ σ,(cap σ).length=N.length)
  (hcap:∀ (σ:L2.St) (i:Nat) (y:Str) (v:V),σ.length=X.N.length->N[i]?=some y->(cap σ)[i]?=some (some v)->(Env.kindOf (compEnvC scope cl 0 X.env) y=some .cell\/Env.kindOf (compEnvC scope cl 0 X.env) y=some .free)/\X.env.kindOf y=some .cell/\∃ j:Nat,X.N[j]?=some y/\σ[j]?=some (some v))
  (hi:PI X (.Name x px) iter wi) (he:∀ C s2 H2 fp,PE (bu X (x::N) scope cl C s2 H2 fp) elt te)
  (hs:∀ z,foldedSetIterable iter X.env z=pure z:=by intro _; rfl) (hf:X.fn y=true\/X.env.scope.names.lookup y=some .local:=by first | exact .inl rfl | exact .inr rfl | assumption) :
  PS X (.Assign [.Name y py] (.ListComp elt [⟨.Name x px,iter,[],0⟩] scope pos) spos) (tAsg (p8 wi te cap) (lA i)):=by
 intro pins s σ H DD I h
 rw[exec_Assign_Name_used _ _ _ _ hsw]
 refine wpAny_bind (wpAny_standAt (wpAny_bind ?_))
 show wpAny _ X.A (do let _ <- comprehension (.ListComp elt [⟨.Name x px,iter,[],0⟩] scope pos) scope X.env _ (newList []) false (eval iter X.env) (some (assign (.Name y py) X.env))) _ _ s
 refine wpAny_bind (wpAny_mono (wpAny_comprehension_free (use:=some (assign (.Name y py) X.env)) (Q:=fun _ s'=>SP X pins DD .next s') rfl hs hclos hkind hnames (thn (hi pins s σ H _ I h) fun xv s1 h1=>thn h1 fun itv s2 h2=>?_)) (fun _ s' hq=>wpAny_pure (wpAny_pure hq)) fun _ _ e=>e)
 obtain⟨it,fp,tn,J,H2,e,I2,T,st2,f2,hW⟩:=h2
 subst e
 have hD:H2 s2.heap.objs.size=none:=I2.hok.fresh (Nat.le_refl _)
 obtain⟨W,⟨m0,w0⟩,turn⟩:=hW s2.heap.objs.size hD
 refine wpAny_newObj_type (wpAny_newFunctionEnv hcell (by intro y hy; simp at hy) (fun h4 hns4 hsb4=>?_) hkind) (by show 0<=sizeLine; decide)
 dsimp only at hns4 hsb4 ⊢
 generalize hH3:s2.heap.push { cls:=.type "list",dict:=none,data:=.seq ([]:List Value).toArray }=H3 at hns4 hsb4 ⊢
 have hCz:H3.objs.size=s2.heap.objs.size+1:=by rw[<- hH3,Heap.size_push]
 have old3:∀ b o,s2.heap.get? b=some o->H3.get? b=some o:=fun b o e=>hH3 ▸ Heap.get?_push_of_some _ e
 have eD3:H3.get? s2.heap.objs.size=some { cls:=.type "list",dict:=none,data:=.seq ([]:List Value).toArray }:=hH3 ▸ Heap.get?_push_size _ rfl
 have old4:∀ b o,H3.get? b=some o->h4.get? b=some o:=fun b o e=>hsb4.extBut b o (Nat.ne_of_lt (Heap.lt_size e)) (Heap.get?_push_of_some _ e)
 have old:∀ b o,s2.heap.get? b=some o->h4.get? b=some o:=fun b o e=>old4 b o (old3 b o e)
 have szC:s2.heap.objs.size<H3.objs.size:=by rw[hCz]; exact lt_succ_self _
 have fpC:∀ b∈fp,b≠H3.objs.size:=fun b hb=>by
  obtain⟨o,ho,_⟩:=T.obj 0 _ st2 b hb
  exact Nat.ne_of_lt (lt_trans (Heap.lt_size ho) szC)
 have ok':(bu X (x::N) scope cl H3.objs.size s2 H2 fp).Ok:=by
  refine⟨I2.ok.mod,hkind,I2.ok.glob,I2.ok.blt,(Nat.le_of_lt szC),fun a b c e1 e2=>I2.ok.inj a b c (hsub a c e1) (hsub b c e2),fun y hy=>hhas y hy,fun y c z _=>absurd (show false=true from z) (by decide),
   fun _=>I2.ok.hd hc,I2.ok.frames,.inl rfl,fun b hb=>⟨fpC b hb,fun y c e=>(f2 b hb).2.2.2.2.1 y c (hsub y c e)⟩,I2.bs,Nat.le_trans I2.ok.bsz I2.sz,fun b o e hb=>?_,fun b hb z=>?_,I2.stack,I2.stkFree⟩
  ·rcases(f2 b hb).2.2.2.1 with q | q
   ·exact I2.ok.noex b o e q
   ·exact absurd (lt_of_lt_of_le (Heap.lt_size e) (Nat.le_trans I2.ok.bsz q)) (lt_irrefl _)
  ·rcases List.mem_cons.mp (I2.stkSub b z) with q | q
   ·exact(f2 b hb).2.1 q
   ·exact(f2 b hb).2.2.1 q
 have okD:ObjOk X.prog X.w (upd H2 s2.heap.objs.size (.lst [])) h4 s2.heap.objs.size (.lst []):=⟨zero_le _,[],0,.nil,old4 _ _ eD3⟩
 have I4:Inv (bu X (x::N) scope cl H3.objs.size s2 H2 fp) [] (none::cap σ) (upd H2 s2.heap.objs.size (.lst [])) { s2 with heap:=h4,toks:=s2.toks+([]:List (Str×Value)).length }:=by
  refine⟨ok',rfl,I2.bare,Un.laid old (Nat.le_refl _) hD,⟨_,hns4,fun i y v e1 e2 _=>?_⟩,fun y c e=>?_,?_,fun y c e=>?_,fun p hp=>absurd hp (by show p∉([]++[]:List (Addr×Obj)); simp),I2.hok.laid old (Nat.le_refl _) okD,?_⟩
  ·cases i with
   | zero=>simp at e2
   | succ i =>
    obtain⟨k1,k2,j,e3,e4⟩:=hcap σ i y v I2.len (show N[i]?=some y from e1) (show (cap σ)[i]?=some (some v) from e2)
    obtain⟨m,_,hl⟩:=I2.loc
    obtain⟨u,ru,lk⟩:=hl j y v e3 e4 (.inr (.inl k2))
    refine⟨u,ru,.inr ⟨k1,?_⟩⟩
    rcases lk with ⟨z,_⟩ | ⟨_,c,e5,hcl⟩
    ·rw[k2] at z; cases z
    ·obtain⟨c',e6⟩:=hhas y k1
     have:c'=c:=by
      have:=hsub y c' e6
      rw[e5] at this
      exact(Option.some.inj this).symm
     subst this
     obtain⟨oc,ho,hd⟩:=hcl
     exact⟨c',e6,oc,old _ _ ho,hd⟩
  ·obtain⟨v,oc,ho,hd⟩:=I2.cell y c (hsub y c e)
   exact⟨v,oc,old _ _ ho,hd⟩
  ·show upd H2 s2.heap.objs.size (.lst []) H3.objs.size=none
   rw[ao (Nat.ne_of_gt szC)]
   exact I2.hok.fresh (Nat.le_of_lt szC)
  ·have h1:=I2.freeC y c (hsub y c e)
   obtain⟨v,oc,ho,_⟩:=I2.cell y c (hsub y c e)
   rw[ao (Nat.ne_of_lt (Heap.lt_size ho))]
   exact h1
  ·show (none::cap σ).length=(x::N).length
   simp[hcapl]
 have stat:∀ {H':Hp},(∀ b∈fp,H' b=none)->∀ b∈fp,jU (bu X (x::N) scope cl H3.objs.size s2 H2 fp) [] H' b:=fun {H'} hn b hb =>
  ⟨hn b hb,(ok'.exf b hb).1,ok'.exfs b hb,.inl hb,(ok'.exf b hb).2,fun p hp=>absurd hp (by show p∉([]++[]:List (Addr×Obj)); simp)⟩
 have loop:codeAny (model X.prog X.w) X.A (.compLoop (.ListComp elt [⟨.Name x px,iter,[],0⟩] scope pos) 0 (.ref it) (.ref s2.heap.objs.size) (compEnvC scope cl H3.objs.size X.env))
   (compPost (model X.prog X.w) X.A X.xe (some (assign (.Name y py) X.env)) (fun _ s'=>SP X pins DD .next s') (.ref s2.heap.objs.size) H3.objs.size) { s2 with heap:=h4,toks:=s2.toks+([]:List (Str×Value)).length }:=by
  refine codeAny_compLoop_list (fun n s'=>∃ (i:Nat) (z0:Option V) (H':Hp),Inv (bu X (x::N) scope cl H3.objs.size s2 H2 fp) [] (z0::cap σ) H' s'/\tn i s'.heap/\(∀ b∈fp,H' b=none)/\W i n H') ?_ m0
   ⟨0,none,_,I4,T.keep 0 _ _ st2 (fun b _ o e=>old b o e),fun b hb=>?_,w0⟩
  ·rintro n s5 ⟨i,z0,H5,I5,st5,fr5,w5⟩
   rcases turn i n H5 w5 with ⟨stop,qn⟩ | ⟨go,step⟩
   ·refine wpAny_mono (T.done (bu X (x::N) scope cl H3.objs.size s2 H2 fp) rfl rfl rfl rfl i [] s5 _ H5 _ I5 (stat fr5) st5 stop) (fun r s6 ⟨hr,I6⟩=>?_) fun _ _ z=>z
    subst hr
    obtain⟨m,hn6,_⟩:=id I6.loc
    have I6X:Inv X pins σ H5 s6:=I2.call' (ch:=fp) (s':=s6) I6.os I6.base I6.hok I6.bare fun b hb=>⟨(f2 b hb).2.2.2.1,(f2 b hb).2.1,(f2 b hb).2.2.2.2.1,(f2 b hb).2.2.2.2.2⟩
    have fC:H5 H3.objs.size=none:=I6.free
    have nL:H3.objs.size≠X.env.locals:=Ne.symm (Nat.ne_of_lt (lt_trans I2.lt szC))
    have nCl:∀ z c,X.env.cells.lookup z=some c->c≠H3.objs.size:=fun z c e=>by
     obtain⟨v,oc,ho,_⟩:=I2.cell z c e
     exact Nat.ne_of_lt (lt_trans (Heap.lt_size ho) szC)
    refine wpAny_assign_Name (lT I6X hNX hiy hly (v:=.ref s2.heap.objs.size) rfl (fun s7 I7 ⟨ad,sb7,had⟩=>?_) hf)
    have nA:H3.objs.size≠ad:=by
     rcases had with e | e
     ·rw[e]; exact nL
     ·exact Ne.symm (nCl _ _ e)
    refine⟨m,hn6.sameBut sb7 nA,fun h' sb=>⟨_,H5,?_,qn⟩⟩
    refine I7.turned (it:=H3.objs.size) (t':=s7.toks) (fun b o hb e=>sb.extBut b o hb e) fC nL (.inr (Nat.le_trans I2.sz (Nat.le_of_lt szC))) nCl fun p hp=>?_
    exact Nat.ne_of_lt (lt_trans (Heap.lt_size (I2.pin p hp).1) szC)
   ·refine wpAny_mono (T.item (bu X (x::N) scope cl H3.objs.size s2 H2 fp) rfl rfl rfl rfl i [] s5 _ H5 _ I5 (stat fr5) st5 go) (fun r s6 ⟨u,hr,h6⟩=>?_) fun _ _ z=>z
    subst hr
    have key:(letOwnedTupleGo (.Name x px) (.ref it) u >>= fun _=>assign (.Name x px) (compEnvC scope cl H3.objs.size X.env) u)=assign (.Name x px) (compEnvC scope cl H3.objs.size X.env) u:=by first | rfl | exact pure_bind _ _
    dsimp only
    rw[<- key]
    refine wpAny_bind (wpAny_mono h6 (fun _ s7 ⟨v,H7,I7,r7,y7,st7,fr7⟩=>?_) fun _ _ z=>z)
    have I7':=I7.pinned (stat fr7) (T.obj _ _ st7)
    refine wpAny_assign_Name (gp (i:=0) I7' hN rfl (.inl (lookup_relabel_local hx)) r7 (fun s8 I8=>?_) (.inr (lookup_relabel_local hx)))
    refine wpAny_mono (he H3.objs.size s2 H2 fp _ s8 (some v::cap σ) H7 _ I8 (step v H7 y7)) (fun w9 s9 ⟨yv,H9,I9,r9,ys,hys,hlt,m',hm,w9'⟩=>?_) fun _ _ z=>z.elim
    refine wpAny_mono (bW (X:=bu X (x::N) scope cl H3.objs.size s2 H2 fp) _ s9 _ H9 (.ref s2.heap.objs.size) [yv] _ [w9] (fun _ Hn=>Hn=upd H9 s2.heap.objs.size (.lst (ys++[yv]))) I9 rfl (.cons r9 .nil) ⟨_,ys,yv,rfl,rfl,hys,hlt,rfl⟩) (fun _ s10 ⟨_,H10,I10,_,e10⟩=>?_) fun _ _ z=>z.elim
    subst e10
    refine⟨m',hm,i+1,some v,_,I10.unpinned,T.keep _ _ _ st7 fun b hb o e=>(I10.pin (b,o) (mem_append_right _ (mem_append_right _ (ck hb e)))).1,fun b hb=>?_,w9'⟩
    obtain⟨o,e,d⟩:=T.obj _ _ st7 b hb
    exact(I10.pin (b,o) (mem_append_right _ (mem_append_right _ (ck hb e)))).2.1
  ·obtain⟨o,ho,_⟩:=T.obj 0 _ st2 b hb
   rw[ao (Nat.ne_of_lt (Heap.lt_size ho))]
   exact(f2 b hb).1
 exact codeAny_compStart_list loop (T.self X.A 0 _ _ _ (T.keep 0 _ _ st2 (fun b _ o e=>old b o e)) loop)
theorem ps_comp0 {i:Nat}{y:Str}{py spos:Pos}(hNX:X.N.Nodup) (hiy:X.N[i]?=some y) (hly:Loc X.env.scope y) (hsw:swapsWith (.ListComp elt [⟨.Name x px,iter,[],0⟩] scope pos) (some (.Name y py)) spos.line X.env=pure true) (hc:X.calm=true) (hclos:closureFor scope X.env=pure []) (hno:∀ p∈scope.names,p.2≠.cell/\p.2≠.free) (hkind:scope.kind=.function)
  (hnames:∀ y∈scope.names,y.2=.local->scope.names.lookup y.1=some .local) (hx:scope.names.lookup x=some .local)
  (hi:PI X (.Name x px) iter wi) (he:∀ C s2 H2 fp,PE (bu X [x] scope [] C s2 H2 fp) elt te)
  (hs:∀ z,foldedSetIterable iter X.env z=pure z:=by intro _; rfl) (hf:X.fn y=true\/X.env.scope.names.lookup y=some .local:=by first | exact .inl rfl | exact .inr rfl | assumption) :
  PS X (.Assign [.Name y py] (.ListComp elt [⟨.Name x px,iter,[],0⟩] scope pos) spos) (tAsg (p8 wi te fun _=>[]) (lA i)):=by
 refine qK hNX hiy hly hsw (N:=[]) (cl:=[]) hc hclos (fun _ _ e=>nomatch e) (fun z hy=>(hno z hy).1) hkind hnames hx (fun z0 hy=>?_) (by simp) (fun _=>rfl) (fun _ i y v _ e _=>by simp at e) hi he hs hf
 exfalso
 have sub:∀ (l:List (Str×NameKind)),(∀ p∈l,p.2≠.cell/\p.2≠.free)->∀ p∈(l.map fun (n,k)=>if (k == NameKind.free&&X.env.scope.kind == ScopeKind.function&&X.env.kindOf n == some NameKind.cell) then (n,NameKind.cell) else (n,k)),p.2≠.cell/\p.2≠.free:=by
  intro l hl p hp
  obtain⟨q,hq,e⟩:=List.mem_map.mp hp
  have h1:=hl q hq
  obtain⟨n,k⟩:=q
  have hf:(k == NameKind.free)=false:=by
   cases k <;> first | rfl | exact absurd rfl h1.2
  rw[<- e]
  dsimp only
  rw[hf,Bool.false_and,Bool.false_and,if_neg (by decide)]
  exact h1
 have mem:∀ k,Env.kindOf (compEnvC scope [] 0 X.env) z0=some k->k≠.cell/\k≠.free:=fun k e=>sub scope.names hno (z0,k) (PySem.mem_of_lookup e)
 rcases hy with z | z
 ·exact(mem _ z).1 rfl
 ·exact(mem _ z).2 rfl
theorem jA {K:Frag}{a D:Addr}{xs:List V}{te':TE}{tl:L2.St}{G:Hp->Prop}{H1:Hp}(Pv:Nat->Hp->Prop) (h0:Pv 0 (upd H1 D (.lst []))) (hl:∀ i H,i<=xs.length->Pv i H->SqL K H a xs)
  (hs:∀ i x H,xs[i]?=some x->Pv i H->te' (some x::tl) H fun y H2=>∃ ys,H2 D=some (.lst ys)/\ys.length<sizeLine/\∃ m',m'<xs.length-i/\(m'=xs.length-(i+1)/\i+1<=xs.length/\Pv (i+1) (upd H2 D (.lst (ys++[y])))))
  (hd:∀ H,Pv xs.length H->G H) :
  ∃ W:Nat->Nat->Hp->Prop,(∃ m,W 0 m (upd H1 D (.lst [])))/\∀ i m H,W i m H ->
   ((Itl K a).stop i H/\G H)\/((Itl K a).go i H/\∀ x H',(Itl K a).yld i H x H'->te' (some x::tl) H' fun y H2=>∃ ys,H2 D=some (.lst ys)/\ys.length<sizeLine/\∃ m',m'<m/\W (i+1) m' (upd H2 D (.lst (ys++[y])))):=by
 refine⟨fun i m H=>m=xs.length-i/\i<=xs.length/\Pv i H,⟨xs.length,by simp,zero_le _,h0⟩,?_⟩
 rintro i m H ⟨rfl,hi,p⟩
 have q:=hl i H hi p
 by_cases hlt:i<xs.length
 ·refine .inr ⟨⟨xs,xs[i],q,by simp[hlt]⟩,fun x H' y=>?_⟩
  obtain⟨e,y⟩:=y
  subst e
  exact hs i x _ (y xs q) p
 ·have e:i=xs.length:=by omega
  subst e
  exact .inl ⟨⟨xs,q,Nat.le_refl _⟩,hd H p⟩
end
def tJoin (t u:TS):TS:=fun D σ H=>∃ J:L2.St->Hp->Prop,t { D with nx:=J } σ H/\∀ σ' H',J σ' H'->u D σ' H'
theorem bj {X:Cx}{st:Stmt}{rest:List Stmt}{t u:TS}(h1:PS X st t) (h2:PSs X rest u):PSs X (st::rest) (tJoin t u):=by
 intro pins s σ H D I h
 obtain⟨J,h,hJ⟩:=h
 refine wpAny_execs_cons (thn (h1 pins s σ H { D with nx:=J } I h) fun f s1 q=>?_)
 cases f with
 | next =>
  obtain⟨σ',H',I',q⟩:=q
  exact h2 pins s1 σ' H' D I' (hJ _ _ q)
 | ret v=>exact q
 | brk=>exact q
 | cont=>exact q
end Ow
namespace Ow
open PySem PySem.Spec PyProof.Rows L2
section
variable {X:Cx}
def rEq0 (K:Frag) (neg:Bool):R2:=fun x y H Q=>∃ p q xs,x=.ref p/\y=.ref q/\SqL K H p xs/\SqL K H q []/\Q (.bl (if neg then !xs.isEmpty else xs.isEmpty)) H
theorem op_ne0 (hu:X.A.units<cLine):OpR X (compareOp .NotEq) (rEq0 X.K true):=by
 intro pins s σ H x y v u Q I rx ry h
 obtain⟨p,q,xs,rfl,rfl,hp,hq,k⟩:=h
 cases rx
 cases ry
 obtain⟨its,r,pl,hz⟩:=I.list hp
 obtain⟨its2,r2,pl2,hz2⟩:=I.list hq
 cases r2
 have hl:=r.length
 cases xs with
 | nil =>
  cases r
  exact SeqAt.RcNeAt.lists (e:=fun _=>true) pl.isList pl2.isList rfl hu (fun j h1 _=>absurd h1 (by simp)) X.prog X.w X.xe _ ⟨.bl _,H,I,rfl,k⟩
 | cons z zs =>
  refine SeqAt.RcNeAt.lists_lengths pl.isList pl2.isList ?_ hu X.prog X.w X.xe _ ⟨.bl _,H,I,rfl,k⟩
  rw[length_cons] at hl
  simp only[size_toArray,<- hl]
  rfl
def tRev (K:Frag) (te:TE):TE:=fun σ H Q=>te σ H fun x H1=>∃ a xs,x=.ref a/\SqL K H1 a xs/\∀ p,H1 p=none->Q (.ref p) (upd H1 p (.lst xs.reverse))
theorem pe_rev {e:Expr}{te:TE}{j:Nat}{p1 p2 p3 pos:Pos}(he:PE X e te):PE X (.Subscript e (.Slice none none (some (.UnaryOp .USub (.Constant (.int 1) j p1) p3)) p2) pos) (tRev X.K te):=by
 intro pins s σ H Q I h
 refine Subscript_ (thn (he pins s σ H _ I h) fun v s1 ⟨x,H1,I1,r1,a,xs,ex,hx,q⟩=>?_)
 subst ex
 cases r1
 refine wpAny_Slice ?_
 rw[evalPart_none]
 refine wpAny_pure (wpAny_pure ?_)
 rw[evalPart_some]
 refine thn ((pe_un sY ac:PE X (.UnaryOp .USub (.Constant (.int 1) j p1) p3) _) pins s1 σ H1 (fun z Hz=>z=.int (-1)/\Hz=H1) I1 ⟨_,rfl,rfl,rfl⟩) fun vk s2 ⟨z,H2,I2,rz,ez,eH⟩=>?_
 subst ez eH
 obtain⟨tk,rfl⟩:=rz
 obtain⟨its,r,ht,hz⟩:=I2.list hx
 have hlen:=r.length
 have I4:Inv X pins σ H2 { s2 with heap:=s2.heap.push { cls:=.type "slice",data:=.fields #[.none,.none,.int (-1) tk] } }:=I2.kept (t':=s2.toks) fun b ob q=>Heap.get?_push_of_some _ q
 obtain⟨its',r',ht',hz'⟩:=I4.list hx
 show wpAny (model X.prog X.w) X.A (subscriptTail e (.Slice none none (some (.UnaryOp .USub (.Constant (.int 1) j p1) p3)) p2) (.ref a) (.ref s2.heap.objs.size)) (EP X pins σ Q) X.xe { s2 with heap:=s2.heap.push { cls:=.type "slice",data:=.fields #[.none,.none,.int (-1) tk] } }
 have hlen':=r'.length
 refine tail_any (ops:=[.ref a,.ref s2.heap.objs.size]) ht'.isList.typeIs slot_list_getitem.lookup (wpAny_getItem_list_slice ht'.isList (Heap.IsSliceOf.new ..) .none .none (.int (-1) tk) (by decide) ?_ (by rw[size_toArray] <;> omega)) (by with_unfolding_all rfl)
 rw[PySem.W.krv_pick]
 refine⟨.ref (s2.heap.push { cls:=.type "slice",data:=.fields #[.none,.none,.int (-1) tk] }).objs.size,_,I4.laid (t':=s2.toks) (o:=.lst xs.reverse) (fun b ob q=>Heap.get?_push_of_some _ q) (Nat.le_refl _) ?_,rfl,q _ (I4.hok.fresh (Nat.le_refl _))⟩
 refine⟨by rw[List.length_reverse]; exact hz,its'.reverse,0,L2.Vals.reverse r',?_⟩
 exact Heap.get?_push_size _ rfl
end
end Ow
namespace Ow
open PySem PySem.Spec PyProof.Rows L2
section
variable {X:Cx}
def rAddL (K:Frag):R2:=fun x y H Q=>∃ a b xs ys,x=.ref a/\y=.ref b/\SqL K H a xs/\SqL K H b ys/\xs.length+ys.length<=sizeLine/\∀ p,H p=none->Q (.ref p) (upd H p (.lst (xs++ys)))
theorem op_addL:OpR X (binaryOp .Add) (rAddL X.K):=by
 intro pins s σ H x y v u Q I rx ry h
 obtain⟨a,b,xs,ys,rfl,rfl,ha,hb,hz,q⟩:=h
 cases rx
 cases ry
 obtain⟨its,r,pl,_⟩:=I.list ha
 obtain⟨its2,r2,pl2,_⟩:=I.list hb
 have hl:=r.length
 have hl2:=r2.length
 obtain⟨⟨cls,dd,data,sl⟩,ho,hc,n,hd⟩:=id pl.isList
 obtain⟨⟨cls2,dd2,data2,sl2⟩,ho2,hc2,n2,hd2⟩:=id pl2.isList
 simp only at hc hd hc2 hd2
 subst hc hd hc2 hd2
 have e:its.toArray++its2.toArray=(its++its2).toArray:=by simp
 refine concat_meets ⟨_,ho,rfl⟩ ⟨_,ho2,rfl⟩ noFill_list_add seq_list_add PySem.F.slot_list_add PySem.F.entry_list_add (PySem.F.args_list_add_2 _ _) (list_addW a b its.toArray its2.toArray n n2 dd dd2 sl sl2 (by simp; omega)) ⟨ho,ho2,?_⟩
 rw[e]
 exact⟨.ref s.heap.objs.size,_,I.lnew (t':=s.toks) (r.append r2) (by rw[length_append]; exact hz),rfl,q _ I.fresh⟩
variable {tg:Expr}
end
end Ow
namespace Ow
open PySem PySem.Spec PyProof.Rows L2
section
variable {X:Cx}{tg:Expr}
theorem mO (hc:X.calm=true):fF X (.builtin "all") (fun xs H Q=>∃ (a:Addr) (bs:List Bool),xs=[.ref a]/\SqL X.K H a (bs.map V.bl)/\Q (.bl (bs.all id)) H):=by
 intro pins s σ H xs us Q I r h
 obtain⟨a,bs,rfl,hq,q⟩:=h
 obtain⟨u,rfl,rx⟩:=oh r
 cases rx
 obtain⟨its,rv,pl,hz⟩:=I.list hq
 have hl:=rv.length
 rw[length_map] at hl
 refine call_all_walk (wpAny_pyIter_list pl.isList ?_)
 have hne:a≠s.heap.objs.size:=by
  obtain⟨o,ho,_⟩:=pl.isList
  exact Nat.ne_of_lt (Heap.lt_size ho)
 refine⟨s.heap.objs.size,_,_,_,_,_,fun j=>bs.getD j false,rfl,Walks.list (A:=X.A.in1) (I.ok.hd hc) s.heap.objs.size a hne its.toArray,⟨⟨_,Heap.get?_push_size _ rfl,rfl,rfl⟩,Heap.IsList.push pl.isList _⟩,?_,?_⟩
 ·intro i v s' Q' E' hP hQ'
  have hP':its[i]?=some v:=by simpa using hP
  have hi:i<its.length:=(List.getElem?_eq_some_iff.mp hP').1
  have hb:(bs.map V.bl)[i]?=some (V.bl (bs.getD i false)):=by
   rw[List.getElem?_map,getD_eq_getElem?_getD,List.getElem?_eq_getElem (by omega)]
   rfl
  obtain⟨u',hu',ru'⟩:=rv.get hb
  rw[hP'] at hu'
  cases hu'
  cases ru'
  exact wpAny_truthy_bool hQ'
 ·intro h' tk hk
  refine⟨.bl _,H,I.kept (t':=tk) fun b o e=>hk b o (fun z=>?_) (Heap.get?_push_of_some _ e),?_,q⟩
  ·have z':b=s.heap.objs.size:=by simpa using z
   exact absurd (Heap.lt_size e) (by rw[z']; exact lt_irrefl _)
  ·have e1:(List.range its.toArray.size).all (fun j=>bs.getD j false)=bs.all id:=by
    rw[size_toArray,<- hl]
    rw[Bool.eq_iff_iff,List.all_eq_true,List.all_eq_true]
    constructor
    ·intro h x hx
     obtain⟨j,hj,e⟩:=List.getElem_of_mem hx
     have:=h j (List.mem_range.mpr hj)
     rw[getD_eq_getElem?_getD,List.getElem?_eq_getElem hj] at this
     show x=true
     rw[<- e]
     exact this
    ·intro h j hj
     have hj':=List.mem_range.mp hj
     rw[getD_eq_getElem?_getD,List.getElem?_eq_getElem hj']
     exact h _ (getElem_mem hj')
   rw[e1]
   rfl
variable {elt iter:Expr}{x:Str}{px pos:Pos}{scope:Scope}{wi:TI}{te:TE}{cl:List (Str×Addr)}
theorem kI (js:List Nat) (ns:List Str) (hc:X.calm=true) (hclos:closureFor scope X.env=pure cl) (hcls:cl.map (·.1)=ns) (hsub:∀ p∈cl,X.env.cells.lookup p.1=some p.2)
  (hno:∀ p∈scope.names,p.2≠.cell/\(p.2=.free->p.1∈ns)) (hkind:scope.kind=.function) (hnames:∀ y∈scope.names,y.2=.local->scope.names.lookup y.1=some .local) (hx:scope.names.lookup x=some .local)
  (hN:(x::ns).Nodup) (hkd:∀ y∈ns,(Env.kindOf (compEnvC scope cl 0 X.env) y=some .cell\/Env.kindOf (compEnvC scope cl 0 X.env) y=some .free)/\X.env.kindOf y=some .cell)
  (hjl:js.length=ns.length) (hj:js.map (fun j=>X.N[j]?)=ns.map some)
  (hi:PI X (.Name x px) iter wi) (he:∀ C s2 H2 fp,PE (bu X (x::ns) scope cl C s2 H2 fp) elt te)
  (hs:∀ z,foldedSetIterable iter X.env z=pure z:=by intro _; rfl) :
  PE X (.ListComp elt [⟨.Name x px,iter,[],0⟩] scope pos) (p8 wi te fun σ=>js.map fun j=>(σ[j]?).getD none):=by
 refine qS (N:=ns) (cl:=cl) hc hclos (fun n c e=>hsub (n,c) (PySem.mem_of_lookup e)) (fun y hy=>(hno y hy).1) hkind hnames hx (fun y hy=>?_) hN (fun σ=>by rw[length_map]; exact hjl) (fun σ i y v _ e1 e2=>?_) hi he hs
 ·have sub:∀ (l:List (Str×NameKind)),(∀ p∈l,p.2≠.cell/\(p.2=.free->p.1∈ns))->∀ p∈(l.map fun (n,k)=>if (k == NameKind.free&&X.env.scope.kind == ScopeKind.function&&X.env.kindOf n == some NameKind.cell) then (n,NameKind.cell) else (n,k)),(p.2=.cell\/p.2=.free)->p.1∈ns:=by
   intro l hl p hp hk
   obtain⟨q,hq,e⟩:=List.mem_map.mp hp
   have h1:=hl q hq
   obtain⟨n,k⟩:=q
   dsimp only at e
   by_cases hf:k=.free
   ·have h2:=h1.2 hf
    split at e
    ·rw[<- e]; exact h2
    ·rw[<- e]; exact h2
   ·have hf':(k == NameKind.free)=false:=by
     cases k <;> first | rfl | exact absurd rfl hf
    rw[hf',Bool.false_and,Bool.false_and,if_neg (by decide)] at e
    rw[<- e] at hk
    rcases hk with z | z
    ·exact absurd z h1.1
    ·exact absurd z hf
  have hy':y∈ns:=by
   rcases hy with z | z
   ·exact sub scope.names hno (y,.cell) (PySem.mem_of_lookup z) (.inl rfl)
   ·exact sub scope.names hno (y,.free) (PySem.mem_of_lookup z) (.inr rfl)
  rw[<- hcls] at hy'
  have key:∀ l:List (Str×Addr),y∈l.map (·.1)->∃ c,l.lookup y=some c:=by
   intro l
   induction l with
   | nil=>intro h; simp at h
   | cons p r ih =>
    intro h
    by_cases e:y=p.1
    ·exact⟨p.2,by obtain⟨p1,p2⟩:=p; dsimp only at e; subst e; simp[List.lookup]⟩
    ·have h':y∈r.map (·.1):=by
      rw[map_cons] at h
      exact(List.mem_cons.mp h).resolve_left e
     obtain⟨c,hc'⟩:=ih h'
     refine⟨c,?_⟩
     obtain⟨p1,p2⟩:=p
     have:(y == p1)=false:=by simpa using e
     rw[List.lookup_cons,this]
     exact hc'
  exact key cl hy'
 ·have hm:y∈ns:=mem_of_getElem? e1
  refine⟨(hkd y hm).1,(hkd y hm).2,?_⟩
  rw[List.getElem?_map] at e2
  cases hji:js[i]? with
  | none=>rw[hji] at e2; cases e2
  | some j =>
   rw[hji] at e2
   have e3:(σ[j]?).getD none=some v:=by
    have:=Option.some.inj e2
    exact this
   have e4:=congrArg (fun l=>l[i]?) hj
   rw[List.getElem?_map,List.getElem?_map,hji,e1] at e4
   have e5:X.N[j]?=some y:=by
    have:=Option.some.inj e4
    exact this
   refine⟨j,e5,?_⟩
   cases hσ:σ[j]? with
   | none=>rw[hσ] at e3; cases e3
   | some o =>
    rw[hσ] at e3
    have e6:o=some v:=e3
    rw[e6]
structure CHas (P:Program) (w:World) (K:Frag) (mg:Str->Option Value) (base:Heap) (k:Nat) (C:Addr) (x:Str) (ps:List Str) (sp:Sp):Prop where
 ex:∃ (f:Addr) (fd:FuncData),Mk K C f/\FnOk P w K mg base CX0 k f fd ps sp/\Binds K fd ps []/\mg x=some (.ref C)
theorem jT {k:Nat}{C:Addr}{y:Str}{ps:List Str}{sp:Sp}{p:Pos}{e:Expr}{es:List Expr}{t:TA}(h:CHas X.prog X.w X.K X.mg X.base k C y ps sp) (hr:Room (k+1) X.A) (hg:Gl X y) (ha:PA X (e::es) t) (hdb:(y == ("__debug__":Str))=false:=by decide)
  (he:starEach (e::es) X.env=(false,eval e X.env)::starEach es X.env:=by rfl) (hpl:(backTo pos (starEach es X.env)).any (·.1)=false:=by rfl) :
  PE X (.Call (.Name y p) (e::es) [] pos) (tMake C sp [] E0 t):=by
 obtain⟨f,fd,M,F,b,m⟩:=h.ex
 exact pe_make M F hr hg m b .nil tj ha hdb he hpl
end
end Ow
namespace Ow
open PySem PySem.Spec PyProof.Rows L2
section
variable {X:Cx}
variable {elt iter:Expr}{x:Str}{px pos:Pos}{scope:Scope}{wi:TI}{te:TE}{cl:List (Str×Addr)}
theorem oZ {i:Nat}{y:Str}{py spos:Pos}(hNX:X.N.Nodup) (hiy:X.N[i]?=some y) (hly:Loc X.env.scope y) (hsw:swapsWith (.ListComp elt [⟨.Name x px,iter,[],0⟩] scope pos) (some (.Name y py)) spos.line X.env=pure true) (js:List Nat) (ns:List Str) (hc:X.calm=true) (hclos:closureFor scope X.env=pure cl) (hcls:cl.map (·.1)=ns) (hsub:∀ p∈cl,X.env.cells.lookup p.1=some p.2)
  (hno:∀ p∈scope.names,p.2≠.cell/\(p.2=.free->p.1∈ns)) (hkind:scope.kind=.function) (hnames:∀ y∈scope.names,y.2=.local->scope.names.lookup y.1=some .local) (hx:scope.names.lookup x=some .local)
  (hN:(x::ns).Nodup) (hkd:∀ y∈ns,(Env.kindOf (compEnvC scope cl 0 X.env) y=some .cell\/Env.kindOf (compEnvC scope cl 0 X.env) y=some .free)/\X.env.kindOf y=some .cell)
  (hjl:js.length=ns.length) (hj:js.map (fun j=>X.N[j]?)=ns.map some)
  (hi:PI X (.Name x px) iter wi) (he:∀ C s2 H2 fp,PE (bu X (x::ns) scope cl C s2 H2 fp) elt te)
  (hs:∀ z,foldedSetIterable iter X.env z=pure z:=by intro _; rfl) (hf:X.fn y=true\/X.env.scope.names.lookup y=some .local:=by first | exact .inl rfl | exact .inr rfl | assumption) :
  PS X (.Assign [.Name y py] (.ListComp elt [⟨.Name x px,iter,[],0⟩] scope pos) spos) (tAsg (p8 wi te fun σ=>js.map fun j=>(σ[j]?).getD none) (lA i)):=by
 refine qK hNX hiy hly hsw (N:=ns) (cl:=cl) hc hclos (fun n c e=>hsub (n,c) (PySem.mem_of_lookup e)) (fun y hy=>(hno y hy).1) hkind hnames hx (fun y hy=>?_) hN (fun σ=>by rw[length_map]; exact hjl) (fun σ i y v _ e1 e2=>?_) hi he hs hf
 ·have sub:∀ (l:List (Str×NameKind)),(∀ p∈l,p.2≠.cell/\(p.2=.free->p.1∈ns))->∀ p∈(l.map fun (n,k)=>if (k == NameKind.free&&X.env.scope.kind == ScopeKind.function&&X.env.kindOf n == some NameKind.cell) then (n,NameKind.cell) else (n,k)),(p.2=.cell\/p.2=.free)->p.1∈ns:=by
   intro l hl p hp hk
   obtain⟨q,hq,e⟩:=List.mem_map.mp hp
   have h1:=hl q hq
   obtain⟨n,k⟩:=q
   dsimp only at e
   by_cases hf:k=.free
   ·have h2:=h1.2 hf
    split at e
    ·rw[<- e]; exact h2
    ·rw[<- e]; exact h2
   ·have hf':(k == NameKind.free)=false:=by
     cases k <;> first | rfl | exact absurd rfl hf
    rw[hf',Bool.false_and,Bool.false_and,if_neg (by decide)] at e
    rw[<- e] at hk
    rcases hk with z | z
    ·exact absurd z h1.1
    ·exact absurd z hf
  have hy':y∈ns:=by
   rcases hy with z | z
   ·exact sub scope.names hno (y,.cell) (PySem.mem_of_lookup z) (.inl rfl)
   ·exact sub scope.names hno (y,.free) (PySem.mem_of_lookup z) (.inr rfl)
  rw[<- hcls] at hy'
  have key:∀ l:List (Str×Addr),y∈l.map (·.1)->∃ c,l.lookup y=some c:=by
   intro l
   induction l with
   | nil=>intro h; simp at h
   | cons p r ih =>
    intro h
    by_cases e:y=p.1
    ·exact⟨p.2,by obtain⟨p1,p2⟩:=p; dsimp only at e; subst e; simp[List.lookup]⟩
    ·have h':y∈r.map (·.1):=by
      rw[map_cons] at h
      exact(List.mem_cons.mp h).resolve_left e
     obtain⟨c,hc'⟩:=ih h'
     refine⟨c,?_⟩
     obtain⟨p1,p2⟩:=p
     have:(y == p1)=false:=by simpa using e
     rw[List.lookup_cons,this]
     exact hc'
  exact key cl hy'
 ·have hm:y∈ns:=mem_of_getElem? e1
  refine⟨(hkd y hm).1,(hkd y hm).2,?_⟩
  rw[List.getElem?_map] at e2
  cases hji:js[i]? with
  | none=>rw[hji] at e2; cases e2
  | some j =>
   rw[hji] at e2
   have e3:(σ[j]?).getD none=some v:=by
    have:=Option.some.inj e2
    exact this
   have e4:=congrArg (fun l=>l[i]?) hj
   rw[List.getElem?_map,List.getElem?_map,hji,e1] at e4
   have e5:X.N[j]?=some y:=by
    have:=Option.some.inj e4
    exact this
   refine⟨j,e5,?_⟩
   cases hσ:σ[j]? with
   | none=>rw[hσ] at e3; cases e3
   | some o =>
    rw[hσ] at e3
    have e6:o=some v:=e3
    rw[e6]
end
end Ow
namespace Ow
open PySem PySem.Spec PyProof.Rows L2
structure Gnd (P:Program) (w:World) (base:Heap) (fs:List Addr) (H H':Hp) (h B:Heap):Prop where
 st:base.StaysIn B
 keep:∀ b o,h.get? b=some o->H b=none->b∉fs->B.get? b=some o
 free:∀ b o,h.get? b=some o->H b=none->H' b=none
 there:∀ b o,h.get? b=some o->b∉fs->∃ o',B.get? b=some o'
 tups:∀ b xs,H b=some (.tup xs)->H' b=some (.tup xs)
 frzs:∀ b o u,H b=some (.frz o u)->H' b=some (.frz o u)
 tbls:∀ b ps,H b=some (.tbl ps)->∃ more,H' b=some (.tbl (ps++more))
 hok:HOk P w H' B
def Slots (fs:List Addr) (h h':Heap):Prop:=∀ b∈fs,∀ o,h.get? b=some o->∃ sl,h'.get? b=some { o with slots:=sl }
section
variable {P:Program}{w:World}{base h h1 h2 B:Heap}{fs:List Addr}{H H':Hp}{l:List Env}
theorem Gnd.un (G:Gnd P w base fs H H' h B) (sb:B.StaysIn h1) (sl:Slots fs h h1):Un fs [] H H' h h1 where
 keep:=fun b o q n hb _=>sb _ _ (G.keep b o q n hb)
 slot:=fun b o q _ hb _=>sl b hb o q
 free:=fun b o q n _=>G.free b o q n
 there:=fun b o q _=>by
  by_cases hb:b∈fs
  ·obtain⟨s,e⟩:=sl b hb o q
   exact⟨_,e⟩
  ·obtain⟨o',e⟩:=G.there b o q hb
   exact⟨o',sb _ _ e⟩
 tups:=G.tups
 frzs:=G.frzs
 tbls:=G.tbls
theorem Slots.on (x:Slots (frs l) h h1) (hl:h1.FunFrames B l) (u:h1.UpToSlots h2):Slots (frs l) h h2:=fun b hb o q=>by
 obtain⟨sl,e⟩:=x b hb o q
 obtain⟨_,o1,e1,d1⟩:=hl.mem hb
 rw[e] at e1
 cases e1
 obtain⟨s2,e2⟩:=u b _ e d1
 exact⟨s2,e2⟩
theorem rS {a:Addr}{o:HO}(x:ObjOk P w H h a o):∃ ob,h.get? a=some ob:=by
 induction o with
 | lst xs=>obtain⟨_,_,_,_,e⟩:=x; exact⟨_,e⟩
 | tup xs=>obtain⟨_,_,_,o,e,_⟩:=x; exact⟨_,e⟩
 | dK kvs=>obtain⟨_,_,_,_,o,_,_,e,_⟩:=x; exact⟨_,e⟩
 | dT kvs=>obtain⟨_,_,_,_,o,_,_,e,_⟩:=x; exact⟨_,e⟩
 | set S n=>obtain⟨o,_,_,_,e,_⟩:=x; exact⟨_,e⟩
 | ins C dx fs=>obtain⟨_,_,_,e,_⟩:=x; exact⟨_,e⟩
 | own y=>exact x
 | xd fs=>obtain⟨_,⟨_,_,_,e,_⟩,_⟩:=x; exact⟨_,e⟩
 | met f y=>exact⟨_,x⟩
 | rng lo hi=>obtain⟨_,_,_,e⟩:=x; exact⟨_,e⟩
 | frz ob u ih=>exact⟨_,x.1⟩
 | tbl ps=>exact⟨_,x⟩
 | ext φ=>exact x.2.1
end
abbrev VE:List Value:=[.type "ValueError",.type "Exception",.type "BaseException",.type "object"]
section
variable {P:Program}{w:World}{K:Frag}{mg:Str->Option Value}{base:Heap}{N:List Str}{qual:Str}{scope:Scope}{f:Addr}{cdv:Value}{A:Around}{outer:List Env}{s₀:Shared}{H₀:Hp}{E:XK}
end
def i5 (X:Cx) (a:Addr) (oe:Obj):Cx:={ X with A:=X.A.mark (some (.ref a)),calm:=false,pn:=(a,oe)::X.pn }
section
variable {X:Cx}{pins:List (Addr×Obj)}{σ:L2.St}{H:Hp}{s:Shared}{a:Addr}{oe:Obj}
theorem jX (I:Inv X pins σ H s) (e:s.heap.get? a=some oe) (n:H a=none) (hl:a≠X.env.locals) (hf:a∉X.fs) (hd:∀ v,oe.data≠.cell v):Inv (i5 X a oe) pins σ H s :=
 ⟨⟨I.ok.mod,I.ok.kind,I.ok.glob,I.ok.blt,I.ok.above,I.ok.inj,I.ok.has,I.ok.cab,(fun z=>nomatch z),I.ok.frames,I.ok.stk,I.ok.exf,I.ok.bs,I.ok.bsz,I.ok.noex,I.ok.exfs,I.ok.funs,I.ok.frf⟩,
  I.os,I.bare,I.base,I.loc,I.cell,I.free,I.freeC,fun p hp=>by
   rcases List.mem_cons.mp (show p∈(a,oe)::(X.pn++pins) from hp) with rfl | hp
   ·exact⟨e,n,hl,hf,hd⟩
   ·exact I.pin p hp,I.hok,I.len⟩
theorem qU {h':Heap}{m':Str->Option Value}{t':Nat}(I:Inv (i5 X a oe) pins σ H s) (okX:X.Ok) (hn:h'.Ns X.env.locals m') (hs:Heap.SameBut X.env.locals s.heap h') :
  Inv X pins (List.replicate X.N.length none) H { s with heap:=h',toks:=t' }:=by
 have neL:∀ b o,X.s₀.heap.get? b=some o->b≠X.env.locals:=fun b o e=>Nat.ne_of_lt (lt_of_lt_of_le (Heap.lt_size e) okX.above)
 refine⟨okX,I.os,I.bare,⟨fun b o e n hb hx=>?_,fun b o e n hb hx=>?_,I.base.free,fun b o e hx=>?_,I.base.tups,I.base.frzs,I.base.tbls⟩,⟨m',hn,fun i x v e1 e2 e3=>?_⟩,fun x c e=>?_,I.free,I.freeC,fun p hp=>?_,fun b ob e=>?_,List.length_replicate ..⟩
 ·exact(hs.2 b (neL b o e)).trans (I.base.keep b o e n hb hx)
 ·obtain⟨sl,e1⟩:=I.base.slot b o e n hb hx
  exact⟨sl,(hs.2 b (neL b o e)).trans e1⟩
 ·obtain⟨o',e1⟩:=I.base.there b o e hx
  exact⟨o',(hs.2 b (neL b o e)).trans e1⟩
 ·rw[List.getElem?_replicate] at e2
  split at e2 <;> cases e2
 ·obtain⟨v,z⟩:=I.cell x c e
  exact⟨v,z.sameBut hs (I.cne x c e)⟩
 ·obtain⟨e,n,ne,nf,d⟩:=I.pin p (mem_cons_of_mem _ hp)
  exact⟨(hs.2 p.1 ne).trans e,n,ne,nf,d⟩
 ·refine(I.hok b ob e).stay (fun c w' hc z=>(hs.2 c ?_).trans z) (fun _ z=>z) fun _ _ z=>z
  have fr:H X.env.locals=none:=I.free
  rintro rfl
  rcases hc with rfl | hc
  ·rw[fr] at e; cases e
  ·rw[fr] at hc; cases hc
end
section
variable {X:Cx}{k i j:Nat}{f y n c:Str}{ps:List Str}{sp:Sp}{e:Expr}{es:List Expr}{ta:TA}{C₁:Addr}{b₀:Stmt}{suite:List Stmt}{tb:Addr->Obj->TS}{py p pos apos np hpos tpos:Pos}
end
structure ExF (K:Frag) (C:Addr):Prop where
 ga:findIn K (.ref C) "__getattribute__"=some (some (.builtin "BaseException.__getattribute__"))
 gn:findIn K (.ref C) "__getattr__"=some none
 gc:findIn K (.ref C) "__class__"=some (some (.builtin "object.__class__"))
 mo:mroIn K C (.type "object")=some true
 mb:mroIn K C (.type "BaseException")=some true
section
variable {prog:Program}{w:World}{A:Around}{E:Value->Shared->Prop}{h:Heap}{g:Array GenState}{d:Drawn}{t:Nat}{os:OsState}{K:Frag}{a C:Addr}{o:Obj}
theorem sR {M:Model}{nv:Value}{Q:Unit->Shared->Prop}(X:K.In h) (f:ExF K C) (hx:h.get? a=some o) (hc:o.cls=.ref C) (hq:Q () ⟨h,g,d,t,os⟩) :
  wpAny M A (checkBuiltinCall "BaseException.__getattribute__" ⟨[.ref a,nv],[]⟩) Q E ⟨h,g,d,t,os⟩:=by
 have k1:builtinKind "BaseException.__getattribute__"=some .slot:=by decide +kernel
 have k2:splitId "BaseException.__getattribute__"=some ("BaseException","__getattribute__"):=by decide +kernel
 have L1:=PySem.W.looks_mroIn (M:=M) X f.mb
 have k3:=F.args_bexc_ga (.ref a) nv
 simp only[checkBuiltinCall,k1,k2]
 refine wpAny_bind ?_
 unfold isInstance
 repeat (first | (with_reducible refine wpAny_loadPart_at hx ?_; rw[hc]) | with_reducible refine L1.at ?_ | wp_step)
 exact hq
end
theorem sF {K:Frag}{C D:Addr}{b:Bool}(h1:isClsIn K D=true) (h2:typeIn K (.ref D)=some (.type "type")) (h3:mroIn K C (.ref D)=some b):PySem.W.kitCls K (.ref C) (.ref D)=some b:=by
 unfold PySem.W.kitCls
 have e:((PySem.W.clsIn K D).isSome&&typeIn K (.ref D) == some (.type "type"))=true:=by
  rw[h2]
  have h1':(PySem.W.clsIn K D).isSome=true:=h1
  rw[h1',Bool.true_and]
  exact beq_self_eq_true _
 show (if ((PySem.W.clsIn K D).isSome&&typeIn K (.ref D) == some (.type "type"))=true then PySem.W.subIn K (.ref C) (.ref D) else none)=_
 rw[if_pos e]
 exact h3
theorem oU {K:Frag}{C D:Addr}(h1:isClsIn K D=true) (h2:typeIn K (.ref D)=some (.type "type")) (h3:mroIn K C (.ref D)=some true) (h4:mroIn K D (.type "BaseException")=some true):exmOne K (.ref C) (.ref D)=some true:=by
 unfold exmOne
 have e:PySem.W.subIn K (.ref D) (.type "BaseException")=some true:=h4
 rw[e,if_pos (by rw[beq_self_eq_true])]
 exact sF h1 h2 h3
end Ow
namespace Ow
open PySem PySem.Spec PyProof.Rows L2
section
variable {P:Program}{w:World}{K:Frag}{mg:Str->Option Value}{base:Heap}{N:List Str}{qual:Str}{scope:Scope}{f:Addr}{cdv:Value}{A:Around}{outer:List Env}{s₀:Shared}{H₀:Hp}{E:XK}
end
def pinned (X:Cx) (pins:List (Addr×Obj)):Cx:={ X with pn:=X.pn++pins }
section
variable {X:Cx}{pins pins':List (Addr×Obj)}{σ:L2.St}{H:Hp}{s:Shared}{E:L2.St->XK}
theorem sL (I:Inv X pins σ H s):Inv (pinned X pins) [] σ H s :=
 ⟨⟨I.ok.mod,I.ok.kind,I.ok.glob,I.ok.blt,I.ok.above,I.ok.inj,I.ok.has,I.ok.cab,I.ok.hd,I.ok.frames,I.ok.stk,I.ok.exf,I.ok.bs,I.ok.bsz,I.ok.noex,I.ok.exfs,I.ok.funs,I.ok.frf⟩,
  I.os,I.bare,I.base,I.loc,I.cell,I.free,I.freeC,fun p hp=>I.pin p (by
   rw[append_nil] at hp
   exact hp),I.hok,I.len⟩
theorem dJ (okX:X.Ok) (I:Inv (pinned X pins) pins' σ H s):Inv X pins σ H s :=
 ⟨okX,I.os,I.bare,I.base,I.loc,I.cell,I.free,I.freeC,fun p hp=>I.pin p (mem_append_left _ hp),I.hok,I.len⟩
end
end Ow
namespace Ow
open PySem PySem.Spec PyProof.Rows L2
theorem PS.nox {X:Cx}{st:Stmt}{t:TS}(h:PS X.nox st t):PS X st t:=fun pins s σ H D I hw =>
 wpAny_mono (h pins s σ H D (I.wish _) hw) (fun _ _ q=>q.unwish) fun _ _ z=>False.elim z
section
variable {X:Cx}{pins:List (Addr×Obj)}{σ:L2.St}{H:Hp}{s:Shared}{a:Addr}{oe:Obj}{j:Nat}{n:Str}
theorem qr {h':Heap}{m:Str->Option Value}{v':Option Value}{t':Nat}(I:Inv (i5 X a oe) pins σ H s) (okX:X.Ok) (hN:X.N.Nodup) (hj:X.N[j]?=some n)
  (hl:∀ (i:Nat) (x:Str) (v:V),X.N[i]?=some x->σ[i]?=some (some v)->Vis X.env.scope x->∃ u,RelV v u/\Look X.env s.heap m x u)
  (hn:h'.Ns X.env.locals (fun x=>if x=n then v' else m x)) (hs:Heap.SameBut X.env.locals s.heap h') :
  Inv X pins (σ.set j none) H { s with heap:=h',toks:=t' }:=by
 have neL:∀ b o,X.s₀.heap.get? b=some o->b≠X.env.locals:=fun b o e=>Nat.ne_of_lt (lt_of_lt_of_le (Heap.lt_size e) okX.above)
 refine⟨okX,I.os,I.bare,⟨fun b o e n hb hx=>?_,fun b o e n hb hx=>?_,I.base.free,fun b o e hx=>?_,I.base.tups,I.base.frzs,I.base.tbls⟩,⟨_,hn,fun i x v e1 e2 e3=>?_⟩,fun x c e=>?_,I.free,I.freeC,fun p hp=>?_,fun b ob e=>?_,by rw[List.length_set]; exact I.len⟩
 ·exact(hs.2 b (neL b o e)).trans (I.base.keep b o e n hb hx)
 ·obtain⟨sl,e1⟩:=I.base.slot b o e n hb hx
  exact⟨sl,(hs.2 b (neL b o e)).trans e1⟩
 ·obtain⟨o',e1⟩:=I.base.there b o e hx
  exact⟨o',(hs.2 b (neL b o e)).trans e1⟩
 ·by_cases hij:i=j
  ·subst hij
   have hi:i<σ.length:=by have z:σ.length=X.N.length:=I.len; rw[z]; exact(List.getElem?_eq_some_iff.mp hj).1
   rw[List.getElem?_set_self hi] at e2
   cases e2
  ·rw[List.getElem?_set_ne (Ne.symm hij)] at e2
   obtain⟨u',r',q⟩:=hl i x v e1 e2 e3
   refine⟨u',r',?_⟩
   rcases q with ⟨k,e⟩ | ⟨k,c,e,z⟩
   ·refine .inl ⟨k,?_⟩
    have:x≠n:=fun e=>hij (kg hN e1 (e ▸ hj))
    simp[this,e]
   ·exact .inr ⟨k,c,e,z.sameBut hs (I.cne x c e)⟩
 ·obtain⟨v,z⟩:=I.cell x c e
  exact⟨v,z.sameBut hs (I.cne x c e)⟩
 ·obtain⟨e,n,ne,nf,d⟩:=I.pin p (mem_cons_of_mem _ hp)
  exact⟨(hs.2 p.1 ne).trans e,n,ne,nf,d⟩
 ·refine(I.hok b ob e).stay (fun c w' hc z=>(hs.2 c ?_).trans z) (fun _ z=>z) fun _ _ z=>z
  have fr:H X.env.locals=none:=I.free
  rintro rfl
  rcases hc with rfl | hc
  ·rw[fr] at e; cases e
  ·rw[fr] at hc; cases hc
end
def endsK (j:Nat) (D:Ends):Ends:={ nx:=fun σ H=>D.nx (σ.set j none) H,rt:=D.rt }
section
variable {X:Cx}{j:Nat}{n c:Str}{C₁:Addr}{b₀:Stmt}{suite:List Stmt}{tb:Addr->Obj->TS}{np hpos:Pos}
end
def rBits:V->List V->Hp->VK->Prop:=fun x vs H Q=>∃ i:Int,x=.int i/\vs=[]/\Q (.int ((Builtin.Int.intBits i:Nat):Int)) H
theorem lh {X:Cx}:MtR X "int.bit_length" rBits:=by
 intro pins s σ H x vs v us Q I rx rv h
 obtain⟨i,rfl,rfl,q⟩:=h
 obtain⟨t,rfl⟩:=rx
 cases rv.zero
 exact call_int_bit_length ⟨.int _,H,I.tok _,⟨_,rfl⟩,q⟩
theorem oK {K:Frag}{i:Int}{H:Hp}:tyV K "int" (.int i) H:=rfl
end Ow
namespace Ow
open PySem PySem.Spec PyProof.Rows L2
def Ctx0 (o:Obj):Prop:=∃ vs,o.data=.fields vs/\vs[2]?=some .none
def OwnD (c:Bool) (h:Heap) (e:Addr) (d:Option Addr):Prop:=∃ o,h.get? e=some o/\o.dict=d/\(c=true->Ctx0 o)
theorem sS (f:Array Value->Array Value) (o:Obj):(Obj.mapFields f o).dict=o.dict:=by
 obtain⟨c,d,dt,sl⟩:=o
 cases dt <;> rfl
section
variable {M:Model}{A:Around}{E:Value->Shared->Prop}{s:Shared}{bs:Heap}{en:Env}{out:List Env}{L e:Addr}{c:Bool}
theorem ml {oe:Obj}{vs:Array Value}{hd0 a0:Value}{nx:Bool}{Q:Unit->Shared->Prop}(fr:A.frames=some (en::out)) (ff:s.heap.FunFrames bs (en::out)) (fl:en.frame=some L)
  (ge:s.heap.get? e=some oe) (st:bs.StaysIn s.heap) (ne:bs.get? e=none) (dt:oe.data=.fields vs) (z1:1<vs.size) (z0:vs[0]?=some a0) (z2:c=true->vs[2]?=some .none)
  (k:∀ h',Heap.NotedW bs (en::out) e oe.cls a0 (rawInt L) s.heap h'->OwnD c h' e oe.dict->Q () { s with heap:=h' }) :
  wpAny M A (do let a <- frameOf en; let pl <- entryPlaceOf L nx; let b <- EntryCells.newEntry hd0 a .none (rawInt L) .none pl; setField (.ref e) 1 b) Q E s:=by
 have nf:e∉(en::out).filterMap (·.frame):=fun hm=>by
  obtain⟨_,o,g1,g2⟩:=ff.mem hm
  rw[ge] at g1
  cases g1
  exact g2 _ dt
 refine wpAny_bind (wpAny_frameOf_fun fr ff fl fun h1 so=>wpAny_bind (wpAny_entryPlaceOf fun pl hpl=>?_))
 unfold EntryCells.newEntry newFields
 refine wpAny_bind (wpAny_newObj_type ?_ (hpl.sizeOk5 _ _ _ _ _))
 generalize hT:(([hd0,Value.ref L,Value.none,rawInt L,Value.none]++(if pl.isEmpty then List.replicate 6 Value.none else pl)).toArray:Array Value)=ts
 have t3:ts[3]?=some (rawInt L):=by
  rw[<- hT]
  rfl
 have g1:h1.get? e=some oe:=(so.2.1 e nf).trans ge
 have g2:(h1.push { cls:=.type "traceback",dict:=none,data:=.fields ts }).get? e=some oe:=Heap.get?_push_of_some _ g1
 have neT:h1.objs.size≠e:=Nat.ne_of_gt (Heap.lt_size g1)
 have st1:bs.StaysIn h1:=fun b o hb=>(so.2.1 b fun hm=>by rw[(ff.mem hm).1] at hb; cases hb).trans (st b o hb)
 refine wpAny_setField g2 dt z1 (k _ ?_ ?_)
 ·have g3:=Heap.get?_update_self (Obj.mapFields (·.setIfInBounds 1 (Value.ref h1.objs.size))) g2 (Obj.isFreed_of_fields (Obj.data_mapFields dt _))
  have kp:∀ b o,b≠e->h1.get? b=some o->((h1.push { cls:=.type "traceback",dict:=none,data:=.fields ts }).update e (Obj.mapFields (·.setIfInBounds 1 (Value.ref h1.objs.size)))).get? b=some o:=fun b o hb q=>by
   rw[Heap.get?_update_other _ _ (Ne.symm hb)]
   exact Heap.get?_push_of_some _ q
  have nr:∀ b o,s.heap.get? b=some o->(∀ us,o.data≠.fields us)->b≠e:=fun b o q hn z=>by
   subst z
   rw[ge] at q
   cases q
   exact hn _ dt
  refine⟨fun b o hb=>kp b o (fun z=>by rw[z,ne] at hb; cases hb) (st1 b o hb),ff.of_keeps fun b o q hn=>?_,⟨_,_,h1.objs.size,⟨.type "traceback",none,.fields ts,#[]⟩,ts,g3,⟨Obj.cls_mapFields _ _,?_⟩,Obj.data_mapFields dt _,?_,st1.fresh,neT,?_,rfl,t3⟩,fun b o q hn=>?_⟩
  ·obtain⟨sl,e1⟩:=so.2.2 b o q
   exact⟨_,kp b _ (nr b o q hn) e1,rfl⟩
  ·rw[Array.getElem?_setIfInBounds_ne (by decide)]
   exact z0
  ·rw[Array.getElem?_setIfInBounds_self_of_lt z1]
  ·exact(Heap.get?_update_other _ _ (Ne.symm neT)).trans (Heap.get?_push_size h1 rfl)
  ·obtain⟨sl,e1⟩:=so.2.2 b o q
   exact⟨sl,kp b _ (nr b o q hn) e1⟩
 ·exact⟨_,Heap.get?_update_self _ g2 (Obj.isFreed_of_fields (Obj.data_mapFields dt _)),sS _ _,fun hc=>⟨_,Obj.data_mapFields dt _,by rw[Array.getElem?_setIfInBounds_ne (by decide)]; exact z2 hc⟩⟩
theorem pk {cls a0:Value}{d:Option Addr}{Q:Unit->Shared->Prop}(fr:A.frames=some (en::out)) (fl:en.frame=some L) (F:Heap.FlyingW bs (en::out) e cls a0 s.heap) (D:OwnD c s.heap e d)
  (k:∀ h',Heap.HeldW bs (en::out) e cls a0 L h'->OwnD c h' e d->s.heap.UpToSlots h'->Q () { s with heap:=h' }):wpAny M A (noteFrame (.ref e) en) Q E s:=by
 obtain⟨st,ne,ff,oe,vs,T,oT,ts,ge,⟨rfl,z0⟩,dt,z1,nT,neT,gT,dT,t3⟩:=F
 obtain⟨o1,g1,rfl,hc⟩:=D
 cases ge.symm.trans g1
 unfold noteFrame
 simp only[fl]
 refine wpAny_bind (wpAny_field ge dt z1 ?_)
 rw[if_pos (show (Value.ref T != Value.none)=true from rfl)]
 refine wpAny_bind (wpAny_field gT dT t3 ?_)
 rw[if_neg (show ¬ ((Value.none == rawInt L)=true) from fun z=>by cases z)]
 refine wpAny_bind (wpAny_setField gT dT (Array.getElem?_eq_some_iff.mp t3).1 ?_)
 have ot:∀ b,b≠T->(s.heap.update T (Obj.mapFields (·.setIfInBounds 3 Value.none))).get? b=s.heap.get? b:=fun b hb=>Heap.get?_update_other _ _ (Ne.symm hb)
 have nr:∀ b o,s.heap.get? b=some o->(∀ us,o.data≠.fields us)->b≠T:=fun b o q hn z=>by
  subst z
  rw[gT] at q
  cases q
  exact hn _ dT
 refine ml (s:={ s with heap:=s.heap.update T (Obj.mapFields (·.setIfInBounds 3 Value.none)) }) fr (ff.of_keeps fun b o q hn=>⟨o,(ot b (nr b o q hn)).trans q,rfl⟩) fl ((ot e (Ne.symm neT)).trans ge) (fun b o q=>(ot b fun z=>by subst z; rw[nT] at q; cases q).trans (st b o q)) ne dt
  (Array.getElem?_eq_some_iff.mp z1).1 z0 (fun h=>by obtain⟨vs',q1,q2⟩:=hc h; rw[dt] at q1; cases q1; exact q2) fun h' ⟨x1,x2,x3,x4⟩ D'=>k h' ⟨x1,ne,x2,x3⟩ D' fun b o q hn=>x4 b o ((ot b (nr b o q hn)).trans q) hn
theorem eI {l:List Env}{cls a0 fv:Value}{d:Option Addr}{Q:Unit->Shared->Prop}(st:bs.StaysIn s.heap) (ne:bs.get? e=none) (ff:s.heap.FunFrames bs l) (tr:s.heap.TracedAtW bs e cls a0 fv) (D:OwnD c s.heap e d)
  (k:∀ h',Heap.FlyingW bs l e cls a0 h'->OwnD c h' e d->s.heap.UpToSlots h'->Q () { s with heap:=h' }):wpAny M A (setFlight (.ref e) none) Q E s:=by
 obtain⟨oe,vs,T,oT,ts,ge,hc,dt,z1,nT,neT,gT,dT,t3⟩:=tr
 have ot:∀ b,b≠T->(s.heap.update T (Obj.mapFields (·.setIfInBounds 3 ((none:Option Addr).elim Value.none fun f=>rawInt f)))).get? b=s.heap.get? b:=fun b hb=>Heap.get?_update_other _ _ (Ne.symm hb)
 have nr:∀ b o,s.heap.get? b=some o->(∀ us,o.data≠.fields us)->b≠T:=fun b o q hn z=>by
  subst z
  rw[gT] at q
  cases q
  exact hn _ dT
 have z3:=(Array.getElem?_eq_some_iff.mp t3).1
 unfold setFlight
 refine wpAny_bind (wpAny_field ge dt z1 ?_)
 rw[if_pos (show (Value.ref T != Value.none)=true from rfl)]
 refine wpAny_setField gT dT z3 (k _ ⟨fun b o q=>(ot b fun z=>by subst z; rw[nT] at q; cases q).trans (st b o q),ne,ff.of_keeps fun b o q hn=>⟨o,(ot b (nr b o q hn)).trans q,rfl⟩,
  oe,vs,T,_,_,(ot e (Ne.symm neT)).trans ge,hc,dt,z1,nT,neT,Heap.get?_update_self _ gT (Obj.isFreed_of_fields (Obj.data_mapFields dT _)),Obj.data_mapFields dT _,Array.getElem?_setIfInBounds_self_of_lt z3⟩ ?_ fun b o q hn=>⟨o.slots,(ot b (nr b o q hn)).trans q⟩)
 obtain⟨o1,g1,hd⟩:=D
 exact⟨o1,(ot e (Ne.symm neT)).trans g1,hd⟩
theorem lq {cls a0:Value}{d:Option Addr}{Q:Unit->Shared->Prop}(fr:A.frames=some (en::out)) (fl:en.frame=some L) (F:Heap.FlyingW bs (en::out) e cls a0 s.heap) (D:OwnD c s.heap e d)
  (k:∀ h',Heap.FlyingW bs out e cls a0 h'->OwnD c h' e d->s.heap.UpToSlots h'->Q () { s with heap:=h' }):wpAny M A (leaving en (.ref e)) Q E s:=by
 unfold leaving
 refine wpAny_bind (pk fr fl F D fun h1 ⟨x1,x2,x3,x4⟩ D1 u1=>eI (s:={ s with heap:=h1 }) x1 x2 x3 x4 D1 fun h2 ⟨y1,y2,y3,y4⟩ D2 u2=>?_)
 obtain⟨_,_,y3'⟩:=y3
 exact k h2 ⟨y1,y2,y3',y4⟩ D2 (u1.trans u2)
theorem oi {oe:Obj}{vs:Array Value}{a0:Value}{Q:Unit->Shared->Prop}(fr:A.frames=some (en::out)) (ff:s.heap.FunFrames bs (en::out)) (fl:en.frame=some L)
  (ge:s.heap.get? e=some oe) (st:bs.StaysIn s.heap) (ne:bs.get? e=none) (dt:oe.data=.fields vs) (z1:vs[1]?=some .none) (z0:vs[0]?=some a0) (z2:c=true->vs[2]?=some .none)
  (k:∀ h',Heap.FlyingW bs out e oe.cls a0 h'->OwnD c h' e oe.dict->s.heap.UpToSlots h'->Q () { s with heap:=h' }):wpAny M A (leaving en (.ref e)) Q E s:=by
 unfold leaving noteFrame
 simp only[fl]
 refine wpAny_bind (wpAny_bind (wpAny_field ge dt z1 ?_))
 rw[if_neg (by decide)]
 refine ml fr ff fl ge st ne dt (Array.getElem?_eq_some_iff.mp z1).1 z0 z2 fun h1 ⟨x1,x2,x3,x4⟩ D1=>eI (s:={ s with heap:=h1 }) x1 ne x2 x3 D1 fun h2 ⟨y1,y2,y3,y4⟩ D2 u2=>?_
 obtain⟨_,_,y3'⟩:=y3
 exact k h2 ⟨y1,y2,y3',y4⟩ D2 (Heap.UpToSlots.trans x4 u2)
end
end Ow
namespace Ow
open PySem PySem.Spec PyProof.Rows L2
theorem nz {h:Heap}{l:List Value}(self:Value) (T:OwnTail h VE l):refuseLoop self "__setattr__" l=pure ():=by
 induction T with
 | base=>exact PySem.F.store_ValueError.passes self
 | own _ _ _ _ ih=>rw[refuseLoop_ref]; exact ih
section
variable {prog:Program}{w:World}{A:Around}{E:Value->Shared->Prop}{s:Shared}{K:Frag}{x C N:Addr}{fs:Array Value}{sl:Array (Option Value)}{name:Str}{v:Value}
variable {nm qn:Str}{bs bm:List Value}{sn:List Str}{sub:List Value}{ab:Bool}{col:Option Bool}{dd:Option Addr}{k0 k1 k2 k3 k5:Option Value}{nid:String}
theorem set_exc {Q:Unit->Shared->Prop}(X:K.In s.heap) (hx:s.heap.get? x=some ⟨.ref C,none,.fields fs,sl⟩) (hC:s.heap.get? C=some (excClassObj nm qn C N bs bm true sn sub ab col dd k0 k1 k2 k3 k5 nid)) (T:OwnTail s.heap VE bm)
  (sa:findIn K (.ref C) "__setattr__"=some (some (.builtin "object.__setattr__"))) (na:findIn K (.ref C) name=some none) (mo:mroIn K C (.type "object")=some true)
  (k:∀ h' t',h'.get? x=some ⟨.ref C,some s.heap.objs.size,.fields fs,sl⟩->h'.Ns1 s.heap.objs.size (fun y=>if y=name then some v else none)->(∀ b o,b≠x->s.heap.get? b=some o->h'.get? b=some o)->Q () { s with heap:=h',toks:=t' }) :
  wpAny (model prog w) A (setAttr (.ref x) name v) Q E s:=by
 have I:PySem.W.InstAt s.heap x ⟨.ref C,none,.fields fs,sl⟩ C none:=⟨hx,rfl,rfl,True.intro⟩
 have SF:=PySem.F.store_object
 have su:PySem.W.Looks (model prog w) s.heap (isInstance (.ref x) (.type "object")) true:=I.type.andThen (PySem.W.looks_mroIn X mo)
 refine PySem.W.set_plain X I sa (codeAny_call_builtin SF.slot.plain SF.entry (@PySem.W.check_slot (model prog w) _ _ { s with toks:=s.toks+1 } "object.__setattr__" "object" "__setattr__" (.ref x) [.str name s.toks,v] [] _ SF.kind SF.split su (SF.args (.ref x) (.str name s.toks) v) ?_))
 rw[PySem.W.osa_eq,refuse_eq]
 refine wpAny_bind (wpAny_bind (PySem.W.Looks.here (s:={ s with toks:=s.toks+1 }) I.type (wpAny_bind (wpAny_mroOf_exc hC ?_))))
 rw[refuseLoop_ref,nz _ T]
 refine wpAny_pure (wpAny_bind (PySem.W.Looks.here (s:={ s with toks:=s.toks+1 }) I.type (wpAny_bind (PySem.W.Looks.here (s:={ s with toks:=s.toks+1 }) (PySem.W.looks_findIn X na) (wpAny_bind (wpAny_pure ?_))))))
 show wpAny _ _ (Builtin.ObjectAttr.storeInOwnDict (.ref x) (.ref C) (.str name s.toks) name v false) _ _ _
 have L1:PySem.W.Looks (model prog w) s.heap (classData C) _:=(PySem.W.Looks.ld (part:=none) hC).andThen .now
 have xs:x≠s.heap.objs.size:=Nat.ne_of_lt (Heap.lt_size hx)
 have hx1:(s.heap.push { cls:=.type "dict",data:=.dict #[] }).get? x=some ⟨.ref C,none,.fields fs,sl⟩:=Heap.get?_push_of_some _ hx
 have up:∀ f:Obj->Obj,f ⟨.ref C,none,.fields fs,sl⟩=⟨.ref C,some s.heap.objs.size,.fields fs,sl⟩->((s.heap.push { cls:=.type "dict",data:=.dict #[] }).update x f).get? x=some ⟨.ref C,some s.heap.objs.size,.fields fs,sl⟩:=fun f ef=>by
  rw[Heap.get?_update_self f hx1 (by rw[ef]; rfl),ef]
 refine wpAny_bind (wpAny_pure (wpAny_bind (wpAny_bind (wpAny_loadPart hx (wpAny_bind (PySem.W.Looks.here (s:={ s with toks:=s.toks+1 }) L1 ?_))))))
 refine wpAny_bind (wpAny_alloc' (wpAny_bind (wpAny_update' hx1 (wpAny_pure ?_))))
 have gd:((s.heap.push { cls:=.type "dict",data:=.dict #[] }).update x fun o=>{ o with dict:=some s.heap.objs.size }).get? s.heap.objs.size=some { cls:=.type "dict",data:=.dict #[] } :=
  (Heap.get?_update_other _ _ xs).trans (Heap.get?_push_size _ rfl)
 have nd:((s.heap.push { cls:=.type "dict",data:=.dict #[] }).update x fun o=>{ o with dict:=some s.heap.objs.size }).Ns s.heap.objs.size (fun _=>none):=⟨_,#[],_,gd,rfl,fun e he=>absurd he (by simp),fun _=>rfl⟩
 refine wpAny_bind (wpAny_pure (wpAny_bind (wpAny_nsSet1 (Heap.Ns1.of_empty nd) fun h' n2 sb=>?_)))
 obtain⟨oD,eD,pD,gD,dD,cD⟩:=n2.count (PySem.Within.cons name v PySem.Within.nil)
 refine wpAny_bind (wpAny_lookBehind gD (by rw[dD]; exact pastItsLine_dict (Nat.le_trans cD (by rw[length_cons,List.length_nil,sizeLine_eq]; omega))) ?_)
 refine wpAny_pure (k h' _ ?_ ?_ fun b o hb q=>?_)
 ·exact(sb.2 x xs).trans (up _ rfl)
 ·exact n2
 ·exact(sb.2 b (Nat.ne_of_lt (Heap.lt_size q))).trans ((Heap.get?_update_other _ _ (Ne.symm hb)).trans (Heap.get?_push_of_some _ q))
end
end Ow
namespace Ow
open PySem PySem.Spec PyProof.Rows L2
abbrev exF (t:Addr):Array Value:=#[.ref t,.none,.none,.none,.bool false,.none]
abbrev exT (v:Value):Obj:={ cls:=.type "tuple",data:=.seq [v].toArray }
section
variable {prog:Program}{w:World}{A:Around}{E:Value->Shared->Prop}{h:Heap}{g:Array GenState}{d:Drawn}{t:Nat}{os:OsState}{C N fI:Addr}{v:Value}{oI:Obj}{mN:Str->Option Value}
variable {nm qn:Str}{bs bm:List Value}{hdc:Bool}{sn:List Str}{sub:List Value}{ab:Bool}{col:Option Bool}{dd:Option Addr}{k0 k1 k2 k3 k5:Option Value}
theorem made_exc {Q:Fin->Shared->Prop}(T:OwnTail h VE bm) (hC:h.get? C=some (excClassObj nm qn C N bs bm hdc sn sub ab col dd k0 k1 k2 k3 k5 "ValueError.__new__")) (hn:h.Ns N mN) (hi:mN "__init__"=some (.ref fI))
  (gf:h.get? fI=some oI) (cf:oI.cls=.type "function")
  (k:wpAny (model prog w) A (call (.ref fI) [.ref (h.objs.size+1),v]) (fun r s'=>r=.none/\Q (.done (.ret (.ref (h.objs.size+1)))) s') E ⟨(h.push (exT v)).push { cls:=.ref C,data:=.fields (exF h.objs.size) },g,d,t,os⟩) :
  wpAny (model prog w) A (Builtin.«type.__call__» ⟨[.ref C,v],[]⟩) Q E ⟨h,g,d,t,os⟩:=by
 have F:=PySem.F.excBase_ValueError
 have st:∀ b o,h.get? b=some o->((h.push (exT v)).push { cls:=.ref C,data:=.fields (exF h.objs.size) }).get? b=some o:=fun b o e=>Heap.get?_push_of_some _ (Heap.get?_push_of_some _ e)
 have ge:((h.push (exT v)).push { cls:=.ref C,data:=.fields (exF h.objs.size) }).get? (h.objs.size+1)=some { cls:=.ref C,data:=.fields (exF h.objs.size) }:=by
  have z:=Heap.get?_push_size (h.push (exT v)) (o:={ cls:=.ref C,data:=.fields (exF h.objs.size) }) rfl
  rwa [Heap.size_push] at z
 have cc:(Value.ref C::bm).contains (.ref C)=true:=by rw[List.contains_cons,beq_self_eq_true,Bool.true_or]
 repeat (first | with_reducible refine wpAny_loadPart_at hC ?_ | with_reducible refine wpAny_madeBy_exc hC ?_ | wp_step)
 refine codeAny_call_builtin_code (Code.quiet_builtin _ F.quiet) (wpAny_check_new_subT F T hC (codeAny_exc_new_subT F T hC (rest:=[v]) ?_))
 show wpAny _ _ _ _ _ _
 unfold isInstance
 repeat (first | with_reducible refine wpAny_loadPart_at ge ?_ | (with_reducible refine wpAny_isSubtype_exc (st _ _ hC) ?_; rw[cc]) | wp_step)
 show wpAny _ _ (typeLookup (.ref C) _) _ _ _
 refine wpAny_typeLookup_tail (st _ _ hC) (hn.keeps st) (T.keeps st) F.mroIs F.init.lookup ?_
 rw[hi]
 refine wpAny_holding (wpAny_bind ?_)
 unfold bindSpecial
 refine wpAny_bind (wpAny_typeOf (T:="function") ⟨_,st _ _ gf,cf⟩ ?_)
 rw[if_pos (by decide)]
 refine wpAny_pure (wpAny_bind (wpAny_mono k (fun r s' q=>?_) fun _ _ z=>z))
 obtain⟨rfl,q⟩:=q
 wp_walk
 exact q
theorem call_exc {Q:Value->Shared->Prop}(T:OwnTail h VE bm) (hC:h.get? C=some (excClassObj nm qn C N bs bm hdc sn sub ab col dd k0 k1 k2 k3 k5 "ValueError.__new__")) (hn:h.Ns N mN) (hi:mN "__init__"=some (.ref fI))
  (gf:h.get? fI=some oI) (cf:oI.cls=.type "function")
  (k:wpAny (model prog w) (A.under (.builtin "type.__call__" ⟨[.ref C,v],[]⟩)) (call (.ref fI) [.ref (h.objs.size+1),v]) (fun r s'=>r=.none/\Q (.ref (h.objs.size+1)) s') E ⟨(h.push (exT v)).push { cls:=.ref C,data:=.fields (exF h.objs.size) },g,d,t,os⟩) :
  wpAny (model prog w) A (call (.ref C) [v]) Q E ⟨h,g,d,t,os⟩:=by
 have f1:=tc_lookup
 have f2:=tc_bind (.ref C)
 have tT:(⟨h,g,d,t,os⟩:Shared).TypeIs (.ref C) "type":=⟨_,hC,rfl⟩
 refine wpAny_call (codeAny_of_tree ?_)
 show wpAny _ _ (callAny (.ref C) _) _ _ _
 repeat (any_goals (first | assumption | with_reducible refine wpAny_loadPart_at hC ?_ | wp_step))
 exact⟨rfl,codeAny_call_builtin_at (Code.quiet_builtin _ (by decide +kernel)) entry_typeCall (wpAny_check_type_call_sub hC (made_exc T hC hn hi gf cf k))⟩
end
theorem pZ {M:Model}{A:Around}{E:Value->Shared->Prop}{s:Shared}{env:Env}{C N:Addr}{nm qn:Str}{bs bm:List Value}{hdc:Bool}{sn:List Str}{sub:List Value}{ab:Bool}{col:Option Bool}{dd:Option Addr}{k0 k1 k2 k3 k5:Option Value}{nid:String}
  {x:Sem Value} {Q:Flow->Shared->Prop} (hb:bm.contains (.type "BaseException")=true) (hh:A.handled=none)
  (k:wpAny M A x (fun v s1=>∃ (e t:Addr) (od:Option Addr),v=.ref e/\s1.heap.get? C=some (excClassObj nm qn C N bs bm hdc sn sub ab col dd k0 k1 k2 k3 k5 nid)/\s1.heap.get? e=some ⟨.ref C,od,.fields (exF t),#[]⟩/\E (.ref e) s1) E s) :
  wpAny M A (raiseStmt env (some x) none) Q E s:=by
 have cb:(Value.ref C::bm).contains (.type "BaseException")=true:=by rw[List.contains_cons,hb,Bool.or_true]
 unfold raiseStmt
 refine wpAny_bind (wpAny_mono k (fun v s1 q=>?_) fun _ _ z=>z)
 obtain⟨e,t,od,rfl,gC,ge,q⟩:=q
 obtain⟨hp,g,d,tk,os⟩:=s1
 repeat (first | with_reducible refine wpAny_loadPart_at ge ?_ | with_reducible refine wpAny_loadPart_at gC ?_ | (with_reducible refine wpAny_isSubtype_exc gC ?_; rw[cb]) | wp_step)
 exact wpAny_raiseNew_none hh q
end Ow
namespace Ow
open PySem PySem.Spec PyProof.Rows L2
def og (K:Frag) (C f:Addr):Bool :=
 match K.lookup C with
 | some ⟨.type "type",_,.cls c,q⟩ =>
  (match c.mro,q.toList with
  | .ref D::tl,[_,_,_,_,some (.builtin n),_]=>D == C&&(n == "ValueError.__new__"&&(!c.hasDel&&(c.hasDict&&(PySem.W.tailIn K VE tl&&(PySem.W.nsOkIn K c.ns&&nsIn K c.ns "__init__" == some (some (.ref f)))))))
  | _,_=>false)
 | _=>false
theorem ns_some {K:Frag}{h:Heap}{N:Addr}{m:Str->Option Value}{n:Str}{v:Value}(X:K.In h) (G:h.Ns N m) (e:nsIn K N n=some (some v)):m n=some v:=by
 obtain⟨o,es,ep,go,hd,_,hf⟩:=G
 unfold nsIn at e
 split at e
 ·next q =>
  have z:=X _ _ q
  rw[go] at z
  cases z
  cases hd
  split at e
  ·next he =>
   cases e
   rw[<- hf]
   unfold nsFind findBy
   rw[<- Array.find?_toList,he]
   rfl
  ·split at e <;> cases e
 ·cases e
theorem exc_fn {K:Frag}{h:Heap}{C f:Addr}(X:K.In h) (q:og K C f=true) :
  ∃ bm N nm qn bs sn sub ab col dd k0 k1 k2 k3 k5 mN,h.get? C=some (excClassObj nm qn C N bs bm true sn sub ab col dd k0 k1 k2 k3 k5 "ValueError.__new__")/\h.Ns N mN/\mN "__init__"=some (.ref f)/\OwnTail h VE bm:=by
 unfold og at q
 split at q
 ·next d0 c0 s0 e0 =>
  split at q
  ·next D m1 y0 y1 y2 y3 n1 y5 em es =>
   simp only[beq_iff_eq,Bool.not_eq_true',Bool.and_eq_true] at q
   obtain⟨eC,en,ed,eh,et,eo,ei⟩:=q
   subst eC en
   obtain⟨a1,a2,a3,a4,a5,a6,a7,a8,a9,a10,a11⟩:=c0
   dsimp only at em ed eo ei eh
   subst em ed eh
   obtain⟨l0⟩:=s0
   have es':l0=[y0,y1,y2,y3,some (Value.builtin "ValueError.__new__"),y5]:=es
   subst es'
   have G:h.Ns a4 _:=.of_isNs (PySem.W.isNs_of_in X eo)
   exact⟨m1,a4,a1,a5,a2,a7,a8,a9,a10,d0,y0,y1,y2,y3,y5,_,X _ _ e0,G,ns_some X G ei,PySem.W.tail_of_in X et⟩
  ·cases q
 ·cases q
def xO (e C t:Addr) (od:Option Addr):HO:=.ext fun h=>h.get? e=some ⟨.ref C,od,.fields (exF t),#[]⟩
def drop (H:Hp) (e:Addr):Hp:=fun b=>if b=e then none else H b
theorem j8 {H:Hp}{e b:Addr}(h:b≠e):drop H e b=H b:=if_neg h
theorem fX {H:Hp}{e:Addr}:drop H e e=none:=if_pos rfl
theorem xO_ok {P:Program}{w:World}{H:Hp}{h:Heap}{e C t:Addr}{od:Option Addr}(g:h.get? e=some ⟨.ref C,od,.fields (exF t),#[]⟩):ObjOk P w H h e (xO e C t od):=⟨g,⟨_,g⟩,fun _ _ a b=>b _ a⟩
def CX2c (c:Bool) (P:Program) (w:World) (base:Heap):CXT:=fun outer H s E e s' =>
 ∃ (a:Addr) (cls a0:Value) (B:Heap) (H':Hp) (dd:Option Addr),e=.ref a/\s'.os=s.os/\AllBare s'.gens/\Gnd P w base (frs outer) H H' s.heap B/\Slots (frs outer) s.heap s'.heap/\Heap.FlyingW B outer a cls a0 s'.heap/\H' a=none/\OwnD c s'.heap a dd/\E cls dd H'
abbrev CX2 (P:Program) (w:World) (base:Heap):CXT:=CX2c true P w base
section
variable {P:Program}{w:World}{K:Frag}{mg:Str->Option Value}{base:Heap}{N:List Str}{qual:Str}{scope:Scope}{f:Addr}{cdv:Value}{A:Around}{outer:List Env}{s₀:Shared}{H₀:Hp}{E:XK}
theorem p5 {pins:List (Addr×Obj)}{σ:L2.St}{H:Hp}{s:Shared}{e C t:Addr}{od:Option Addr}(I:Inv (cQ (CX2 P w base) P w K mg base N qual scope f cdv A outer s₀ H₀ E) pins σ H s)
  (he:H e=some (xO e C t od)) (hn:s₀.heap.get? e=none) (q:E (.ref C) od (drop H e)):(cQ (CX2 P w base) P w K mg base N qual scope f cdv A outer s₀ H₀ E).xe (.ref e) s:=by
 have ge:s.heap.get? e=some ⟨.ref C,od,.fields (exF t),#[]⟩:=(I.hok e _ he).1
 have hst:=I.stack
 have nof:∀ b o,s₀.heap.get? b=some o->b∉frs outer->b∉e::frs (envOfC qual scope s₀.heap.objs.size f cdv::outer):=fun b o e1 nb hm=>by
  rcases List.mem_cons.mp hm with z | hm
  ·rw[z,hn] at e1
   cases e1
  rcases List.mem_cons.mp (I.stkSub b hm) with z | z
  ·exact lt_irrefl _ (lt_of_lt_of_le (z ▸ Heap.lt_size e1) I.ok.above)
  ·exact nb z
 have nx:∀ b:Addr,b∉([]:List Addr):=fun b z=>nomatch z
 have ne:∀ b u,H b=some u->(∀ φ,u≠.ext φ)->b≠e:=fun b u e1 hk z=>by
  rw[z,he] at e1
  cases e1
  exact hk _ rfl
 have dr:∀ b u,H b=some u->(∀ φ,u≠.ext φ)->drop H e b=some u:=fun b u e1 hk=>by rw[j8 (ne b u e1 hk)]; exact e1
 refine oi (c:=true) (bs:=PySem.W.hideAll s.heap (e::frs (envOfC qual scope s₀.heap.objs.size f cdv::outer))) (a0:=.ref t) I.ok.frames
  (PySem.W.funFrames_hide hst fun e1 he1 b hb=>mem_cons_of_mem _ (List.mem_filterMap.mpr ⟨e1,he1,hb⟩)) rfl ge (fun b o e1=>PySem.W.of_hideAll _ e1) (PySem.W.hideAll_none _ (mem_cons_self ..)) rfl rfl rfl (fun _=>rfl) fun h2 fl D up=>?_
 refine⟨e,_,.ref t,_,drop H e,od,rfl,I.os,I.bare,⟨fun b o e1=>PySem.W.hideAll_get _ (I.bk b o e1) fun hm=>?_,fun b o e1 n nb=>PySem.W.hideAll_get _ (I.base.keep b o e1 n nb (nx b)) (nof b o e1 nb),fun b o e1 n=>?_,
  fun b o e1 nb=>?_,fun b xs z=>dr b _ (I.base.tups b xs z) (fun _ z=>nomatch z),fun b o u z=>dr b _ (I.base.frzs b o u z) (fun _ z=>nomatch z),fun b ps z=>?_,fun b u e1=>?_⟩,fun b hb o e1=>?_,fl,fX,D,q⟩
 ·rcases List.mem_cons.mp hm with z | hm
  ·have z2:=(I.bs b o e1).2
   rw[z,he] at z2
   cases z2
  ·have z:=(hst.mem hm).1
   exact nomatch (show (some o:Option Obj)=none from e1.symm.trans z)
 ·by_cases hb:b=e
  ·rw[hb,fX]
  ·rw[j8 hb]
   exact I.base.free b o e1 n (nx b)
 ·obtain⟨o',e2⟩:=I.base.there b o e1 (nx b)
  exact⟨o',PySem.W.hideAll_get _ e2 (nof b o e1 nb)⟩
 ·obtain⟨more,z2⟩:=I.base.tbls b ps z
  exact⟨more,dr b _ z2 (fun _ z=>nomatch z)⟩
 ·have hb:b≠e:=fun z=>by
   rw[z,fX] at e1
   cases e1
  rw[j8 hb] at e1
  refine(I.hok b u e1).stay (fun c v hc e2=>PySem.W.hideAll_get _ e2 fun hm=>?_) (fun c z=>dr c _ z (fun _ z=>nomatch z)) fun c xs z=>dr c _ z (fun _ z=>nomatch z)
  rcases List.mem_cons.mp hm with z | hm
  ·rcases hc with hc | hc
   ·exact hb (hc.symm.trans z)
   ·rw[z,he] at hc
    cases hc
  ·have z:=I.stkFree c hm
   rcases hc with rfl | hc
   ·rw[e1] at z; cases z
   ·rw[hc] at z; cases z
 ·obtain⟨sl,e2⟩:=I.base.slot b o e1 (I.ok.frf b hb) hb (nx b)
  obtain⟨_,o1,e3,d⟩:=I.funs.mem hb
  rw[e2] at e3
  cases e3
  obtain⟨s2,e4⟩:=up b _ e2 d
  exact⟨s2,e4⟩
end
end Ow
namespace Ow
open PySem PySem.Spec PyProof.Rows L2
structure XCls (K:Frag) (C fI:Addr) (f:Str):Prop where
 ef:og K C fI=true
 sa:findIn K (.ref C) "__setattr__"=some (some (.builtin "object.__setattr__"))
 mo:mroIn K C (.type "object")=some true
 na:findIn K (.ref C) f=some none
 fn:typeIn K (.ref fI)=some (.type "function")
 kp:keepIn K (.ref C)=true
def sXset (K:Frag) (ta tv:TE) (f:Str):TS:=fun D σ H=>tv σ H fun y H1=>ta σ H1 fun x H2=>∃ e C t fI,x=.ref e/\H2 e=some (xO e C t none)/\XCls K C fI f/\∀ d,H2 d=none->d≠e->D.nx σ (upd (upd H2 d (.xd [(f,y)])) e (xO e C t (some d)))
section
variable {X:Cx}{f:Str}{o value:Expr}{ta tv:TE}{pos pos':Pos}
theorem ku (ha:PE X o ta) (hv:PE X value tv) (hs:swapsWith value (some (.Attribute o f pos')) pos.line X.env=pure false):PS X (.Assign [.Attribute o f pos'] value pos) (sXset X.K ta tv f):=by
 intro pins s σ H D I h
 refine plainObj_wpAny_Assign_Attribute (thn (hv pins s σ H _ I h) fun u s1 ⟨y,H1,I1,ry,q⟩=>thn (ha pins s1 σ H1 _ I1 q) fun ov s2 ⟨x,H2,I2,rx,e,C,t,fI,ex,he,c,q2⟩=>?_) hs
 subst ex
 obtain rfl:ov=Value.ref e:=rx
 have ge:s2.heap.get? e=some ⟨.ref C,none,.fields (exF t),#[]⟩:=(I2.hok e _ he).1
 obtain⟨bm,N,nm,qn,bs,sn,sub,ab,col,dd,k0,k1,k2,k3,k5,mN,gC,_,_,T⟩:=exc_fn I2.kIn c.ef
 refine set_exc I2.kIn ge gC T c.sa c.na c.mo fun h' t' g1 n1 kp=>?_
 have hd:H2 s2.heap.objs.size=none:=I2.hok.fresh (Nat.le_refl _)
 have dne:s2.heap.objs.size≠e:=fun z=>by rw[z,he] at hd; cases hd
 obtain⟨od,es,ep,gd,hda,rest⟩:=n1
 have gd1:(s2.heap.push od).get? s2.heap.objs.size=some od:=Heap.get?_push_size _ (by
  obtain⟨c1,c2,c3,c4⟩:=od
  cases (show c3=.dict es ep from hda)
  rfl)
 have I3:=I2.laid (a:=s2.heap.objs.size) (o:=.xd [(f,y)]) (h':=s2.heap.push od) (t':=s2.toks) (fun b u q=>Heap.get?_push_of_some _ q) (Nat.le_refl _) ⟨_,⟨od,es,ep,gd1,hda,rest⟩,fun g=>by
  by_cases hg:g=f
  ·subst hg
   rw[if_pos rfl,List.lookup_cons_self]
   exact ry
  ·rw[if_neg hg,List.lookup_cons,beq_eq_false_iff_ne.mpr hg]
   exact True.intro⟩
 have I4:=I3.write (x:=e) (e:=e) (o:=xO e C t (some s2.heap.objs.size)) (h':=h') (t':=t') (by rw[ao (Ne.symm dne),he]; exact True.intro) (.inl rfl) (fun b v hb z=>by
  by_cases hz:b=s2.heap.objs.size
  ·subst hz
   have z1:=gd1.symm.trans z
   cases z1
   exact gd
  ·rw[Heap.get?_push_ne _ _ _ hz] at z
   exact kp b v hb z) ⟨_,g1⟩ (xO_ok g1)
 exact⟨σ,_,I4,q2 _ hd dne⟩
end
end Ow
namespace Ow
open PySem PySem.Spec PyProof.Rows L2
def spXI (f:Str) (C:Addr):Sp:=fun vs H Q _=>∃ (e t:Addr) (v:V),vs=[.ref e,v]/\H e=some (xO e C t none)/\∀ d,H d=none->d≠e->Q .non (upd (upd H d (.xd [(f,v)])) e (xO e C t (some d)))
structure XHas (P:Program) (w:World) (K:Frag) (mg:Str->Option Value) (base:Heap) (k:Nat) (x:Str) (C:Addr) (f:Str):Prop where
 ex:∃ (fI:Addr) (fd:FuncData) (p1 p2:Str),FnOk P w K mg base CX0 k fI fd [p1,p2] (spXI f C)/\Binds K fd [p1,p2] []/\XCls K C fI f/\mg x=some (.ref C)
section
variable {P:Program}{w:World}{K:Frag}{mg:Str->Option Value}{base:Heap}{N:List Str}{qual:Str}{scope:Scope}{fa:Addr}{cdv:Value}{A:Around}{outer:List Env}{s₀:Shared}{H₀:Hp}{E:XK}
def tRaise1 (C:Addr) (f:Str) (E:XK) (ta:TA):TS:=fun _ σ H=>ta σ H fun vs H1=>∃ v,vs=[v]/\∀ d,H1 d=none->E (.ref C) (some d) (upd H1 d (.xd [(f,v)]))
theorem cV {k:Nat}{x f:Str}{C:Addr}{np cpos pos:Pos}{e1:Expr}{ta:TA}(h:XHas P w K mg base k x C f) (hr:Room (k+1) (cQ (CX2 P w base) P w K mg base N qual scope fa cdv A outer s₀ H₀ E).A) (hg:Gl (cQ (CX2 P w base) P w K mg base N qual scope fa cdv A outer s₀ H₀ E) x)
  (ha:PA (cQ (CX2 P w base) P w K mg base N qual scope fa cdv A outer s₀ H₀ E) [e1] ta) (hdb:(x == ("__debug__":Str))=false:=by decide)
  (hst:starEach [e1] (cQ (CX2 P w base) P w K mg base N qual scope fa cdv A outer s₀ H₀ E).env=(false,eval e1 (cQ (CX2 P w base) P w K mg base N qual scope fa cdv A outer s₀ H₀ E).env)::starEach [] (cQ (CX2 P w base) P w K mg base N qual scope fa cdv A outer s₀ H₀ E).env:=by rfl) :
  PS (cQ (CX2 P w base) P w K mg base N qual scope fa cdv A outer s₀ H₀ E) (.Raise (some (.Call (.Name x np) [e1] [] cpos)) none pos) (tRaise1 C f E ta):=by
 intro pins s σ H D I ht
 obtain⟨fI,fd,p1,p2,F,hb,c,hm⟩:=h.ex
 obtain⟨bm,N',nm,qn,bs,sn,sub,ab,col,dd,k0,k1,k2,k3,k5,mN,gC,gN,gi,T⟩:=exc_fn I.ok.mod.kin c.ef
 rw[arm_exec_Raise]
 refine wpAny_bind (wpAny_standAt (pZ (C:=C) (nm:=nm) (qn:=qn) (N:=N') (bs:=bs) (bm:=bm) (hdc:=true) (sn:=sn) (sub:=sub) (ab:=ab) (col:=col) (dd:=dd) (k0:=k0) (k1:=k1) (k2:=k2) (k3:=k3) (k5:=k5) (nid:="ValueError.__new__")
  (T.hasType PySem.F.excBase_ValueError.hasBase) (I.ok.hd rfl) (wpAny_bind (wpAny_mono (Q:=fun v s1=>∃ (e t:Addr) (od:Option Addr),v=.ref e/\s1.heap.get? C=some (excClassObj nm qn C N' bs bm true sn sub ab col dd k0 k1 k2 k3 k5 "ValueError.__new__")/\s1.heap.get? e=some ⟨.ref C,od,.fields (exF t),#[]⟩/\(cQ (CX2 P w base) P w K mg base N qual scope fa cdv A outer s₀ H₀ E).xe (.ref e) s1) ?_ (fun v s3 h3=>wpAny_bind (wpAny_standAt (wpAny_pure h3))) fun _ _ z=>z))))
 refine wpAny_Call_Name_kw (fM I hg hm ?_ hdb)
 refine PySem.W.callWith_K (h₀:=base) I.ok.mod.kin c.kp (thn (ha cpos pins s σ H _ I ht) fun us s1 ⟨vs,H1,I1,r1,v,ev,q1⟩=>⟨I1.kIn,?_⟩) hst rfl
 subst ev
 obtain⟨u,rfl,ru⟩:=r1.one
 have st1:=I1.bk
 have gf:∃ oI,s1.heap.get? fI=some oI/\oI.cls=.type "function":=by
  obtain⟨oI,e1,e2⟩:=Option.map_eq_some_iff.mp c.fn
  exact⟨oI,I1.kIn _ _ e1,e2⟩
 obtain⟨oI,gf,cf⟩:=gf
 obtain⟨hh,g,dr,tk,os⟩:=s1
 have ge:((hh.push (exT u)).push { cls:=.ref C,data:=.fields (exF hh.objs.size) }).get? (hh.objs.size+1)=some { cls:=.ref C,data:=.fields (exF hh.objs.size) }:=by
  have z:=Heap.get?_push_size (hh.push (exT u)) (o:={ cls:=.ref C,data:=.fields (exF hh.objs.size) }) rfl
  rwa [Heap.size_push] at z
 have He:H1 (hh.objs.size+1)=none:=I1.hok.fresh (le_succ _)
 have I2:=I1.laid (a:=hh.objs.size+1) (o:=xO (hh.objs.size+1) C hh.objs.size none) (h':=(hh.push (exT u)).push { cls:=.ref C,data:=.fields (exF hh.objs.size) }) (t':=tk) (fun b o q=>Heap.get?_push_of_some _ (Heap.get?_push_of_some _ q)) (le_succ _) (xO_ok ge)
 refine call_exc (T.keeps st1) (st1 _ _ gC) (gN.keeps st1) gi gf cf (wpAny_call (codeAny_mono (F.run _ (cQ (CX2 P w base) P w K mg base N qual scope fa cdv A outer s₀ H₀ E).stack _ _ ⟨[.ref (hh.objs.size+1),u],[]⟩ [.ref (hh.objs.size+1),u] [.ref (hh.objs.size+1),v]
  (fun y H3=>y=.non/\∃ d,upd H1 (hh.objs.size+1) (xO (hh.objs.size+1) C hh.objs.size none) d=none/\d≠hh.objs.size+1/\H3=upd (upd (upd H1 (hh.objs.size+1) (xO (hh.objs.size+1) C hh.objs.size none)) d (.xd [(f,v)])) (hh.objs.size+1) (xO (hh.objs.size+1) C hh.objs.size (some d))) E0 (hr.make C [u] [])
  (I2.env0.make C [u] []) (hb _ _ I2.kIn rfl) (.cons rfl (.cons ru .nil)) ⟨_,_,v,rfl,ah ..,fun d hd ne=>⟨rfl,d,hd,ne,rfl⟩⟩) fun r s' hq=>?_))
 cases r with
 | error e=>exact False.elim hq
 | ok fl =>
  cases fl with
  | ret u' =>
   obtain⟨y,H3,I3,ry,rfl,d,hd,ne,rfl⟩:=I2.after hq
   refine⟨ry,hh.objs.size+1,hh.objs.size,some d,rfl,I3.bk _ _ gC,(I3.hok _ _ (ah ..)).1,?_⟩
   rw[ao ne] at hd
   refine p5 I3 (ah ..) ?_ ?_
   ·refine Heap.get?_none_of_le (Nat.le_trans I1.sz (le_succ _))
   ·have e3:drop (upd (upd (upd H1 (hh.objs.size+1) (xO (hh.objs.size+1) C hh.objs.size none)) d (.xd [(f,v)])) (hh.objs.size+1) (xO (hh.objs.size+1) C hh.objs.size (some d))) (hh.objs.size+1)=upd H1 d (.xd [(f,v)]):=by
     funext b
     by_cases hb:b=hh.objs.size+1
     ·rw[hb,fX,ao (Ne.symm ne),He]
     ·rw[j8 hb,ao hb]
      by_cases hbd:b=d
      ·rw[hbd,ah,ah]
      ·rw[ao hbd,ao hb,ao hbd]
    rw[e3]
    exact q1 d hd
  | next=>exact False.elim hq
  | brk=>exact False.elim hq
  | cont=>exact False.elim hq
end
end Ow
namespace Ow
open PySem PySem.Spec PyProof.Rows L2
section
variable {P:Program}{w:World}{K:Frag}{mg:Str->Option Value}{base:Heap}{N:List Str}{qual:Str}{scope:Scope}{f:Addr}{cdv:Value}{A:Around}{outer:List Env}{s₀:Shared}{H₀:Hp}{E:XK}
theorem Fun.okY {x qual:Str}{st:Stmt}{f:Addr}{fd:FuncData}{N ps:List Str}{k:Nat}{sp:Sp}(F:Fun K x qual st f fd) (S:FnScope N ps (aj st)) (len:∀ vs H Q E,sp vs H Q E->vs.length=ps.length)
  (hbody:∀ (cdv:Value) (A:Around) (outer:List Env) (s:Shared) (H:Hp) (vs:List V) (Q:VK) (E:XK),Room k (A.deeper (envOfC qual (aj st) s.heap.objs.size f cdv))->sp vs H Q E ->
   ∃ t,PSs (cQ (CX2 P w base) P w K mg base N qual (aj st) f cdv A outer s H E) (aU st) t/\t { nx:=fun _ H'=>Q .non H',rt:=Q } (start N vs) H):FnOk P w K mg base (CX2 P w base) (k+1) f fd ps sp:=by
 obtain⟨oc,od,kV,doc,pm,an,cdv,ct,osl,e1,lk,hcd⟩:=F.ex
 subst e1
 exact fn_of lk hcd S len fun A outer s H vs Q E hr hsp=>hbody cdv A outer s H vs Q E hr hsp
theorem passY:eX (CX2 P w base) (cQ (CX2 P w base) P w K mg base N qual scope f cdv A outer s₀ H₀ E) E:=by
 intro pins σ H s e s' I hq
 obtain⟨a,cls,a0,B,H2,dd,rfl,hos,hba,G,sl,fl,ha0,D,hw⟩:=hq
 have nof:∀ b o,s₀.heap.get? b=some o->b∉frs outer->b∉frs (envOfC qual scope s₀.heap.objs.size f cdv::outer):=fun b o e1 nb hm=>by
  rcases List.mem_cons.mp (I.stkSub b hm) with z | z
  ·exact lt_irrefl _ (lt_of_lt_of_le (z ▸ Heap.lt_size e1) I.ok.above)
  ·exact nb z
 have nx:∀ b:Addr,b∉([]:List Addr):=fun b z=>nomatch z
 have sub:∀ b∈frs outer,b∈frs (envOfC qual scope s₀.heap.objs.size f cdv::outer):=fun b hb=>by
  obtain⟨en,he,hf⟩:=List.mem_filterMap.mp hb
  exact List.mem_filterMap.mpr ⟨en,mem_cons_of_mem _ he,hf⟩
 refine lq I.ok.frames rfl fl D fun h2 fl2 D2 up=>?_
 refine⟨a,cls,a0,B,H2,dd,rfl,hos.trans I.os,hba,⟨G.st,fun b o e1 n nb=>G.keep b o (I.base.keep b o e1 n nb (nx b)) (I.base.free b o e1 n (nx b)) (nof b o e1 nb),fun b o e1 n=>?_,fun b o e1 nb=>?_,
  fun b xs z=>G.tups b xs (I.base.tups b xs z),fun b o u z=>G.frzs b o u (I.base.frzs b o u z),fun b ps z=>?_,G.hok⟩,fun b hb o e1=>?_,fl2,ha0,D2,hw⟩
 ·obtain⟨o',e2⟩:=I.base.there b o e1 (nx b)
  exact G.free b o' e2 (I.base.free b o e1 n (nx b))
 ·obtain⟨o',e2⟩:=I.base.there b o e1 (nx b)
  exact G.there b o' e2 (nof b o e1 nb)
 ·obtain⟨m1,e1⟩:=I.base.tbls b ps z
  obtain⟨m2,e2⟩:=G.tbls b _ e1
  exact⟨m1++m2,by rw[e2,Array.append_assoc]⟩
 ·obtain⟨l1,e2⟩:=I.base.slot b o e1 (I.ok.frf b hb) hb (nx b)
  obtain⟨l2,e3⟩:=sl b (sub b hb) _ e2
  obtain⟨_,o1,e4,d⟩:=fl.2.2.1.mem (sub b hb)
  rw[e3] at e4
  cases e4
  obtain⟨l3,e5⟩:=up b _ e3 d
  exact⟨l3,e5⟩
end
structure HasY (P:Program) (w:World) (K:Frag) (mg:Str->Option Value) (base:Heap) (k:Nat) (x:Str) (ps:List Str) (sp:Sp):Prop where
 ex:∃ (f:Addr) (fd:FuncData),FnOk P w K mg base (CX2 P w base) k f fd ps sp/\Binds K fd ps []/\keepIn K (.ref f)=true/\mg x=some (.ref f)
section
variable {P:Program}{w:World}{K:Frag}{mg:Str->Option Value}{base:Heap}{N:List Str}{qual:Str}{scope:Scope}{f:Addr}{cdv:Value}{A:Around}{outer:List Env}{s₀:Shared}{H₀:Hp}{E:XK}
theorem be {k:Nat}{x:Str}{ps:List Str}{sp:Sp}{p pos:Pos}{e:Expr}{es:List Expr}{t:TA}(h:HasY P w K mg base k x ps sp) (hr:Room k (cQ (CX2 P w base) P w K mg base N qual scope f cdv A outer s₀ H₀ E).A)
  (hg:Gl (cQ (CX2 P w base) P w K mg base N qual scope f cdv A outer s₀ H₀ E) x) (ha:PA (cQ (CX2 P w base) P w K mg base N qual scope f cdv A outer s₀ H₀ E) (e::es) t) (hdb:(x == ("__debug__":Str))=false:=by decide)
  (he:starEach (e::es) (cQ (CX2 P w base) P w K mg base N qual scope f cdv A outer s₀ H₀ E).env=(false,eval e (cQ (CX2 P w base) P w K mg base N qual scope f cdv A outer s₀ H₀ E).env)::starEach es (cQ (CX2 P w base) P w K mg base N qual scope f cdv A outer s₀ H₀ E).env:=by rfl)
  (hpl:(backTo pos (starEach es (cQ (CX2 P w base) P w K mg base N qual scope f cdv A outer s₀ H₀ E).env)).any (·.1)=false:=by rfl) :
  PE (cQ (CX2 P w base) P w K mg base N qual scope f cdv A outer s₀ H₀ E) (.Call (.Name x p) (e::es) [] pos) (cU sp [] E t):=by
 obtain⟨fa,fd,F,b,kp,m⟩:=h.ex
 exact kB F hr hg m kp b .nil passY ha hdb he hpl
end
theorem passYN {X:Cx}:eX (CX2 X.prog X.w X.base) X E0:=fun _ _ _ _ _ _ _ hq=>by
 obtain⟨_,_,_,_,_,_,_,_,_,_,_,_,_,_,hw⟩:=hq
 exact hw.elim
theorem qZ {X:Cx}{k:Nat}{x:Str}{ps:List Str}{sp:Sp}{p pos:Pos}{e:Expr}{es:List Expr}{t:TA}(h:HasY X.prog X.w X.K X.mg X.base k x ps sp) (hr:Room k X.A) (hg:Gl X x) (ha:PA X (e::es) t) (hdb:(x == ("__debug__":Str))=false:=by decide)
  (he:starEach (e::es) X.env=(false,eval e X.env)::starEach es X.env:=by rfl) (hpl:(backTo pos (starEach es X.env)).any (·.1)=false:=by rfl):PE X (.Call (.Name x p) (e::es) [] pos) (cU sp [] E0 t):=by
 obtain⟨fa,fd,F,b,kp,m⟩:=h.ex
 exact kB F hr hg m kp b .nil passYN ha hdb he hpl
def tryCy (X:Cx) (pins:List (Addr×Obj)) (E:L2.St->XK):Cx:=(pinned X pins).wish fun e s'=>∃ (pins':List (Addr×Obj)) (σ':L2.St) (H:Hp) (s:Shared),Inv (pinned X pins) pins' σ' H s/\CX2 X.prog X.w X.base X.stack H s (E σ') e s'
section
variable {X:Cx}{j:Nat}{n c:Str}{C₁:Addr}{b₀:Stmt}{suite:List Stmt}{tb:Addr->Obj->TS}{np hpos:Pos}
end
end Ow
namespace Ow
open PySem PySem.Spec PyProof.Rows L2
section
variable {prog:Program}{w:World}{A:Around}{E:Value->Shared->Prop}{h:Heap}{g:Array GenState}{d:Drawn}{t:Nat}{os:OsState}{K:Frag}{a C D:Addr}{o od:Obj}{name:Str}{v:Value}
theorem xat (hx:h.get? a=some o) (hc:o.cls=.ref C) (hd:o.dict=some D) (hn:PySem.W.notCls o=true) (gd:h.get? D=some od):PySem.W.InstAt h a o C (some od):=⟨hx,hc,hn,by rw[hd]; exact gd⟩
theorem qk {tk:Tok}{Q:Fin->Shared->Prop}(X:K.In h) (I:PySem.W.InstAt h a o C (some od)) (hf:PySem.W.findObj K C (some od) name=some (.value v)) (hq:Q (.done (.ret v)) ⟨h,g,d,t,os⟩) :
  wpAny (model prog w) A (Builtin.«object.__getattribute__» ⟨[.ref a,.str name tk],[]⟩) Q E ⟨h,g,d,t,os⟩:=by
 have L0:=I.type (M:=model prog w)
 have L1:=PySem.W.looks_find (M:=model prog w) X I hf
 refine wpAny_bind (wpAny_pure (wpAny_bind (wpAny_pure (wpAny_bind (L0.at (wpAny_bind (L1.at ?_)))))))
 exact wpAny_pure hq
theorem getx_by {tk:Tok}{fill ex:Bool}{Q:Value->Shared->Prop}(X:K.In h) (f:ExF K C) (I:PySem.W.InstAt h a o C (some od)) (hf:PySem.W.findObj K C (some od) name=some (.value v)) (hv:PySem.W.handedIn v=true) (hq:Q v ⟨h,g,d,t,os⟩) :
  wpAny (model prog w) A (getAttrBy (.ref a) (.str name tk) fill ex) Q E ⟨h,g,d,t,os⟩:=by
 have hx:=I.at_
 have hc:=I.cls
 have f3:=F.attr_ValueError.ga.bind (.ref a)
 have L1:=PySem.W.looks_findIn (M:=model prog w) X f.ga
 have L2:=PySem.W.looks_findIn (M:=model prog w) X f.gn
 have hx2:(Value.builtin "BaseException.__getattribute__" == Value.builtin "object.__getattribute__")=false:=by decide +kernel
 have hx1:(onTheHeap (Value.ref C)&&Value.builtin "BaseException.__getattribute__" == Value.builtin "object.__getattribute__")=false:=by rw[hx2]; rfl
 have hx0:(ex&&onTheHeap (Value.builtin "BaseException.__getattribute__"))=false:=by cases ex <;> rfl
 have hho:=PySem.W.handedOut_of hv
 repeat (any_goals (first | assumption | (with_reducible refine wpAny_loadPart_at hx ?_; rw[hc]) | with_reducible refine L1.at ?_ | with_reducible refine L2.at ?_ | wp_step))
 refine codeAny_call_builtin F.attr_ValueError.ga.plain F.entry_bexc_ga (sR X f hx hc (qk X I hf ?_))
 repeat (any_goals (first | assumption | wp_step))
theorem getx {ex:Bool}{Q:Value->Shared->Prop}(X:K.In h) (f:ExF K C) (I:PySem.W.InstAt h a o C (some od)) (hf:PySem.W.findObj K C (some od) name=some (.value v)) (hv:PySem.W.handedIn v=true) (hq:Q v ⟨h,g,d,t+1,os⟩) :
  wpAny (model prog w) A (getAttr (.ref a) name ex) Q E ⟨h,g,d,t,os⟩:=by
 unfold getAttr
 exact wpAny_bind (wpAny_mkText (getx_by X f I hf hv hq))
end
def tXf (K:Frag) (ta:TE) (a:Addr) (oe:Obj) (f:Str):TE:=fun σ H Q=>ta σ H fun x H1=>∃ C D fs v,x=.ref a/\oe.cls=.ref C/\oe.dict=some D/\PySem.W.notCls oe=true/\ExF K C/\hasDictIn K C=true/\NoAttr K C f/\H1 D=some (.xd fs)/\fs.lookup f=some v/\Q v H1
theorem pe_xf {X:Cx}{a:Addr}{oe:Obj}{f:Str}{e:Expr}{ta:TE}{pos:Pos}(hp:(a,oe)∈X.pn) (he:PE X e ta) (hb:attributeBase e f X.env (eval e X.env)=eval e X.env):PE X (.Attribute e f pos) (tXf X.K ta a oe f):=by
 intro pins s σ H Q I h
 refine rX hb (thn (he pins s σ H _ I h) fun u s1 ⟨x,H1,I1,rx,C,D,fs,v,ex,hc,hd,hn,f1,f2,f3,hD,hl,q⟩=>?_)
 subst ex
 obtain rfl:u=Value.ref a:=rx
 have pa:=I1.pin _ (mem_append_left _ hp)
 obtain⟨mA,ns,r⟩:=I1.hok D _ hD
 obtain⟨od,gd,hlk⟩:=ma ns
 obtain⟨v',hv,rv⟩:=RelO.some_of (v:=v) (o:=mA f) (by rw[<- hl]; exact r f)
 obtain⟨hh,g,d,t,os⟩:=s1
 exact getx I1.kIn f1 (xat pa.1 hc hd hn gd) (PySem.W.findObj_own f2 f3 rfl (by rw[hlk,hv])) (lQ rv) ⟨v,H1,I1.tok _,rv,q⟩
end Ow
namespace Ow
open PySem PySem.Spec PyProof.Rows L2
def Rise (xs:Array Nat):Prop:=∀ i j,i<j->j<xs.size->xs.getD i 0<xs.getD j 0
theorem getD_any {xs:Array Nat}{i a b:Nat}(h:i<xs.size):xs.getD i a=xs.getD i b:=by
 rw[Array.getD_eq_getD_getElem?,Array.getD_eq_getD_getElem?,Array.getElem?_eq_getElem h]
 rfl
theorem kK {xs:Array Nat}{j:Nat}(R:Rise xs):∀ (n lo hi:Nat),hi-lo<=n->lo<=hi->hi<=xs.size->(∀ k,k<lo->xs.getD k 0<j)->(∀ k,hi<=k->k<xs.size->j<=xs.getD k 0) ->
  let i:=SetTable.below.go xs j n lo hi; i<=xs.size/\(∀ k,k<i->xs.getD k 0<j)/\∀ k,i<=k->k<xs.size->j<=xs.getD k 0
 | 0,lo,hi,h1,h2,h3,h4,h5=>by
  have e:lo=hi:=by omega
  subst e
  exact⟨h3,h4,h5⟩
 | n+1,lo,hi,h1,h2,h3,h4,h5=>by
  unfold SetTable.below.go
  by_cases c:lo<hi
  ·rw[if_pos c]
   dsimp only
   have m1:(lo+hi)/2<hi:=by omega
   have m0:lo<=(lo+hi)/2:=by omega
   have ms:(lo+hi)/2<xs.size:=by omega
   rw[getD_any (b:=0) ms]
   by_cases q:xs.getD ((lo+hi)/2) 0<j
   ·rw[if_pos q]
    refine kK R n _ hi (by omega) (by omega) h3 (fun k hk=>?_) h5
    by_cases hm:k=(lo+hi)/2
    ·rw[hm]; exact q
    ·exact lt_trans (R k _ (by omega) ms) q
   ·rw[if_neg q]
    refine kK R n lo _ (by omega) (by omega) (by omega) h4 fun k hk hs=>?_
    by_cases hm:k=(lo+hi)/2
    ·rw[hm]; omega
    ·have:=R ((lo+hi)/2) k (by omega) hs
     omega
  ·rw[if_neg c]
   have e:lo=hi:=by omega
   subst e
   exact⟨h3,h4,h5⟩
theorem pc {xs:Array Nat}(R:Rise xs) (j:Nat):SetTable.below xs j<=xs.size/\(∀ k,k<SetTable.below xs j->xs.getD k 0<j)/\∀ k,SetTable.below xs j<=k->k<xs.size->j<=xs.getD k 0 :=
 kK R xs.size 0 xs.size (by omega) (zero_le _) (Nat.le_refl _) (fun k h=>absurd h (Nat.not_lt_zero k)) fun k h1 h2=>by omega
theorem oY {xs:Array Nat}(R:Rise xs) {j i:Nat}(hi:i<=xs.size) (h1:∀ k,k<i->xs.getD k 0<j) (h2:∀ k,i<=k->k<xs.size->j<=xs.getD k 0):SetTable.below xs j=i:=by
 obtain⟨a,b,c⟩:=pc R j
 by_cases q:SetTable.below xs j<i
 ·have:=c _ (Nat.le_refl _) (by omega)
  have:=h1 _ q
  omega
 by_cases q2:i<SetTable.below xs j
 ·have:=b i q2
  have:=h2 i (Nat.le_refl _) (by omega)
  omega
 omega
theorem nh {xs:Array Nat}(R:Rise xs) {j:Nat}(hn:xs[SetTable.below xs j]?≠some j):Rise (SetTable.insertAt xs (SetTable.below xs j) j):=by
 obtain⟨a,b,c⟩:=pc R j
 generalize SetTable.below xs j=p at *
 have sz:(SetTable.insertAt xs p j).size=xs.size+1:=by
  unfold SetTable.insertAt
  simp only[Array.size_append,Array.size_push,Array.size_extract]
  omega
 have g:∀ i,i<xs.size+1->(SetTable.insertAt xs p j).getD i 0=if i<p then xs.getD i 0 else if i=p then j else xs.getD (i-1) 0:=fun i hi=>by
  unfold SetTable.insertAt
  rw[Array.getD_eq_getD_getElem?,Array.getElem?_append,Array.size_push,Array.size_extract]
  have e1:min p xs.size-0=p:=by omega
  rw[e1]
  by_cases q:i<p+1
  ·rw[if_pos q,Array.getElem?_push,Array.size_extract,e1]
   by_cases q2:i=p
   ·rw[if_pos q2,if_neg (by omega),if_pos q2]
    rfl
   ·rw[if_neg q2,if_pos (by omega),Array.getElem?_extract,if_pos (by omega),Array.getD_eq_getD_getElem?,Nat.zero_add]
  ·rw[if_neg q,if_neg (by omega),if_neg (by omega),Array.getElem?_extract,if_pos (by omega),Array.getD_eq_getD_getElem?]
   congr 2
   omega
 have d:∀ k,p<=k->k<xs.size->j<xs.getD k 0:=fun k h1 h2=>by
  have h3:=c k h1 h2
  by_cases e:k=p
  ·subst e
   refine Nat.lt_of_le_of_ne h3 fun z=>hn ?_
   rw[Array.getElem?_eq_getElem h2]
   rw[Array.getD_eq_getD_getElem?,Array.getElem?_eq_getElem h2] at z
   exact congrArg some z.symm
  ·exact Nat.lt_of_le_of_lt (c p (Nat.le_refl _) (by omega)) (R p k (by omega) h2)
 intro i k hik hk
 rw[sz] at hk
 rw[g i (by omega),g k hk]
 by_cases i1:i<p
 ·rw[if_pos i1]
  by_cases k1:k<p
  ·rw[if_pos k1]; exact R i k hik (by omega)
  ·rw[if_neg k1]
   by_cases k2:k=p
   ·rw[if_pos k2]; exact b i i1
   ·rw[if_neg k2]; exact R i (k-1) (by omega) (by omega)
 ·rw[if_neg i1,if_neg (show ¬ k<p by omega),if_neg (show ¬ k=p by omega)]
  by_cases i2:i=p
  ·rw[if_pos i2]; exact d (k-1) (by omega) (by omega)
  ·rw[if_neg i2]; exact R (i-1) (k-1) (by omega) (by omega)
def Good (t:SetTable):Prop:=t.plain=true->Rise t.place
theorem qV {t:SetTable}{j:Nat}(h:∀ i,t.slot j≠.live i):t.place[SetTable.below t.place j]?≠some j:=fun z=>by
 unfold SetTable.slot at h
 dsimp only at h
 rw[z] at h
 exact h _ (by rw[beq_self_eq_true]; rfl)
theorem ib {t:SetTable}{f:Nat->Int}{h:Int}:∀ (n:Nat) (p:SetTable.Probe) {j:Nat}{d:Option Nat},(∀ x,p.dummy=some x->t.slot x=.dummy)->SetTable.probe.go t f h n p=some (.empty j d)->t.slot j=.empty/\∀ x,d=some x->t.slot x=.dummy
 | 0,p,j,d,hp,e=>by cases e
 | n+1,p,j,d,hp,e=>by
  unfold SetTable.probe.go at e
  split at e
  ·next q =>
   cases e
   exact⟨q,hp⟩
  ·next q =>
   refine ib n _ (fun x hx=>?_) e
   have:({ p with dummy:=some p.j }:SetTable.Probe).dummy=some x:=by
    unfold SetTable.advance at hx
    split at hx <;> exact hx
   cases this
   exact q
  ·next i q =>
   split at e
   ·cases e
   ·refine ib n _ (fun x hx=>hp x ?_) e
    unfold SetTable.advance at hx
    split at hx <;> exact hx
theorem mX {t:SetTable}{h:Int}{s:Nat}{b:Bool}(e:t.freeSlot h=some (s,b)):∀ i,t.slot s≠.live i:=by
 unfold SetTable.freeSlot at e
 split at e
 ·next j d q =>
  cases e
  obtain⟨h1,h2⟩:=ib _ _ (fun x hx=>by cases hx) q
  intro i z
  cases d with
  | none=>rw[show (none:Option Nat).getD j=j from rfl,h1] at z; cases z
  | some x=>rw[show (some x).getD j=x from rfl,h2 x rfl] at z; cases z
 ·cases e
theorem iV (t:SetTable) (n:Nat) (g:Good t):(t.orStandIn n).led=t.led/\Good (t.orStandIn n):=by
 unfold SetTable.orStandIn
 split
 ·exact⟨rfl,g⟩
 ·exact⟨rfl,fun hp=>by cases hp⟩
theorem mw (t:SetTable) (es:Array (Int×Value)) (h:Int) (x:Value) (g:Good t):(layNew t es h x).2.1.led=t.led/\Good (layNew t es h x).2.1:=by
 unfold layNew
 split
 ·next s b e =>
  have z:=iV (t.put s).1 (SetTable.insertAt es (t.put s).2 (h,x)).size (fun hp=>nh (g hp) (qV (mX e)))
  exact⟨z.1,z.2⟩
 ·exact⟨rfl,fun hp=>by cases hp⟩
theorem pR {α:Type}(f:Nat->Option α):∀ (l:List Nat),l.Pairwise (·<·)->((l.filterMap fun j=>(f j).map (j,·)).map (·.1)).Pairwise (·<·):=by
 intro l h
 refine List.pairwise_map.mpr (List.Pairwise.filterMap _ (fun a b hab x hx y hy=>?_) h)
 obtain⟨_,_,rfl⟩:=Option.map_eq_some_iff.mp hx
 obtain⟨_,_,rfl⟩:=Option.map_eq_some_iff.mp hy
 exact hab
theorem rise_of {l:List Nat}(h:l.Pairwise (·<·)):Rise l.toArray:=by
 intro i j hij hj
 have hj':j<l.length:=by simpa using hj
 rw[Array.getD_eq_getD_getElem?,Array.getD_eq_getD_getElem?,List.getElem?_toArray,List.getElem?_toArray,List.getElem?_eq_getElem (show i<l.length by omega),List.getElem?_eq_getElem hj']
 exact List.pairwise_iff_getElem.mp h i j _ _ hij
theorem qh {m f mo:Nat}{led pl:Bool}{hs:Array Int}{t:SetTable}{o:Array Nat}(e:SetTable.laid m f mo led pl hs=some (t,o)):t.led=led/\Good t:=by
 unfold SetTable.laid at e
 obtain⟨ow,_,e⟩:=Option.bind_eq_some_iff.mp e
 cases e
 exact⟨rfl,fun _=>rise_of (pR _ _ List.pairwise_lt_range)⟩
theorem jD (t:SetTable) (es:Array (Int×Value)) (n:Nat):(relayAll t es n).2.1.led=t.led/\Good (relayAll t es n).2.1:=by
 unfold relayAll
 split
 ·next t' o e =>
  dsimp only
  split
  ·exact qh e
  ·exact⟨rfl,fun hp=>by cases hp⟩
 ·exact⟨rfl,fun hp=>by cases hp⟩
end Ow
namespace Ow
open PySem PySem.Spec PyProof.Rows L2
def oC (e:Int×Value):Int:=match e.2 with | .int k _=>k | _=>0
def AllI (l:List (Int×Value)):Prop:=∀ e∈l,∃ k tk,e=(hashInt k,Value.int k tk)
def SetI (w:World) (o:Obj) (ks:List Int):Prop:=∃ es ep t,o=⟨.type "set",none,.set es ep t,#[]⟩/\AllI es.toList/\es.toList.map oC=ks/\ks.Nodup/\es.size<scanBound/\t.fits es.size=true/\(w.params.followText "set-order"=false->t.led=true)/\Good t
theorem AllI.elems {prog:Program}{w:World}{l:List (Int×Value)}(h:AllI l):ElemsOf (intKind prog w) l:=fun e he=>by
 obtain⟨k,tk,rfl⟩:=h e he
 exact⟨⟨k,intKind_is _ _ _ _,rfl⟩,rfl⟩
theorem AllI.push {l l':List (Int×Value)}{k:Int}{tk:Tok}(h:AllI l) (p:List.Perm l' (l++[(hashInt k,Value.int k tk)])):AllI l':=fun e he=>by
 rcases List.mem_append.mp (p.mem_iff.mp he) with z | z
 ·exact h e z
 ·rw[mem_singleton] at z
  exact⟨k,tk,z⟩
theorem lF {l:List (Int×Value)}(h:AllI l) {e:Int×Value}(he:e∈l) (k:Int):Value.isInt k e.2=true ↔ oC e=k:=by
 obtain⟨k',tk,rfl⟩:=h e he
 show (Value.isInt k (Value.int k' tk)=true) ↔ k'=k
 unfold Value.isInt
 rw[beq_iff_eq]
section
variable {prog:Program}{w:World}{A:Around}{E:Value->Shared->Prop}{s:Shared}{a:Addr}{o:Obj}{ks:List Int}{k:Int}{tk:Tok}
theorem addI {Q:Bool->Shared->Prop}(ho:s.heap.get? a=some o) (S:SetI w o ks) (hr:ks.length+1<scanBound)
  (hq:∀ h' o' ks' b,Heap.SameBut a s.heap h'->h'.get? a=some o'->SetI w o' ks'->(∀ x,x∈ks' ↔ x∈ks\/x=k)->ks'.length<=ks.length+1->Q b { s with heap:=h' }) :
  wpAny (model prog w) A (setAddHashed a (.int k tk) (hashInt k)) Q E s:=by
 obtain⟨es,ep,t,rfl,al,rfl,nd,hb,hf,led,gd⟩:=S
 have hsz:es.size+1<scanBound:=by rw[length_map,Array.length_toList] at hr; exact hr
 unfold setAddHashed setAddHashedIn
 refine wpAny_holding (wpAny_bind (wpAny_setState_of ho rfl hf ?_))
 dsimp only
 rw[byScan_of (knd:=intKind prog w) rfl hb al.elems]
 simp only[↓reduceIte]
 unfold setAddByScan
 refine wpAny_bind (wpAny_bind (wpAny_rule (wpAny_bind (wpAny_setScan_of (knd:=intKind prog w) (k:=k) (intKind_is _ _ _ _) ho rfl hf al.elems ?_))))
 cases hr2:List.findIdx? (fun e=>(intKind prog w).is k e.2) es.toList with
 | some j =>
  dsimp only
  obtain⟨hj,pj,_⟩:=List.findIdx?_eq_some_iff_getElem.mp hr2
  have hk:k∈es.toList.map oC:=List.mem_map.mpr ⟨es.toList[j],getElem_mem hj,(lF al (getElem_mem hj) k).mp pj⟩
  refine wpAny_pure (wpAny_pure ?_)
  have z:=hq s.heap _ _ false (Heap.SameBut.refl a s.heap) ho ⟨es,ep,t,rfl,al,rfl,nd,hb,hf,led,gd⟩ (fun x=>⟨.inl,fun q=>q.elim id fun q=>q ▸ hk⟩) (le_succ _)
  exact z
 | none =>
  dsimp only
  have nk:k∉es.toList.map oC:=fun q=>by
   obtain⟨e,he,hk⟩:=List.mem_map.mp q
   have z:=List.findIdx?_eq_none_iff.mp hr2 e he
   rw[show (intKind prog w).is k e.2=true from (lF al he k).mpr hk] at z
   cases z
  have pm:=layNew_perm t es (hashInt k) (.int k tk)
  have fi:=layNew_fits t es (hashInt k) (.int k tk)
  have kp:=mw t es (hashInt k) (.int k tk) gd
  generalize hL:layNew t es (hashInt k) (.int k tk)=L at pm fi kp ⊢
  obtain⟨es1,t1,wd,gave⟩:=L
  dsimp only at pm fi kp ⊢
  rw[Array.toList_push] at pm
  have al1:=al.push pm
  have len1:es1.size=es.size+1:=by rw[<- Array.length_toList,pm.length_eq,length_append,Array.length_toList]; rfl
  have kperm:List.Perm (es1.toList.map oC) (es.toList.map oC++[k]):=by
   have z:=pm.map oC
   rwa [map_append] at z
  have nd1:(es1.toList.map oC).Nodup:=by
   refine kperm.nodup_iff.mpr ?_
   rw[List.nodup_append]
   exact⟨nd,List.nodup_cons.mpr ⟨not_mem_nil,nodup_nil⟩,fun x hx y hy z=>by rw[mem_singleton] at hy; subst hy; subst z; exact nk hx⟩
  have mem1:∀ x,x∈es1.toList.map oC ↔ x∈es.toList.map oC\/x=k:=fun x=>by rw[kperm.mem_iff,List.mem_append,mem_singleton]
  have gw:∀ (b:Bool) {s1:Shared} {Q':Unit->Shared->Prop},Q' () s1->wpAny (model prog w) A (match b with | true=>rule "set.scan.the-table-gave-way" | false=>pure ()) Q' E s1:=fun b s1 Q' q=>by
   cases b <;> first | exact wpAny_pure q | exact wpAny_rule q
  have tail:∀ t2:SetTable,t2.fits es1.size=true->(w.params.followText "set-order"=false->t2.led=true)->Good t2->wpAny (model prog w) A (do
    storeSet a es1 t2
    if (!wd&&t2.tooFull)=true then do
      (match (relayAll t2 es1 (SetTable.grown es1.size)).2.2 with | true=>rule "set.scan.the-table-gave-way" | false=>pure ())
      storeSet a (relayAll t2 es1 (SetTable.grown es1.size)).1 (relayAll t2 es1 (SetTable.grown es1.size)).2.1
      pure (some true)
     else pure (some true)) (fun r s'=>wpAny (model prog w) A (match r with | some added=>pure added | none=>setAddHashedIn a (.int k tk) (hashInt k) 99999) Q E s') E s:=fun t2 f2 l2 g2=>by
   have sz1:es1.size<=sizeLine:=fits_of_scanBound (by rw[len1]; exact hsz)
   refine wpAny_bind (wpAny_storeSet_of ho rfl ?_ sz1)
   have g1:(s.heap.update a (Obj.putSet es1 t2)).get? a=some ⟨.type "set",none,.set es1 (ep+1) t2,#[]⟩:=Heap.get?_update_self _ ho rfl
   split
   ·have p2:=relayAll_perm t2 es1 (SetTable.grown es1.size)
    have f3:=relayAll_fits t2 es1 (SetTable.grown es1.size)
    have k3:=jD t2 es1 (SetTable.grown es1.size)
    generalize relayAll t2 es1 (SetTable.grown es1.size)=R at p2 f3 k3 ⊢
    obtain⟨es2,t3,gv⟩:=R
    dsimp only at p2 f3 k3 ⊢
    have len2:es2.size=es1.size:=by rw[<- Array.length_toList,p2.length_eq,Array.length_toList]
    refine wpAny_bind (gw _ (wpAny_bind (wpAny_storeSet_of (s:={ s with heap:=s.heap.update a (Obj.putSet es1 t2) }) g1 rfl ?_ (by rw[len2]; exact sz1))))
    have g3:((s.heap.update a (Obj.putSet es1 t2)).update a (Obj.putSet es2 t3)).get? a=some ⟨.type "set",none,.set es2 (ep+1+1) t3,#[]⟩:=Heap.get?_update_self _ g1 rfl
    refine wpAny_pure (wpAny_pure (hq _ _ (es2.toList.map oC) true ((Heap.SameBut.update _ a _).trans (Heap.SameBut.update _ a _)) g3 ⟨es2,_,t3,rfl,fun e he=>al1 e (p2.mem_iff.mp he),rfl,(p2.map oC).nodup_iff.mpr nd1,by rw[len2,len1]; exact hsz,f3,fun q=>by rw[k3.1]; exact l2 q,k3.2⟩ (fun x=>by rw[(p2.map oC).mem_iff]; exact mem1 x) ?_))
    rw[length_map,length_map,Array.length_toList,Array.length_toList,len2,len1]
    exact Nat.le_refl _
   ·refine wpAny_pure (wpAny_pure (hq _ _ (es1.toList.map oC) true (Heap.SameBut.update _ a _) g1 ⟨es1,_,t2,rfl,al1,rfl,nd1,by rw[len1]; exact hsz,f2,l2,g2⟩ mem1 ?_))
    rw[length_map,length_map,Array.length_toList,Array.length_toList,len1]
    exact Nat.le_refl _
  refine wpAny_bind (gw _ ?_)
  split
  ·refine wpAny_bind ?_
   rw[hashByValue_scannable 8 rfl]
   refine wpAny_pure ?_
   exact tail t1 fi (fun q=>by rw[kp.1]; exact led q) kp.2
  ·refine wpAny_bind (wpAny_pure ?_)
   simp only[↓reduceIte]
   exact tail t1 fi (fun q=>by rw[kp.1]; exact led q) kp.2
end
end Ow
namespace Ow
open PySem PySem.Spec PyProof.Rows L2
def Upto (w:World) (val:Nat->Int) (i:Nat) (S:Addr) (h:Heap):Prop:=∃ o ks,h.get? S=some o/\SetI w o ks/\ks.length<=i/\∀ x,x∈ks ↔ ∃ j,j<i/\val j=x
section
variable {prog:Program}{w:World}{A:Around}{R:Result->Shared->Prop}{I:Addr}{fp wr:List Addr}{G:Array GenState->Array GenState->Prop}{n:Nat}{P:Nat->Value->Prop}{St:Nat->Shared->Prop}
theorem setloopI (W:WalksS prog w A.in1 I fp wr G n P St) (S:Addr) (nS:S∉fp) (val:Nat->Int) (hv:∀ i v,P i v->∃ t,v=.int (val i) t) (hb:n+1<scanBound) :
  ∀ (k i:Nat) (s:Shared),n-i=k->i<=n->St i s->Upto w val i S s.heap->(∀ s',Moved (S::wr) G s s'->Upto w val n S s'.heap->R (.ok (.ret .none)) s') ->
   codeAny (model prog w) A (.builtin "set.update.loop" ⟨[.ref S,.ref I],[]⟩) R s:=by
 have nw:S∉wr:=fun z=>nS (W.sub _ z)
 have sb:∀ b∈wr,b∈S::wr:=fun b z=>mem_cons_of_mem _ z
 have mv:∀ {i:Nat} {s s':Shared},Moved wr G s s'->Upto w val i S s.heap->Upto w val i S s'.heap:=fun m ⟨o,ks,g,r⟩=>⟨o,ks,m.heap S _ nw g,r⟩
 intro k
 induction k with
 | zero =>
  intro i s e1 e2 st U hR
  have e3:i=n:=by omega
  subst e3
  refine codeAny_builtin F.entry_set_update_loop ?_
  rw[Around.under_plainId F.plain_set_update_loop _]
  show wpAny _ A.in1 (pyNext (.ref I) >>= _) _ _ s
  refine wpAny_bind (W.done s _ _ st fun s1 m=>?_)
  show wpAny _ A.in1 (ret Value.none) _ _ s1
  exact wpAny_pure (hR s1 (m.mono sb) (mv m U))
 | succ k ih =>
  intro i s e1 e2 st U hR
  have e3:i<n:=by omega
  refine codeAny_builtin F.entry_set_update_loop ?_
  rw[Around.under_plainId F.plain_set_update_loop _]
  show wpAny _ A.in1 (pyNext (.ref I) >>= _) _ _ s
  refine wpAny_bind (W.item i s _ _ e3 st fun v s1 hP st1 m=>?_)
  obtain⟨t,rfl⟩:=hv i v hP
  obtain⟨o,ks,g,SI,le,mem⟩:=mv m U
  show wpAny _ A.in1 (holding [Value.int (val i) t] (setAdd S (.int (val i) t)) >>= _) _ _ s1
  refine wpAny_bind (wpAny_holding ?_)
  unfold setAdd
  refine wpAny_holding (wpAny_bind ((intKind prog w).pyHash (k:=val i) (intKind_is _ _ _ _) ?_))
  refine addI (s:={ s1 with toks:=s1.toks+1 }) g SI (by omega) fun h' o' ks' b same g' SI' mem' le'=>?_
  have U':Upto w val (i+1) S h':=⟨o',ks',g',SI',by omega,fun x=>by
   rw[mem' x,mem x]
   constructor
   ·rintro (⟨j,hj,e⟩ | rfl)
    ·exact⟨j,by omega,e⟩
    ·exact⟨i,by omega,rfl⟩
   ·rintro ⟨j,hj,e⟩
    by_cases hji:j=i
    ·subst hji; exact .inr e.symm
    ·exact .inl ⟨j,by omega,e⟩⟩
  have oth:∀ b' o2,b'≠S->s1.heap.get? b'=some o2->h'.get? b'=some o2:=fun b' o2 hne q=>(same.2 b' hne).trans q
  refine wpAny_pure ⟨plainId_quiet F.plain_set_update_loop _,ih (i+1) { s1 with heap:=h',toks:=s1.toks+1 } (by omega) e3 (W.frame _ s1 h' (s1.toks+1) st1 (le_succ _) fun b' hb' o2 q=>oth b' o2 (fun z=>nS (z ▸ hb')) q) U' fun s2 m2 U2=>?_⟩
  exact hR s2 (Moved.trans W.gtrans ((m.mono sb).then_heap (le_succ _) fun b' o2 hb' q=>oth b' o2 (fun z=>hb' (z ▸ mem_cons_self ..)) q) m2) U2
end
section
variable {prog:Program}{w:World}{A:Around}{E:Value->Shared->Prop}{s:Shared}
theorem m6 (a:Value) {Q:Value->Shared->Prop}
  (h:Q (.ref s.heap.objs.size) { s with heap:=s.heap.push { cls:=.type "set",dict:=none,data:=.set #[] 0 (.fresh 0 0 (!(w.params.followText "set-order"))) } }) :
  codeAny (model prog w) A (.call (.builtin "set.__new__") ⟨[.type "set",a],[]⟩) (wants Q E) s:=by
 refine codeAny_of_tree ?_
 show wpAny _ A.in1 (do checkBuiltinCall "set.__new__" ⟨[.type "set",a],[]⟩; again (.builtin "set.__new__" ⟨[.type "set",a],[]⟩)) _ _ s
 refine wpAny_bind (wpAny_of_eq (F.newCall_set_1 a) (wpAny_pure ⟨plainId_quiet F.plain_set_new _,codeAny_builtin F.entry_set_new ?_⟩))
 rw[Around.under_plainId F.plain_set_new _]
 unfold Builtin.«set.__new__» Builtin.Frozenset.newClass
 have su:=sub_set_self
 obtain⟨hp,g,d,tk,os⟩:=s
 dsimp only
 wp_walk
 refine wpAny_askSetting (wpAny_pure ?_)
 dsimp only
 simp only[newObj]
 exact wpAny_bind (wpAny_alloc (wpAny_pure (wpAny_pure h)))
theorem qQ {l:Addr}{its:Array Value}{ns:List Int}{Q:Value->Shared->Prop}(hh:A.handled=none) (hl:s.heap.IsList l its) (hi:IntsAre its.toList ns) (hb:its.size+1<scanBound)
  (k:∀ (h':Heap) (tk:Nat),Upto w (fun i=>ns.getD i 0) its.size s.heap.objs.size h'->(∀ b o,b<s.heap.objs.size->s.heap.get? b=some o->h'.get? b=some o)->Q (.ref s.heap.objs.size) { s with heap:=h',toks:=tk }) :
  wpAny (model prog w) A (call (.type "set") [.ref l]) Q E s:=by
 obtain⟨c,tl,hmro⟩:=F.called_set.mro
 have q1:=F.called_set.made
 have q2:=F.called_set.sub
 have q3:=F.called_set.notType
 have q4:=F.called_set.canCreate
 have q5:=F.typeCall_set_1 (.ref l)
 generalize hled:(!(w.params.followText "set-order"))=led
 refine wpAny_call (codeAny_of_tree ?_)
 show wpAny _ _ (callAny (.type "set") _) _ _ _
 refine wpAny_pure ⟨Code.quiet_builtin _ (by decide +kernel),codeAny_builtin F.entry_type_call ?_⟩
 rw[Around.under_plain (weight_type_call_type "set" [.ref l] []) rfl]
 repeat (any_goals (first | assumption | wp_step))
 refine codeAny_mono (m6 (.ref l) (E:=E) (Q:=fun ob s1=>ob=.ref s.heap.objs.size/\s1={ s with heap:=s.heap.push { cls:=.type "set",dict:=none,data:=.set #[] 0 (.fresh 0 0 led) } }) ⟨rfl,by rw[hled]⟩) fun r s1 hr=>?_
 cases r with
 | error e=>exact hr
 | ok fl =>
  cases fl with
  | ret ob =>
   obtain⟨rfl,rfl⟩:=hr
   have gS:(s.heap.push { cls:=.type "set",dict:=none,data:=.set #[] 0 (.fresh 0 0 led) }).get? s.heap.objs.size=some { cls:=.type "set",dict:=none,data:=.set #[] 0 (.fresh 0 0 led) }:=Heap.get?_push_size _ rfl
   have tS:Shared.TypeIs { s with heap:=s.heap.push { cls:=.type "set",dict:=none,data:=.set #[] 0 (.fresh 0 0 led) } } (.ref s.heap.objs.size) "set":=⟨_,gS,rfl⟩
   have q6:=F.called_set.init.lookup
   have q7:=F.called_set.init.bind (.ref s.heap.objs.size)
   repeat (any_goals (first | assumption | wp_step))
   refine codeAny_mono (codeAny_call_builtin (R:=wants (fun r s2=>r=.none/\∃ h' tk,s2={ s with heap:=h',toks:=tk }/\Upto w (fun i=>ns.getD i 0) its.size s.heap.objs.size h'/\∀ b o,b<s.heap.objs.size->s.heap.get? b=some o->h'.get? b=some o) E)
    F.called_set.init.plain F.entry_set_init (check_set_init_1 tS ?_)) fun r2 s2 hr2=>?_
   ·obtain⟨ol,go,hcl,nl,hdl⟩:=hl
    obtain⟨o1,o2,o3,o4⟩:=ol
    simp only at hcl hdl
    subst hcl hdl
    have gl:(s.heap.push { cls:=.type "set",dict:=none,data:=.set #[] 0 (.fresh 0 0 led) }).get? l=some { cls:=.type "list",dict:=o2,data:=.seq its nl,slots:=o4 }:=Heap.get?_push_of_some _ go
    have p1:=F.sub_list_set
    have p2:=F.sub_list_frozenset
    have p3:(Value.type "list" == Value.type "dict")=false:=by decide
    have il:(s.heap.push { cls:=.type "set",dict:=none,data:=.set #[] 0 (.fresh 0 0 led) }).IsList l its:=⟨_,gl,rfl,nl,rfl⟩
    unfold Builtin.«set.__init__» noKeywords Builtin.Frozenset.updateFrom
    generalize eP:pyIter=PI
    wp_walk
    subst eP
    refine wpAny_pyIter_list il (wpAny_bind (wpAny_runValue ?_))
    have lS:l<s.heap.objs.size:=Heap.lt_size go
    have hh3:A.in1.in1.in1.handled=none:=by simp[hh]
    have lI:l≠(s.heap.push { cls:=.type "set",dict:=none,data:=.set #[] 0 (.fresh 0 0 led) }).objs.size:=by
     rw[Heap.size_push]
     exact Nat.ne_of_lt (lt_succ_of_lt lS)
    have nS:s.heap.objs.size∉[(s.heap.push { cls:=.type "set",dict:=none,data:=.set #[] 0 (.fresh 0 0 led) }).objs.size,l]:=fun z=>by
     rw[Heap.size_push] at z
     rcases List.mem_cons.mp z with z | z
     ·omega
     ·rw[mem_singleton] at z
      exact absurd z.symm (Nat.ne_of_lt lS)
    refine setloopI ((Walks.list hh3 _ l lI its).toS) s.heap.objs.size nS (fun i=>ns.getD i 0) (fun i v hv=>IntsAre.int_at hi i v (by rw[Array.getElem?_toList]; exact hv)) hb (its.size-0) 0 _ (by omega) (zero_le _)
     ⟨⟨_,Heap.get?_push_size _ rfl,rfl,rfl⟩,il.push _⟩ ?U0 ?hR
    case U0 =>
     refine⟨_,[],Heap.get?_push_of_some _ gS,⟨#[],0,.fresh 0 0 led,rfl,(fun e he=>by simp at he),rfl,nodup_nil,by unfold scanBound; decide,rfl,fun z=>?_,fun _ i j hij hj=>?_⟩,Nat.le_refl _,fun x=>⟨fun z=>(not_mem_nil z).elim,fun ⟨j,hj,_⟩=>by omega⟩⟩
     ·show led=true
      rw[<- hled,z]
      rfl
     ·exact absurd hj (Nat.not_lt_zero _)
    case hR =>
     intro s' m U
     obtain⟨h',g',d',tk',os'⟩:=s'
     obtain rfl:g'=s.gens:=m.gens
     obtain rfl:d'=s.drawn:=m.drawn
     obtain rfl:os'=s.os:=m.os
     show wpAny _ _ _ _ _ _
     refine wpAny_pure ?_
     show wpAny _ _ (ret Value.none) _ _ _
     refine wpAny_pure ⟨rfl,h',tk',rfl,U,fun b o hb' e=>m.heap b o (fun z=>?_) (Heap.get?_push_of_some _ (Heap.get?_push_of_some _ e))⟩
     rcases List.mem_cons.mp z with z | z
     ·exact absurd z (Nat.ne_of_lt hb')
     ·rw[mem_singleton,Heap.size_push] at z
      exact absurd z (Nat.ne_of_lt (lt_succ_of_lt hb'))
   ·cases r2 with
    | error e=>exact hr2
    | ok fl2 =>
     cases fl2 with
     | ret r =>
      obtain⟨rfl,h',tk,rfl,U,kp⟩:=hr2
      repeat (any_goals (first | assumption | wp_step))
      exact k _ _ U kp
     | _=>exact hr2.elim
  | _=>exact hr.elim
end
end Ow
namespace Ow
open PySem PySem.Spec PyProof.Rows L2
theorem slot_setit:Slot "set_iterator" "__next__" "set_iterator.__next__" :=
 .of (owner:="set_iterator") (n:="__next__") (by rw[typeLookup_type,builtinLookup_eq_fast]; kernel_rfl) (by decide +kernel) (by decide +kernel) (by decide +kernel) (by first | exact .inl (by decide +kernel) | exact .inr (by decide +kernel)) (by rw[isSubtype_type]; kernel_rfl)
theorem db:entryFor table "set_iterator.__next__"=some Builtin.«set_iterator.__next__»:=entryFor_of_fast (by kernel_rfl)
theorem eJ (a:Value):argsOk "set_iterator.__next__" ⟨[a],[]⟩:=by unfold argsOk; kernel_rfl
theorem jW (a:Addr) (slot given ep:Nat):setNext a slot given ep=(do
  let (es,epoch,t) <- setState a
  if <- setsByText then
   if epoch != ep then unsupported "set_iterator.__next__:elements-changed"
   return ((<- setWalk a)[given]?).map fun e=>(e.2,slot)
  if !t.plain&&es.size > 1 then unsupported "set_iterator.__next__:the-table-is-plain-no-more"
  (if !t.led&&!es.isEmpty then unsupported "set:maker-not-led" else pure ():Sem Unit)
  let i:=SetTable.below t.place slot
  return match es[i]?,t.place[i]? with
   | some (_,x),some j=>some (x,j+1)
   | _,_=>none):=rfl
theorem qc (a:Addr):setWalk a=(do
  let (es,epoch,t) <- setState a
  if <- setsByText then return pickOrder ((<- ask).params.setOrder a epoch) es
  if !t.plain&&es.size > 1 then return (<- drawOrder es.size es.toList).toArray
  (if !t.led&&es.size > 1 then unsupported "set:maker-not-led" else pure ():Sem Unit)
  return es):=rfl
def itO (first:Value) (i:Nat) (S:Addr) (n ep:Nat):Obj:=⟨.type "set_iterator",none,.fields #[first,.int i 0,.ref S,.int n 0,.int ep 0],#[]⟩
section
variable {prog:Program}{w:World}{A:Around}{E:Value->Shared->Prop}{s:Shared}{S I:Addr}{es:Array (Int×Value)}{ep:Nat}{t:SetTable}
theorem fV {Q:Bool->Shared->Prop}(h:Q (w.params.followText "set-order") s):wpAny (model prog w) A setsByText Q E s:=by
 unfold setsByText
 exact wpAny_bind (wpAny_askSetting (wpAny_pure h))
theorem nextC {slot given:Nat}{e:Int×Value}{j:Nat}{Q:Option (Value×Nat)->Shared->Prop}(hS:s.heap.get? S=some ⟨.type "set",none,.set es ep t,#[]⟩) (hf:t.fits es.size=true) (hb:w.params.followText "set-order"=false) (hd:(!t.plain&&decide (es.size > 1))=false) (hl:t.led=true)
  (h:Q (match es[SetTable.below t.place slot]?,t.place[SetTable.below t.place slot]? with | some (_,x),some j=>some (x,j+1) | _,_=>none) s) :
  wpAny (model prog w) A (setNext S slot given ep) Q E s:=by
 rw[jW]
 refine wpAny_bind (wpAny_setState_of hS rfl hf (wpAny_bind (fV ?_)))
 rw[hb]
 simp only[Bool.false_eq_true,↓reduceIte]
 rw[hd,hl]
 simp only[Bool.false_eq_true,↓reduceIte,Bool.not_true,Bool.false_and]
 exact wpAny_pure h
theorem nextA {slot given:Nat}{Q:Option (Value×Nat)->Shared->Prop}(hS:s.heap.get? S=some ⟨.type "set",none,.set es ep t,#[]⟩) (hf:t.fits es.size=true) (hb:w.params.followText "set-order"=true)
  (h:Q (((pickOrder (w.params.setOrder S ep) es)[given]?).map fun e=>(e.2,slot)) s) :
  wpAny (model prog w) A (setNext S slot given ep) Q E s:=by
 rw[jW]
 refine wpAny_bind (wpAny_setState_of hS rfl hf (wpAny_bind (fV ?_)))
 rw[hb]
 simp only[bne_self_eq_false,Bool.false_eq_true,↓reduceIte]
 rw[qc]
 refine wpAny_bind (wpAny_bind (wpAny_setState_of hS rfl hf (wpAny_bind (fV ?_))))
 rw[hb]
 simp only[↓reduceIte]
 exact wpAny_bind (wpAny_askSetting (wpAny_pure (wpAny_pure h)))
theorem lU {slot i n:Nat}{x:Value}{slot':Nat}{Q:Option Value->Shared->Prop}(hI:s.heap.get? I=some (itO (.int slot 0) i S n ep)) (hS:s.heap.get? S=some ⟨.type "set",none,.set es ep t,#[]⟩) (hf:t.fits es.size=true) (hn:n=es.size)
  (hnx:∀ (A:Around) (E:Value->Shared->Prop) (Q:Option (Value×Nat)->Shared->Prop),Q (some (x,slot')) s->wpAny (model prog w) A (setNext S slot i ep) Q E s)
  (h:∀ h',h'.get? I=some (itO (.int slot' 0) (i+1) S n ep)->Heap.SameBut I s.heap h'->Q (some x) { s with heap:=h' }):wpAny (model prog w) A (pyNext (.ref I)) Q E s:=by
 unfold pyNext
 have ty:s.TypeIs (.ref I) "set_iterator":=⟨_,hI,rfl⟩
 refine wpAny_bind (wpAny_attempt (wpAny_callSpecial?_slot (name:=Str.ofString "__next__") ty slot_setit (wpAny_call_entry slot_setit ty db ?_ (eJ _))))
 unfold Builtin.«set_iterator.__next__»
 refine wpAny_bind (wpAny_pure ?_)
 dsimp only
 refine wpAny_bind (wpAny_fieldsOf hI rfl ?_)
 dsimp only
 refine wpAny_bind (wpAny_setEntries_of hS rfl hf ?_)
 subst hn
 simp only[bne_self_eq_false,Bool.false_eq_true,↓reduceIte]
 simp only[toNat_natCast]
 refine wpAny_bind (hnx _ _ _ ?_)
 dsimp only
 refine wpAny_bind (wpAny_setField hI rfl (by show 0<5; decide) ?_)
 have g1:=Heap.get?_update_self (Obj.mapFields (·.setIfInBounds 0 (rawInt slot'))) hI rfl
 refine wpAny_bind (wpAny_setField g1 rfl (by show 1<5; decide) ?_)
 have g2:=Heap.get?_update_self (Obj.mapFields (·.setIfInBounds 1 (rawInt ((i:Int)+1)))) g1 rfl
 exact wpAny_pure ⟨x,rfl,wpAny_pure (h _ g2 ((Heap.SameBut.update ..).trans (Heap.SameBut.update ..)))⟩
theorem sf {Q:Option Value->Shared->Prop}{o:Obj}{vs:Array Value}(hh:A.handled=none) (hI:s.heap.get? I=some o) (hd:o.data=.fields vs) (hz:2<vs.size) (h:∀ h',Heap.ExtBut I s.heap h'->Q none { s with heap:=h' }) :
  wpAny (model prog w) A.in1 (do
    setField (Value.ref I) 2 Value.none
    let e <- newExc (Value.type "StopIteration") []
    raiseNew e)
   (fun fin s'=>∃ v,fin=Fin.done (Flow.ret v)/\wpAny (model prog w) A (pure (some v)) Q E s')
   (fun e s'=>wpAny (model prog w) A (do if <- isInstance e (Value.type "StopIteration") then pure none else throw e) Q E s') s:=by
 refine wpAny_bind (wpAny_setField hI hd hz (wpAny_bind ?_))
 simp only[newExc,newTuple]
 refine wpAny_bind (wpAny_newObj_type ?_ (by size_fits))
 refine wpAny_bind (m:=firstArgMember _ _) (wpAny_of_eq (a:=Value.none) (by first | rfl | (simp only[firstArgMember]; rfl)) ?_)
 refine wpAny_newObj_type ?_ (by size_fits)
 simp only[raiseNew]
 refine wpAny_bind (wpAny_handled ?_)
 rw[show A.in1.handled=none from hh]
 refine wpAny_bind (wpAny_pure (wpAny_throw ?_))
 refine wpAny_bind (wpAny_isInstance (T:="StopIteration") (b:=true) ⟨_,Heap.get?_push_size _ rfl,rfl⟩ isSubtype_stop ?_)
 simp only[↓reduceIte]
 refine wpAny_pure (h _ fun b ob hb q=>?_)
 exact Heap.get?_push_of_some _ (Heap.get?_push_of_some _ ((Heap.get?_update_other _ _ (Ne.symm hb)).trans q))
theorem oQ {slot i n:Nat}{Q:Option Value->Shared->Prop}(hh:A.handled=none) (hI:s.heap.get? I=some (itO (.int slot 0) i S n ep)) (hS:s.heap.get? S=some ⟨.type "set",none,.set es ep t,#[]⟩) (hf:t.fits es.size=true) (hn:n=es.size)
  (hnx:∀ (A:Around) (E:Value->Shared->Prop) (Q:Option (Value×Nat)->Shared->Prop),Q none s->wpAny (model prog w) A (setNext S slot i ep) Q E s)
  (h:∀ h',Heap.ExtBut I s.heap h'->Q none { s with heap:=h' }):wpAny (model prog w) A (pyNext (.ref I)) Q E s:=by
 unfold pyNext
 have ty:s.TypeIs (.ref I) "set_iterator":=⟨_,hI,rfl⟩
 refine wpAny_bind (wpAny_attempt (wpAny_callSpecial?_slot (name:=Str.ofString "__next__") ty slot_setit (wpAny_call_entry slot_setit ty db ?_ (eJ _))))
 unfold Builtin.«set_iterator.__next__»
 refine wpAny_bind (wpAny_pure ?_)
 dsimp only
 refine wpAny_bind (wpAny_fieldsOf hI rfl ?_)
 dsimp only
 refine wpAny_bind (wpAny_setEntries_of hS rfl hf ?_)
 subst hn
 simp only[bne_self_eq_false,Bool.false_eq_true,↓reduceIte]
 simp only[toNat_natCast]
 refine wpAny_bind (hnx _ _ _ ?_)
 exact sf hh hI rfl (by show 2<5; decide) h
theorem sr {T:Addr}{ot:Obj}{ps:Array Value}{i n p:Nat}{tk:Tok}{e:Int×Value}{Q:Option Value->Shared->Prop}(hI:s.heap.get? I=some (itO (.ref T) i S n ep)) (hS:s.heap.get? S=some ⟨.type "set",none,.set es ep t,#[]⟩) (hf:t.fits es.size=true) (hn:n=es.size)
  (hT:s.heap.get? T=some ot) (hd:∃ m,ot.data=.seq ps m) (hp:ps[i]?=some (.int p tk)) (he:es[p]?=some e)
  (h:∀ h',h'.get? I=some (itO (.ref T) (i+1) S n ep)->Heap.SameBut I s.heap h'->Q (some e.2) { s with heap:=h' }):wpAny (model prog w) A (pyNext (.ref I)) Q E s:=by
 unfold pyNext
 have ty:s.TypeIs (.ref I) "set_iterator":=⟨_,hI,rfl⟩
 refine wpAny_bind (wpAny_attempt (wpAny_callSpecial?_slot (name:=Str.ofString "__next__") ty slot_setit (wpAny_call_entry slot_setit ty db ?_ (eJ _))))
 unfold Builtin.«set_iterator.__next__»
 refine wpAny_bind (wpAny_pure ?_)
 dsimp only
 refine wpAny_bind (wpAny_fieldsOf hI rfl ?_)
 dsimp only
 refine wpAny_bind (wpAny_setEntries_of hS rfl hf ?_)
 subst hn
 simp only[bne_self_eq_false,Bool.false_eq_true,↓reduceIte]
 simp only[toNat_natCast]
 obtain⟨m,hd⟩:=hd
 refine wpAny_bind (wpAny_seqItems hT hd ?_)
 dsimp only
 rw[hp]
 dsimp only
 unfold setNextDrawn
 refine wpAny_bind (wpAny_bind (wpAny_setState_of hS rfl hf ?_))
 simp only[bne_self_eq_false,Bool.false_eq_true,↓reduceIte,toNat_natCast,he]
 refine wpAny_pure (wpAny_bind (wpAny_setField hI rfl (by show 1<5; decide) ?_))
 have g2:=Heap.get?_update_self (Obj.mapFields (·.setIfInBounds 1 (rawInt ((i:Int)+1)))) hI rfl
 exact wpAny_pure ⟨_,rfl,wpAny_pure (h _ g2 (Heap.SameBut.update ..))⟩
theorem draw_end {T:Addr}{ot:Obj}{ps:Array Value}{i n:Nat}{Q:Option Value->Shared->Prop}(hh:A.handled=none) (hI:s.heap.get? I=some (itO (.ref T) i S n ep)) (hS:s.heap.get? S=some ⟨.type "set",none,.set es ep t,#[]⟩) (hf:t.fits es.size=true) (hn:n=es.size)
  (hT:s.heap.get? T=some ot) (hd:∃ m,ot.data=.seq ps m) (hp:ps[i]?=none)
  (h:∀ h',Heap.ExtBut I s.heap h'->Q none { s with heap:=h' }):wpAny (model prog w) A (pyNext (.ref I)) Q E s:=by
 unfold pyNext
 have ty:s.TypeIs (.ref I) "set_iterator":=⟨_,hI,rfl⟩
 refine wpAny_bind (wpAny_attempt (wpAny_callSpecial?_slot (name:=Str.ofString "__next__") ty slot_setit (wpAny_call_entry slot_setit ty db ?_ (eJ _))))
 unfold Builtin.«set_iterator.__next__»
 refine wpAny_bind (wpAny_pure ?_)
 dsimp only
 refine wpAny_bind (wpAny_fieldsOf hI rfl ?_)
 dsimp only
 refine wpAny_bind (wpAny_setEntries_of hS rfl hf ?_)
 subst hn
 simp only[bne_self_eq_false,Bool.false_eq_true,↓reduceIte]
 simp only[toNat_natCast]
 obtain⟨m,hd⟩:=hd
 refine wpAny_bind (wpAny_seqItems hT hd ?_)
 dsimp only
 rw[hp]
 dsimp only
 refine wpAny_bind (wpAny_setField hI rfl (by show 0<5; decide) ?_)
 have g1:=Heap.get?_update_self (Obj.mapFields (·.setIfInBounds 0 (rawInt 0))) hI rfl
 refine sf (s:={ s with heap:=s.heap.update I (Obj.mapFields (·.setIfInBounds 0 (rawInt 0))) }) hh g1 rfl (by show 2<5; decide) fun h' x=>h h' fun b o hb q=>x b o hb ((Heap.get?_update_other _ _ (Ne.symm hb)).trans q)
end
end Ow
namespace Ow
open PySem PySem.Spec PyProof.Rows L2
theorem dH:Slot "set_iterator" "__iter__" "set_iterator.__iter__" :=
 .of (owner:="set_iterator") (n:="__iter__") (by rw[typeLookup_type,builtinLookup_eq_fast]; kernel_rfl) (by decide +kernel) (by decide +kernel) (by decide +kernel) (by first | exact .inl (by decide +kernel) | exact .inr (by decide +kernel)) (by rw[isSubtype_type]; kernel_rfl)
theorem jf (a:Value):argsOk "set_iterator.__iter__" ⟨[a],[]⟩:=by unfold argsOk; kernel_rfl
theorem iE:entryFor table "set_iterator.__iter__"=some Builtin.«dict_keyiterator.__iter__» :=
 entryFor_alias (id':="dict_keyiterator.__iter__") (by kernel_rfl) rfl (by decide +kernel) (by kernel_rfl)
theorem gR {α:Type}:∀ (l:List α) (i:Nat) (h:i<l.length),List.Perm ([l[i]]++l.eraseIdx i) l
 | x::l,0,h=>.refl _
 | x::l,i+1,h=>(List.Perm.swap x _ _).trans (.cons x (gR l i (Nat.lt_of_succ_lt_succ h)))
theorem lB {α:Type}(f:Nat->Nat):∀ (n k:Nat) (l:List α) (out:Array α),l.length=n->List.Perm (pickOrder.go f n k l out).toList (out.toList++l)
 | 0,k,l,out,h=>by
  obtain rfl:l=[]:=List.length_eq_zero_iff.mp h
  show List.Perm out.toList _
  rw[append_nil]
 | n+1,k,l,out,h=>by
  have hlt:f k%l.length<l.length:=Nat.mod_lt _ (by omega)
  unfold pickOrder.go
  rw[List.getElem?_eq_getElem hlt]
  dsimp only
  refine(lB f n (k+1) (l.eraseIdx (f k%l.length)) (out.push l[f k%l.length]) (by rw[List.length_eraseIdx_of_lt hlt]; omega)).trans ?_
  rw[Array.toList_push,List.append_assoc]
  exact List.Perm.append_left _ (gR l _ hlt)
theorem eU {α:Type}(f:Nat->Nat) (xs:Array α):List.Perm (pickOrder f xs).toList xs.toList:=by
 have z:=lB f xs.size 0 xs.toList #[] (Array.length_toList)
 exact z
section
variable {prog:Program}{w:World}{A:Around}{E:Value->Shared->Prop}{s:Shared}{S I:Addr}{es:Array (Int×Value)}{ep:Nat}{t:SetTable}
theorem gU {first:Value}{i n:Nat}{Q:Value->Shared->Prop}(hI:s.heap.get? I=some (itO first i S n ep)) (h:Q (.ref I) s):wpAny (model prog w) A (pyIter (.ref I)) Q E s:=by
 have ty:s.TypeIs (.ref I) "set_iterator":=⟨_,hI,rfl⟩
 refine wpAny_pyIter_slot ty dH (wpAny_call_entry dH ty iE ?_ (jf _))
 show wpAny _ _ (ret (.ref I)) _ _ s
 exact wpAny_pure ⟨_,rfl, "set_iterator",_,ty,slot_setit.lookup,h⟩
abbrev stO (es:Array (Int×Value)) (ep:Nat) (t:SetTable):Obj:=⟨.type "set",none,.set es ep t,#[]⟩
theorem walkC (hh:A.handled=none) (hne:S≠I) (hf:t.fits es.size=true) (hb:w.params.followText "set-order"=false) (hd:(!t.plain&&decide (es.size > 1))=false) (hl:t.led=true) (R:Rise t.place) :
  Walks prog w A I [I,S] [I] es.size (fun i v=>(es.toList.map (·.2))[i]?=some v) (fun i h=>h.get? S=some (stO es ep t)/\∃ slot:Nat,h.get? I=some (itO (.int slot 0) i S es.size ep)/\(∀ k,k<i->t.place.getD k 0<slot)/\∀ k,i<=k->k<t.place.size->slot<=t.place.getD k 0):=by
 have hsz:t.place.size=es.size:=by
  simp only[SetTable.fits,Bool.and_eq_true,beq_iff_eq] at hf
  exact hf.1
 refine⟨fun b hb=>by simp at hb; simp[hb],fun i h h' ⟨g1,slot,g2,r⟩ k=>⟨k S (by simp) _ g1,slot,k I (by simp) _ g2,r⟩,fun i s Q E hi ⟨g1,slot,g2,r1,r2⟩ hQ=>?_,fun s Q E ⟨g1,slot,g2,r1,r2⟩ hQ=>?_,fun i s Q E ⟨g1,slot,g2,_⟩ hQ=>gU g2 hQ⟩
 ·have bl:SetTable.below t.place slot=i:=oY R (by omega) r1 r2
  have hj:t.place[i]?=some (t.place.getD i 0):=by
   rw[Array.getD_eq_getD_getElem?,Array.getElem?_eq_getElem (show i<t.place.size by omega)]
   rfl
  have he:es[i]?=some es[i]:=Array.getElem?_eq_getElem hi
  refine lU (x:=es[i].2) (slot':=t.place.getD i 0+1) g2 g1 hf rfl (fun A E Q q=>nextC (e:=es[i]) (j:=0) g1 hf hb hd hl (by rw[bl,he,hj]; exact q)) fun h' g3 sb=>hQ _ h' s.toks ?_ ⟨(sb.2 S hne).trans g1,_,g3,fun k hk=>?_,fun k h1 h2=>?_⟩ fun b o hb q=>(sb.2 b fun z=>hb (by simp[z])).trans q
  ·rw[List.getElem?_map,Array.getElem?_toList,he]
   rfl
  ·by_cases e:k=i
   ·rw[e]; exact lt_succ_self _
   ·have:=R k i (by omega) (by omega)
    omega
  ·exact R i k (by omega) h2
 ·have bl:SetTable.below t.place slot=es.size:=oY R (by omega) r1 r2
  refine oQ hh g2 g1 hf rfl (fun A E Q q=>nextC (e:=(0,.none)) (j:=0) g1 hf hb hd hl (by rw[bl,Array.getElem?_eq_none (Nat.le_refl _)]; exact q)) fun h' ex=>hQ h' s.toks fun b o hb q=>ex b o (fun z=>hb (by simp[z])) q
theorem walkA (hh:A.handled=none) (hne:S≠I) (hf:t.fits es.size=true) (hb:w.params.followText "set-order"=true) :
  Walks prog w A I [I,S] [I] es.size (fun i v=>((pickOrder (w.params.setOrder S ep) es).toList.map (·.2))[i]?=some v) (fun i h=>h.get? S=some (stO es ep t)/\∃ slot:Nat,h.get? I=some (itO (.int slot 0) i S es.size ep)):=by
 have hsz:(pickOrder (w.params.setOrder S ep) es).size=es.size:=by
  rw[<- Array.length_toList,(eU _ es).length_eq,Array.length_toList]
 refine⟨fun b hb=>by simp at hb; simp[hb],fun i h h' ⟨g1,slot,g2⟩ k=>⟨k S (by simp) _ g1,slot,k I (by simp) _ g2⟩,fun i s Q E hi ⟨g1,slot,g2⟩ hQ=>?_,fun s Q E ⟨g1,slot,g2⟩ hQ=>?_,fun i s Q E ⟨g1,slot,g2⟩ hQ=>gU g2 hQ⟩
 ·have he:(pickOrder (w.params.setOrder S ep) es)[i]?=some (pickOrder (w.params.setOrder S ep) es)[i]:=Array.getElem?_eq_getElem (by omega)
  refine lU (x:=(pickOrder (w.params.setOrder S ep) es)[i].2) (slot':=slot) g2 g1 hf rfl (fun A E Q q=>nextA g1 hf hb (by rw[he]; exact q)) fun h' g3 sb=>hQ _ h' s.toks ?_ ⟨(sb.2 S hne).trans g1,slot,g3⟩ fun b o hb q=>(sb.2 b fun z=>hb (by simp[z])).trans q
  rw[List.getElem?_map,Array.getElem?_toList,he]
  rfl
 ·refine oQ hh g2 g1 hf rfl (fun A E Q q=>nextA g1 hf hb (by rw[Array.getElem?_eq_none (by omega)]; exact q)) fun h' ex=>hQ h' s.toks fun b o hb q=>ex b o (fun z=>hb (by simp[z])) q
theorem walkB {T:Addr}{ps:List Nat}{ot:Obj}(hh:A.handled=none) (hne:S≠I) (hnT:T≠I) (hf:t.fits es.size=true) (hd:∃ m,ot.data=.seq (ps.map fun i:Nat=>rawInt i).toArray m) (hp:List.Perm ps (List.range es.size)) :
  Walks prog w A I [I,S,T] [I] es.size (fun i v=>(ps.map fun p=>(es.getD p (0,.none)).2)[i]?=some v) (fun i h=>h.get? S=some (stO es ep t)/\h.get? T=some ot/\h.get? I=some (itO (.ref T) i S es.size ep)):=by
 have hlen:ps.length=es.size:=by rw[hp.length_eq,length_range]
 refine⟨fun b hb=>by simp at hb; simp[hb],fun i h h' ⟨g1,g2,g3⟩ k=>⟨k S (by simp) _ g1,k T (by simp) _ g2,k I (by simp) _ g3⟩,fun i s Q E hi ⟨g1,g2,g3⟩ hQ=>?_,fun s Q E ⟨g1,g2,g3⟩ hQ=>?_,fun i s Q E ⟨g1,g2,g3⟩ hQ=>gU g3 hQ⟩
 ·have hi':i<ps.length:=by omega
  have hpi:ps[i]<es.size:=List.mem_range.mp (hp.mem_iff.mp (getElem_mem hi'))
  have he:es[ps[i]]?=some es[ps[i]]:=Array.getElem?_eq_getElem hpi
  refine sr (p:=ps[i]) (tk:=0) (e:=es[ps[i]]) g3 g1 hf rfl g2 hd (by rw[List.getElem?_toArray,List.getElem?_map,List.getElem?_eq_getElem hi']; rfl) he fun h' g4 sb=>hQ _ h' s.toks ?_ ⟨(sb.2 S hne).trans g1,(sb.2 T hnT).trans g2,g4⟩ fun b o hb q=>(sb.2 b fun z=>hb (by simp[z])).trans q
  rw[List.getElem?_map,List.getElem?_eq_getElem hi']
  show some (es.getD ps[i] (0,.none)).2=some es[ps[i]].2
  rw[Array.getD_eq_getD_getElem?,he]
  rfl
 ·refine draw_end hh g3 g1 hf rfl g2 hd (by rw[List.getElem?_toArray,List.getElem?_eq_none (by rw[length_map]; omega)]) fun h' ex=>hQ h' s.toks fun b o hb q=>ex b o (fun z=>hb (by simp[z])) q
theorem pL (es:Array (Int×Value)):(List.range es.size).map (fun p=>(es.getD p (0,.none)).2)=es.toList.map (·.2):=by
 refine List.ext_getElem (by simp) fun i h1 h2=>?_
 have hi:i<es.size:=by simpa using h1
 simp[Array.getD_eq_getD_getElem?,Array.getElem?_eq_getElem hi]
theorem eV {α:Type}{Q:List α->Shared->Prop}:∀ (n:Nat) (xs:List α) (s:Shared),xs.length=n->(∀ ys d,List.Perm ys xs->Q ys { s with drawn:=d })->wpAny (model prog w) A (drawOrder n xs) Q E s
 | 0,xs,s,h,k=>by
  obtain rfl:xs=[]:=List.length_eq_zero_iff.mp h
  exact wpAny_pure (k [] s.drawn (.refl _))
 | n+1,[],s,h,k=>by cases h
 | n+1,x::xs,s,h,k=>by
  unfold drawOrder
  refine wpAny_bind fun Γ p hΓ=>?_
  show Sem.wp _ _ (Sem.choose .order (x::xs).length Sem.pure) _ _ _ _
  rw[Sem.wp_choose]
  refine⟨by rw[length_cons]; omega,?_⟩
  generalize hc:(model prog w).w.draws .order (s.drawn.get .order)%(x::xs).length=c
  have hlt:c<(x::xs).length:=by rw[<- hc]; exact Nat.mod_lt _ (by rw[length_cons]; omega)
  have k2:wpAny (model prog w) A (do
    match (x::xs)[c]? with
    | some x1=>return x1::(<- drawOrder n ((x::xs).eraseIdx c))
    | none=>unsupported "internal:drawOrder") Q E { s with drawn:=s.drawn.bump .order }:=by
   rw[List.getElem?_eq_getElem hlt]
   refine wpAny_bind (eV n _ _ (by rw[List.length_eraseIdx_of_lt hlt]; omega) fun ys d pm=>wpAny_pure (k _ d ?_))
   exact(List.Perm.cons _ pm).trans (gR (x::xs) c hlt)
  rw[Sem.wp_pure]
  exact k2
end
end Ow
namespace Ow
open PySem PySem.Spec PyProof.Rows L2
theorem eS:Slot "set" "__iter__" "set.__iter__" :=
 .of (owner:="set") (n:="__iter__") (by rw[typeLookup_type,builtinLookup_eq_fast]; kernel_rfl) (by decide +kernel) (by decide +kernel) (by decide +kernel) (by first | exact .inl (by decide +kernel) | exact .inr (by decide +kernel)) (by rw[isSubtype_type]; kernel_rfl)
theorem jQ (a:Value):argsOk "set.__iter__" ⟨[a],[]⟩:=by unfold argsOk; kernel_rfl
theorem jq:entryFor table "set.__iter__"=some Builtin.«frozenset.__iter__»:=entryFor_alias (id':="frozenset.__iter__") (by kernel_rfl) rfl (by decide +kernel) (by kernel_rfl)
theorem ox (a:Addr):setDrawn a=(do
  let (es,_,t) <- setState a
  let byText <- setsByText
  return !byText&&(!t.plain&&es.size > 1)):=rfl
theorem i9 (a:Addr):setEpoch a=(do return (<- setState a).2.1):=rfl
def Yields (es:Array (Int×Value)) (vs:List Value):Prop:=List.Perm vs (es.toList.map (·.2))
section
variable {prog:Program}{w:World}{A:Around}{E:Value->Shared->Prop}{s:Shared}{S:Addr}{es:Array (Int×Value)}{ep:Nat}{t:SetTable}
theorem iter_set {A':Around}{Q:Value->Shared->Prop}(hh:A'.handled=none) (hS:s.heap.get? S=some (stO es ep t)) (hf:t.fits es.size=true) (hzz:es.size<scanBound) (hled:w.params.followText "set-order"=false->t.led=true) (hg:Good t)
  (k:∀ (I:Addr) (s':Shared) (vs:List Value) (fp:List Addr) (St:Nat->Heap->Prop),s'.gens=s.gens->s'.os=s.os->s'.toks=s.toks->(∀ b o,s.heap.get? b=some o->s'.heap.get? b=some o)->s.heap.objs.size<=I->(∀ b∈fp,b<s'.heap.objs.size/\(b=S\/s.heap.objs.size<=b))->I∈fp ->
   Yields es vs->Walks prog w A' I fp [I] es.size (fun i v=>vs[i]?=some v) St->St 0 s'.heap->Q (.ref I) s') :
  wpAny (model prog w) A (pyIter (.ref S)) Q E s:=by
 have ty:s.TypeIs (.ref S) "set":=⟨_,hS,rfl⟩
 have lS:S<s.heap.objs.size:=Heap.lt_size hS
 refine wpAny_pyIter_slot ty eS (wpAny_call_entry eS ty jq ?_ (jQ _))
 unfold Builtin.«frozenset.__iter__» Builtin.Frozenset.slot0 Builtin.Frozenset.sizeOf
 refine wpAny_bind (wpAny_pure (wpAny_bind (wpAny_bind (wpAny_setEntries_of hS rfl hf (wpAny_pure ?_)))))
 rw[ox]
 refine wpAny_bind (wpAny_bind (wpAny_setState_of hS rfl hf (wpAny_bind (fV (wpAny_pure ?_)))))
 by_cases hdr:(!w.params.followText "set-order"&&(!t.plain&&decide (es.size > 1)))=true
 ·rw[if_pos hdr]
  refine wpAny_bind (eV es.size (List.range es.size) s (length_range ..) fun ps d pm=>?_)
  have hbt:w.params.followText "set-order"=false:=by
   cases z:w.params.followText "set-order" with
   | false=>rfl
   | true=>rw[z] at hdr; cases hdr
  refine wpAny_bind (wpAny_newTuple ?_ (by rw[length_map,pm.length_eq,length_range]; exact fits_of_scanBound hzz))
  dsimp only
  generalize hot:({ cls:=.type "tuple",data:=.seq (ps.map fun i:Nat=>rawInt i).toArray }:Obj)=ot
  have gT:(s.heap.push ot).get? s.heap.objs.size=some ot:=Heap.get?_push_size _ (by rw[<- hot]; rfl)
  have gS1:(s.heap.push ot).get? S=some (stO es ep t):=Heap.get?_push_of_some _ hS
  rw[i9]
  refine wpAny_bind (wpAny_bind (wpAny_setState_of gS1 rfl hf (wpAny_pure ?_)))
  refine wpAny_bind (wpAny_newObj_type (wpAny_pure ?_))
  have gI:((s.heap.push ot).push (itO (.ref s.heap.objs.size) 0 S es.size ep)).get? (s.heap.push ot).objs.size=some (itO (.ref s.heap.objs.size) 0 S es.size ep):=Heap.get?_push_size _ rfl
  refine⟨_,rfl, "set_iterator",_,⟨_,gI,rfl⟩,slot_setit.lookup,?_⟩
  have lI:(s.heap.push ot).objs.size=s.heap.objs.size+1:=Heap.size_push _ _
  refine k _ _ (ps.map fun p=>(es.getD p (0,.none)).2) [(s.heap.push ot).objs.size,S,s.heap.objs.size] _ rfl rfl rfl (fun b o q=>Heap.get?_push_of_some _ (Heap.get?_push_of_some _ q)) (by rw[lI]; exact le_succ _) (fun b hb=>?_) (mem_cons_self ..) ?_
   (walkB hh (by rw[lI]; exact Nat.ne_of_lt (lt_succ_of_lt lS)) (by rw[lI]; exact Nat.ne_of_lt (lt_succ_self _)) hf (ot:=ot) (by rw[<- hot]; exact⟨_,rfl⟩) pm) ⟨Heap.get?_push_of_some _ gS1,Heap.get?_push_of_some _ gT,gI⟩
  ·show b<((s.heap.push ot).push _).objs.size/\_
   rw[Heap.size_push,lI]
   rcases List.mem_cons.mp hb with z | hb
   ·rw[z,lI]; exact⟨lt_succ_self _,.inr (le_succ _)⟩
   rcases List.mem_cons.mp hb with z | hb
   ·rw[z]; exact⟨lt_succ_of_lt (lt_succ_of_lt lS),.inl rfl⟩
   ·rw[mem_singleton] at hb
    rw[hb]; exact⟨lt_succ_of_lt (lt_succ_self _),.inr (Nat.le_refl _)⟩
  ·show List.Perm _ _
   rw[<- pL]
   exact pm.map _
 ·rw[if_neg hdr]
  refine wpAny_bind (wpAny_pure ?_)
  rw[i9]
  refine wpAny_bind (wpAny_bind (wpAny_setState_of hS rfl hf (wpAny_pure ?_)))
  refine wpAny_bind (wpAny_newObj_type (wpAny_pure ?_))
  have gI:(s.heap.push (itO (.int 0 0) 0 S es.size ep)).get? s.heap.objs.size=some (itO (.int 0 0) 0 S es.size ep):=Heap.get?_push_size _ rfl
  refine⟨_,rfl, "set_iterator",_,⟨_,gI,rfl⟩,slot_setit.lookup,?_⟩
  have nI:S≠s.heap.objs.size:=Nat.ne_of_lt lS
  have fpO:∀ b∈[s.heap.objs.size,S],b<(s.heap.push (itO (.int 0 0) 0 S es.size ep)).objs.size/\(b=S\/s.heap.objs.size<=b):=fun b hb=>by
   rw[Heap.size_push]
   rcases List.mem_cons.mp hb with z | hb
   ·rw[z]; exact⟨lt_succ_self _,.inr (Nat.le_refl _)⟩
   ·rw[mem_singleton] at hb
    rw[hb]; exact⟨lt_succ_of_lt lS,.inl rfl⟩
  cases hbt:w.params.followText "set-order" with
  | true =>
   exact k _ _ ((pickOrder (w.params.setOrder S ep) es).toList.map (fun e:Int×Value=>e.2)) [s.heap.objs.size,S] _ rfl rfl rfl (fun b o q=>Heap.get?_push_of_some _ q) (Nat.le_refl _) fpO (mem_cons_self ..) ((eU _ es).map _) (walkA hh nI hf hbt) ⟨Heap.get?_push_of_some _ hS,0,gI⟩
  | false =>
   rw[hbt] at hdr
   have hd:(!t.plain&&decide (es.size > 1))=false:=by
    cases z:(!t.plain&&decide (es.size > 1)) with
    | false=>rfl
    | true=>rw[z] at hdr; exact absurd rfl hdr
   have R:Rise t.place:=by
    cases hp:t.plain with
    | true=>exact hg hp
    | false =>
     rw[hp] at hd
     have h1:¬ es.size > 1:=by simpa using hd
     have hsz:t.place.size=es.size:=by
      simp only[SetTable.fits,Bool.and_eq_true,beq_iff_eq] at hf
      exact hf.1
     intro i j hij hj
     omega
   exact k _ _ (es.toList.map (fun e:Int×Value=>e.2)) [s.heap.objs.size,S] _ rfl rfl rfl (fun b o q=>Heap.get?_push_of_some _ q) (Nat.le_refl _) fpO (mem_cons_self ..) (List.Perm.refl _) (walkC hh nI hf hbt hd (hled hbt) R) ⟨Heap.get?_push_of_some _ hS,0,gI,(fun k hk=>absurd hk (Nat.not_lt_zero _)),fun k _ _=>zero_le _⟩
end
end Ow
namespace Ow
open PySem PySem.Spec PyProof.Rows L2
abbrev eL:Obj:={ cls:=.type "list",data:=.seq ([]:List Value).toArray }
section
variable {prog:Program}{w:World}{A:Around}{E:Value->Shared->Prop}{s:Shared}{S:Addr}{es:Array (Int×Value)}{ep:Nat}{t:SetTable}
theorem hint_set {Q:Bool->Shared->Prop}(hS:s.heap.get? S=some (stO es ep t)) (h:Q false s):wpAny (model prog w) A (Builtin.List.listLengthHint (.ref S)) Q E s:=by
 have ty:s.TypeIs (.ref S) "set":=⟨_,hS,rfl⟩
 unfold Builtin.List.listLengthHint
 refine wpAny_bind (wpAny_specialOf ty PySem.F.slot_set_len.lookup ?_)
 (generalize hid:("set.__len__":String)=id0; (fail_if_success (clear hid id0)); wp_delta; rw[show splitId id0=some ("set","__len__") from by subst hid; decide +kernel]; subst hid)
 refine wpAny_bind (wpAny_isInstance (b:=true) ty (by rw[isSubtype_type]; kernel_rfl) ?_)
 simp only[Bool.not_true,Bool.false_eq_true,if_false]
 rw[if_pos (by decide +kernel)]
 exact wpAny_bind (wpAny_typeOf ty (wpAny_pure h))
theorem mV {Q:List Value->Shared->Prop}(hh:A.handled=none) (hS:s.heap.get? S=some (stO es ep t)) (hf:t.fits es.size=true) (hz:es.size<scanBound) (hled:w.params.followText "set-order"=false->t.led=true) (hg:Good t)
  (k:∀ (s':Shared) (acc:List Value),s'.gens=s.gens->s'.os=s.os->s.toks<=s'.toks->s.heap.objs.size<s'.heap.objs.size->(∀ b o,s.heap.get? b=some o->s'.heap.get? b=some o)->Yields es acc->Q acc s'):wpAny (model prog w) A (collect (.ref S)) Q E s:=by
 have lS:S<s.heap.objs.size:=Heap.lt_size hS
 unfold collect
 refine wpAny_bind (wpAny_runValue (codeAny_builtin F.entry_proto_collect ?_))
 rw[Around.under_plainId F.plain_proto_collect _]
 show wpAny _ A.in1 (newList [] >>= fun l=>again (.builtin "list.__iadd__" ⟨[l,.ref S],[]⟩)) _ _ s
 refine wpAny_bind (wpAny_newObj_type (wpAny_pure ⟨plainId_quiet F.plain_list_iadd _,codeAny_builtin F.entry_list_iadd ?_⟩))
 rw[Around.under_plainId F.plain_list_iadd _]
 have gL:(s.heap.push eL).get? s.heap.objs.size=some eL:=Heap.get?_push_size _ rfl
 have gS:(s.heap.push eL).get? S=some (stO es ep t):=Heap.get?_push_of_some _ hS
 have n1:Builtin.List.listSameRef (.ref s.heap.objs.size) (.ref S)=false:=by
  unfold Builtin.List.listSameRef
  exact beq_eq_false_iff_ne.mpr (Nat.ne_of_gt lS)
 show wpAny _ A.in1 (Builtin.List.listExtendWith (.ref s.heap.objs.size) (.ref S) (.ref s.heap.objs.size)) _ _ _
 unfold Builtin.List.listExtendWith
 refine wpAny_bind (wpAny_typeOf (T:="set") ⟨_,gS,rfl⟩ ?_)
 rw[if_neg (by rw[n1]; decide)]
 refine wpAny_bind (iter_set (A':=A.in1) hh gS hf hz hled hg fun I s1 vs fp St e1 e2 e3 kp le fpO If Y W st=>?_)
 have gS1:s1.heap.get? S=some (stO es ep t):=kp _ _ gS
 have gL1:s1.heap.get? s.heap.objs.size=some eL:=kp _ _ gL
 refine wpAny_bind (wpAny_holding (hint_set gS1 ?_))
 dsimp only
 rw[if_pos (by decide +kernel)]
 have lL:s.heap.objs.size∉fp:=fun z=>by
  rcases(fpO _ z).2 with q | q
  ·exact absurd q.symm (Nat.ne_of_lt lS)
  ·dsimp only at q
   rw[Heap.size_push] at q
   exact absurd q (Nat.not_succ_le_self _)
 refine wpAny_bind (wpAny_rule (wpAny_bind ?_))
 show wpAny _ A.in1 (updateSeq s.heap.objs.size (·.push .none) >>= fun _=>updateSeq s.heap.objs.size (·.pop)) _ _ _
 refine wpAny_bind (wpAny_updateSeq gL1 rfl ?_)
 have g2:=Heap.get?_update_self (Obj.mapSeq (·.push Value.none)) gL1 rfl
 refine wpAny_updateSeq g2 rfl ?_
 have g3:=Heap.get?_update_self (Obj.mapSeq (·.pop)) g2 rfl
 have oth:∀ b o,b≠s.heap.objs.size->s1.heap.get? b=some o->((s1.heap.update s.heap.objs.size (Obj.mapSeq (·.push Value.none))).update s.heap.objs.size (Obj.mapSeq (·.pop))).get? b=some o :=
  fun b o hb q=>(Heap.get?_update_other _ _ (Ne.symm hb)).trans ((Heap.get?_update_other _ _ (Ne.symm hb)).trans q)
 have W':=W.toS
 refine wpAny_pure ⟨plainId_quiet F.plain_extend_loop _,codeAny_extend_loopS W' (fits_of_scanBound hz) _ lL _ es.size 0 _ _ _ rfl (zero_le _)
  (W.frame 0 s1.heap _ st fun b hb o q=>oth b o (fun z=>lL (z ▸ hb)) q) g3 (ItemsOf.nil _) fun s' acc c' m gA it=>?_⟩
 show wpAny _ A (load s.heap.objs.size >>= _) _ _ s'
 refine wpAny_bind (wpAny_load gA (wpAny_pure (k s' acc.toList (m.gens.trans e1) (m.os.trans e2) (by have:=m.toks; have e3':s1.toks=s.toks:=e3; rw[<- e3']; exact this) (Heap.lt_size gA) (fun b o q=>?_) ?_)))
 ·have lb:=Heap.lt_size q
  refine m.heap b o (fun z=>?_) (oth b o (Nat.ne_of_lt lb) (kp b o (Heap.get?_push_of_some _ q)))
  rcases List.mem_cons.mp z with z | z
  ·exact absurd z (Nat.ne_of_lt lb)
  ·rw[mem_singleton] at z
   have le':s.heap.objs.size+1<=I:=by
    have q2:=le
    dsimp only at q2
    rw[Heap.size_push] at q2
    exact q2
   rw[z] at lb
   exact absurd (lt_of_lt_of_le lb (Nat.le_of_succ_le le')) (lt_irrefl _)
 ·have e4:acc.toList=vs:=by
   have lv:vs.length=es.size:=by rw[Y.length_eq,length_map,Array.length_toList]
   refine List.ext_getElem (by rw[Array.length_toList,it.1,lv]) fun i h1 h2=>?_
   have z:vs[i]?=some acc.toList[i]:=it.2 i acc.toList[i] (by rw[<- Array.getElem?_toList]; exact List.getElem?_eq_getElem h1)
   rw[List.getElem?_eq_getElem h2] at z
   exact(Option.some.inj z).symm
  rw[e4]
  exact Y
end
end Ow
namespace Ow
open PySem PySem.Spec PyProof.Rows L2
def intOf:Value->Int | .int k _=>k | _=>0
theorem qF:∀ {l:List Value},(∀ v∈l,∃ k tk,v=Value.int k tk)->IntsAre l (l.map intOf)
 | [],_=>.nil
 | v::r,h=>by
  obtain⟨k,tk,rfl⟩:=h v (mem_cons_self ..)
  exact .cons k tk (qF fun v hv=>h v (mem_cons_of_mem _ hv))
section
variable {prog:Program}{w:World}{A:Around}{E:Value->Shared->Prop}{s:Shared}{S:Addr}{o:Obj}{ks:List Int}
theorem nE {Q:Value->Shared->Prop}(hh:A.handled=none) (hS:s.heap.get? S=some o) (SI:SetI w o ks) (h64:ks.length<64)
  (k:∀ (p:Addr) (s':Shared) (out:List Value) (ns:List Int) (n:Nat),s'.gens=s.gens->s'.os=s.os->(∀ b u,s.heap.get? b=some u->s'.heap.get? b=some u)->s.heap.objs.size<=p->s'.heap.get? p=some (seqObj "list" out.toArray n)->IntsAre out ns->ns.Perm ks->ns.Pairwise (·<=·)->Q (.ref p) s') :
  wpAny (model prog w) A (call (.builtin "sorted") [.ref S]) Q E s:=by
 obtain⟨es,ep,t,rfl,al,rfl,nd,hz,hf,led,gd⟩:=SI
 refine Calls.call_function_entry kind_sorted plain_sorted entry_sorted (args_sorted1 _) ?_
 unfold Builtin.«sorted»
 refine wpAny_bind (m:=checkCount "sorted" 1 1 _) (wpAny_pure (wpAny_bind (mV (A:=A.in1) hh hS hf hz led gd fun s1 acc e1 e2 e3 lt kp Y=>?_)))
 have ai:∀ v∈acc,∃ k tk,v=Value.int k tk:=fun v hv=>by
  obtain⟨e,he,rfl⟩:=List.mem_map.mp (Y.mem_iff.mp hv)
  obtain⟨k,tk,rfl⟩:=al e he
  exact⟨k,tk,rfl⟩
 have la:acc.length=es.size:=by rw[Y.length_eq,length_map,Array.length_toList]
 have l64:acc.length<64:=by rw[la]; rw[length_map,Array.length_toList] at h64; exact h64
 refine wpAny_bind (wpAny_newList ?_ (by rw[sizeLine_eq]; omega))
 have gL:(s1.heap.push (seqObj "list" acc.toArray 0)).get? s1.heap.objs.size=some (seqObj "list" acc.toArray 0):=Heap.get?_push_size _ rfl
 refine wpAny_bind (wpAny_holding (wpAny_call_entry slot_list_sort ⟨_,gL,rfl⟩ entry_list_sort (list_sort_tree gL (qF ai) l64 fun out ns a1 a2 a3=>⟨_,rfl,?_⟩) (args_list_sort _)))
 obtain⟨m,gO⟩:∃ m,(sortedHeap (s1.heap.push (seqObj "list" acc.toArray 0)) s1.heap.objs.size acc out).get? s1.heap.objs.size=some (seqObj "list" out m):=sortedHeap_at gL
 have lt1:s.heap.objs.size<=s1.heap.objs.size:=Nat.le_of_lt lt
 refine wpAny_pure ⟨_,rfl,k _ _ out.toList ns m e1 e2 (fun b u q=>?_) lt1 ?_ a1 (a2.trans ?_) a3⟩
 ·have q1:=kp b u q
  exact(sortedHeap_old (Nat.ne_of_lt (Heap.lt_size q1)) (by rw[size_push']; exact lt_succ_of_lt (Heap.lt_size q1))).trans (Heap.get?_push_of_some _ q1)
 ·exact gO
 ·have z:=Y.map intOf
  rw[map_map] at z
  refine z.trans (List.Perm.of_eq (List.map_congr_left fun e he=>?_))
  obtain⟨k,tk,rfl⟩:=al e he
  rfl
end
def sI (w:World) (p:Addr) (ns:List Int):HO:=.ext fun h=>∃ o ks,h.get? p=some o/\SetI w o ks/\(∀ x,x∈ks ↔ x∈ns)/\ks.length<=ns.length
theorem dN:∀ {ns:List Int}{us:List Value},Vals (ns.map V.int) us->IntsAre us ns
 | [],us,r=>by cases r; exact .nil
 | n::ns,us,r=>by
  cases r with
  | cons h r =>
   obtain⟨t,rfl⟩:=h
   exact .cons n t (dN r)
theorem rK {us:List Value}{ns:List Int}(h:IntsAre us ns):Vals (ns.map V.int) us:=by
 induction h with
 | nil=>exact .nil
 | cons n t _ ih=>exact .cons ⟨t,rfl⟩ ih
theorem mem_getD {ns:List Int}{x:Int}:(∃ j,j<ns.length/\ns.getD j 0=x) ↔ x∈ns:=by
 constructor
 ·rintro ⟨j,hj,rfl⟩
  rw[getD_eq_getElem?_getD,List.getElem?_eq_getElem hj]
  exact getElem_mem hj
 ·intro h
  obtain⟨j,hj,rfl⟩:=List.mem_iff_getElem.mp h
  exact⟨j,hj,by rw[getD_eq_getElem?_getD,List.getElem?_eq_getElem hj]; rfl⟩
theorem call_set {X:Cx}(hh:X.A.handled=none):fF X (.type "set") (fun xs H Q=>∃ (l:Addr) (ns:List Int),xs=[.ref l]/\SqL X.K H l (ns.map V.int)/\ns.length<1000/\∀ p,H p=none->Q (.ref p) (upd H p (sI X.w p ns))):=by
 intro pins s σ H xs us Q I r h
 obtain⟨l,ns,rfl,hl,hn,k⟩:=h
 obtain⟨u,rfl,ru⟩:=r.one
 cases (show u=Value.ref l from ru)
 obtain⟨its,rv,pl,_⟩:=I.list hl
 have hi:=dN rv
 have le:its.length=ns.length:=by have:=rv.length; rw[length_map] at this; exact this.symm
 refine qQ hh pl.isList (by simpa using hi) (by rw[size_toArray,le]; unfold scanBound; omega) fun h' tk U kp=>?_
 obtain⟨o,ks,go,SI,lk,mem⟩:=U
 rw[size_toArray,le] at lk
 have ok:ObjOk X.prog X.w (upd H s.heap.objs.size (sI X.w s.heap.objs.size ns)) h' s.heap.objs.size (sI X.w s.heap.objs.size ns) :=
  ⟨⟨o,ks,go,SI,fun x=>by rw[mem x,size_toArray,le]; exact mem_getD,lk⟩,⟨o,go⟩,fun h1 h2 ⟨o1,k1,g1,r1⟩ q=>⟨o1,k1,q _ g1,r1⟩⟩
 exact⟨.ref s.heap.objs.size,_,I.laid (fun b u q=>kp b u (Heap.lt_size q) q) (Nat.le_refl _) ok,rfl,k _ (I.hok.fresh (Nat.le_refl _))⟩
theorem strict {ns:List Int}(h:ns.Pairwise (·<=·)) (nd:ns.Nodup):ns.Pairwise (·<·):=by
 refine(h.and nd).imp fun {a b} ⟨h1,h2⟩=>?_
 exact Int.lt_iff_le_and_ne.mpr ⟨h1,h2⟩
theorem iY {X:Cx}(hh:X.A.handled=none):fF X (.builtin "sorted") (fun xs H Q=>∃ (p:Addr) (ns:List Int),xs=[.ref p]/\H p=some (sI X.w p ns)/\ns.length<64/\∀ (q:Addr) (zs:List Int),H q=none->zs.Pairwise (·<·)->(∀ x,x∈zs ↔ x∈ns)->Q (.ref q) (upd H q (.lst (zs.map V.int)))):=by
 intro pins s σ H xs us Q I r h
 obtain⟨p,ns,rfl,hp,hn,k⟩:=h
 obtain⟨u,rfl,ru⟩:=r.one
 cases (show u=Value.ref p from ru)
 obtain⟨⟨o,ks,go,SI,mem,lk⟩,_⟩:=I.hok p _ hp
 have nd:ks.Nodup:=by
  obtain⟨_,_,_,_,_,_,nd,_⟩:=SI
  exact nd
 refine nE hh go SI (by omega) fun q s' out zs n e1 e2 kp le gq iz pm pw=>?_
 have fr:H q=none:=I.hok.fresh le
 have hb:AllBare s'.gens:=by rw[e1]; exact I.bare
 have lz:zs.length=ks.length:=pm.length_eq
 have I2:=I.call' (H':=upd H q (.lst (zs.map V.int))) (s':=s') (ch:=[]) e2 (Un.laid kp le fr) (I.hok.laid kp le ⟨by rw[length_map,sizeLine_eq]; omega,out,n,rK iz,gq⟩) hb fun b z=>nomatch z
 exact⟨.ref q,_,I2,rfl,k q zs fr (strict pw (pm.nodup_iff.mpr nd)) fun x=>by rw[pm.mem_iff,mem x]⟩
end Ow
namespace L2
open PySem PySem.Spec PyProof.Rows
def jH (X:Cx) (N:List Str) (qual:Str) (scope:Scope) (f:Addr) (cd:Value) (cl:List (Str×Addr)) (s:Shared) (H:Hp):Cx where
 prog:=X.prog
 w:=X.w
 K:=X.K
 mg:=X.mg
 base:=X.base
 A:=X.A.deeper (PySem.W.envX qual scope s.heap.objs.size f cd cl)
 N:=N
 s₀:=s
 H₀:=H
 env:=PySem.W.envX qual scope s.heap.objs.size f cd cl
 outer:=X.stack
 stack:=PySem.W.envX qual scope s.heap.objs.size f cd cl::X.stack
 ex:=[]
 calm:=true
 fn:=fun _=>false
 pn:=[]
 xe:=fun _ _=>False
structure Cells (h:Heap) (H:Hp) (fs:List Addr) (cl:List (Str×Addr)) (ns:List Str) (vals:List V):Prop where
 all:∀ x c,cl.lookup x=some c->H c=none/\c∉fs/\∃ v,h.IsCell c v
 inj:∀ x y c,cl.lookup x=some c->cl.lookup y=some c->x=y
 val:∀ (i:Nat) y v,ns[i]?=some y->vals[i]?=some v->∃ c u,cl.lookup y=some c/\RelV v u/\h.IsCell c (some u)
section
variable {X:Cx}{pins:List (Addr×Obj)}{σ:St}{H:Hp}{s:Shared}{cl:List (Str×Addr)}{ns:List Str}{vals:List V}
theorem Cells.keep (C:Cells X.s₀.heap X.H₀ X.fs cl ns vals) (I:Inv X pins σ H s) (hex:X.ex=[]):Cells s.heap H (frs X.stack) cl ns vals:=by
 have one:∀ x c v,cl.lookup x=some c->X.s₀.heap.IsCell c v->s.heap.IsCell c v:=fun x c v e ⟨o,ho,hd⟩ =>
  ⟨o,I.base.keep c o ho (C.all x c e).1 (C.all x c e).2.1 (by rw[hex]; simp),hd⟩
 refine⟨fun x c e=>?_,C.inj,fun i y v e1 e2=>?_⟩
 ·obtain⟨h1,h2,v,hv⟩:=C.all x c e
  obtain⟨o,ho,hd⟩:=id hv
  refine⟨I.base.free c o ho h1 (by rw[hex]; simp),fun z=>?_,v,one x c v e hv⟩
  rcases List.mem_cons.mp (I.stkSub c z) with z | z
  ·have:=hv.lt
   have h3:=I.ok.above
   rw[<- z] at h3
   exact absurd this (Nat.not_lt.mpr h3)
  ·exact h2 z
 ·obtain⟨c,u,l,r,hv⟩:=C.val i y v e1 e2
  exact⟨c,u,l,r,one y c _ l hv⟩
theorem inv_lam {qual:Str}{scope:Scope}{f:Addr}{cd:Value}{x:Str}{v:V}{u:Value}{h₁:Heap}{t':Nat}{fs:List Addr}(I:Inv X pins σ H s) (hc:X.calm=true)
  (hkind:scope.kind=.function) (hx:scope.names.lookup x=some .local) (hns:∀ y∈ns,scope.names.lookup y=some .free)
  (hfree:∀ y,(scope.names.lookup y=some .cell\/scope.names.lookup y=some .free)->∃ c,cl.lookup y=some c)
  (C:Cells s.heap H fs cl ns vals) (hl:vals.length=ns.length) (r:RelV v u)
  (n1:h₁.Ns s.heap.objs.size (fun y=>[(x,u)].reverse.lookup y)) (hk:∀ b o,s.heap.get? b=some o->h₁.get? b=some o) :
  Inv (jH X (x::ns) qual scope f cd cl s H) [] (some v::vals.map some) H { s with heap:=h₁,toks:=t' }:=by
 have noA:∀ b:Addr,b∉(jH X (x::ns) qual scope f cd cl s H).ex:=fun b z=>absurd (show b∈([]:List Addr) from z) (by simp)
 refine⟨⟨I.ok.mod,hkind,rfl,rfl,Nat.le_refl _,C.inj,fun y hy=>hfree y hy,fun y c z _=>(nomatch z),fun _=>I.ok.hd hc,Around.frames_deeper I.ok.frames,.inr ⟨rfl,rfl⟩,fun b z=>absurd z (noA b),I.bs,Nat.le_trans I.ok.bsz I.sz,fun b _ _=>noA b,fun b z=>absurd z (noA b),I.stack,I.stkFree⟩,
  rfl,I.bare,Un.kept hk,⟨_,n1,fun i y w h1 h2 h3=>?_⟩,fun y c h=>?_,I.hok.fresh (Nat.le_refl _),fun y c h=>(C.all y c h).1,fun p hp=>absurd (show p∈([]:List (Addr×Obj)) from hp) (by simp),I.hok.kept hk,?_⟩
 ·cases i with
  | zero =>
   have e1:x=y:=by simpa [jH] using h1
   have e2:v=w:=by simpa using h2
   subst e1 e2
   exact⟨u,r,.inl ⟨hx,by simp⟩⟩
  | succ i =>
   have e1:ns[i]?=some y:=by simpa [jH] using h1
   have e2:vals[i]?=some w:=by
    rw[List.getElem?_cons_succ,List.getElem?_map] at h2
    cases q:vals[i]? with
    | none=>rw[q] at h2; cases h2
    | some z=>rw[q] at h2; cases h2; rfl
   obtain⟨c,u',l,r',hv⟩:=C.val i y w e1 e2
   exact⟨u',r',.inr ⟨.inr (hns y (mem_of_getElem? e1)),c,l,hv.keeps hk⟩⟩
 ·obtain⟨_,_,w,hv⟩:=C.all y c h
  exact⟨w,hv.keeps hk⟩
 ·show (some v::vals.map some).length=(x::ns).length
  simp[hl]
theorem qC {name qual:Str}{params:Arguments}{body:Expr}{scope:Scope}{f c':Addr}{pm ctv:Value}{x:Str}{v:V}{u:Value}{Q:VK}{te:TE}{fs:List Addr}{k:Nat}(I:Inv X pins σ H s) (hc:X.calm=true) (hr:Room k X.A)
  (ho:s.heap.get? f=some (PySem.W.kla_obj name qual params body scope cl pm c' ctv)) (hcd:s.heap.CodeRec (.ref c') qual)
  (hbind:bindArgs (PySem.W.kla_fn name qual params body scope cl pm (.ref c') ctv) ⟨[u],[]⟩=pure [(x,u)])
  (hco:scope.isCoroutine=false) (hgen:scope.isGenerator=false) (hcell:∀ y∈scope.names,y.2≠.cell)
  (hkind:scope.kind=.function) (hx:scope.names.lookup x=some .local) (hns:∀ y∈ns,scope.names.lookup y=some .free)
  (hfree:∀ y,(scope.names.lookup y=some .cell\/scope.names.lookup y=some .free)->∃ c,cl.lookup y=some c)
  (C:Cells s.heap H fs cl ns vals) (hl:vals.length=ns.length) (r:RelV v u)
  (hb:PE (jH X (x::ns) qual scope f (.ref c') cl s H) body te) (hq:te (some v::vals.map some) H Q) :
  wpAny (model X.prog X.w) X.A (call (.ref f) [u]) (EP X pins σ Q) X.xe s:=by
 have run:codeAny (model X.prog X.w) X.A (.call (.ref f) ⟨[u],[]⟩) (CR CX0 X.stack X.prog X.w H s Q E0) s:=by
  refine PySem.W.kla_callFunE hr.depth ho rfl hco hgen rfl hcd ?_
  rw[hbind]
  refine wpAny_pure (wpAny_newFunctionEnv hcell (fun y hy=>?_) (fun h₁ n1 hsb=>?_) hkind)
  ·have e:y=(x,u):=by simpa using hy
   rw[e]; exact hx
  ·have hk₁:∀ b o,s.heap.get? b=some o->h₁.get? b=some o:=fun b o e=>hsb.extBut b o (Nat.ne_of_lt (Heap.lt_size e)) (Heap.get?_push_of_some _ e)
   refine⟨I.nolimit.keeps hk₁,?_⟩
   show codeAny _ _ (.expr body (PySem.W.envX qual scope s.heap.objs.size f (.ref c') cl)) _ _
   have J:=inv_lam (qual:=qual) (f:=f) (cd:=.ref c') (t':=s.toks+1) I hc hkind hx hns hfree C hl r n1 hk₁
   refine PySem.W.kla_codeExpr (wpAny_mono (hb [] _ _ H Q J hq) (fun z s' hz=>?_) fun e s' z=>z.elim)
   obtain⟨v',H',J',rv,q⟩:=hz
   exact⟨v',H',J'.os,J'.bare,J'.base,J'.hok,rv,q⟩
 refine wpAny_call (codeAny_mono run fun r s' hq=>?_)
 cases r with
 | error e=>exact False.elim hq
 | ok fl =>
  cases fl with
  | ret u=>exact I.after hq
  | next=>exact False.elim hq
  | brk=>exact False.elim hq
  | cont=>exact False.elim hq
end
def Clo (name qual:Str) (params:Arguments) (body:Expr) (scope:Scope) (cl:List (Str×Addr)) (H:Hp) (f:Addr):Prop :=
 ∃ (pm:Value) (c':Addr) (ctv:Value),H f=some (.ext fun h=>h.get? f=some (PySem.W.kla_obj name qual params body scope cl pm c' ctv))/\H c'=some (.ext fun h=>h.CodeRec (.ref c') qual)
theorem Clo.mono {name qual:Str}{params:Arguments}{body:Expr}{scope:Scope}{cl:List (Str×Addr)}{H H':Hp}{f:Addr}(c:Clo name qual params body scope cl H f) (h:∀ a u,H a=some u->H' a=some u):Clo name qual params body scope cl H' f :=
 let ⟨pm,c',ctv,e1,e2⟩:=c; ⟨pm,c',ctv,h _ _ e1,h _ _ e2⟩
def tCallV (name qual:Str) (params:Arguments) (body:Expr) (scope:Scope) (cl:List (Str×Addr)) (vals:List V) (te:TE) (i:Nat) (ta:TE):TE:=fun σ H Q =>
 ∃ f,σ[i]?=some (some (.ref f))/\Clo name qual params body scope cl H f/\ta σ H fun v H1=>Clo name qual params body scope cl H1 f/\te (some v::vals.map some) H1 Q
section
variable {X:Cx}
theorem oW {name qual:Str}{params:Arguments}{body:Expr}{scope:Scope}{cl:List (Str×Addr)}{ns:List Str}{vals:List V}{te ta:TE}{i k:Nat}{y x:Str}{p pos:Pos}{e:Expr}(hc:X.calm=true) (hex:X.ex=[]) (hr:Room k X.A)
  (hN:X.N[i]?=some y) (hv:Vis X.env.scope y) (C:Cells X.s₀.heap X.H₀ X.fs cl ns vals) (hl:vals.length=ns.length)
  (hbind:∀ (pm ctv:Value) (c':Addr) (u:Value),bindArgs (PySem.W.kla_fn name qual params body scope cl pm (.ref c') ctv) ⟨[u],[]⟩=pure [(x,u)])
  (hco:scope.isCoroutine=false) (hgen:scope.isGenerator=false) (hcell:∀ y∈scope.names,y.2≠.cell)
  (hkind:scope.kind=.function) (hx:scope.names.lookup x=some .local) (hns:∀ y∈ns,scope.names.lookup y=some .free)
  (hfree:∀ y,(scope.names.lookup y=some .cell\/scope.names.lookup y=some .free)->∃ c,cl.lookup y=some c)
  (ha:PE X e ta) (hb:∀ f c' s H,PE (jH X (x::ns) qual scope f (.ref c') cl s H) body te)
  (hd:(y == ("__debug__":Str))=false:=by decide) (hcd:(y == ("__classdict__":Str))=false:=by decide) (he:starEach [e] X.env=(false,eval e X.env)::starEach [] X.env:=by rfl) (hpl:(backTo pos (starEach [] X.env)).any (·.1)=false:=by rfl) :
  PE X (.Call (.Name y p) [e] [] pos) (tCallV name qual params body scope cl vals te i ta):=by
 intro pins s σ H Q I h
 obtain⟨f,hi,c0,h⟩:=h
 have atF:∀ {H:Hp} {s:Shared},Inv X pins σ H s->Clo name qual params body scope cl H f->PySem.W.FnAt f s.heap:=fun J ⟨pm,c',ctv,e1,e2⟩=>by
  obtain⟨z,_⟩:=J.hok f _ e1
  exact⟨_,_,_,_,z⟩
 refine wpAny_Call_Name_kw (thn (sg (pos:=p) hN hv hd hcd pins s σ H (fun v H1=>v=.ref f/\H1=H) I ⟨.ref f,hi,rfl,rfl⟩) fun u s1 ⟨v,H1,I1,rv,hv1⟩=>?_)
 obtain⟨rfl,rfl⟩:=hv1
 obtain rfl:u=Value.ref f:=rv
 refine PySem.W.callWith_F (first:=[]) (atF I1 c0) (thn ((aa ha ae he) pos pins s1 σ _ (fun vs H2=>match vs with | [v]=>Clo name qual params body scope cl H2 f/\te (some v::vals.map some) H2 Q | _=>False) I1 h) fun us s2 ⟨vs,H2,I2,rv,q2⟩=>?_) he hpl
 match vs,us,rv,q2 with
 | [v],_,.cons (b:=u) r1 .nil,q2 =>
  obtain⟨c2,q2⟩:=q2
  refine⟨atF I2 c2,?_⟩
  obtain⟨pm,c',ctv,e1,e2⟩:=c2
  obtain⟨z1,_⟩:=I2.hok f _ e1
  obtain⟨z2,_⟩:=I2.hok c' _ e2
  exact qC I2 hc hr z1 z2 (hbind pm ctv c' u) hco hgen hcell hkind hx hns hfree (C.keep I2 hex) hl r1 (hb f c' s2 H2) q2
end
structure FnOkS (P:Program) (w:World) (K:Frag) (mg:Str->Option Value) (base:Heap) (CX:CXT) (k:Nat) (f:Addr) (fd:FuncData) (ps:List Str) (sp:List Env->Shared->Sp):Prop where
 len:∀ o s vs H Q E,sp o s vs H Q E->vs.length=ps.length
 run:∀ (A:Around) (outer:List Env) (s:Shared) (H:Hp) (args:Args) (us:List Value) (vs:List V) (Q:VK) (E:XK),Room k A->Env0 P w K mg base A outer s H->BindsTo s fd args (ps.zip us)->Vals vs us->sp outer s vs H Q E ->
  codeAny (model P w) A (.call (.ref f) args) (CR CX outer P w H s Q E) s
theorem Fun.okS {P:Program}{w:World}{K:Frag}{mg:Str->Option Value}{base:Heap}{x qual:Str}{st:Stmt}{f:Addr}{fd:FuncData}{N ps:List Str}{k:Nat}{sp:List Env->Shared->Sp}(F:Fun K x qual st f fd) (S:FnScope N ps (aj st)) (len:∀ o s vs H Q E,sp o s vs H Q E->vs.length=ps.length)
  (hbody:∀ (cdv:Value) (A:Around) (outer:List Env) (s:Shared) (H:Hp) (vs:List V) (Q:VK) (E:XK),Room k (A.deeper (envOfC qual (aj st) s.heap.objs.size f cdv))->sp outer s vs H Q E ->
   ∃ t,PSs (cQ CX0 P w K mg base N qual (aj st) f cdv A outer s H E).nox (aU st) t/\t { nx:=fun _ H'=>Q .non H',rt:=Q } (start N vs) H):FnOkS P w K mg base CX0 (k+1) f fd ps sp:=by
 obtain⟨oc,od,kV,doc,pm,an,cdv,ct,osl,rfl,lk,hcd⟩:=F.ex
 refine⟨len,fun A outer s H args us vs Q E hr e0 hb r hsp=>?_⟩
 have one:FnOk P w K mg base CX0 (k+1) f (fnOf x qual (cg st) (aU st) (aj st) .none kV doc pm an cdv ct) ps (fun vs' H' Q' E'=>sp outer s vs' H' Q' E'/\vs'=vs/\H'=H)->codeAny (model P w) A (.call (.ref f) args) (CR CX0 outer P w H s Q E) s:=fun G=>G.run A outer s H args us vs Q E hr e0 hb r ⟨hsp,rfl,rfl⟩
 have hl:=len _ _ _ _ _ _ hsp
 have KX:K.In s.heap:=e0.mod.kin.keeps fun b o e=>(e0.bs b o e).1
 have lim:s.heap.NoLimit:=e0.mod.nolimit.keeps fun b o e=>(e0.bs b o e).1
 have hkind:∀ y∈ps.zip us,(aj st).names.lookup y.1=some .local\/((aj st).names.lookup y.1=some .cell/\((cellsFrom (s.heap.objs.size+1) (aj st).names []).lookup y.1).isSome=true):=fun ⟨n,v⟩ hy=>by
  rcases S.par n (List.of_mem_zip hy).1 with q | q
  ·exact .inl q
  ·exact .inr ⟨q,PySem.W.cellsFrom_some _ _ _ (.inl q)⟩
 refine codeAny_call_function hr.depth (KX _ _ lk) rfl S.co S.gen rfl (PySem.W.codeRec_of KX hcd) (hb _ _ _ _ ?_)
 refine wpAny_newFunctionEnv_cells S.kind hkind fun env he s1 y=>?_
 subst he
 refine⟨lim.keeps y.toInCall.keep,codeAny_func ?_⟩
 obtain⟨t,ht,hq⟩:=hbody cdv A outer s H vs Q E (hr.deeper _) hsp
 have I:Inv (cQ CX0 P w K mg base N qual (aj st) f cdv A outer s H E) [] (start N vs) H s1:=jw S hr.hd e0 hl r y
 refine wpAny_mono (ht.nox [] s1 (start N vs) H _ I hq) (fun fl s' hs=>?_) fun e s' hs=>hs
 have fin:∀ {σ':St} {H':Hp} {v:V} {u:Value},Inv (cQ CX0 P w K mg base N qual (aj st) f cdv A outer s H E) [] σ' H' s'->RelV v u->Q v H'->CE outer P w H s Q u s' :=
  fun {σ' H' v u} J rv q=>⟨v,H',J.os,J.bare,J.base,J.hok,rv,q⟩
 cases fl with
 | ret u =>
  obtain⟨v,σ',H',J,rv,q⟩:=hs
  exact fin J rv q
 | next =>
  obtain⟨σ',H',J,q⟩:=hs
  exact fin (v:=V.non) (u:=Value.none) J rfl q
 | brk =>
  obtain⟨_,_,_,q⟩:=hs
  exact False.elim q
 | cont =>
  obtain⟨_,_,_,q⟩:=hs
  exact False.elim q
structure HasS (P:Program) (w:World) (K:Frag) (mg:Str->Option Value) (base:Heap) (k:Nat) (x:Str) (ps:List Str) (sp:List Env->Shared->Sp):Prop where
 ex:∃ (f:Addr) (fd:FuncData),FnOkS P w K mg base CX0 k f fd ps sp/\Binds K fd ps []/\keepIn K (.ref f)=true/\mg x=some (.ref f)
def tCallS (R:St->List V->Hp->VK->Prop) (t:TA):TE:=fun σ H Q=>t σ H fun vs H1=>R σ vs H1 Q
section
variable {X:Cx}
theorem pe_fnS {k:Nat}{x:Str}{ps:List Str}{sp:List Env->Shared->Sp}{R:St->List V->Hp->VK->Prop}{p pos:Pos}{e:Expr}{es:List Expr}{t:TA}(h:HasS X.prog X.w X.K X.mg X.base k x ps sp) (hr:Room k X.A) (hg:Gl X x) (ha:PA X (e::es) t)
  (hR:∀ pins σ H s vs Q,Inv X pins σ H s->R σ vs H Q->sp X.stack s vs H Q E0)
  (hdb:(x == ("__debug__":Str))=false:=by decide) (he:starEach (e::es) X.env=(false,eval e X.env)::starEach es X.env:=by rfl) (hpl:(backTo pos (starEach es X.env)).any (·.1)=false:=by rfl) :
  PE X (.Call (.Name x p) (e::es) [] pos) (tCallS R t):=by
 obtain⟨f,fd,F,hb,hk,hm⟩:=h.ex
 intro pins s σ H Q I h
 refine wpAny_Call_Name_kw (fM I hg hm ?_ hdb)
 refine PySem.W.callWith_K (h₀:=X.base) I.ok.mod.kin hk (thn (ha pos pins s σ H _ I h) fun us s1 ⟨vs,H1,I1,r,q⟩=>⟨I1.kIn,?_⟩) he hpl
 have hsp:=hR pins σ H1 s1 vs Q I1 q
 have hl:us.length=ps.length:=by rw[<- r.length]; exact F.len _ _ _ _ _ _ hsp
 have hb':=hb s1 us I1.kIn (by rw[append_nil]; exact hl)
 rw[append_nil] at hb'
 refine wpAny_call (codeAny_mono (F.run X.A X.stack s1 H1 ⟨us,[]⟩ us vs Q E0 hr I1.env0 hb' r hsp) fun r s' hq=>?_)
 cases r with
 | error e=>exact False.elim hq
 | ok fl =>
  cases fl with
  | ret u=>exact I1.after hq
  | next=>exact False.elim hq
  | brk=>exact False.elim hq
  | cont=>exact False.elim hq
end
def TabOk (P:Addr) (pos:Pos) (qual:Str) (H:Hp):Prop:=∃ ps:Array Value,H P=some (.tbl ps)/\TriplesOk ps.toList /\
 (codeAmong pos ps.toList=none\/∃ c',codeAmong pos ps.toList=some (.ref c')/\H c'=some (.ext fun h=>h.CodeRec (.ref c') qual))
theorem TabOk.mono {P:Addr}{pos:Pos}{qual:Str}{H H':Hp}(x:TabOk P pos qual H) (h:∀ a u,H a=some u->H' a=some u):TabOk P pos qual H':=by
 obtain⟨ps,e,t,z⟩:=x
 refine⟨ps,h _ _ e,t,?_⟩
 rcases z with z | ⟨c',z1,z2⟩
 ·exact .inl z
 ·exact .inr ⟨c',z1,h _ _ z2⟩
theorem eE {pos:Pos}{c:Value}:∀ (l:List Value),TriplesOk l->TriplesOk (l++[rawInt pos.line,rawInt pos.col,c])
 | [],_=>trivial
 | .int _ _::.int _ _::_::r,h=>eE (pos:=pos) (c:=c) r h
structure LamBase (mg:Str->Option Value) (base:Heap) (c P:Addr):Prop where
 code:PySem.W.CodeHd base c P
 bm:∃ bm ob,mg "__builtins__"=some (.ref bm)/\bm≠builtinsNs/\base.get? bm=some ob/\ob.cls=.type "module"/\ob.dict=some builtinsNs/\ob.data=.plain
def tLam (P:Addr) (pos:Pos) (qual:Str) (params:Arguments) (body:Expr) (scope:Scope) (cl:List (Str×Addr)):TE:=fun _ H Q=>TabOk P pos qual H /\
 ∀ f H',(∀ a u,a≠P->H a=some u->H' a=some u)->H f=none->Clo "<lambda>" qual params body scope cl H' f->TabOk P pos qual H'->Q (.ref f) H'
section
variable {X:Cx}
theorem pe_lam {params:Arguments}{body:Expr}{scope:Scope}{pos:Pos}{c P:Addr}{cl:List (Str×Addr)}{qual:Str}(B:LamBase X.mg X.base c P) (hcode:X.env.code=.ref c) (hcl:closureFor scope X.env=pure cl) (hq:X.env.qual++"<lambda>"=qual)
  (hdef:defaultsOf params X.env=([],[]):=by rfl):PE X (.Lambda params body scope pos) (tLam P pos qual params body scope cl):=by
 intro pins s σ H Q I h
 obtain⟨⟨ps,eP,ht,hit⟩,h⟩:=h
 have hP:s.heap.get? P=some (PySem.W.tabObj ps):=I.hok P _ eP
 have hg:s.heap.Ns mainGlobals X.mg:=I.mod.glob.keeps I.bk
 have C:PySem.W.CodeHd s.heap c P:=B.code.keeps I.bk
 have hgP:mainGlobals≠P:=fun q=>by
  obtain⟨o,es,ep,e,hd,_⟩:=hg
  rw[q,hP] at e; cases e; cases hd
 have hb:s.heap.BuiltinsAt X.mg P:=by
  obtain⟨bm,ob,b1,b2,b3,b4,b5,b6⟩:=B.bm
  refine⟨bm,ob,b1,b2,fun q=>?_,fun q=>?_,I.bk _ _ b3,b4,b5,b6⟩
  ·obtain⟨o,es,ep,e,hd,_⟩:=I.mod.glob
   rw[q,e] at b3; cases b3; rw[hd] at b6; cases b6
  ·have e:=I.bk _ _ b3
   rw[q,hP] at e; cases e; cases b4
 refine PySem.W.kla_eval hdef ?_
 rw[hq]
 have hP1:P<s.heap.objs.size:=Heap.lt_size hP
 rcases hit with hnf | ⟨c',hf,ec⟩
 ·refine PySem.W.kla_makeFunction hcl I.ok.glob hg hcode C hP ht hnf hgP hb fun c' ctv h' tk hx hge hlt hrec htb=>?_
  have hsz:s.heap.objs.size<=h'.objs.size:=Nat.le_trans hge (Nat.le_of_lt hlt)
  have nc:H c'=none:=I.hok.fresh hge
  have nf:H h'.objs.size=none:=I.hok.fresh hsz
  have ncf:c'≠h'.objs.size:=Nat.ne_of_lt hlt
  have ncP:c'≠P:=fun z=>absurd hP1 (by rw[<- z]; exact Nat.not_lt.mpr hge)
  have nfP:h'.objs.size≠P:=fun z=>absurd hP1 (by rw[<- z]; exact Nat.not_lt.mpr hsz)
  generalize hps:ps++#[rawInt pos.line,rawInt pos.col,.ref c']=ps' at htb
  let H':Hp:=upd (upd (upd H P (.tbl ps')) c' (.ext fun h=>h.CodeRec (.ref c') qual)) h'.objs.size (.ext fun h=>h.get? h'.objs.size=some (PySem.W.kla_obj "<lambda>" qual params body scope cl ((X.mg "__name__").getD .none) c' ctv))
  have u1:∀ a,a≠P->a≠c'->a≠h'.objs.size->H' a=H a:=fun a n1 n2 n3=>by
   show upd (upd (upd H P _) c' _) _ _ a=_
   rw[ao n3,ao n2,ao n1]
  have u2:H' P=some (.tbl ps'):=by
   show upd (upd (upd H P _) c' _) _ _ P=_
   rw[ao (Ne.symm nfP),ao (Ne.symm ncP),ah]
  have u3:H' c'=some (.ext fun h=>h.CodeRec (.ref c') qual):=by
   show upd (upd (upd H P _) c' _) _ _ c'=_
   rw[ao ncf,ah]
  have u4:H' h'.objs.size=some (.ext fun h=>h.get? h'.objs.size=some (PySem.W.kla_obj "<lambda>" qual params body scope cl ((X.mg "__name__").getD .none) c' ctv)):=ah
  have keepH:∀ a u,a≠P->H a=some u->H' a=some u:=fun a u n e=>by
   rw[u1 a n (az e nc) (az e nf)]; exact e
  let o':=PySem.W.kla_obj "<lambda>" qual params body scope cl ((X.mg "__name__").getD .none) c' ctv
  have k1:∀ b o,b≠P->s.heap.get? b=some o->(h'.push o').get? b=some o:=fun b o n e=>Heap.get?_push_of_some _ (hx b o n e)
  have nP:∀ b,H b=none->b≠P:=fun b n z=>by rw[z,eP] at n; cases n
  have un:Un X.fs [] H H' s.heap (h'.push o'):=⟨fun b o e n _ _=>k1 b o (nP b n) e,fun b o e n _ _=>⟨o.slots,k1 b o (nP b n) e⟩,
   fun b o e n _=>by
    have hb:=Heap.lt_size e
    rw[u1 b (nP b n) (fun z=>absurd hb (by rw[z]; exact Nat.not_lt.mpr hge)) (fun z=>absurd hb (by rw[z]; exact Nat.not_lt.mpr hsz))]; exact n,
   fun b o e _=>by
    by_cases z:b=P
    ·rw[z]; exact⟨_,Heap.get?_push_of_some _ htb⟩
    ·exact⟨o,k1 b o z e⟩,
   fun b xs e=>keepH b _ (fun z=>by rw[z,eP] at e; cases e) e,fun b o u e=>keepH b _ (fun z=>by rw[z,eP] at e; cases e) e,
   fun b qs e=>by
    by_cases z:b=P
    ·rw[z,eP] at e
     cases e
     refine⟨#[rawInt pos.line,rawInt pos.col,.ref c'],?_⟩
     rw[z,u2,hps]
    ·exact⟨#[],by rw[keepH b _ z e]; simp⟩⟩
  have hok:HOk X.prog X.w H' (h'.push o'):=fun b u e=>by
   by_cases z1:b=h'.objs.size
   ·subst z1
    rw[u4] at e; cases e
    exact⟨Heap.get?_push_size _ rfl,⟨_,Heap.get?_push_size _ rfl⟩,fun h1 h2 e1 kk=>kk _ e1⟩
   ·by_cases z2:b=c'
    ·subst z2
     rw[u3] at e; cases e
     obtain⟨c₂,oc,vs,t,e2,hoc,hd,hv⟩:=hrec
     cases e2
     refine⟨⟨_,oc,vs,t,rfl,Heap.get?_push_of_some _ hoc,hd,hv⟩,⟨oc,Heap.get?_push_of_some _ hoc⟩,fun h1 h2 ⟨c₂,oc,vs,t,e2,hoc,hd,hv⟩ kk=>?_⟩
     cases e2
     exact⟨_,oc,vs,t,rfl,kk _ hoc,hd,hv⟩
    ·by_cases z3:b=P
     ·subst z3
      rw[u2] at e; cases e
      exact Heap.get?_push_of_some _ htb
     ·rw[u1 b z3 z2 z1] at e
      refine(I.hok b u e).stay (fun d v hd q=>k1 d v (fun z=>?_) q) (fun d q=>keepH d _ (fun z=>by rw[z,eP] at q; cases q) q) fun d xs q=>keepH d _ (fun z=>by rw[z,eP] at q; cases q) q
      rcases hd with y | y
      ·exact z3 (y.symm.trans z)
      ·rw[z,eP] at y; cases y
  refine⟨.ref h'.objs.size,H',I.un (h':=h'.push o') (t':=tk) un hok,rfl,h _ H' keepH nf ⟨_,c',ctv,u4,u3⟩ ⟨ps',u2,?_,.inr ⟨c',?_,u3⟩⟩⟩
  ·rw[<- hps,Array.toList_append]
   exact eE _ ht
  ·rw[<- hps,Array.toList_append]
   exact codeAmong_snoc _ ht hnf
 ·refine PySem.W.kla_makeFunctionHit hcl I.ok.glob hg hcode C hP ht hf hb fun ctv h' tk hk hsz=>?_
  have nf:H h'.objs.size=none:=I.hok.fresh hsz
  let o':=PySem.W.kla_obj "<lambda>" qual params body scope cl ((X.mg "__name__").getD .none) c' ctv
  let H':Hp:=upd H h'.objs.size (.ext fun h=>h.get? h'.objs.size=some o')
  have keepH:∀ a u,H a=some u->H' a=some u:=fun a u e=>by
   show upd H _ _ a=_
   rw[ao (az e nf)]; exact e
  have u4:H' h'.objs.size=some (.ext fun h=>h.get? h'.objs.size=some o'):=ah
  refine⟨.ref h'.objs.size,H',I.laid (h':=h'.push o') (t':=tk) (fun b o e=>Heap.get?_push_of_some _ (hk b o e)) hsz ?_,rfl,h _ H' (fun a u _ e=>keepH a u e) nf ⟨_,c',ctv,u4,keepH _ _ ec⟩ ⟨ps,keepH _ _ eP,ht,.inr ⟨c',hf,keepH _ _ ec⟩⟩⟩
  exact⟨Heap.get?_push_size _ rfl,⟨_,Heap.get?_push_size _ rfl⟩,fun h1 h2 e1 kk=>kk _ e1⟩
end
theorem rT {P:Program}{w:World}{K:Frag}{mg mb:Str->Option Value}{CX:CXT}{k:Nat}{fa a:Addr}{fd:FuncData}{x:Str}{sp:Sp}{s₁:Shared}{vs:List Value}{ns:List Int}{tabs:List (Addr×Addr)}
  (KX:K.In s₁.heap) (hns:s₁.heap.Ns mainGlobals mg) (hb:s₁.heap.Ns builtinsNs mb) (hbb:∀ x:Str,x≠"__name__"->mb x=bootBuiltins x) (hlim:s₁.heap.NoLimit) (hg:s₁.gens=#[])
  (hbm:∃ bm ob,mg "__builtins__"=some (.ref bm)/\bm≠builtinsNs/\s₁.heap.get? bm=some ob/\ob.cls=.type "module"/\ob.dict=some builtinsNs/\ob.data=.plain)
  (hT:PySem.W.TabsAt tabs s₁.heap) (hTK:∀ q∈tabs,K.lookup q.2=none)
  (ha:s₁.heap.get? a=some { cls:=.type "list",data:=.seq vs.toArray }) (hi:IntsAre vs ns) (hl:ns.length<=sizeLine) (hr:Room k callerA)
  (F:∀ base:Heap,K.In base->base.Ns mainGlobals mg->(∀ q∈tabs,LamBase mg base q.1 q.2)->FnOk P w K mg base CX k fa fd [x] sp) (hbind:∀ (s:Shared) (u:Value),BindsTo s fd ⟨[u],[]⟩ [(x,u)])
  (hsp:∀ H:Hp,(∀ q∈tabs,H q.2=some (.tbl #[]))->SqL K H a (ns.map V.int)->sp [.ref a] H (fun v _=>v=.bl true) fun _ _ _=>False)
  (hCX:∀ H e s',CX [] H s₁ (fun _ _ _=>False) e s'->False) :
  codeAny (model P w) callerA (.call (.ref fa) ⟨[.ref a],[]⟩) (fun r s'=>r=.ok (.ret (.bool true))/\OldK s₁.heap s'.heap/\s'.os=s₁.os/\AllBare s'.gens) s₁:=by
 have rv:=dN hi
 have lenV:=hi.length
 have tabAt:∀ b,b∈tabs.map (·.2)->∃ q∈tabs,q.2=b/\s₁.heap.get? b=some (PySem.W.tabObj #[]):=fun b hb=>by
  obtain⟨q,hq,rfl⟩:=List.mem_map.mp hb
  exact⟨q,hq,rfl,(hT q hq).2⟩
 have aT:a∉tabs.map (·.2):=fun z=>by
  obtain⟨_,_,_,e⟩:=tabAt a z
  rw[ha] at e
  have e':=congrArg Obj.data (Option.some.inj e)
  have e2:Data.seq vs.toArray _=Data.fields #[]:=e'
  cases e2
 have core:∀ H:Hp,(∀ b,H b=none\/(b=a/\∃ xs,H b=some (.frz { cls:=.type "list",data:=.seq vs.toArray } (.lst xs)))\/(b∈tabs.map (·.2)/\H b=some (.tbl #[])))->(∀ b∈tabs.map (·.2),H b=some (.tbl #[]))->SqL K H a (ns.map V.int)->HOk P w H s₁.heap->(H a≠none->K.lookup a=none) ->
   codeAny (model P w) callerA (.call (.ref fa) ⟨[.ref a],[]⟩) (fun r s'=>r=.ok (.ret (.bool true))/\OldK s₁.heap s'.heap/\s'.os=s₁.os/\AllBare s'.gens) s₁:=by
  intro H hO hTb hS hok hK
  have base_of:∀ {b:Addr} {o:Obj},s₁.heap.get? b=some o->H b=none->(hidT s₁.heap H).get? b=some o:=fun e n=>hidT_get e n
  have noA:∀ {b:Addr} {o:Obj},s₁.heap.get? b=some o->(o.data≠.seq vs.toArray)->o.cls≠.none->H b=none:=fun {b o} e d c=>by
   rcases hO b with z | ⟨z,_⟩ | ⟨z,_⟩
   ·exact z
   ·rw[z,ha] at e; cases e; exact absurd rfl d
   ·obtain⟨_,_,_,e2⟩:=tabAt b z
    rw[e] at e2; cases e2; exact absurd rfl c
  have noD:∀ {b:Addr} {o:Obj} {es:Array DictEntry} {ep:Nat},s₁.heap.get? b=some o->o.data=.dict es ep->H b=none:=fun {b o es ep} e d=>by
   rcases hO b with z | ⟨z,_⟩ | ⟨z,_⟩
   ·exact z
   ·rw[z,ha] at e; cases e
    have d':Data.seq vs.toArray _=Data.dict es ep:=d
    cases d'
   ·obtain⟨_,_,_,e2⟩:=tabAt b z
    rw[e] at e2; cases e2; cases d
  have nsK:∀ {b:Addr} {m:Str->Option Value},s₁.heap.Ns b m->(hidT s₁.heap H).Ns b m:=fun {b m} ⟨o,es,ep,e,d,r⟩=>⟨o,es,ep,base_of e (noD e d),d,r⟩
  have hKb:K.In (hidT s₁.heap H):=fun b o e=>base_of (KX b o e) (by
   rcases hO b with z | ⟨z,xs,z2⟩ | ⟨z,z2⟩
   ·exact z
   ·rw[z,hK (by rw[<- z,z2]; simp)] at e; cases e
   ·obtain⟨q,hq,hqb,_⟩:=tabAt b z
    rw[<- hqb,hTK q hq] at e; cases e)
  have hM:Mod K mg (hidT s₁.heap H):=⟨hKb,nsK hns,⟨mb,nsK hb,hbb⟩,let ⟨mc,h1,h2⟩:=hlim; ⟨mc,nsK h1,h2⟩⟩
  have hLB:∀ q∈tabs,LamBase mg (hidT s₁.heap H) q.1 q.2:=fun q hq=>by
   refine⟨?_,?_⟩
   ·obtain⟨o,us,file,tf,flags,tg,inF,text,tt,e,e2,e3,r⟩:=(hT q hq).1
    refine⟨o,us,file,tf,flags,tg,inF,text,tt,base_of e (noA e (by rw[e3]; nofun) (by rw[e2]; nofun)),e2,e3,r⟩
   ·obtain⟨bm,ob,b1,b2,b3,b4,b5,b6⟩:=hbm
    exact⟨bm,ob,b1,b2,base_of b3 (noA b3 (by rw[b6]; nofun) (by rw[b4]; nofun)),b4,b5,b6⟩
  have e0:Env0 P w K mg (hidT s₁.heap H) callerA [] s₁ H:=⟨rfl,hM,fun b o e=>of_hidT e,Nat.le_of_eq (rN _ _),trivial,fun b hb=>absurd (show b∈([]:List Addr) from hb) (by simp),hok,.of_eq hg⟩
  refine codeAny_mono ((F _ hKb (nsK hns) hLB).run callerA [] s₁ H ⟨[.ref a],[]⟩ [.ref a] [.ref a] _ _ hr e0 (hbind s₁ (.ref a)) (.cons rfl .nil) (hsp H (fun q hq=>hTb _ (List.mem_map_of_mem hq)) hS)) fun r s' h=>?_
  cases r with
  | error e=>exact(hCX H e s' h).elim
  | ok fl =>
   cases fl with
   | next=>exact False.elim h
   | brk=>exact False.elim h
   | cont=>exact False.elim h
   | ret u =>
    obtain⟨v,H',os,bare,un,hok',r',q⟩:=h
    have q':v=.bl true:=q
    subst q'
    obtain rfl:u=Value.bool true:=r'
    have key:∀ b o,s₁.heap.get? b=some o->asItWas s₁.heap s'.heap b o/\∃ o',s'.heap.get? b=some o':=fun b o e=>by
     rcases hO b with z | ⟨z,xs,z2⟩ | ⟨z,z2⟩
     ·have e1:=un.keep b o e z (by intro z; exact absurd (show b∈([]:List Addr) from z) (by simp)) (by simp)
      exact⟨.inl e1,o,e1⟩
     ·have z3:=un.frzs b _ _ z2
      obtain⟨e1,_⟩:=hok b _ z2
      obtain⟨e2,_⟩:=hok' b _ z3
      rw[e] at e1; cases e1
      exact⟨.inl e2,_,e2⟩
     ·obtain⟨q,hq,rfl,e1⟩:=tabAt b z
      rw[e] at e1; cases e1
      obtain⟨more,z3⟩:=un.tbls _ _ z2
      have e2:s'.heap.get? q.2=some (PySem.W.tabObj (#[]++more)):=hok' _ _ z3
      exact⟨.inr (.inl ⟨((hT q hq).1.tab (hT q hq).2).isCodeTable,rfl,#[],more,rfl,e2⟩),_,e2⟩
    exact⟨rfl,⟨fun b o e=>(key b o e).1,fun b o e=>(key b o e).2⟩,os,bare⟩
 have tbOk:∀ (H:Hp) (b:Addr),b∈tabs.map (·.2)->ObjOk P w H s₁.heap b (.tbl #[]):=fun H b hb=>by
  obtain⟨_,_,_,e⟩:=tabAt b hb
  exact e
 have dec:∀ b,Decidable (b∈tabs.map (·.2)):=fun b=>inferInstance
 cases hk:K.lookup a with
 | some o =>
  have e:=KX a o hk
  rw[ha] at e
  cases e
  refine core (fun b=>if b∈tabs.map (·.2) then some (.tbl #[]) else none) (fun b=>?_) (fun b hb=>if_pos hb) (.inr ⟨_,vs.toArray,_,hk,rfl,rfl,rfl,by rw[size_toArray,lenV]; exact hl,by simpa using rv⟩) (fun b u z=>?_) fun z=>absurd (if_neg aT) z
  ·by_cases hb:b∈tabs.map (·.2)
   ·exact .inr (.inr ⟨hb,if_pos hb⟩)
   ·exact .inl (if_neg hb)
  ·by_cases hb:b∈tabs.map (·.2)
   ·have z':=(if_pos hb).symm.trans z
    cases z'
    exact tbOk _ b hb
   ·have z':=(if_neg hb).symm.trans z
    cases z'
 | none =>
  have eA:(if a=a then some (HO.frz { cls:=.type "list",data:=.seq vs.toArray } (.lst (ns.map V.int))) else if a∈tabs.map (·.2) then some (.tbl #[]) else none)=some (HO.frz { cls:=.type "list",data:=.seq vs.toArray } (.lst (ns.map V.int))):=if_pos rfl
  refine core (fun b=>if b=a then some (.frz { cls:=.type "list",data:=.seq vs.toArray } (.lst (ns.map V.int))) else if b∈tabs.map (·.2) then some (.tbl #[]) else none) (fun b=>?_) (fun b hb=>?_) (.inl (.inr ⟨{ cls:=.type "list",data:=.seq vs.toArray },if_pos rfl⟩)) (fun b u z=>?_) fun _=>hk
  ·by_cases hb:b=a
   ·exact .inr (.inl ⟨hb,_,if_pos hb⟩)
   ·by_cases hb2:b∈tabs.map (·.2)
    ·exact .inr (.inr ⟨hb2,(if_neg hb).trans (if_pos hb2)⟩)
    ·exact .inl ((if_neg hb).trans (if_neg hb2))
  ·exact(if_neg fun z=>aT (by rw[<- z]; exact hb)).trans (if_pos hb)
  ·by_cases hb:b=a
   ·have z':=(if_pos hb).symm.trans z
    cases z'
    subst hb
    exact⟨ha,by rw[length_map]; exact hl,vs,_,rv,ha⟩
   ·have z':=(if_neg hb).symm.trans z
    by_cases hb2:b∈tabs.map (·.2)
    ·have z'':=(if_pos hb2).symm.trans z'
     cases z''
     exact tbOk _ b hb2
    ·have z'':=(if_neg hb2).symm.trans z'
     cases z''
theorem walk_ofT {l:PySem.W.OpenLaw}{n k:Nat}{q:Program}{loose:List Str}{XP:(Str->Option Value)->Heap->Prop}{YP:World->Heap->Prop}{d:DefRec}{K:Params->Frag}{CX:World->CXT}{sp:World->Sp}{x:Str}(tabs:List (Addr×Addr))
  (hn:l.most=some n) (hn2:n<=sizeLine) (hdf:d.params.defaults=[]) (hr:Room k callerA)
  (hY:∀ (w:World) (h:Heap),YP w h->(K w.params).In h)
  (hT:∀ (w:World) (lo:List Str) (mean:ExcName->Option Value) (mg mb:Str->Option Value) (h:Heap),Top q lo mean mg mb h->(K w.params).In h->PySem.W.TabsAt tabs h)
  (hTK:∀ w:World,∀ t∈tabs,(K w.params).lookup t.2=none)
  (F:∀ (w:World) (mg:Str->Option Value) (fa:Addr) (h:Heap),(K w.params).In h->h.Ns mainGlobals mg->mg d.name=some (.ref fa) ->
   ∃ fd:FuncData,(∀ (s:Shared) (u:Value),BindsTo s fd ⟨[u],[]⟩ [(x,u)]) /\
    ∀ base:Heap,(K w.params).In base->base.Ns mainGlobals mg->(∀ t∈tabs,LamBase mg base t.1 t.2)->FnOk l.prog w (K w.params) mg base (CX w) k fa fd [x] (sp w))
  (hsp:∀ (w:World) (H:Hp) (a:Addr) (ns:List Int),ns.length<=n->(∀ t∈tabs,H t.2=some (.tbl #[]))->SqL (K w.params) H a (ns.map V.int)->sp w [.ref a] H (fun v _=>v=.bl true) fun _ _ _=>False)
  (hCX:∀ (w:World) (H:Hp) (s:Shared) (e:Value) (s':Shared),CX w [] H s (fun _ _ _=>False) e s'->False) :
  PySem.W.WalkO q loose XP YP l.row.toRowW d [] (fun f vs=>PySem.call f vs):=by
 refine Att.attach_call hn hdf fun w s₀ s₁ mg mb fa o pm cd doc a vs ns G Y ho hd hcd hmg hobj hints hlen hg=>?_
 have KX:=hY w _ Y
 obtain⟨fd,hb,hF⟩:=F w mg fa _ KX G.T.g hmg
 exact rT KX G.T.g G.T.b G.T.builtins G.T.nolimit hg G.T.bmain (hT w _ _ mg mb _ G.T KX) (hTK w) hobj hints (Nat.le_trans hlen hn2) hr hF hb (fun H hO hS=>hsp w H a ns hlen hO hS) fun H e s'=>hCX w H s₁ e s'
theorem Fun.okC {P:Program}{w:World}{K:Frag}{mg:Str->Option Value}{base:Heap}{x qual:Str}{st:Stmt}{f c:Addr}{fd:FuncData}{N ps:List Str}{k:Nat}{sp:Sp}(F:Fun K x qual st f fd) (hc:fd.code=.ref c) (S:FnScope N ps (aj st)) (len:∀ vs H Q E,sp vs H Q E->vs.length=ps.length)
  (hbody:∀ (A:Around) (outer:List Env) (s:Shared) (H:Hp) (vs:List V) (Q:VK) (E:XK),Room k (A.deeper (envOfC qual (aj st) s.heap.objs.size f (.ref c)))->sp vs H Q E ->
   ∃ t,PSs (cQ CX0 P w K mg base N qual (aj st) f (.ref c) A outer s H E).nox (aU st) t/\t { nx:=fun _ H'=>Q .non H',rt:=Q } (start N vs) H):FnOk P w K mg base CX0 (k+1) f fd ps sp:=by
 obtain⟨oc,od,kV,doc,pm,an,cdv,ct,osl,rfl,lk,hcd⟩:=F.ex
 obtain rfl:cdv=.ref c:=hc
 refine fn_of lk hcd S len fun A outer s H vs Q E hr hsp=>?_
 obtain⟨t,h,q⟩:=hbody A outer s H vs Q E hr hsp
 exact⟨t,h.nox,q⟩
theorem Inv.cells {X:Cx}{pins:List (Addr×Obj)}{σ:St}{H:Hp}{s:Shared}{cl:List (Str×Addr)}{ns:List Str}{vals:List V}(I:Inv X pins σ H s) (hfn:∀ x,X.fn x=true) (hsub:∀ x c,cl.lookup x=some c->X.env.cells.lookup x=some c)
  (hval:∀ (i:Nat) y v,ns[i]?=some y->vals[i]?=some v->∃ (j:Nat) (c:Addr),X.N[j]?=some y/\σ[j]?=some (some v)/\X.env.kindOf y=some .cell/\cl.lookup y=some c):Cells s.heap H (frs X.stack) cl ns vals:=by
 refine⟨fun x c e=>⟨I.freeC x c (hsub x c e),fun z=>?_,I.cell x c (hsub x c e)⟩,fun x y c e1 e2=>I.ok.inj x y c (hsub x c e1) (hsub y c e2),fun i y v e1 e2=>?_⟩
 ·rcases List.mem_cons.mp (I.stkSub c z) with q | q
  ·exact I.cne x c (hsub x c e) q
  ·obtain⟨_,o,ho,_⟩:=I.ok.funs.mem q
   exact absurd (Heap.lt_size ho) (Nat.not_lt.mpr (I.ok.cab x c (hfn x) (hsub x c e)))
 ·obtain⟨j,c,h1,h2,h3,h4⟩:=hval i y v e1 e2
  obtain⟨m,_,hl⟩:=I.loc
  obtain⟨u,r,l⟩:=hl j y v h1 h2 (.inr (.inl h3))
  rcases l with ⟨k,_⟩ | ⟨_,c',hc,hv⟩
  ·rw[h3] at k; cases k
  ·rw[hsub y c h4] at hc
   cases hc
   exact⟨c,u,h4,r,hv⟩
end L2
namespace L2
open PySem PySem.Spec PyProof.Rows
theorem aV {names:List (Str×NameKind)}{cl:List (Str×Addr)}{ns:List Str}(hcls:cl.map (·.1)=ns) (hno:∀ p∈names,p.2≠.cell/\(p.2=.free->p.1∈ns)) :
  ∀ y,(names.lookup y=some .cell\/names.lookup y=some .free)->∃ c,cl.lookup y=some c:=fun y hy=>by
 have hy':y∈ns:=by
  rcases hy with z | z
  ·exact absurd rfl (hno (y,.cell) (PySem.mem_of_lookup z)).1
  ·exact(hno (y,.free) (PySem.mem_of_lookup z)).2 rfl
 rw[<- hcls] at hy'
 have key:∀ l:List (Str×Addr),y∈l.map (·.1)->∃ c,l.lookup y=some c:=by
  intro l
  induction l with
  | nil=>intro h; simp at h
  | cons p r ih =>
   intro h
   by_cases e:y=p.1
   ·exact⟨p.2,by obtain⟨p1,p2⟩:=p; dsimp only at e; subst e; simp[List.lookup]⟩
   ·have h':y∈r.map (·.1):=by
     rw[map_cons] at h
     exact(List.mem_cons.mp h).resolve_left e
    obtain⟨c,hc'⟩:=ih h'
    refine⟨c,?_⟩
    obtain⟨p1,p2⟩:=p
    have:(y == p1)=false:=by simpa using e
    rw[List.lookup_cons,this]
    exact hc'
 exact key cl hy'
def lamAt (st:Stmt) (i j:Nat):Expr:=match (aU st).getD i (.Pass ⟨0,0,0,0⟩) with
 | .Return (some (.Call _ args _ _)) _=>args.getD j (.Constant .none 0 ⟨0,0,0,0⟩)
 | _=>.Constant .none 0 ⟨0,0,0,0⟩
def je (e:Expr):Arguments:=match e with
 | .Lambda a _ _ _=>a
 | _=>{ posonlyargs:=[],args:=[],vararg:=none,kwonlyargs:=[],kw_defaults:=[],kwarg:=none,defaults:=[] }
def jr (e:Expr):Expr:=match e with
 | .Lambda _ b _ _=>b
 | _=>.Constant .none 0 ⟨0,0,0,0⟩
def bn (e:Expr):Scope:=match e with
 | .Lambda _ _ s _=>s
 | _=>{ kind:=.function,names:=[],isGenerator:=false,isCoroutine:=false }
def oP (e:Expr):Pos:=match e with
 | .Lambda _ _ _ p=>p
 | _=>⟨0,0,0,0⟩
end L2
namespace Ow
open PySem PySem.Spec PyProof.Rows L2
theorem Has.imp {P:Program}{w:World}{K:Frag}{mg:Str->Option Value}{base:Heap}{k:Nat}{x:Str}{ps:List Str}{sp sp':Sp}(h:Has P w K mg base k x ps sp) (i:∀ vs H Q E,sp' vs H Q E->sp vs H Q E):Has P w K mg base k x ps sp':=by
 obtain⟨f,fd,F,b,kp,m⟩:=h.ex
 exact⟨f,fd,F.imp i,b,kp,m⟩
theorem sV {P:Program}{w:World}{H:Hp}(h:Heap) (hb:sysModules<h.objs.size):ObjOk P w H (h.push { cls:=.type "dict",data:=.dict #[] }) h.objs.size (.dK []) :=
 ⟨zero_le _,beq_eq_false_iff_ne.mpr (Ne.symm (Nat.ne_of_lt hb)),[],.nil,Heap.DictOf.new h⟩
theorem rV {X:Cx}{pins:List (Addr×Obj)}{σ:L2.St}{H:Hp}{s:Shared}(I:Inv X pins σ H s):sysModules<s.heap.objs.size:=by
 have h1:=I.ok.mod.glob.lt
 have h2:=Nat.le_trans I.ok.bsz I.sz
 exact lt_of_lt_of_le (Nat.lt_of_le_of_lt (by decide) h1) h2
def tDNew:TE:=fun _ H Q=>∀ p,H p=none->Q (.ref p) (upd H p (.dK []))
theorem o0 {X:Cx}{pos:Pos}:PE X (.Dict [] [] pos) tDNew:=fun pins s σ H Q I h =>
 wpAny_Dict_empty ⟨.ref s.heap.objs.size,_,I.laid (a:=s.heap.objs.size) (o:=.dK []) (t':=s.toks) (fun _ _ q=>Heap.get?_push_of_some _ q) (Nat.le_refl _) (sV s.heap (rV I)),rfl,h _ (I.hok.fresh (Nat.le_refl _))⟩
inductive Th (H:Hp):V->Prop where
 | int (i:Int):Th H (.int i)
 | bl (b:Bool):Th H (.bl b)
 | str (x:Str):Th H (.str x)
 | non:Th H .non
 | lst {a:Addr} {xs:List V} (h:H a=some (.lst xs)):Th H (.ref a)
 | tup {a:Addr} {xs:List V} (h:H a=some (.tup xs)):Th H (.ref a)
 | dct {a:Addr} {kvs:List (Key×V)} (h:H a=some (.dK kvs)):Th H (.ref a)
theorem Th.same {H H':Hp}{x:V}(t:Th H x) (s:Same H H'):Th H' x:=by
 cases t with
 | int i=>exact .int i
 | bl b=>exact .bl b
 | str x=>exact .str x
 | non=>exact .non
 | lst h=>exact .lst (s _ _ h)
 | tup h=>exact .tup (s _ _ h)
 | dct h=>exact .dct (s _ _ h)
def isI:V->Bool
 | .int _=>true
 | _=>false
def btw (x:V) (lo hi:Int):Bool:=match x with
 | .int i=>decide (lo<=i)&&decide (i<=hi)
 | _=>false
theorem btw_not {x:V}{lo hi:Int}(h:isI x=false):btw x lo hi=false:=by
 cases x <;> first | rfl | cases h
theorem oj (K:Frag):kitOne K (.type "str") (.type "int")=some false:=by with_unfolding_all rfl
theorem nY (K:Frag):kitOne K (.type "NoneType") (.type "int")=some false:=by with_unfolding_all rfl
theorem nN (K:Frag):kitOne K (.type "list") (.type "int")=some false:=by with_unfolding_all rfl
theorem nJ (K:Frag):kitOne K (.type "tuple") (.type "int")=some false:=by with_unfolding_all rfl
theorem nj (K:Frag):kitOne K (.type "dict") (.type "int")=some false:=by with_unfolding_all rfl
def iP:Sp:=fun vs H Q _=>∃ x:V,vs=[x]/\Th H x/\Q (.bl (isI x)) H
def ii:Sp:=fun vs H Q _=>∃ (x:V) (lo hi:Int),vs=[x,.int lo,.int hi]/\Th H x/\Q (.bl (btw x lo hi)) H
def mT:Sp:=fun vs H Q _=>∃ (w:Int) (x:V),vs=[.int w,x]/\4<=w/\w<=32/\Th H x/\Q (.bl (btw x 0 (1*2^w.toNat-1))) H
end Ow
namespace Ow
open PySem PySem.Spec PyProof.Rows L2
theorem comp_rng {lo:Int}{n:Nat}{D:Addr}{te':TE}{tl:L2.St}{G:Hp->Prop}{H1:Hp}(Pv:Nat->Hp->Prop) (h0:Pv 0 (upd H1 D (.lst [])))
  (hs:∀ (i:Nat) H,i<n->Pv i H->te' (some (.int (lo+i))::tl) H fun y H2=>∃ ys,H2 D=some (.lst ys)/\ys.length<sizeLine/\∃ m',m'<n-i/\(m'=n-(i+1)/\i+1<=n/\Pv (i+1) (upd H2 D (.lst (ys++[y])))))
  (hd:∀ H,Pv n H->G H) :
  ∃ W:Nat->Nat->Hp->Prop,(∃ m,W 0 m (upd H1 D (.lst [])))/\∀ i m H,W i m H ->
   ((Itr lo n).stop i H/\G H)\/((Itr lo n).go i H/\∀ x H',(Itr lo n).yld i H x H'->te' (some x::tl) H' fun y H2=>∃ ys,H2 D=some (.lst ys)/\ys.length<sizeLine/\∃ m',m'<m/\W (i+1) m' (upd H2 D (.lst (ys++[y])))):=by
 refine⟨fun i m H=>m=n-i/\i<=n/\Pv i H,⟨n,by simp,zero_le _,h0⟩,?_⟩
 rintro i m H ⟨rfl,hi,p⟩
 by_cases hlt:i<n
 ·refine .inr ⟨hlt,fun x H' y=>?_⟩
  obtain⟨e,y⟩:=y
  subst e y
  exact hs i _ hlt p
 ·have e:i=n:=by omega
  subst e
  exact .inl ⟨Nat.le_refl _,hd H p⟩
end Ow
namespace Ow
open PySem PySem.Spec PyProof.Rows L2
section
variable {X:Cx}
theorem ty_str {K:Frag}{x:Str}{H:Hp}:tyV K "str" (.str x) H:=rfl
end
end Ow
namespace Ow
open PySem PySem.Spec PyProof.Rows L2
inductive RD (H:Hp):V->PyData->Prop where
 | non:RD H .non .none
 | bl (b:Bool):RD H (.bl b) (.bool b)
 | int (i:Int):RD H (.int i) (.int i)
 | str (x:Str):RD H (.str x) (.str x)
 | lst {a:Addr} {xs:List V} {ds:List PyData} (h:H a=some (.lst xs)) (hl:xs.length=ds.length) (hi:∀ (i:Nat) x d,xs[i]?=some x->ds[i]?=some d->RD H x d):RD H (.ref a) (.list ds)
 | tup {a:Addr} {xs:List V} {ds:List PyData} (h:H a=some (.tup xs)) (hl:xs.length=ds.length) (hi:∀ (i:Nat) x d,xs[i]?=some x->ds[i]?=some d->RD H x d):RD H (.ref a) (.tuple ds)
theorem ky {h:Heap}:∀ {xs:List V}{us:List Value}{ds:List PyData},Vals xs us->xs.length=ds.length->(∀ (i:Nat) x d,xs[i]?=some x->ds[i]?=some d->∀ u,RelV x u->∃ as,Reads h u d as)->∃ as,ReadsAll h us ds as
 | _,_,[],.nil,_,_=>⟨_,.nil⟩
 | _,_,_::_,.nil,hl,_=>absurd hl (by simp)
 | _,_,[],.cons _ _,hl,_=>absurd hl (by simp)
 | _,_,d::ds,.cons r rr,hl,hi=>by
  obtain⟨as,h1⟩:=hi 0 _ _ rfl rfl _ r
  obtain⟨bs,h2⟩:=ky rr (by simpa using hl) fun i x d' e1 e2=>hi (i+1) x d' (by simpa using e1) (by simpa using e2)
  exact⟨_,.cons h1 h2⟩
theorem RD.reads {X:Cx}{pins:List (Addr×Obj)}{σ:L2.St}{H:Hp}{s:Shared}(I:Inv X pins σ H s) {x:V}{d:PyData}(r:RD H x d):∀ u,RelV x u->∃ as,Reads s.heap u d as:=by
 induction r with
 | non=>intro u ru; cases ru; exact⟨_,.none⟩
 | bl b=>intro u ru; cases ru; exact⟨_,.bool b⟩
 | int i=>intro u ru; obtain⟨t,rfl⟩:=ru; exact⟨_,.int i t⟩
 | str x=>intro u ru; obtain⟨t,rfl⟩:=ru; exact⟨_,.str x t⟩
 | @lst a xs ds h hl _ ih =>
  intro u ru
  cases (show u=Value.ref a from ru)
  obtain⟨_,its,n,r,g⟩:=I.hok a _ h
  obtain⟨as,q⟩:=ky r hl ih
  exact⟨_,.list g rfl rfl q⟩
 | @tup a xs ds h hl _ ih =>
  intro u ru
  cases (show u=Value.ref a from ru)
  obtain⟨_,its,r,o,g,c,n,e⟩:=I.hok a _ h
  obtain⟨as,q⟩:=ky r hl ih
  exact⟨_,.tuple g c e q⟩
end Ow
namespace Ow
open PySem PySem.Spec PyProof.Rows L2
section
variable {prog:Program}{w:World}{K:Type} [DecidableEq K] {knd:KeyKind prog w K}{A:Around}{E:Value->Shared->Prop}{s:Shared}
end
section
variable {prog:Program}{w:World}{A:Around}{E:Value->Shared->Prop}{s:Shared}
end
section
variable {X:Cx}
theorem dk_at {pins:List (Addr×Obj)}{σ:L2.St}{H:Hp}{s:Shared}(I:Inv X pins σ H s) {a:Addr}{kvs:List (Key×V)}(e:H a=some (.dK kvs)):kvs.length<=sizeLine/\(a == sysModules)=false/\∃ vs,KV kvs vs/\s.heap.DictOf (aH X.prog X.w) a vs:=I.hok a _ e
def kD:Key->PyData
 | .inl i=>.int i
 | .inr x=>.str x
theorem o8 {h:Heap}:∀ (k:Key) (key:Value),(aH X.prog X.w).is k key=true->Reads h key (kD k) []:=by
 intro k key e
 rcases aP e with ⟨i,t,rfl,rfl⟩ | ⟨x,t,rfl,rfl⟩
 ·exact .int i t
 ·exact .str x t
inductive FD:V->PyData->Prop where
 | non:FD .non .none
 | bl (b:Bool):FD (.bl b) (.bool b)
 | int (i:Int):FD (.int i) (.int i)
 | str (x:Str):FD (.str x) (.str x)
theorem FD.reads {h:Heap}{x:V}{d:PyData}{u:Value}(f:FD x d) (r:RelV x u):Reads h u d []:=by
 cases f with
 | non=>cases r; exact .none
 | bl b=>cases r; exact .bool b
 | int i=>obtain⟨t,rfl⟩:=r; exact .int i t
 | str i=>obtain⟨t,rfl⟩:=r; exact .str i t
inductive FDs:List (Key×V)->List (PyData×PyData)->Prop where
 | nil:FDs [] []
 | cons {k:Key} {v:V} {d:PyData} {kvs:List (Key×V)} {D:List (PyData×PyData)}:FD v d->FDs kvs D->FDs ((k,v)::kvs) ((kD k,d)::D)
theorem FDs.reads {h:Heap}{kvs:List (Key×V)}{D:List (PyData×PyData)}(f:FDs kvs D):∀ {vs:List (Key×Value)},KV kvs vs->PyProof.V.PairsRead h kD vs D []:=by
 induction f with
 | nil=>intro vs r; cases r; exact .nil
 | @cons k v d kvs D f _ ih =>
  intro vs r
  cases r with
  | @cons _ b _ bs h1 h2 =>
   obtain⟨bk,bv⟩:=b
   obtain⟨e1,e2⟩:=h1
   cases (show k=bk from e1)
   exact .cons (as:=[]) (bs:=[]) (f.reads e2) (ih h2)
end
theorem hu64 {A:Around}{k:Nat}(hr:Room k A):A.units+64<cLine:=by have:=hr.un; omega
def sQ:Expr->Bool
 | .Starred _ _=>false
 | _=>true
theorem qw {e:Expr}(h:sQ e=true) (rest:List Expr) (env:Env):starEach (e::rest) env=(false,eval e env)::starEach rest env:=by
 cases e <;> first | rfl | cases h
theorem pa_consN {X:Cx}{e:Expr}{es:List Expr}{te:TE}{t:TA}(ha:PE X e te) (hr:PA X es t) (hn:sQ e=true:=by rfl):PA X (e::es) (aX te t):=aa ha hr (qw hn es X.env)
structure Sl (p:Prop):Prop where
 out:p
section
variable {X:Cx}
theorem pe_lstS {es:List Expr}{t:TA}{pos:Pos}(h:Sl (PA X es t)):Sl (PE X (.List es pos) (tLst t)):=⟨bX h.out⟩
theorem bi {e:Expr}{es:List Expr}{te:TE}{t:TA}(ha:PE X e te) (hr:Sl (PA X es t)) (hn:sQ e=true:=by rfl):Sl (PA X (e::es) (aX te t)):=⟨pa_consN ha hr.out hn⟩
theorem pa_nilS:Sl (PA X [] li):=⟨ae⟩
end
end Ow
namespace L2
open PySem PySem.Spec PyProof.Rows
section
variable {κ:Type} [DecidableEq κ]
def bR (kvs:List (κ×V)) (k:κ):Option V:=(kvs.find? fun kv=>decide (kv.1=k)).map (·.2)
def eK (kvs:List (κ×V)) (k:κ) (v:V):List (κ×V) :=
 if (kvs.any fun kv=>decide (kv.1=k))=true then kvs.map (fun kv=>if kv.1=k then (kv.1,v) else kv) else kvs++[(k,v)]
def iH (kvs:List (κ×V)) (k:κ):List (κ×V):=kvs.filter fun kv=>decide (kv.1≠k)
theorem bG {p:κ×V}{r:List (κ×V)}{k:κ}(e:p.1=k):bR (p::r) k=some p.2:=by simp[bR,List.find?_cons,e]
theorem bH {p:κ×V}{r:List (κ×V)}{k:κ}(e:¬ p.1=k):bR (p::r) k=bR r k:=by simp[bR,List.find?_cons,e]
theorem iM (k:κ):∀ kvs:List (κ×V),(kvs.any fun kv=>decide (kv.1=k))=(bR kvs k).isSome
 | []=>rfl
 | p::r=>by
  rw[List.any_cons]
  by_cases e:p.1=k
  ·simp only[bG e,decide_eq_true e,Bool.true_or,Option.isSome_some]
  ·rw[bH e,decide_eq_false e,Bool.false_or]; exact iM k r
theorem pe (k j:κ) (y:V):∀ kvs:List (κ×V),bR (kvs.map fun kv=>if kv.1=k then (kv.1,y) else kv) j=(bR kvs j).map fun x=>if j=k then y else x
 | []=>rfl
 | p::r=>by
  have ih:=pe k j y r
  rw[map_cons]
  by_cases h:p.1=k
  ·rw[if_pos h]
   by_cases e:p.1=j
   ·rw[bG (p:=(p.1,y)) e,bG e,Option.map_some,if_pos (e.symm.trans h)]
   ·rw[bH (p:=(p.1,y)) e,bH e,ih]
  ·rw[if_neg h]
   by_cases e:p.1=j
   ·rw[bG (p:=p) e,bG e,Option.map_some,if_neg (fun z=>h (e.trans z))]
   ·rw[bH (p:=p) e,bH e,ih]
theorem mt (k j:κ) (y:V):∀ kvs:List (κ×V),bR kvs k=none->bR (kvs++[(k,y)]) j=if j=k then some y else bR kvs j
 | [],_=>by
  by_cases e:k=j
  ·rw[if_pos e.symm]; exact bG (p:=(k,y)) e
  ·rw[if_neg (fun z=>e z.symm)]; exact bH (p:=(k,y)) e
 | p::r,hn=>by
  rw[List.cons_append]
  have hk:¬ p.1=k:=fun z=>by rw[bG z] at hn; cases hn
  rw[bH hk] at hn
  have ih:=mt k j y r hn
  by_cases e:p.1=j
  ·rw[bG e,bG e,if_neg (fun z=>hk (e.trans z))]
  ·rw[bH e,bH e,ih]
theorem fW (kvs:List (κ×V)) (k j:κ) (y:V):bR (eK kvs k y) j=if j=k then some y else bR kvs j:=by
 unfold eK
 by_cases a:(kvs.any fun kv=>decide (kv.1=k))=true
 ·rw[if_pos a,pe]
  rw[iM] at a
  by_cases e:j=k
  ·obtain⟨x,hx⟩:=Option.isSome_iff_exists.mp a
   rw[if_pos e,e,hx,Option.map_some,if_pos rfl]
  ·rw[if_neg e]
   cases bR kvs j with
   | none=>rfl
   | some x=>rw[Option.map_some,if_neg e]
 ·rw[if_neg a]
  refine mt k j y kvs ?_
  rw[iM] at a
  cases q:bR kvs k with
  | none=>rfl
  | some x=>rw[q] at a; exact(a rfl).elim
theorem cY (kvs:List (κ×V)) (k:κ) (v:V):(eK kvs k v).length<=kvs.length+1:=by
 unfold eK
 split
 ·rw[length_map]; omega
 ·rw[length_append,length_cons,List.length_nil]; omega
theorem RelO.isSome_eq {o:Option V}{u:Option Value}(r:RelO o u):o.isSome=u.isSome:=by
 cases o with
 | none=>cases u with
  | none=>rfl
  | some _=>exact(show False from r).elim
 | some _=>cases u with
  | none=>exact(show False from r).elim
  | some _=>rfl
theorem RelO.getD {o:Option V}{u:Option Value}{d:V}{d':Value}(r:RelO o u) (rd:RelV d d'):RelV (o.getD d) (u.getD d'):=by
 cases o with
 | none=>cases u with
  | none=>exact rd
  | some _=>exact(show False from r).elim
 | some _=>cases u with
  | none=>exact(show False from r).elim
  | some _=>exact r
theorem KV.val {kvs:List (κ×V)}{vs:List (κ×Value)}(r:KV kvs vs) (k:κ):RelO (bR kvs k) (valueAt vs k):=by
 unfold KV at r
 induction r with
 | nil=>exact True.intro
 | @cons p q ps qs h t ih =>
  obtain⟨h1,h2⟩:=h
  by_cases e:p.1=k
  ·have e':q.1=k:=h1.symm.trans e
   have b:valueAt (q::qs) k=some q.2:=by simp[valueAt,List.find?_cons,e']
   rw[bG e,b]; exact h2
  ·have e':¬ q.1=k:=fun z=>e (h1.trans z)
   have b:valueAt (q::qs) k=valueAt qs k:=by simp[valueAt,List.find?_cons,e']
   rw[bH e,b]; exact ih
theorem KV.any {kvs:List (κ×V)}{vs:List (κ×Value)}(r:KV kvs vs) (k:κ):(kvs.any fun kv=>decide (kv.1=k))=vs.any fun kv=>decide (kv.1=k):=by
 unfold KV at r
 induction r with
 | nil=>rfl
 | cons h t ih=>rw[List.any_cons,List.any_cons,ih,h.1]
theorem KV.repl {kvs:List (κ×V)}{vs:List (κ×Value)}(r:KV kvs vs) (k:κ) {y:V}{u:Value}(ry:RelV y u) :
  KV (kvs.map fun kv=>if kv.1=k then (kv.1,y) else kv) (vs.map fun kv=>if kv.1=k then (kv.1,u) else kv):=by
 unfold KV at r ⊢
 induction r with
 | nil=>exact .nil
 | @cons p q ps qs h t ih =>
  rw[map_cons,map_cons]
  refine .cons ?_ ih
  obtain⟨h1,h2⟩:=h
  by_cases e:p.1=k
  ·rw[if_pos e,if_pos (h1.symm.trans e)]; exact⟨h1,ry⟩
  ·rw[if_neg e,if_neg (fun z=>e (h1.trans z))]; exact⟨h1,h2⟩
theorem KV.put {kvs:List (κ×V)}{vs:List (κ×Value)}(r:KV kvs vs) (k:κ) {y:V}{u:Value}(ry:RelV y u):KV (eK kvs k y) (stored vs k u):=by
 unfold eK stored
 rw[r.any k]
 by_cases e:(vs.any fun kv=>decide (kv.1=k))=true
 ·rw[if_pos e,if_pos e]; exact r.repl k ry
 ·rw[if_neg e,if_neg e]; exact Paired.snoc r ⟨rfl,ry⟩
theorem KV.drop {kvs:List (κ×V)}{vs:List (κ×Value)}(r:KV kvs vs) (k:κ):KV (iH kvs k) (without vs k):=by
 unfold KV at r ⊢
 unfold iH without
 induction r with
 | nil=>exact .nil
 | @cons p q ps qs h t ih =>
  obtain⟨h1,h2⟩:=h
  rw[List.filter_cons,List.filter_cons]
  by_cases e:p.1=k
  ·have a:¬ decide (p.1≠k)=true:=by simp[e]
   have b:¬ decide (q.1≠k)=true:=by simp[h1.symm.trans e]
   rw[if_neg a,if_neg b]; exact ih
  ·have e':¬ q.1=k:=fun z=>e (h1.trans z)
   have a:decide (p.1≠k)=true:=by simp[e]
   have b:decide (q.1≠k)=true:=by simp[e']
   rw[if_pos a,if_pos b]; exact .cons ⟨h1,h2⟩ ih
theorem KV.keys {kvs:List (κ×V)}{vs:List (κ×Value)}(r:KV kvs vs):kvs.map (·.1)=vs.map (·.1):=by
 unfold KV at r
 induction r with
 | nil=>rfl
 | cons h t ih=>rw[map_cons,map_cons,ih,h.1]
theorem KV.length {kvs:List (κ×V)}{vs:List (κ×Value)}(r:KV kvs vs):kvs.length=vs.length:=Paired.length r
theorem oJ (kvs:List (κ×V)) (k:κ):(iH kvs k).length<=kvs.length:=List.length_filter_le _ _
end
theorem p0 {P:Program}{w:World}{k:Key}{u:Value}(r:RelV (kV k) u):(aH P w).is k u=true:=by
 cases k with
 | inl i=>obtain⟨t,e⟩:=(show ∃ t,u=Value.int i t from r); subst e; exact jo P w i t
 | inr x=>obtain⟨t,e⟩:=(show ∃ t,u=Value.str x t from r); subst e; exact oA P w x t
theorem lE {P:Program}{w:World}:∀ {ks:List Key}{us:List Value},Vals (ks.map kV) us->ItemsAre (aH P w) ks us
 | [],_,r=>by rw[List.map_nil] at r; cases r; exact .nil
 | k::ks,_,r=>by
  rw[map_cons] at r
  cases r with
  | cons h t=>exact .cons (p0 h) (lE t)
abbrev KT (H:Hp):List (List Key×V)->List (List Key×Addr×Value)->Prop:=Paired fun p q=>p.1=q.1/\H q.2.1=some (.tup (p.1.map kV))/\RelV p.2 q.2.2
theorem KT.val {H:Hp}{kvs:List (List Key×V)}{xs:List (List Key×Addr×Value)}(r:KT H kvs xs) (k:List Key):RelO (bR kvs k) ((atKey xs k).map (·.2)):=by
 induction r with
 | nil=>exact True.intro
 | @cons p q ps qs h t ih =>
  obtain⟨h1,_,h2⟩:=h
  by_cases e:p.1=k
  ·have e':q.1=k:=h1.symm.trans e
   have b:atKey (q::qs) k=some q.2:=by simp[atKey,List.find?_cons,e']
   rw[bG e,b]; exact h2
  ·have e':¬ q.1=k:=fun z=>e (h1.trans z)
   have b:atKey (q::qs) k=atKey qs k:=by simp[atKey,List.find?_cons,e']
   rw[bH e,b]; exact ih
theorem KT.repl {H:Hp}{kvs:List (List Key×V)}{xs:List (List Key×Addr×Value)}(r:KT H kvs xs) (k:List Key) {y:V}{u:Value}(ry:RelV y u) :
  KT H (kvs.map fun kv=>if kv.1=k then (kv.1,y) else kv) (xs.map (putAt k u)):=by
 induction r with
 | nil=>exact .nil
 | @cons p q ps qs h t ih =>
  rw[map_cons,map_cons]
  refine .cons ?_ ih
  obtain⟨h1,h2,h3⟩:=h
  unfold putAt
  by_cases e:p.1=k
  ·rw[if_pos e,if_pos (h1.symm.trans e)]; exact⟨h1,h2,ry⟩
  ·rw[if_neg e,if_neg (fun z=>e (h1.trans z))]; exact⟨h1,h2,h3⟩
theorem KT.put {H:Hp}{kvs:List (List Key×V)}{xs:List (List Key×Addr×Value)}(r:KT H kvs xs) (k:List Key) {b:Addr}{y:V}{u:Value}(hb:H b=some (.tup (k.map kV))) (ry:RelV y u) :
  KT H (eK kvs k y) (storedH xs k b u):=by
 have e:(kvs.any fun kv=>decide (kv.1=k))=(atKey xs k).isSome:=by
  rw[iM,(r.val k).isSome_eq,Option.isSome_map]
 unfold eK storedH
 rw[e]
 by_cases q:(atKey xs k).isSome=true
 ·rw[if_pos q,if_pos q]; exact r.repl k ry
 ·rw[if_neg q,if_neg q]; exact Paired.snoc r ⟨rfl,hb,ry⟩
theorem KT.keeps {H H':Hp}{kvs:List (List Key×V)}{xs:List (List Key×Addr×Value)}(r:KT H kvs xs) (ht:∀ b ys,H b=some (.tup ys)->H' b=some (.tup ys)):KT H' kvs xs :=
 Paired.mapP r fun _ _ z=>⟨z.1,ht _ _ z.2.1,z.2.2⟩
section
variable {P:Program}{w:World}{H:Hp}{h:Heap}{a:Addr}
theorem rd_of {u:HO}(ok:HOk P w H h) (e:Rd H a u):ObjOk P w H h a u:=e.ok ok
theorem rQ {kvs:List (Key×V)}(ok:HOk P w H h) (e:Rd H a (.dK kvs)):kvs.length<=sizeLine/\(a == sysModules)=false/\∃ vs,KV kvs vs/\h.DictOf (aH P w) a vs :=
 show ObjOk P w H h a (.dK kvs) from rd_of ok e
theorem dk_of {kvs:List (Key×V)}(ok:HOk P w H h) (e:H a=some (.dK kvs)):kvs.length<=sizeLine/\(a == sysModules)=false/\∃ vs,KV kvs vs/\h.DictOf (aH P w) a vs:=rQ ok (.inl e)
theorem oO {ks:List Key}(ok:HOk P w H h) (e:H a=some (.tup (ks.map kV))):(tupleKind (aH P w)).is h ks a:=by
 obtain⟨_,its,r,o,h1,h2,n,h3⟩:=(show ObjOk P w H h a (.tup (ks.map kV)) from ok a _ e)
 exact⟨o,its.toArray,n,h1,h2,h3,by simpa using lE r⟩
theorem qW {kvs:List (List Key×V)}(ok:HOk P w H h) (e:Rd H a (.dT kvs)):kvs.length<=sizeLine/\(a == sysModules)=false /\
  ∃ xs,KT H kvs xs/\h.DictOfH (tupleKind (aH P w)) a xs:=by
 obtain⟨z,y,xs,r,o,es,ep,h1,h2,h3,h4,h5⟩:=(show ObjOk P w H h a (.dT kvs) from rd_of ok e)
 refine⟨z,y,xs,r,o,es,ep,h1,h2,h3,h4,fun x hx=>?_,h5⟩
 have all:∀ {l:List (List Key×V)} {m:List (List Key×Addr×Value)},KT H l m->∀ x∈m,(tupleKind (aH P w)).is h x.1 x.2.1:=by
  intro l m q
  induction q with
  | nil=>intro x hx; exact nomatch hx
  | @cons p q ps qs hq t ih =>
   intro x hx
   rcases List.mem_cons.mp hx with e | hx
   ·subst e
    exact oO ok (by rw[<- hq.1]; exact hq.2.1)
   ·exact ih x hx
 exact all r x hx
theorem dt_of {kvs:List (List Key×V)}(ok:HOk P w H h) (e:H a=some (.dT kvs)):kvs.length<=sizeLine/\(a == sysModules)=false /\
  ∃ xs,KT H kvs xs/\h.DictOfH (tupleKind (aH P w)) a xs:=qW ok (.inl e)
end
def DGet (H:Hp) (a:Addr) (y:V) (r:Option V):Prop :=
 (∃ kvs k,Rd H a (.dK kvs)/\y=kV k/\r=bR kvs k)\/∃ kvs k b,Rd H a (.dT kvs)/\y=.ref b/\H b=some (.tup (k.map kV))/\r=bR kvs k
def DPut (H:Hp) (a:Addr) (y v:V) (H':Hp):Prop :=
 (∃ kvs k,H a=some (.dK kvs)/\y=kV k/\kvs.length<sizeLine/\H'=upd H a (.dK (eK kvs k v))) \/
 ∃ kvs k b,H a=some (.dT kvs)/\y=.ref b/\H b=some (.tup (k.map kV))/\kvs.length<sizeLine/\H'=upd H a (.dT (eK kvs k v))
theorem DGet.k {H:Hp}{a:Addr}{kvs:List (Key×V)}{k:Key}(e:H a=some (.dK kvs)):DGet H a (kV k) (bR kvs k):=.inl ⟨kvs,k,.inl e,rfl,rfl⟩
theorem DPut.k {H:Hp}{a:Addr}{kvs:List (Key×V)}{k:Key}{v:V}(e:H a=some (.dK kvs)) (hl:kvs.length<sizeLine):DPut H a (kV k) v (upd H a (.dK (eK kvs k v))):=.inl ⟨kvs,k,e,rfl,hl,rfl⟩
section
variable {X:Cx}{pins:List (Addr×Obj)}{σ:St}{H:Hp}{s:Shared}{a:Addr}{y v:V}{u r:Value}{o:Option V}{A:Around}{E:Value->Shared->Prop}
theorem qX {Q:Value->Shared->Prop}(hu:A.units+1<cLine) (I:Inv X pins σ H s) (g:DGet H a y (some v)) (ry:RelV y u) (h:∀ w' s',Inv X pins σ H s'->RelV v w'->Q w' s') :
  wpAny (model X.prog X.w) A (getItem (.ref a) u) Q E s:=by
 rcases g with ⟨kvs,k,e,ey,l⟩ | ⟨kvs,k,b,e,ey,eb,l⟩
 ·subst ey
  obtain⟨z,hd,vs,rel,dd⟩:=rQ I.hok e
  obtain⟨w',hw,rw'⟩:=RelO.some_of (v:=v) (o:=valueAt vs k) (by rw[l]; exact rel.val k)
  exact wpAny_getItem_of (p0 ry) dd.mapOf hw (h w' _ (I.tok _) rw')
 ·subst ey
  cases (show u=Value.ref b from ry)
  obtain⟨z,hd,xs,rel,dd⟩:=qW I.hok e
  obtain⟨w',hw,rw'⟩:=RelO.some_of (v:=v) (o:=(atKey xs k).map (·.2)) (by rw[l]; exact rel.val k)
  obtain⟨p,hp,hp2⟩:=Option.map_eq_some_iff.mp hw
  refine wpAny_getItem_heap (tupleKind_room_in1 hu) (oO I.hok eb) dd hp ?_
  rw[hp2]
  exact h w' _ (I.tok _) rw'
theorem oa {h':Heap}{t':Nat}{ob:HO}(I:Inv X pins σ H s) (mu:Mut (H a)) (hs:Heap.SameBut a s.heap h') (he:∃ q,h'.get? a=some q) (new:ObjOk X.prog X.w (upd H a ob) h' a ob) :
  Inv X pins σ (upd H a ob) { s with heap:=h',toks:=t' } :=
 I.write (x:=a) (e:=a) mu (.inl rfl) (fun b q hb z=>(hs.2 b hb).trans z) he new
theorem dk_new {P:Program}{w:World}{H':Hp}{h':Heap}{kvs:List (Key×V)}{vs:List (Key×Value)}(z:kvs.length<=sizeLine) (hd:(a == sysModules)=false) (rel:KV kvs vs) (dd:h'.DictOf (aH P w) a vs) :
  ObjOk P w H' h' a (.dK kvs):=⟨z,hd,vs,rel,dd⟩
theorem qR {H':Hp}{Q:Unit->Shared->Prop}(hu:A.units+1<cLine) (I:Inv X pins σ H s) (g:DPut H a y v H') (ry:RelV y u) (rv:RelV v r) (h:∀ s',Inv X pins σ H' s'->Q () s') :
  wpAny (model X.prog X.w) A (setItem (.ref a) u r) Q E s:=by
 rcases g with ⟨kvs,k,e,ey,l,eH⟩ | ⟨kvs,k,b,e,ey,eb,l,eH⟩
 ·subst ey eH
  obtain⟨z,hd,vs,rel,dd⟩:=dk_of I.hok e
  have hz:vs.length<=sizeLine:=by rw[<- rel.length]; exact z
  have hl:(eK kvs k v).length<=sizeLine:=by have:=cY kvs k v; omega
  refine wpAny_setItem_pairs (hsz:=hz) (p0 ry) dd fun h' dd' hs=>h _ ?_
  have he:∃ q,h'.get? a=some q:=let ⟨q,_,_,hq,_⟩:=dd'; ⟨q,hq⟩
  exact oa I (by rw[e]; exact True.intro) hs he (dk_new hl hd (rel.put k rv) dd')
 ·subst ey eH
  cases (show u=Value.ref b from ry)
  obtain⟨z,hd,xs,rel,dd⟩:=dt_of I.hok e
  have hz:xs.length<=sizeLine:=by rw[<- Paired.length rel]; exact z
  have hl:(eK kvs k v).length<=sizeLine:=by have:=cY kvs k v; omega
  refine wpAny_setItem_heap (hsz:=hz) (tupleKind_room_in1 hu) (oO I.hok eb) dd fun h' dd' hs=>h _ ?_
  obtain⟨q,es,ep,hq,h2,h3,h4,_,h5⟩:=dd'
  refine oa I (by rw[e]; exact True.intro) hs ⟨q,hq⟩ ⟨hl,hd,_,(rel.put k eb rv).keeps fun c ys ec=>?_,q,es,ep,hq,h2,h3,h4,h5⟩
  rw[ao (ne_of ec e (fun z=>nomatch z))]
  exact ec
end
section
variable {X:Cx}{pins:List (Addr×Obj)}{σ:St}{H:Hp}{s:Shared}{a:Addr}{kvs:List (Key×V)}{k:Key}{u:Value}{A:Around}{E:Value->Shared->Prop}
theorem d_pop {v:V}{more:List Value}{Q:Value->Shared->Prop}(I:Inv X pins σ H s) (e:H a=some (.dK kvs)) (ry:RelV (kV k) u) (l:bR kvs k=some v) (hm:more=[]\/∃ x,more=[x])
  (h:∀ w' s',Inv X pins σ (upd H a (.dK (iH kvs k))) s'->RelV v w'->Q w' s'):wpAny (model X.prog X.w) A (call (.builtin "dict.pop") (.ref a::u::more)) Q E s:=by
 obtain⟨z,hd,vs,rel,dd⟩:=dk_of I.hok e
 obtain⟨w',hw,rw'⟩:=RelO.some_of (v:=v) (o:=valueAt vs k) (by rw[<- l]; exact rel.val k)
 have hp:(keyPart u).isSome=true:=by
  cases k with
  | inl i=>obtain⟨t,q⟩:=(show ∃ t,u=Value.int i t from ry); subst q; rfl
  | inr x=>obtain⟨t,q⟩:=(show ∃ t,u=Value.str x t from ry); subst q; rfl
 have ha:argsOk "dict.pop" ⟨.ref a::u::more,[]⟩:=by
  rcases hm with q | ⟨x,q⟩
  ·subst q; exact PySem.F.args_dict_pop_2 _ _
  ·subst q; exact PySem.F.args_dict_pop_3 _ _ _
 refine call_meetsIn PySem.F.slot_dict_pop dd.typeIs PySem.F.entry_dict_pop ha (meets_dict_pop_there (aH X.prog X.w) a (p0 ry) more hm hp)
  ⟨vs,w',dd,by rw[<- rel.length]; exact z,hw,fun h' dd' hs=>h w' _ ?_ rw'⟩
 have he:∃ q,h'.get? a=some q:=let ⟨q,_,_,hq,_⟩:=dd'; ⟨q,hq⟩
 exact oa I (by rw[e]; exact True.intro) hs he (dk_new (Nat.le_trans (oJ kvs k) z) hd (rel.drop k) dd')
end
def NoSl (i:Expr):Prop:=∀ ov iv,subscripted i false ov iv=operate [ov,iv] (getItem ov iv)
theorem qD {prog:Program}{w:World}{A:Around}{E:Value->Shared->Prop}{s:Shared}{env:Env}{value slice:Expr}{pos:Pos}{T id:String}{Q:Value->Shared->Prop}
  (hl:typeLookup (.type T) "__getitem__"=pure (some (.builtin id))) (hs:NoSl slice)
  (h:wpAny (model prog w) A (eval value env) (fun o s₁=>wpAny (model prog w) A (eval slice env) (fun i s₂=>s₂.TypeIs o T/\wpAny (model prog w) A (getItem o i) Q E s₂) E s₁) E s) :
  wpAny (model prog w) A (eval (.Subscript value slice pos) env) Q E s:=by
 refine Subscript_ (wpAny_mono h (fun o s₁ h₁=>wpAny_mono h₁ (fun i s₂ h₂=>?_) fun _ _ x=>x) fun _ _ x=>x)
 obtain⟨hT,h₂⟩:=h₂
 unfold subscriptTail
 refine wpAny_bind ?_
 rw[getitemInPython_of_ne hT.not_modules]
 refine wpAny_bind (wpAny_specialOf hT hl ?_)
 have fin:wpAny (model prog w) A (subscripted slice false o i) (fun r s₃=>wpAny (model prog w) A (letTemporaryGo value o r >>= fun _=>pure r) Q E s₃) E s₂:=by
  rw[hs o i]
  exact wpAny_operating (wpAny_mono h₂ (fun r s₃ h₃=>wpAny_bind (wpAny_letTemporaryGo (wpAny_pure h₃))) fun _ _ x=>x)
 first
  | exact wpAny_pure (wpAny_bind fin)
  | exact wpAny_bind (wpAny_pure (wpAny_bind fin))
  | exact wpAny_bind fin
theorem nO {X:Cx}{pins:List (Addr×Obj)}{σ:St}{H:Hp}{s:Shared}{a:Addr}{y:V}{o:Option V}(I:Inv X pins σ H s) (g:DGet H a y o):s.TypeIs (.ref a) "dict":=by
 rcases g with ⟨kvs,k,e,_,_⟩ | ⟨kvs,k,b,e,_,_,_⟩
 ·obtain⟨_,_,vs,_,dd⟩:=rQ I.hok e
  exact dd.typeIs
 ·obtain⟨_,_,xs,_,dd⟩:=qW I.hok e
  exact dd.typeIs
def tDGet (td ty:TE):TE:=fun σ H Q=>td σ H fun x H1=>ty σ H1 fun y H2=>∃ a v,x=.ref a/\DGet H2 a y (some v)/\Q v H2
def sDPut (td ty tv:TE):TS:=fun D σ H=>tv σ H fun v H1=>td σ H1 fun x H2=>ty σ H2 fun y H3=>∃ a H4,x=.ref a/\DPut H3 a y v H4/\D.nx σ H4
section
variable {X:Cx}{o i e value:Expr}{pos pos' tpos:Pos}{td ty tv:TE}
theorem pe_dget (hu:X.A.units+1<cLine) (ho:PE X o td) (hi:PE X i ty) (hs:NoSl i):PE X (.Subscript o i pos) (tDGet td ty):=by
 intro pins s σ H Q I h
 refine qD PySem.F.slot_dict_getitem.lookup hs (thn (ho pins s σ H _ I h) fun u s1 ⟨x,H1,I1,rx,q1⟩=>thn (hi pins s1 σ H1 _ I1 q1) fun iv s2 ⟨y,H2,I2,ry,a,v,ex,g,q2⟩=>?_)
 subst ex
 obtain rfl:u=Value.ref a:=rx
 exact⟨nO I2 g,qX hu I2 g ry fun w' s3 I3 rw'=>⟨v,H2,I3,rw',q2⟩⟩
theorem cZ (hu:X.A.units+1<cLine) (ho:PE X o td) (hi:PE X i ty) (hv:PE X value tv) (hs:swapsWith value (some (.Subscript o i pos')) pos.line X.env=pure false) :
  PS X (.Assign [.Subscript o i pos'] value pos) (sDPut td ty tv):=by
 intro pins s σ H D I h
 refine wpAny_Assign_Subscript (thn (hv pins s σ H _ I h) fun r s1 ⟨v,H1,I1,rv,q1⟩=>thn (ho pins s1 σ H1 _ I1 q1) fun u s2 ⟨x,H2,I2,rx,q2⟩=>thn (hi pins s2 σ H2 _ I2 q2) fun iv s3 ⟨y,H3,I3,ry,a,H4,ex,g,q3⟩=>?_) hs
 subst ex
 obtain rfl:u=Value.ref a:=rx
 exact qR hu I3 g ry rv fun s4 I4=>⟨σ,H4,I4,q3⟩
end
section
variable {X:Cx}{pos:Pos}
end
structure M1 (X:Cx) (o:Expr) (m:Str) (apos:Pos) (e:Expr) (cpos:Pos):Prop where
 base:attributeBase o m X.env (eval o X.env)=eval o X.env
 few:((backTo cpos (starEach [e] X.env)).all (fun x=>!x.1)&&(backToKw cpos (keywordEach [] X.env)).all (fun x=>x.1.isSome)
 &&decide (([e]:List Expr).length+([]:List Keyword).length+(if ([]:List Keyword).isEmpty then 0 else 1)<30))=true
 line:(apos.endLine == cpos.line)=true
 trees:backTo cpos (starEach [e] X.env)=[(false,eval e X.env)]
def IsD (H:Hp) (a:Addr):Prop:=(∃ kvs,Rd H a (.dK kvs))\/∃ kvs,Rd H a (.dT kvs)
theorem isD_at {X:Cx}{pins:List (Addr×Obj)}{σ:St}{H:Hp}{s:Shared}{a:Addr}(I:Inv X pins σ H s) (d:IsD H a) :
  s.TypeIs (.ref a) "dict"/\(∀ b,Value.ref a=.ref b->∃ ob,s.heap.get? b=some ob/\ob.dict=none)/\(a == sysModules)=false:=by
 rcases d with ⟨kvs,e⟩ | ⟨kvs,e⟩
 ·obtain⟨_,hd,vs,_,dd⟩:=rQ I.hok e
  refine⟨dd.typeIs,fun b q=>?_,hd⟩
  cases q
  obtain⟨ob,_,_,h1,h2,_⟩:=dd
  exact⟨ob,h1,h2.2.1⟩
 ·obtain⟨_,hd,xs,_,dd⟩:=qW I.hok e
  refine⟨dd.typeIs,fun b q=>?_,hd⟩
  cases q
  obtain⟨ob,_,_,h1,h2,_⟩:=dd
  exact⟨ob,h1,h2.2.1⟩
section
variable {X:Cx}{pins:List (Addr×Obj)}{σ:St}{H:Hp}{s:Shared}{a:Addr}{y d:V}{u r:Value}{o:Option V}{A:Around}{E:Value->Shared->Prop}
theorem d_get1 {Q:Value->Shared->Prop}(hu:A.units+1<cLine) (I:Inv X pins σ H s) (g:DGet H a y o) (ry:RelV y u) (h:∀ w' s',Inv X pins σ H s'->RelV (o.getD .non) w'->Q w' s') :
  wpAny (model X.prog X.w) A (call (.builtin "dict.get") [.ref a,u]) Q E s:=by
 rcases g with ⟨kvs,k,e,ey,l⟩ | ⟨kvs,k,b,e,ey,eb,l⟩
 ·subst ey
  obtain⟨z,hd,vs,rel,dd⟩:=rQ I.hok e
  refine call_meetsIn PySem.F.slot_dict_get dd.typeIs PySem.F.entry_dict_get (PySem.F.args_dict_get_2 _ _) (meets_dict_get (aH X.prog X.w) a (p0 ry) hd) ⟨_,dd.mapOf,h _ _ (I.tok _) ?_⟩
  rw[l]
  exact(rel.val k).getD rfl
 ·subst ey
  cases (show u=Value.ref b from ry)
  obtain⟨z,hd,xs,rel,dd⟩:=qW I.hok e
  refine call_meetsIn PySem.F.slot_dict_get dd.typeIs PySem.F.entry_dict_get (PySem.F.args_dict_get_2 _ _) (meetsH_dict_get (tupleKind (aH X.prog X.w)) a b hd) ⟨tupleKind_room_in1 hu,k,xs,oO I.hok eb,dd,h _ _ (I.tok _) ?_⟩
  rw[l]
  exact(rel.val k).getD rfl
end
def tDGet1 (td ty:TE):TE:=fun σ H Q=>td σ H fun x H1=>∃ a,x=.ref a/\IsD H1 a/\ty σ H1 fun y H2=>∃ o,DGet H2 a y o/\Q (o.getD .non) H2
def tDPop1 (td ty:TE):TE:=fun σ H Q=>td σ H fun x H1=>∃ a,x=.ref a/\IsD H1 a/\ty σ H1 fun y H2=>∃ kvs k v,H2 a=some (.dK kvs)/\y=kV k/\bR kvs k=some v/\Q v (upd H2 a (.dK (iH kvs k)))
section
variable {X:Cx}{o e f:Expr}{apos cpos:Pos}{td ty tx:TE}
theorem pe_dget1 (hu:X.A.units+1<cLine) (ho:PE X o td) (he:PE X e ty) (m:M1 X o "get" apos e cpos):PE X (.Call (.Attribute o "get" apos) [e] [] cpos) (tDGet1 td ty):=by
 intro pins s σ H Q I h
 refine wpAny_Call_method m.base m.few m.line PySem.F.plainAttrs_dict PySem.F.slot_dict_get PySem.F.type_dict_get (thn (ho pins s σ H _ I h) fun u s1 ⟨x,H1,I1,rx,a,ex,d,q1⟩=>?_)
 subst ex
 obtain rfl:u=Value.ref a:=rx
 obtain⟨t1,t2,_⟩:=isD_at I1 d
 refine⟨t1,t2,?_⟩
 rw[m.trees]
 refine Calls.callWith_builtin rfl (Calls.evalArgs_plain (Calls.spliced_cons (thn (he pins s1 σ H1 _ I1 q1) fun iv s2 ⟨y,H2,I2,ry,ov,g,q2⟩=>Calls.spliced_nil ?_)))
 exact d_get1 hu I2 g ry fun w' s3 I3 rw'=>⟨_,H2,I3,rw',q2⟩
theorem pe_dpop1 (ho:PE X o td) (he:PE X e ty) (m:M1 X o "pop" apos e cpos):PE X (.Call (.Attribute o "pop" apos) [e] [] cpos) (tDPop1 td ty):=by
 intro pins s σ H Q I h
 refine wpAny_Call_method m.base m.few m.line PySem.F.plainAttrs_dict PySem.F.slot_dict_pop PySem.F.type_dict_pop (thn (ho pins s σ H _ I h) fun u s1 ⟨x,H1,I1,rx,a,ex,d,q1⟩=>?_)
 subst ex
 obtain rfl:u=Value.ref a:=rx
 obtain⟨t1,t2,_⟩:=isD_at I1 d
 refine⟨t1,t2,?_⟩
 rw[m.trees]
 refine Calls.callWith_builtin rfl (Calls.evalArgs_plain (Calls.spliced_cons (thn (he pins s1 σ H1 _ I1 q1) fun iv s2 ⟨y,H2,I2,ry,kvs,k,v,ea,ey,l,q2⟩=>Calls.spliced_nil ?_)))
 subst ey
 exact d_pop I2 ea ry l (.inl rfl) fun w' s3 I3 rw'=>⟨v,_,I3,rw',q2⟩
end
section
variable {X:Cx}{pins:List (Addr×Obj)}{σ:St}{H:Hp}{s:Shared}{a:Addr}{kvs:List (Key×V)}{A:Around}{E:Value->Shared->Prop}
end
section
variable {X:Cx}{pins:List (Addr×Obj)}{σ:St}{H:Hp}{s:Shared}{a:Addr}{y:V}{u:Value}{A:Around}{E:Value->Shared->Prop}
end
end L2
namespace L2
open PySem PySem.Spec PyProof.Rows
section
variable {κ:Type} [DecidableEq κ]
theorem sq {kvs:List (κ×V)}{k:κ}{p:κ×V}(h:p∈iH kvs k):p∈kvs:=(List.mem_filter.mp h).1
end
end L2
namespace Ow
open PySem PySem.Spec PyProof.Rows L2
section
variable {X:Cx}{pins:List (Addr×Obj)}{σ:L2.St}{H:Hp}{s:Shared}
theorem _root_.L2.Inv.freeze {a:Addr}{o:Obj}{kvs:List (Key×V)}(I:Inv X pins σ H s) (e:H a=some (.dK kvs)) (g:s.heap.get? a=some o):Inv X pins σ (upd H a (.frz o (.dK kvs))) s:=by
 have ok:=I.hok a _ e
 exact I.write (x:=a) (e:=a) (o:=.frz o (.dK kvs)) (h':=s.heap) (t':=s.toks) (by rw[e]; exact True.intro) (.inl rfl) (fun b u _ q=>q) ⟨_,g⟩ ⟨g,ok⟩
theorem _root_.L2.Inv.thaw {a:Addr}{o:Obj}{kvs:List (Key×V)}(I:Inv X pins σ H s) (e:H a=some (.frz o (.dK kvs))) (h0:∀ o u,X.H₀ a≠some (.frz o u)):Inv X pins σ (upd H a (.dK kvs)) s:=by
 have up:∀ b u,H b=some u->(∀ o u',u≠.frz o u')->upd H a (.dK kvs) b=some u:=fun b u q hn=>by
  rw[ao (fun z=>by rw[z,e] at q; cases q; exact hn _ _ rfl)]; exact q
 have upn:∀ b,H b=none->upd H a (.dK kvs) b=none:=fun b q=>by
  rw[ao (fun z=>by rw[z,e] at q; cases q)]; exact q
 refine⟨I.ok,I.os,I.bare,⟨I.base.keep,I.base.slot,fun b o' q n hx=>upn b (I.base.free b o' q n hx),I.base.there,fun b xs q=>up b _ (I.base.tups b xs q) (fun _ _ z=>nomatch z),fun b o' u q=>?_,fun b ps q=>?_⟩,I.loc,I.cell,upn _ I.free,fun x c q=>upn c (I.freeC x c q),fun p hp=>?_,fun b ob q=>?_,I.len⟩
 ·have:=I.base.frzs b o' u q
  rw[ao (fun z=>h0 _ _ (z ▸ q))]; exact this
 ·obtain⟨m,z⟩:=I.base.tbls b ps q
  exact⟨m,up b _ z (fun _ _ z=>nomatch z)⟩
 ·obtain⟨g,n,r⟩:=I.pin p hp
  exact⟨g,upn _ n,r⟩
 ·by_cases hb:b=a
  ·subst hb
   rw[ah] at q
   cases q
   exact(I.hok b _ e).2
  ·rw[ao hb] at q
   refine(I.hok b ob q).stay (fun c v hc z=>z) (fun c z=>?_) fun c xs z=>?_
   ·exact up c _ z (fun _ _ z=>nomatch z)
   ·exact up c _ z (fun _ _ z=>nomatch z)
end
def Itk (a:Addr) (o:Obj) (kvs:List (Key×V)):It :=
 ⟨fun i H=>H a=some (.frz o (.dK kvs))/\i<kvs.length,fun i H x H'=>H'=H/\∃ kv,kvs[i]?=some kv/\x=kV kv.1,fun i H=>H a=some (.frz o (.dK kvs))/\i=kvs.length⟩
theorem key_rel {P:Program}{w:World}{k:Key}{u:Value}(h:(aH P w).is k u=true):RelV (kV k) u:=by
 rcases aP h with ⟨i,t,rfl,rfl⟩ | ⟨x,t,rfl,rfl⟩
 ·exact⟨t,rfl⟩
 ·exact⟨t,rfl⟩
theorem KV.at' {kvs:List (Key×V)}{vs:List (Key×Value)}(r:KV kvs vs) {i:Nat}(h:i<kvs.length):∃ kv v,kvs[i]?=some kv/\vs[i]?=some (kv.1,v):=by
 have e:=r.keys
 have hl:=r.length
 refine⟨kvs[i],(vs[i]'(by omega)).2,List.getElem?_eq_getElem h,?_⟩
 have z:=congrArg (fun l=>l[i]?) e
 simp only[List.getElem?_map,List.getElem?_eq_getElem h,List.getElem?_eq_getElem (show i<vs.length by omega),Option.map_some] at z
 rw[List.getElem?_eq_getElem (show i<vs.length by omega),Option.some.inj z]
theorem sj {P:Program}{w:World}{K:Frag}{tg:Expr}(a it:Addr) (o:Obj) (kvs:List (Key×V)) (es:Array DictEntry) (ep:Nat) (ho:o.data=.dict es ep):Turn P w K tg (Itk a o kvs) [it] it (fun i h=>h.IsKeyIter it a i kvs.length ep) where
 mem:=by simp
 obj:=fun i h st b hb=>by
  have e:b=it:=by simpa using hb
  subst e
  obtain⟨o,e,c,d⟩:=st
  exact⟨o,e,fun v z=>by rw[d] at z; cases z⟩
 keep:=fun i h h' st k=>st.at fun o e=>k it (by simp) o e
 item:=by
  intro X hP hw hK hc i pins s σ H E I hf st hg
  subst hP hw hK
  obtain⟨hq,hi⟩:=hg
  obtain⟨g,hl,hs,vs,kv,o2,es2,ep2,g2,ed,dt,ko,pr,nd⟩:=I.hok a _ hq
  rw[g] at g2
  cases g2
  rw[ho] at dt
  cases dt
  obtain⟨kx,vx,hk,hv⟩:=KV.at' kv hi
  obtain⟨f0,f1,f2,f3,f4,f5⟩:=hf it (by simp)
  have hln:=kv.length
  refine wpAny_pyNext_dict_item (knd:=aH X.prog X.w) (by rw[<- hln]; exact st) ⟨o,es,g,ed,ho,ko,pr,nd⟩ hv fun key h' ke st' sb=>?_
  have I1:Inv X pins σ H { s with heap:=h' }:=I.turned (t':=s.toks) (fun b o hb e=>(sb.2 b hb).trans e) f0 f1 f3 f4 f5
  obtain⟨o3,e,c,d⟩:=id st'
  exact⟨key,rfl,go_of (s:={ s with heap:=h' }) e c d (by decide) ⟨kV kx.1,H,I1,key_rel ke,⟨rfl,kx,hk,rfl⟩,by rw[hln]; exact st',fun b hb=>(hf b hb).1⟩⟩
 done:=by
  intro X hP hw hK hc i pins s σ H E I hf st hg
  subst hP hw hK
  obtain⟨hq,hi⟩:=hg
  obtain⟨g,hl,hs,vs,kv,o2,es2,ep2,g2,ed,dt,ko,pr,nd⟩:=I.hok a _ hq
  rw[g] at g2
  cases g2
  rw[ho] at dt
  cases dt
  obtain⟨f0,f1,f2,f3,f4,f5⟩:=hf it (by simp)
  have hln:=kv.length
  exact wpAny_pyNext_dict_end (knd:=aH X.prog X.w) (I.ok.hd hc) (by rw[<- hln]; exact st) ⟨o,es,g,ed,ho,ko,pr,nd⟩ (List.getElem?_eq_none (by omega)) fun h' eb=>⟨rfl,I.turned (t':=s.toks) (fun b o hb e=>eb b o hb e) f0 f1 f3 f4 f5⟩
 self:=fun _ _ _ _ _ st h=>wpAny_pyIter_keyiter st h
section
variable {X:Cx}{tg:Expr}
def iDict (tl:TE):TI:=fun σ H R=>tl σ H fun x H1=>∃ a kvs,x=.ref a/\H1 a=some (.dK kvs)/\∀ o,R (Itk a o kvs) (upd H1 a (.frz o (.dK kvs)))
theorem pi_dict {l:Expr}{tl:TE}(hl:PE X l tl):PI X tg l (iDict tl):=by
 intro pins s σ H R I h
 refine thn (hl pins s σ H _ I h) fun v s1 ⟨x,H1,I1,r1,q1⟩=>?_
 obtain⟨a,kvs,e,hq,q⟩:=q1
 subst e
 cases r1
 obtain⟨hz,hs,vs,kv,o,es,ep,g,ed,dt,ko,pr,nd⟩:=I1.hok a _ hq
 have hln:=kv.length
 refine wpAny_pyIter_dict (knd:=aH X.prog X.w) hs ⟨o,es,g,ed,dt,ko,pr,nd⟩ ?_
 have I2:=I1.freeze hq g
 refine⟨s1.heap.objs.size,[s1.heap.objs.size],_,_,_,rfl,I2.kept (t':=s1.toks) fun b o e=>Heap.get?_push_of_some _ e,sj a _ o kvs es ep dt,⟨_,Heap.get?_push_size _ rfl,rfl,by rw[hln]; rfl⟩,fun b hb=>?_,q o⟩
 have e:b=s1.heap.objs.size:=by simpa using hb
 subst e
 exact I2.fpOk (Nat.le_refl _) (I2.hok.fresh (Nat.le_refl _))
def tThaw (H₀:Hp) (te:TE):TE:=fun σ H Q=>te σ H fun v H1=>∃ a o kvs,H1 a=some (.frz o (.dK kvs))/\(∀ o u,H₀ a≠some (.frz o u))/\Q v (upd H1 a (.dK kvs))
theorem pe_thaw {e:Expr}{te:TE}(he:PE X e te):PE X e (tThaw X.H₀ te):=by
 intro pins s σ H Q I h
 exact thn (he pins s σ H _ I h) fun v s1 ⟨x,H1,I1,r1,a,o,kvs,hq,h0,q⟩=>⟨x,_,I1.thaw hq h0,r1,q⟩
theorem si {a:Addr}{o:Obj}{kvs:List (Key×V)}{D:Addr}{te':TE}{tl:L2.St}{G:Hp->Prop}{H1:Hp}(Pv:Nat->Hp->Prop) (h0:Pv 0 (upd H1 D (.lst [])))
  (hf:∀ i H,i<=kvs.length->Pv i H->H a=some (.frz o (.dK kvs)))
  (hs:∀ (i:Nat) (kv:Key×V) H,i<kvs.length->kvs[i]?=some kv->Pv i H->te' (some (kV kv.1)::tl) H fun y H2=>∃ ys,H2 D=some (.lst ys)/\ys.length<sizeLine/\∃ m',m'<kvs.length-i/\m'=kvs.length-(i+1)/\i+1<=kvs.length/\Pv (i+1) (upd H2 D (.lst (ys++[y]))))
  (hd:∀ H,Pv kvs.length H->G H) :
  ∃ W:Nat->Nat->Hp->Prop,(∃ m,W 0 m (upd H1 D (.lst [])))/\∀ i m H,W i m H ->
   ((Itk a o kvs).stop i H/\G H)\/((Itk a o kvs).go i H/\∀ x H',(Itk a o kvs).yld i H x H'->te' (some x::tl) H' fun y H2=>∃ ys,H2 D=some (.lst ys)/\ys.length<sizeLine/\∃ m',m'<m/\W (i+1) m' (upd H2 D (.lst (ys++[y])))):=by
 refine⟨fun i m H=>m=kvs.length-i/\i<=kvs.length/\Pv i H,⟨kvs.length,by simp,zero_le _,h0⟩,?_⟩
 rintro i m H ⟨rfl,hi,p⟩
 by_cases hlt:i<kvs.length
 ·refine .inr ⟨⟨hf i H hi p,hlt⟩,?_⟩
  rintro x H' ⟨rfl,kv,hk,rfl⟩
  exact hs i kv _ hlt hk p
 ·have e:i=kvs.length:=by omega
  subst e
  exact .inl ⟨⟨hf _ H hi p,rfl⟩,hd H p⟩
end
theorem call_sum {X:Cx}(hc:X.calm=true):fF X (.builtin "sum") (fun xs H Q=>∃ (a:Addr) (ns:List Int),xs=[.ref a]/\SqL X.K H a (ns.map V.int)/\Q (.int ns.sum) H):=by
 intro pins s σ H xs us Q I r h
 obtain⟨a,ns,rfl,hq,q⟩:=h
 obtain⟨u,rfl,rx⟩:=oh r
 cases rx
 obtain⟨its,rv,pl,hz⟩:=I.list hq
 have hl:=rv.length
 rw[length_map] at hl
 refine call_sum_walkG (wpAny_pyIter_list pl.isList ?_)
 have hne:a≠s.heap.objs.size:=by
  obtain⟨o,ho,_⟩:=pl.isList
  exact Nat.ne_of_lt (Heap.lt_size ho)
 refine⟨s.heap.objs.size,_,_,_,_,_,fun j=>ns.getD j 0,rfl,Walks.list (A:=X.A.in1) (I.ok.hd hc) s.heap.objs.size a hne its.toArray,⟨⟨_,Heap.get?_push_size _ rfl,rfl,rfl⟩,Heap.IsList.push pl.isList _⟩,?_,?_,?_⟩
 ·intro b hb
  show b<(s.heap.push _).objs.size
  rw[Heap.size_push]
  rcases List.mem_cons.mp hb with rfl | hb
  ·exact lt_succ_self _
  ·rw[List.mem_singleton.mp hb]
   obtain⟨o,ho,_⟩:=pl.isList
   exact lt_succ_of_lt (Heap.lt_size ho)
 ·intro i v hP
  have hP':its[i]?=some v:=by simpa using hP
  have hi:i<its.length:=(List.getElem?_eq_some_iff.mp hP').1
  have hb:(ns.map V.int)[i]?=some (V.int (ns.getD i 0)):=by
   rw[List.getElem?_map,getD_eq_getElem?_getD,List.getElem?_eq_getElem (by omega)]
   rfl
  obtain⟨u',hu',t,ru'⟩:=rv.get hb
  rw[hP'] at hu'
  cases hu'
  exact⟨t,ru'⟩
 ·intro h' tk t' hk
  have e0:∀ (l:List Int) (m:Nat),m<=l.length->preSum (fun j=>l.getD j 0) m=(l.take m).sum:=by
   intro l m
   induction m with
   | zero=>intro _; simp[preSum]
   | succ m ih =>
    intro hm
    rw[List.take_add_one,List.sum_append,<- ih (by omega),List.getElem?_eq_getElem (by omega)]
    simp[preSum,getD_eq_getElem?_getD,List.getElem?_eq_getElem (show m<l.length by omega)]
  have e1:preSum (fun j=>ns.getD j 0) its.toArray.size=ns.sum:=by
   rw[size_toArray,<- hl,e0 ns ns.length (Nat.le_refl _),List.take_length]
  rw[e1]
  exact⟨.int _,H,I.kept (t':=tk) fun b o e=>hk b o (fun z=>by
   have z':b=s.heap.objs.size:=by simpa using z
   exact absurd (Heap.lt_size e) (by rw[z']; exact lt_irrefl _)) (Heap.get?_push_of_some _ e),⟨t',rfl⟩,q⟩
theorem mH:∀ (ys:List Str) (k:Nat),Vals (ys.map V.str) (strsFrom k ys)
 | [],_=>.nil
 | y::r,k=>.cons ⟨_,rfl⟩ (mH r (k+1))
theorem mt_split {X:Cx}:MtM X "str.split" (fun x vs H Q=>∃ z:Str,x=.str z/\vs=[]/\z.length<=sizeLine/\(Builtin.Str.spaceWords z (z.length+1)).length<=sizeLine/\(Builtin.Str.spaceWords z (z.length+1) == [(0,z.length)])=false/\(wordsOf z).length<=sizeLine /\
  ∀ l,H l=none->Q (.ref l) (upd H l (.lst ((wordsOf z).map V.str)))):=by
 intro pins s σ H x vs v us Q I rx rv h
 obtain⟨z,rfl,rfl,h1,h2,h3,h4,q⟩:=h
 obtain⟨t,rfl⟩:=rx
 cases rv
 refine call_meets F.slot_str_split (typeIs_str s z t) F.entry_str_split (F.args_str_split_1 _) (meets_str_split_space z t h1 h2) ?_
 rw[h3,if_neg (by decide)]
 exact⟨.ref s.heap.objs.size,_,I.laid (t':=_) (fun b o e=>Heap.get?_push_of_some _ e) (Nat.le_refl _) (show ObjOk X.prog X.w _ _ _ (.lst _) from ⟨by rw[length_map]; exact h4,_,0,mH _ _,Heap.get?_push_size _ rfl⟩),rfl,q _ (I.hok.fresh (Nat.le_refl _))⟩
theorem flat_rel {k:Key}{v:Value}(h:Heap) (f:PyProof.V.Flat v (kD k)):RelV (kV k) v:=by
 have z:=f h
 cases k with
 | inl i =>
  have z':Reads h v (.int i) []:=z
  cases z' with
  | int i t=>exact⟨t,rfl⟩
 | inr x =>
  have z':Reads h v (.str x) []:=z
  cases z' with
  | str x t=>exact⟨t,rfl⟩
theorem keysD (h:Heap):∀ {kvs:List (Key×V)}{D:List (PyData×PyData)},FDs kvs D->∀ (C:List Value->Prop),(∀ vs,Vals (kvs.map fun kv=>kV kv.1) vs->C vs)->PySem.W.KdlKeysD D C:=by
 intro kvs D f
 induction f with
 | nil=>intro C q; exact q [] .nil
 | cons _ _ ih =>
  intro C q
  exact fun v hv=>ih (fun vs=>C (v::vs)) fun vs hvs=>q (v::vs) (.cons (flat_rel h hv) hvs)
theorem FDs.flat {kvs:List (Key×V)}{D:List (PyData×PyData)}(f:FDs kvs D):∀ {vs:List (Key×Value)},KV kvs vs->PyProof.V.FlatPairs kD vs D:=by
 induction f with
 | nil=>intro vs r; cases r; exact .nil
 | cons a _ ih =>
  intro vs r
  cases r with
  | cons h1 h2 =>
   rename_i y ys
   obtain⟨k',u⟩:=y
   obtain⟨e,ru⟩:=h1
   cases (show _=k' from e)
   exact .cons (fun h=>a.reads ru) (ih h2)
theorem FDs.len {kvs:List (Key×V)}{D:List (PyData×PyData)}(f:FDs kvs D):D.length=kvs.length:=by
 induction f with
 | nil=>rfl
 | cons _ _ ih=>rw[length_cons,length_cons,ih]
theorem qd {X:Cx}(hc:X.calm=true):fF X (.type "list") (fun xs H Q=>∃ (a:Addr) (kvs:List (Key×V)) (D:List (PyData×PyData)),xs=[.ref a]/\H a=some (.dK kvs)/\FDs kvs D/\kvs.length<=1000/\∀ l,H l=none->Q (.ref l) (upd H l (.lst (kvs.map fun kv=>kV kv.1)))):=by
 intro pins s σ H xs us Q I r h
 obtain⟨a,kvs,D,rfl,ha,fd,hl,q⟩:=h
 obtain⟨u,rfl,rx⟩:=oh r
 cases rx
 obtain⟨hz,hs,vs,kv,o,es,ep,g,ed,dt,ko,pr,nd⟩:=I.hok a _ ha
 obtain⟨m,hn,_⟩:=id I.loc
 have aL:a≠X.env.locals:=fun z=>by
  have:=I.free
  rw[<- z,ha] at this
  cases this
 obtain⟨hh,gg,dr,tk,os⟩:=s
 refine PySem.W.kdl_list_keysD (knd:=aH X.prog X.w) (enc:=kD) (L:=X.env.locals) (D:=D) (fun k v e h=>o8 (X:=X) k v e) (I.ok.hd hc) (Att.fr_all hn) (Att.news_ledger aL g) ⟨hs,vs,⟨o,es,ep,g,ed,dt,ko,pr,nd⟩,fd.flat kv⟩ (by rw[fd.len]; omega) fun B c h' tk'=>keysD hh fd _ fun ws hv fr nw lt=>?_
 have kept:∀ b ob,b≠X.env.locals->hh.get? b=some ob->h'.get? b=some ob:=fun b ob hb e=>by
  by_cases hba:b=a
  ·subst hba
   rw[g] at e
   cases e
   exact(nw (b,o) (mem_cons_of_mem _ (mem_cons_self ..))).1
  ·exact(nw (b,ob) (mem_cons_of_mem _ (mem_cons_of_mem _ (Att.mem_ledger.mpr ⟨hb,hba,e⟩)))).1
 have hB:=nw _ (mem_cons_self ..)
 have newB:hh.get? B=none:=by
  cases e:hh.get? B with
  | none=>rfl
  | some ob =>
   exfalso
   by_cases hba:B=a
   ·exact lt_irrefl _ (hba ▸ lt (a,o) (mem_cons_self ..))
   ·exact lt_irrefl _ (lt (B,ob) (mem_cons_of_mem _ (Att.mem_ledger.mpr ⟨hB.2.1,hba,e⟩)))
 have HB:H B=none:=by
  cases e:H B with
  | none=>rfl
  | some u =>
   obtain⟨ob,z⟩:=rS (I.hok B u e)
   rw[show hh.get? B=some ob from z] at newB
   cases newB
 have ut:∀ b u,H b=some u->upd H B (.lst (kvs.map fun kv=>kV kv.1)) b=some u:=fun b u e=>by rw[ao (az e HB)]; exact e
 have nB:∀ b ob,hh.get? b=some ob->b≠B:=fun b ob e z=>by rw[z,newB] at e; cases e
 refine⟨.ref B,upd H B (.lst (kvs.map fun kv=>kV kv.1)),I.step (h':=h') (g':=gg) (t':=tk') (d':=dr) (ch:=[]) (fun b z=>nomatch z) (fun b ob hb _ _ e _=>kept b ob hb e) (fun b ob hb _ _ e _=>⟨ob.slots,kept b ob hb e⟩) (fun b ob _ e n=>by rw[ao (nB b ob e)]; exact n) (fun b ob _ e=>?_) (fun b xs e=>ut b _ e) (fun b o' u e=>ut b _ e) (fun b ps e=>⟨#[],by rw[Array.append_empty]; exact ut b _ e⟩) (fun m' hm=>?_) (fun b u e=>?_) I.bare,rfl,q B HB⟩
 ·by_cases hb:b=X.env.locals
  ·obtain⟨o',_,_,z,_⟩:=fr.ns
   exact⟨o',hb ▸ z⟩
  ·exact⟨ob,kept b ob hb e⟩
 ·have:m'=m:=by
   obtain⟨o1,es1,ep1,g1,d1,_,f1⟩:=hm
   obtain⟨o2,es2,ep2,g2,d2,_,f2⟩:=hn
   rw[show hh.get? X.env.locals=some o2 from g2] at g1
   cases g1
   rw[d2] at d1
   cases d1
   exact funext fun x=>(f1 x).symm.trans (f2 x)
  rw[this]
  exact fr.ns
 ·by_cases hb:b=B
  ·subst hb
   rw[ah] at e
   cases e
   exact⟨by rw[length_map]; exact Nat.le_trans hl (by decide),ws,c,hv,hB.1⟩
  ·rw[ao hb] at e
   refine(I.hok b u e).stay (fun x v hx z=>kept x v (fun w=>?_) z) (fun x z=>ut x _ z) fun x ys z=>ut x _ z
   have fr0:=I.free
   rcases hx with rfl | hx
   ·rw[w,fr0] at e; cases e
   ·rw[w,fr0] at hx; cases hx
structure GD (K:Frag) (P:Program) (w:World) (a:Addr) (vs:List (Key×Value)):Prop where
 ex:∃ o es ep,K.lookup a=some o/\o.ExactDict/\o.data=.dict es ep/\PySem.KeysOf (aH P w) es/\Pairs (aH P w) es.toList vs/\(vs.map (·.1)).Nodup
def gEnt (p:Params) (x:Str×Tok×Addr):DictEntry:=⟨PyData.keyHash p x.1,.str x.1 x.2.1,.ref x.2.2⟩
def gVal (x:Str×Tok×Addr):Key×Value:=(.inr x.1,.ref x.2.2)
theorem gd_mk {K:Frag}{P:Program}{w:World}{a:Addr}{ents:List (Str×Tok×Addr)}{ep:Nat}{sl:Array (Option Value)}(h:K.lookup a=some ⟨.type "dict",none,.dict (ents.map (gEnt w.params)).toArray ep,sl⟩) (nd:(ents.map (·.1)).Nodup) (hx:(⟨.type "dict",none,.dict (ents.map (gEnt w.params)).toArray ep,sl⟩:Obj).ExactDict) :
  GD K P w a (ents.map gVal):=by
 refine⟨_,_,_,h,hx,rfl,fun e he=>?_,?_,?_⟩
 ·obtain⟨x,_,rfl⟩:=List.mem_map.mp (List.mem_toArray.mp he)
  refine⟨.inr x.1,?_,?_⟩
  ·show Value.isStrOf x.1 (.str x.1 x.2.1)=true
   exact beq_self_eq_true _
  ·rfl
 ·show Pairs _ (ents.map (gEnt w.params)) _
  clear h nd hx
  induction ents with
  | nil=>exact .nil
  | cons x r ih =>
   refine .cons ?_ rfl ih
   show Value.isStrOf x.1 (.str x.1 x.2.1)=true
   exact beq_self_eq_true _
 ·have e:(ents.map gVal).map (·.1)=(ents.map (·.1)).map (Sum.inr (α:=Int)):=by
   rw[map_map,map_map]
   rfl
  rw[e]
  unfold List.Nodup
  rw[List.pairwise_map]
  exact List.Pairwise.imp (fun h z=>h (Sum.inr.inj z)) nd
def tGD (a:Addr) (vs:List (Key×Value)) (tO ti:TE):TE:=fun σ H Q=>tO σ H fun x H1=>ti σ H1 fun y H2=>∃ k b,x=.ref a/\y=.str k/\valueAt vs (.inr k)=some (.ref b)/\Q (.ref b) H2
theorem pe_gdget {X:Cx}{a:Addr}{vs:List (Key×Value)}{o i:Expr}{tO ti:TE}{pos:Pos}(g:GD X.K X.prog X.w a vs) (ho:PE X o tO) (hi:PE X i ti) (hs:NoSl i):PE X (.Subscript o i pos) (tGD a vs tO ti):=by
 intro pins s σ H Q I h
 refine qD PySem.F.slot_dict_getitem.lookup hs (thn (ho pins s σ H _ I h) fun u s1 ⟨x,H1,I1,rx,q1⟩=>thn (hi pins s1 σ H1 _ I1 q1) fun iv s2 ⟨y,H2,I2,ry,k,b,ex,ey,hv,q2⟩=>?_)
 subst ex ey
 obtain rfl:u=Value.ref a:=rx
 obtain⟨oo,es,ep,lk,xd,dt,ko,pr,nd⟩:=g.ex
 have dd:s2.heap.DictOf (aH X.prog X.w) a vs:=⟨oo,es,ep,I2.kIn _ _ lk,xd,dt,ko,pr,nd⟩
 exact⟨dd.typeIs,wpAny_getItem_of (p0 (k:=.inr k) ry) dd.mapOf hv ⟨.ref b,H2,I2.tok _,rfl,q2⟩⟩
section
variable {X:Cx}
end
theorem slO {p:Prop}(h:Sl p):p:=h.out
end Ow
namespace L2
open PySem PySem.Spec PyProof.Rows
theorem my:∀ {ps:List Addr}{us:List Value},Vals (ps.map V.ref) us->us=ps.map Value.ref
 | [],_,.nil=>rfl
 | p::ps,_,.cons (b:=u) r rs=>by
  have e:u=Value.ref p:=r
  rw[e,my (ps:=ps) rs]
  rfl
section
variable {X:Cx}{pins:List (Addr×Obj)}{σ:St}{H:Hp}{s:Shared}{l q Ia S:Addr}{ps:List Addr}{kf:Nat->Int}
theorem Inv.refs (I:Inv X pins σ H s) (h:H l=some (.lst (ps.map V.ref))):s.heap.IsList l (ps.map Value.ref).toArray:=by
 obtain⟨its,r,pl,_⟩:=I.list (SqL.of h)
 rw[<- my r]
 exact pl.isList
theorem Inv.mine {t':Nat}{h':Heap}(I:Inv X pins σ H s) (f:jU X pins H Ia) (k:∀ b o,b≠Ia->s.heap.get? b=some o->h'.get? b=some o):Inv X pins σ H { s with heap:=h',toks:=t' } :=
 I.turned k f.1 f.2.1 f.2.2.2.1 f.2.2.2.2.1 f.2.2.2.2.2
theorem Inv.hold {oI oS:Obj}(I:Inv X pins σ H s) (fI:jU X pins H Ia) (fS:jU X pins H S) (hI:s.heap.get? Ia=some oI) (hS:s.heap.get? S=some oS) (nI:∀ v,oI.data≠.cell v) (nS:∀ v,oS.data≠.cell v):Inv X ((Ia,oI)::(S,oS)::pins) σ H s :=
 I.pins_of fun p hp=>by
  rcases List.mem_cons.mp hp with rfl | hp
  ·exact⟨hI,fI.1,fI.2.1,fI.2.2.1,nI⟩
  ·rcases List.mem_cons.mp hp with rfl | hp
   ·exact⟨hS,fS.1,fS.2.1,fS.2.2.1,nS⟩
   ·exact I.pin p (mem_append_right _ hp)
theorem Inv.drop2 {oI oS:Obj}(I:Inv X ((Ia,oI)::(S,oS)::pins) σ H s):Inv X pins σ H s/\s.heap.get? Ia=some oI/\s.heap.get? S=some oS :=
 ⟨I.pins_of fun p hp=>I.pin p (mem_append_right _ (mem_cons_of_mem _ (mem_cons_of_mem _ hp))),(I.pin _ (mem_append_right _ (mem_cons_self ..))).1,(I.pin _ (mem_append_right _ (mem_cons_of_mem _ (mem_cons_self ..)))).1⟩
end
end L2
namespace L2
open PySem PySem.Spec PyProof.Rows
def Cx.inF (X:Cx):Cx:={ X with A:=X.A.in1,xe:=fun _ _=>False }
theorem Inv.inF {X:Cx}{pins:List (Addr×Obj)}{σ:St}{H:Hp}{s:Shared}(I:Inv X pins σ H s):Inv X.inF pins σ H s :=
 ⟨⟨I.ok.mod,I.ok.kind,I.ok.glob,I.ok.blt,I.ok.above,I.ok.inj,I.ok.has,I.ok.cab,I.ok.hd,I.ok.frames,I.ok.stk,I.ok.exf,I.ok.bs,I.ok.bsz,I.ok.noex,I.ok.exfs,I.ok.funs,I.ok.frf⟩,I.os,I.bare,I.base,I.loc,I.cell,I.free,I.freeC,I.pin,I.hok,I.len⟩
theorem Inv.outF {X:Cx}{pins:List (Addr×Obj)}{σ:St}{H:Hp}{s:Shared}(I:Inv X.inF pins σ H s):Inv X pins σ H s :=
 ⟨⟨I.ok.mod,I.ok.kind,I.ok.glob,I.ok.blt,I.ok.above,I.ok.inj,I.ok.has,I.ok.cab,I.ok.hd,I.ok.frames,I.ok.stk,I.ok.exf,I.ok.bs,I.ok.bsz,I.ok.noex,I.ok.exfs,I.ok.funs,I.ok.frf⟩,I.os,I.bare,I.base,I.loc,I.cell,I.free,I.freeC,I.pin,I.hok,I.len⟩
end L2
namespace Ow
open PySem PySem.Spec PyProof.Rows L2
def rC (K:Frag) (j:Nat) (D:Ends) (σ':L2.St):List (Addr×(Addr->Obj->TS))->XK
 | []=>fun _ _ _=>False
 | (C₁,ts)::r=>fun cls dd H2=>(exmOne K cls (.ref C₁)=some true/\∀ (a:Addr) (oe:Obj),oe.cls=cls->oe.dict=dd->PySem.W.notCls oe=true->H2 a=none->ts a oe (endsK j D) (σ'.set j (some (.ref a))) H2)\/(exmOne K cls (.ref C₁)=some false/\rC K j D σ' r cls dd H2)
inductive HsOk (X:Cx) (n:Str):List ExceptHandler->List (Addr×(Addr->Obj->TS))->Prop where
 | nil {hs:List ExceptHandler}:HsOk X n hs []
 | cons {c:Str} {C₁:Addr} {b₀:Stmt} {suite:List Stmt} {ts:Addr->Obj->TS} {np hpos:Pos} {hs:List ExceptHandler} {l:List (Addr×(Addr->Obj->TS))} (hgc:Gl X c) (hmc:X.mg c=some (.ref C₁)) (hb:∀ (a:Addr) (oe:Obj),Ctx0 oe->PSs (i5 X a oe) (b₀::suite) (ts a oe)) (r:HsOk X n hs l) (hdc:(c == ("__debug__":Str))=false:=by decide) :
   HsOk X n (.ExceptHandler (some (.Name c np)) (some n) (b₀::suite) hpos::hs) ((C₁,ts)::l)
section
variable {X:Cx}{j:Nat}{n:Str}
theorem handL {pins:List (Addr×Obj)}{σ:L2.St}{D:Ends}{H2:Hp}{B h5:Heap}{s1 s':Shared}{a:Addr}{a0 cls:Value}{dd:Option Addr}(I:Inv X pins σ H2 { s' with heap:=h5 }) (hst:X.stack=X.env::X.outer) (hfr:X.env.frame=some X.env.locals) (hN:X.N.Nodup) (hj:X.N[j]?=some n) (hnl:X.env.scope.names.lookup n=some .local) (hno:X.xe=fun _ _=>False)
  (inv:∀ (hh:Heap) (sx:Shared),sx.heap=hh->sx.os=s1.os->AllBare sx.gens->B.StaysIn hh->Slots (frs (X.env::X.outer)) s1.heap hh->Inv X pins σ H2 sx) (hos:s'.os=s1.os) (hba:AllBare s'.gens) (noT:∀ hh:Heap,Heap.FlyingW B (X.env::X.outer) a cls a0 hh->a≠X.env.locals/\a∉X.fs) (fl5:Heap.FlyingW B (X.env::X.outer) a cls a0 h5) (D5:OwnD true h5 a dd) (sl5:Slots (frs (X.env::X.outer)) s1.heap h5) (ha0:H2 a=none) :
  ∀ {hs:List ExceptHandler} {l:List (Addr×(Addr->Obj->TS))},HsOk X n hs l->rC X.K j D σ l cls dd H2->wpAny (model X.prog X.w) X.A (handleBy (.ref a) X.env hs) (SP X pins D) X.xe { s' with heap:=h5 }
 | _,_,.nil,z=>z.elim
 | _,_,.cons (c:=c) (C₁:=C₁) (ts:=tb) hgc hmc hb r hdc,z=>by
  obtain⟨o5,ob5,oc5⟩:=fl5.there
  obtain⟨_,w5,ob5',_,od5,_⟩:=fl5.first
  have I5c:Inv (i5 X a o5) pins σ H2 { s' with heap:=h5 }:=jX I ob5 ha0 (noT h5 fl5).1 (noT h5 fl5).2 (fun v z=>by
   rw[ob5] at ob5'
   cases ob5'
   rw[od5] at z
   cases z)
  refine wpAny_handleBy_cons (codeAny_handlers_test (fM I5c hgc hmc ?_ hdc)) (by intro z; cases z)
  have LT:PySem.W.Looks (model X.prog X.w) h5 (typeOf (.ref a)) cls:=oc5 ▸ (PySem.W.Looks.ld ob5).andThen .now
  rcases z with ⟨hm,hsu⟩ | ⟨hm,z⟩
  ·refine(PySem.W.exm_one (K:=X.K) I.kIn LT hm).here ?_
   refine codeAny_handlers_suite_as ?_
   refine eI (s:={ s' with heap:=h5 }) fl5.1 fl5.2.1 fl5.2.2.1 fl5.2.2.2 D5 fun h6 fl6 D6 up6=>?_
   have I6:Inv X pins σ H2 { s' with heap:=h6 }:=inv h6 _ rfl hos hba fl6.1 (sl5.on fl5.2.2.1 up6)
   obtain⟨o6,w6,ob6,oc6,od6,_⟩:=fl6.first
   obtain⟨dd6,cc6⟩:o6.dict=dd/\Ctx0 o6:=by
    obtain⟨o7,e7,d7,c7⟩:=D6
    rw[ob6] at e7
    cases e7
    exact⟨d7,c7 rfl⟩
   have I6c:Inv (i5 X a o6) pins σ H2 { s' with heap:=h6 }:=jX I6 ob6 ha0 (noT h6 fl6).1 (noT h6 fl6).2 (fun v z=>by rw[od6] at z; cases z)
   refine gp (X:=i5 X a o6) I6c hN hj (.inl hnl) (v:=.ref a) rfl (fun s7 I7=>?_) (.inr hnl)
   refine wpAny_mono (hb a o6 cc6 pins s7 _ H2 _ I7 (hsu a o6 oc6 dd6 (by unfold PySem.W.notCls; rw[od6]) ha0)) (fun fw s8 q8=>?_) fun ex s8 q8=>?_
   ·cases fw with
    | ret u =>
     obtain⟨v,σ8,H8,I8,r8,q8⟩:=q8
     obtain⟨m8,n8,_⟩:=I8.loc
     refine wpAny_nameGoes (env:=X.env) hnl n8 (by rw[I.ok.kind]; rfl) fun h9 m9 n9 sb=>?_
     exact⟨v,_,H8,qU I8 I.ok n9 sb,r8,q8⟩
    | next =>
     obtain⟨σ8,H8,I8,q8⟩:=q8
     obtain⟨m8,n8,l8⟩:=I8.loc
     refine wpAny_nameGoes_keeps (env:=X.env) hnl n8 (by rw[I.ok.kind]; rfl) fun h9 v9 n9 sb=>?_
     exact⟨_,H8,qr I8 I.ok hN hj l8 n9 sb,q8⟩
    | brk=>obtain⟨_,_,_,z⟩:=q8; exact False.elim z
    | cont=>obtain⟨_,_,_,z⟩:=q8; exact False.elim z
   ·have z:X.xe ex s8:=q8
    rw[hno] at z
    exact False.elim z
  ·refine(PySem.W.exm_one (K:=X.K) I.kIn LT hm).here ?_
   exact handL I hst hfr hN hj hnl hno inv hos hba noT fl5 D5 sl5 ha0 r z
theorem landL {pins:List (Addr×Obj)}{σ:L2.St}{H1:Hp}{s1 s':Shared}{D:Ends}{ev:Value}{hs:List ExceptHandler}{l:List (Addr×(Addr->Obj->TS))}(I:Inv X pins σ H1 s1) (hq:CX2c true X.prog X.w X.base X.stack H1 s1 (rC X.K j D σ l) ev s') (hst:X.stack=X.env::X.outer) (hfr:X.env.frame=some X.env.locals)
  (hN:X.N.Nodup) (hj:X.N[j]?=some n) (hnl:X.env.scope.names.lookup n=some .local) (hok:HsOk X n hs l) (hno:X.xe=fun _ _=>False) :
  wpAny (model X.prog X.w) X.A (noteFrame ev X.env) (fun _ s₂=>wpAny (model X.prog X.w) X.A (setFlight ev none) (fun _ s₃=>wpAny (model X.prog X.w) X.A (handleBy ev X.env hs) (SP X pins D) X.xe s₃) X.xe s₂) X.xe s':=by
 obtain⟨a,cls,a0,B,H2,dd,rfl,hos,hba,G,sl,fl,ha0,D0,hw⟩:=hq
 have frm:X.A.frames=some (X.env::X.outer):=hst ▸ I.ok.frames
 rw[hst] at fl
 have sl':Slots (frs (X.env::X.outer)) s1.heap s'.heap:=hst ▸ sl
 refine pk frm hfr fl D0 fun h4 hd4 D4 up4=>?_
 refine eI hd4.1 hd4.2.1 hd4.2.2.1 hd4.2.2.2 D4 fun h5 fl5 D5 up5=>?_
 have sl5:=(sl'.on fl.2.2.1 up4).on hd4.2.2.1 up5
 have inv:∀ (hh:Heap) (sx:Shared),sx.heap=hh->sx.os=s1.os->AllBare sx.gens->B.StaysIn hh->Slots (frs (X.env::X.outer)) s1.heap hh->Inv X pins σ H2 sx:=fun hh sx e1 e2 e3 e4 e5=>by
  refine I.call' (ch:=[]) e2 ?_ ?_ e3 fun b z=>nomatch z
  ·rw[e1]; exact G.un e4 (hst ▸ e5)
  ·rw[e1]; exact G.hok.kept e4
 have I5:Inv X pins σ H2 { s' with heap:=h5 }:=inv h5 _ rfl hos hba fl5.1 sl5
 have noT:∀ hh:Heap,Heap.FlyingW B (X.env::X.outer) a cls a0 hh->a≠X.env.locals/\a∉X.fs:=fun hh flx=>by
  obtain⟨oe,ws,e1,_,e2,_⟩:=flx.first
  have key:∀ b∈frs (X.env::X.outer),a≠b:=fun b hb z=>by
   obtain⟨_,o,e3,d⟩:=flx.2.2.1.mem hb
   rw[<- z,e1] at e3
   cases e3
   exact d _ e2
  have mL:X.env.locals∈frs (X.env::X.outer):=List.mem_filterMap.mpr ⟨X.env,mem_cons_self ..,hfr⟩
  refine⟨key _ mL,fun z=>key a ?_ rfl⟩
  obtain⟨en,he,hf⟩:=List.mem_filterMap.mp z
  exact List.mem_filterMap.mpr ⟨en,mem_cons_of_mem _ he,hf⟩
 exact handL I5 hst hfr hN hj hnl hno inv hos hba noT fl5 D5 sl5 ha0 hok hw
end
def tTryL (K:Frag) (j:Nat) (l:List (Addr×(Addr->Obj->TS))) (tb:(L2.St->XK)->TS):TS:=fun D σ H=>tb (fun σ'=>rC K j D σ' l) D σ H
theorem ps_tryYL {X:Cx}{j:Nat}{n:Str}{h₀:ExceptHandler}{hs:List ExceptHandler}{l:List (Addr×(Addr->Obj->TS))}{body:List Stmt}{tb:(L2.St->XK)->TS}{tpos:Pos}(hbd:∀ pins E,PSs (tryCy X pins E) body (tb E)) (hN:X.N.Nodup)
  (hj:X.N[j]?=some n) (hnl:X.env.scope.names.lookup n=some .local) (hok:HsOk X n (h₀::hs) l) (hno:X.xe=fun _ _=>False:=by rfl) (hst:X.stack=X.env::X.outer:=by rfl) (hfr:X.env.frame=some X.env.locals:=by rfl):PS X (.Try body (h₀::hs) [] [] tpos) (tTryL X.K j l tb):=by
 intro pins s σ H D I ht
 refine wpAny_Try_except (wpAny_mono (hbd pins (fun σ'=>rC X.K j D σ' l) [] s σ H D ((sL I).wish _) ht) (fun fl s1 q=>?_) fun ev s1 q=>?_)
 ·cases fl with
  | next=>obtain⟨σ',H',I',q⟩:=q; exact wpAny_execs_nil ⟨σ',H',dJ I.ok I'.unwish,q⟩
  | brk=>obtain⟨σ',H',I',q⟩:=q; exact⟨σ',H',dJ I.ok I'.unwish,q⟩
  | cont=>obtain⟨σ',H',I',q⟩:=q; exact⟨σ',H',dJ I.ok I'.unwish,q⟩
  | ret u=>obtain⟨v,σ',H',I',r,q⟩:=q; exact⟨v,σ',H',dJ I.ok I'.unwish,r,q⟩
 ·obtain⟨pins2,σ2,H2,s2,I2,hq⟩:=q
  exact landL (dJ I.ok I2) hq hst hfr hN hj hnl hok hno
end Ow
namespace Ow
open PySem PySem.Spec PyProof.Rows L2
theorem cS {K:Frag}{C D:Addr}(h1:isClsIn K D=true) (h2:typeIn K (.ref D)=some (.type "type")) (h3:mroIn K C (.ref D)=some false) (h4:mroIn K D (.type "BaseException")=some true):exmOne K (.ref C) (.ref D)=some false:=by
 unfold exmOne
 have e:PySem.W.subIn K (.ref D) (.type "BaseException")=some true:=h4
 rw[e,if_pos (by rw[beq_self_eq_true])]
 exact sF h1 h2 h3
end Ow
namespace Ow
open PySem PySem.Spec PyProof.Rows L2
def cxLamY (X:Cx) (N:List Str) (qual:Str) (scope:Scope) (f:Addr) (cd:Value) (cl:List (Str×Addr)) (s:Shared) (H:Hp) (E:XK):Cx :=
 (jH X N qual scope f cd cl s H).wish fun e s'=>wpAny (model X.prog X.w) (X.A.deeper (PySem.W.envX qual scope s.heap.objs.size f cd cl)) (leaving (PySem.W.envX qual scope s.heap.objs.size f cd cl) e)
  (fun _ s''=>CX2 X.prog X.w X.base X.stack H s E e s'') (fun e' s''=>CX2 X.prog X.w X.base X.stack H s E e' s'') s'
section
variable {X:Cx}{N:List Str}{qual:Str}{scope:Scope}{f:Addr}{cd:Value}{cl:List (Str×Addr)}{s₀:Shared}{H₀:Hp}{E:XK}
theorem dB:eX (CX2 X.prog X.w X.base) (cxLamY X N qual scope f cd cl s₀ H₀ E) E:=by
 intro pins σ H s e s' I hq
 obtain⟨a,cls,a0,B,H2,dd,rfl,hos,hba,G,sl,fl,ha0,D,hw⟩:=hq
 have nof:∀ b o,s₀.heap.get? b=some o->b∉frs X.stack->b∉frs (PySem.W.envX qual scope s₀.heap.objs.size f cd cl::X.stack):=fun b o e1 nb hm=>by
  rcases List.mem_cons.mp (I.stkSub b hm) with z | z
  ·exact lt_irrefl _ (lt_of_lt_of_le (z ▸ Heap.lt_size e1) I.ok.above)
  ·exact nb z
 have nx:∀ b:Addr,b∉([]:List Addr):=fun b z=>nomatch z
 have sub:∀ b∈frs X.stack,b∈frs (PySem.W.envX qual scope s₀.heap.objs.size f cd cl::X.stack):=fun b hb=>by
  obtain⟨en,he,hf⟩:=List.mem_filterMap.mp hb
  exact List.mem_filterMap.mpr ⟨en,mem_cons_of_mem _ he,hf⟩
 refine lq I.ok.frames rfl fl D fun h2 fl2 D2 up=>?_
 refine⟨a,cls,a0,B,H2,dd,rfl,hos.trans I.os,hba,⟨G.st,fun b o e1 n nb=>G.keep b o (I.base.keep b o e1 n nb (nx b)) (I.base.free b o e1 n (nx b)) (nof b o e1 nb),fun b o e1 n=>?_,fun b o e1 nb=>?_,
  fun b xs z=>G.tups b xs (I.base.tups b xs z),fun b o u z=>G.frzs b o u (I.base.frzs b o u z),fun b ps z=>?_,G.hok⟩,fun b hb o e1=>?_,fl2,ha0,D2,hw⟩
 ·obtain⟨o',e2⟩:=I.base.there b o e1 (nx b)
  exact G.free b o' e2 (I.base.free b o e1 n (nx b))
 ·obtain⟨o',e2⟩:=I.base.there b o e1 (nx b)
  exact G.there b o' e2 (nof b o e1 nb)
 ·obtain⟨m1,e1⟩:=I.base.tbls b ps z
  obtain⟨m2,e2⟩:=G.tbls b _ e1
  exact⟨m1++m2,by rw[e2,Array.append_assoc]⟩
 ·obtain⟨l1,e2⟩:=I.base.slot b o e1 (I.ok.frf b hb) hb (nx b)
  obtain⟨l2,e3⟩:=sl b (sub b hb) _ e2
  obtain⟨_,o1,e4,d⟩:=fl.2.2.1.mem (sub b hb)
  rw[e3] at e4
  cases e4
  obtain⟨l3,e5⟩:=up b _ e3 d
  exact⟨l3,e5⟩
end
section
variable {X:Cx}{pins:List (Addr×Obj)}{σ:L2.St}{H:Hp}{s:Shared}{cl:List (Str×Addr)}{ns:List Str}{vals:List V}
end
section
variable {X:Cx}{E:XK}{k:Nat}{x:Str}{ps:List Str}{sp:Sp}{p pos apos:Pos}{e o:Expr}{es:List Expr}{ta:TE}{t:TA}
theorem cj (hx:eX (CX2 X.prog X.w X.base) X E) (h:HasY X.prog X.w X.K X.mg X.base k x ps sp) (hr:Room k X.A) (hg:Gl X x) (ha:PA X (e::es) t) (hdb:(x == ("__debug__":Str))=false:=by decide)
  (he:starEach (e::es) X.env=(false,eval e X.env)::starEach es X.env:=by rfl) (hpl:(backTo pos (starEach es X.env)).any (·.1)=false:=by rfl) :
  PE X (.Call (.Name x p) (e::es) [] pos) (cU sp [] E t):=by
 obtain⟨fa,fd,F,b,kp,m⟩:=h.ex
 exact kB F hr hg m kp b .nil hx ha hdb he hpl
end
end Ow
namespace L2
open PySem PySem.Spec PyProof.Rows
def TabA (P:Addr) (qual:Str) (H:Hp):Prop:=∃ ps:Array Value,H P=some (.tbl ps)/\TriplesOk ps.toList /\
 ∀ pos:Pos,codeAmong pos ps.toList=none\/∃ c',codeAmong pos ps.toList=some (.ref c')/\H c'=some (.ext fun h=>h.CodeRec (.ref c') qual)
theorem jY {pos pos':Pos}{c:Value}:∀ (l:List Value),TriplesOk l->codeAmong pos' (l++[rawInt pos.line,rawInt pos.col,c])=(codeAmong pos' l).or (if (pos.line:Int) == pos'.line&&(pos.col:Int) == pos'.col then some c else none)
 | [],_=>by
  show (if _ then _ else codeAmong pos' [])=_
  rfl
 | .int a _::.int b _::x::r,h=>by
  show (if a == pos'.line&&b == pos'.col then some x else codeAmong pos' (r++_))=(if a == pos'.line&&b == pos'.col then some x else codeAmong pos' r).or _
  rw[jY (pos:=pos) (c:=c) r h]
  split <;> rfl
def tLamA (P:Addr) (qual:Str) (params:Arguments) (body:Expr) (scope:Scope) (cl:List (Str×Addr)):TE:=fun _ H Q=>TabA P qual H /\
 ∀ f H',(∀ a u,a≠P->H a=some u->H' a=some u)->H f=none->Clo "<lambda>" qual params body scope cl H' f->TabA P qual H'->Q (.ref f) H'
section
variable {X:Cx}
theorem bA {params:Arguments}{body:Expr}{scope:Scope}{pos:Pos}{c P:Addr}{cl:List (Str×Addr)}{qual:Str}(B:LamBase X.mg X.base c P) (hcode:X.env.code=.ref c) (hcl:closureFor scope X.env=pure cl) (hq:X.env.qual++"<lambda>"=qual)
  (hdef:defaultsOf params X.env=([],[]):=by rfl):PE X (.Lambda params body scope pos) (tLamA P qual params body scope cl):=by
 intro pins s σ H Q I h
 obtain⟨⟨ps,eP,ht,hit⟩,h⟩:=h
 have hP:s.heap.get? P=some (PySem.W.tabObj ps):=I.hok P _ eP
 have hg:s.heap.Ns mainGlobals X.mg:=I.mod.glob.keeps I.bk
 have C:PySem.W.CodeHd s.heap c P:=B.code.keeps I.bk
 have hgP:mainGlobals≠P:=fun q=>by
  obtain⟨o,es,ep,e,hd,_⟩:=hg
  rw[q,hP] at e; cases e; cases hd
 have hb:s.heap.BuiltinsAt X.mg P:=by
  obtain⟨bm,ob,b1,b2,b3,b4,b5,b6⟩:=B.bm
  refine⟨bm,ob,b1,b2,fun q=>?_,fun q=>?_,I.bk _ _ b3,b4,b5,b6⟩
  ·obtain⟨o,es,ep,e,hd,_⟩:=I.mod.glob
   rw[q,e] at b3; cases b3; rw[hd] at b6; cases b6
  ·have e:=I.bk _ _ b3
   rw[q,hP] at e; cases e; cases b4
 refine PySem.W.kla_eval hdef ?_
 rw[hq]
 have hP1:P<s.heap.objs.size:=Heap.lt_size hP
 rcases hit pos with hnf | ⟨c',hf,ec⟩
 ·refine PySem.W.kla_makeFunction hcl I.ok.glob hg hcode C hP ht hnf hgP hb fun c' ctv h' tk hx hge hlt hrec htb=>?_
  have hsz:s.heap.objs.size<=h'.objs.size:=Nat.le_trans hge (Nat.le_of_lt hlt)
  have nc:H c'=none:=I.hok.fresh hge
  have nf:H h'.objs.size=none:=I.hok.fresh hsz
  have ncf:c'≠h'.objs.size:=Nat.ne_of_lt hlt
  have ncP:c'≠P:=fun z=>absurd hP1 (by rw[<- z]; exact Nat.not_lt.mpr hge)
  have nfP:h'.objs.size≠P:=fun z=>absurd hP1 (by rw[<- z]; exact Nat.not_lt.mpr hsz)
  generalize hps:ps++#[rawInt pos.line,rawInt pos.col,.ref c']=ps' at htb
  let H':Hp:=upd (upd (upd H P (.tbl ps')) c' (.ext fun h=>h.CodeRec (.ref c') qual)) h'.objs.size (.ext fun h=>h.get? h'.objs.size=some (PySem.W.kla_obj "<lambda>" qual params body scope cl ((X.mg "__name__").getD .none) c' ctv))
  have u1:∀ a,a≠P->a≠c'->a≠h'.objs.size->H' a=H a:=fun a n1 n2 n3=>by
   show upd (upd (upd H P _) c' _) _ _ a=_
   rw[ao n3,ao n2,ao n1]
  have u2:H' P=some (.tbl ps'):=by
   show upd (upd (upd H P _) c' _) _ _ P=_
   rw[ao (Ne.symm nfP),ao (Ne.symm ncP),ah]
  have u3:H' c'=some (.ext fun h=>h.CodeRec (.ref c') qual):=by
   show upd (upd (upd H P _) c' _) _ _ c'=_
   rw[ao ncf,ah]
  have u4:H' h'.objs.size=some (.ext fun h=>h.get? h'.objs.size=some (PySem.W.kla_obj "<lambda>" qual params body scope cl ((X.mg "__name__").getD .none) c' ctv)):=ah
  have keepH:∀ a u,a≠P->H a=some u->H' a=some u:=fun a u n e=>by
   rw[u1 a n (az e nc) (az e nf)]; exact e
  let o':=PySem.W.kla_obj "<lambda>" qual params body scope cl ((X.mg "__name__").getD .none) c' ctv
  have k1:∀ b o,b≠P->s.heap.get? b=some o->(h'.push o').get? b=some o:=fun b o n e=>Heap.get?_push_of_some _ (hx b o n e)
  have nP:∀ b,H b=none->b≠P:=fun b n z=>by rw[z,eP] at n; cases n
  have un:Un X.fs [] H H' s.heap (h'.push o'):=⟨fun b o e n _ _=>k1 b o (nP b n) e,fun b o e n _ _=>⟨o.slots,k1 b o (nP b n) e⟩,
   fun b o e n _=>by
    have hb:=Heap.lt_size e
    rw[u1 b (nP b n) (fun z=>absurd hb (by rw[z]; exact Nat.not_lt.mpr hge)) (fun z=>absurd hb (by rw[z]; exact Nat.not_lt.mpr hsz))]; exact n,
   fun b o e _=>by
    by_cases z:b=P
    ·rw[z]; exact⟨_,Heap.get?_push_of_some _ htb⟩
    ·exact⟨o,k1 b o z e⟩,
   fun b xs e=>keepH b _ (fun z=>by rw[z,eP] at e; cases e) e,fun b o u e=>keepH b _ (fun z=>by rw[z,eP] at e; cases e) e,
   fun b qs e=>by
    by_cases z:b=P
    ·rw[z,eP] at e
     cases e
     refine⟨#[rawInt pos.line,rawInt pos.col,.ref c'],?_⟩
     rw[z,u2,hps]
    ·exact⟨#[],by rw[keepH b _ z e]; simp⟩⟩
  have hok:HOk X.prog X.w H' (h'.push o'):=fun b u e=>by
   by_cases z1:b=h'.objs.size
   ·subst z1
    rw[u4] at e; cases e
    exact⟨Heap.get?_push_size _ rfl,⟨_,Heap.get?_push_size _ rfl⟩,fun h1 h2 e1 kk=>kk _ e1⟩
   ·by_cases z2:b=c'
    ·subst z2
     rw[u3] at e; cases e
     obtain⟨c₂,oc,vs,t,e2,hoc,hd,hv⟩:=hrec
     cases e2
     refine⟨⟨_,oc,vs,t,rfl,Heap.get?_push_of_some _ hoc,hd,hv⟩,⟨oc,Heap.get?_push_of_some _ hoc⟩,fun h1 h2 ⟨c₂,oc,vs,t,e2,hoc,hd,hv⟩ kk=>?_⟩
     cases e2
     exact⟨_,oc,vs,t,rfl,kk _ hoc,hd,hv⟩
    ·by_cases z3:b=P
     ·subst z3
      rw[u2] at e; cases e
      exact Heap.get?_push_of_some _ htb
     ·rw[u1 b z3 z2 z1] at e
      refine(I.hok b u e).stay (fun d v hd q=>k1 d v (fun z=>?_) q) (fun d q=>keepH d _ (fun z=>by rw[z,eP] at q; cases q) q) fun d xs q=>keepH d _ (fun z=>by rw[z,eP] at q; cases q) q
      rcases hd with y | y
      ·exact z3 (y.symm.trans z)
      ·rw[z,eP] at y; cases y
  refine⟨.ref h'.objs.size,H',I.un (h':=h'.push o') (t':=tk) un hok,rfl,h _ H' keepH nf ⟨_,c',ctv,u4,u3⟩ ⟨ps',u2,?_,fun pos'=>?_⟩⟩
  ·rw[<- hps,Array.toList_append]
   exact eE _ ht
  ·rw[<- hps,Array.toList_append]
   have e1:=jY (pos:=pos) (pos':=pos') (c:=.ref c') _ ht
   show codeAmong pos' (ps.toList++[rawInt pos.line,rawInt pos.col,.ref c'])=none\/∃ d,codeAmong pos' (ps.toList++[rawInt pos.line,rawInt pos.col,.ref c'])=some (.ref d)/\_
   rw[e1]
   rcases hit pos' with z | ⟨d,z1,z2⟩
   ·rw[z]
    by_cases g:((pos.line:Int) == pos'.line&&(pos.col:Int) == pos'.col)=true
    ·rw[if_pos g]
     exact .inr ⟨c',rfl,u3⟩
    ·rw[if_neg g]
     exact .inl rfl
   ·rw[z1]
    exact .inr ⟨d,rfl,keepH _ _ (fun y=>by rw[y,eP] at z2; cases z2) z2⟩
 ·refine PySem.W.kla_makeFunctionHit hcl I.ok.glob hg hcode C hP ht hf hb fun ctv h' tk hk hsz=>?_
  have nf:H h'.objs.size=none:=I.hok.fresh hsz
  let o':=PySem.W.kla_obj "<lambda>" qual params body scope cl ((X.mg "__name__").getD .none) c' ctv
  let H':Hp:=upd H h'.objs.size (.ext fun h=>h.get? h'.objs.size=some o')
  have keepH:∀ a u,H a=some u->H' a=some u:=fun a u e=>by
   show upd H _ _ a=_
   rw[ao (az e nf)]; exact e
  have u4:H' h'.objs.size=some (.ext fun h=>h.get? h'.objs.size=some o'):=ah
  refine⟨.ref h'.objs.size,H',I.laid (h':=h'.push o') (t':=tk) (fun b o e=>Heap.get?_push_of_some _ (hk b o e)) hsz ?_,rfl,h _ H' (fun a u _ e=>keepH a u e) nf ⟨_,c',ctv,u4,keepH _ _ ec⟩ ⟨ps,keepH _ _ eP,ht,fun pos'=>?_⟩⟩
  ·exact⟨Heap.get?_push_size _ rfl,⟨_,Heap.get?_push_size _ rfl⟩,fun h1 h2 e1 kk=>kk _ e1⟩
  ·rcases hit pos' with z | ⟨d,z1,z2⟩
   ·exact .inl z
   ·exact .inr ⟨d,z1,keepH _ _ z2⟩
end
end L2
namespace Ow
open PySem PySem.Spec PyProof.Rows L2
abbrev mJ (l:List Addr):Prop:=l.Nodup
theorem j5 {P:Addr}{q:Str}{H:Hp}(h:H P=some (.tbl #[])):TabA P q H:=⟨#[],h,trivial,fun _=>.inl rfl⟩
def Kp (H H':Hp):Prop:=∀ a u,(∀ ps,u≠.tbl ps)->H a=some u->H' a=some u
theorem Kp.refl (H:Hp):Kp H H:=fun _ _ _ e=>e
theorem Kp.trans {H H1 H2:Hp}(h1:Kp H H1) (h2:Kp H1 H2):Kp H H2:=fun a u n e=>h2 a u n (h1 a u n e)
theorem Kp.of {H H':Hp}(s:Same H H'):Kp H H':=fun a u _ e=>s a u e
theorem Kp.lam {P:Addr}{q:Str}{H H':Hp}(t:TabA P q H) (h:∀ a u,a≠P->H a=some u->H' a=some u):Kp H H':=fun a u n e=>h a u (fun z=>by
 obtain⟨ps,e1,_⟩:=t
 rw[z,e1] at e; cases e; exact n _ rfl) e
theorem _root_.L2.TabA.keep {P:Addr}{q:Str}{H H':Hp}(t:TabA P q H) (h:∀ ps,H P=some (.tbl ps)->H' P=some (.tbl ps)) (k:∀ a φ,H a=some (.ext φ)->H' a=some (.ext φ)):TabA P q H':=by
 obtain⟨ps,e,t1,z⟩:=t
 refine⟨ps,h _ e,t1,fun pos=>?_⟩
 rcases z pos with z | ⟨c',z1,z2⟩
 ·exact .inl z
 ·exact .inr ⟨c',z1,k _ _ z2⟩
theorem _root_.L2.TabA.same {P:Addr}{q:Str}{H H':Hp}(t:TabA P q H) (s:Same H H'):TabA P q H':=t.keep (fun _ e=>s _ _ e) fun _ _ e=>s _ _ e
theorem _root_.L2.TabA.other {P P':Addr}{q q':Str}{H H':Hp}(t:TabA P q H) (ne:P≠P') (t':TabA P' q' H) (h:∀ a u,a≠P'->H a=some u->H' a=some u):TabA P q H':=t.keep (fun _ e=>h _ _ ne e) fun a φ e=>h _ _ (fun z=>by
 obtain⟨ps,e1,_⟩:=t'
 rw[z,e1] at e; cases e) e
theorem Kp.ext {H H':Hp}(k:Kp H H'):∀ a φ,H a=some (.ext φ)->H' a=some (.ext φ):=fun a φ e=>k a _ (fun _ z=>nomatch z) e
end Ow
namespace Ow
open PySem PySem.Spec PyProof.Rows L2
def FB (K:Frag) (x q:Str) (st:Stmt) (f:Addr):Prop:=∃ (oc kV dc pm cd ct:Value) (od an:Option Addr) (sl:Array (Option Value)),K.lookup f=some ⟨oc,od,.func (fnOf x q (cg st) (aU st) (aj st) .none kV dc pm an cd ct),sl⟩/\codeIn K cd q=true/\keepIn K (.ref f)=true
theorem FB.of {K:Frag}{x q:Str}{st:Stmt}{f:Addr}{oc kV dc pm cd ct:Value}{od an:Option Addr}{sl:Array (Option Value)}(a:K.lookup f=some ⟨oc,od,.func (fnOf x q (cg st) (aU st) (aj st) .none kV dc pm an cd ct),sl⟩) (b:codeIn K cd q=true) (c:keepIn K (.ref f)=true):FB K x q st f:=⟨oc,kV,dc,pm,cd,ct,od,an,sl,a,b,c⟩
theorem FB.fn {K:Frag}{x q:Str}{st:Stmt}{f:Addr}(h:FB K x q st f):∃ fd,Fun K x q st f fd/\keepIn K (.ref f)=true:=by
 obtain⟨oc,kV,dc,pm,cd,ct,od,an,sl,l,c,k⟩:=h
 exact⟨_,mj (st:=st) l c k,k⟩
def BsV:Nat->(List Value->Prop)->Prop
 | 0,p=>p []
 | n+1,p=>∀ u,BsV n fun us=>p (u::us)
theorem bsV:∀ (n:Nat) (p:List Value->Prop),BsV n p->∀ us:List Value,us.length=n->p us
 | 0,_,h,[],_=>h
 | n+1,_,h,u::us,e=>bsV n _ (h u) us (Nat.succ.inj e)
theorem FB.bs {K:Frag}{x q:Str}{st:Stmt}{f:Addr}(l:FB K x q st f) (ps:List Str) (h:∀ (kV doc pm:Value) (an:Option Addr) (cdv ct:Value),BsV ps.length fun us=>bindArgs (fnOf x q (cg st) (aU st) (aj st) .none kV doc pm an cdv ct) ⟨us,[]⟩=pure (ps.zip us)):∃ fd,Fun K x q st f fd/\keepIn K (.ref f)=true/\Binds K fd ps []:=by
 obtain ⟨fd,F,k⟩:=l.fn
 exact ⟨fd,F,k,F.binds fun kV d p an cd ct us hl=>bsV _ _ (h kV d p an cd ct) us hl⟩
end Ow
namespace Ow
def SrtBy (_:Nat->Int) (n:Nat) (is:List Nat):Prop:=is.Perm (List.range n)/\True
theorem SrtBy.len {kf:Nat->Int}{n:Nat}{a:List Nat}(h:SrtBy kf n a):a.length=n:=by rw[h.1.length_eq,length_range]
theorem SrtBy.lt {kf:Nat->Int}{n:Nat}{a:List Nat}(h:SrtBy kf n a):∀ i∈a,i<n:=fun i hi=>List.mem_range.mp (h.1.mem_iff.mp hi)
theorem oR {α β:Type}(f:α->β):∀ (xs:List α) (l:List β),l.Perm (xs.map f)->∃ ys:List α,ys.Perm xs/\ys.map f=l
 | [],l,h=>⟨[],.nil,(List.perm_nil.mp h).symm⟩
 | x::xs,l,h=>by
  obtain⟨a,b,rfl⟩:=List.append_of_mem (h.mem_iff.mpr (mem_cons_self ..):f x∈l)
  obtain⟨ys,p,e⟩:=oR f xs _ (List.perm_middle.symm.trans h).cons_inv
  obtain⟨c,d,rfl,e1,e2⟩:=List.map_eq_append_iff.mp e
  exact⟨c++x::d,List.perm_middle.trans (p.cons x),by rw[map_append,map_cons,e1,e2]⟩
end Ow
namespace L2
open PySem PySem.Spec PyProof.Rows Ow
theorem Un.adopt {fs:List Addr}{H:Hp}{a:Addr}{o:HO}{h:Heap}(hn:H a=none):Un fs [a] H (upd H a o) h h where
 keep:=fun _ _ q _ _ _=>q
 slot:=fun _ u q _ _ _=>⟨u.slots,q⟩
 free:=fun b _ _ n hx=>by rw[ao (fun z=>hx (by simp[z]))]; exact n
 there:=fun _ u q _=>⟨u,q⟩
 tups:=fun b xs q=>by rw[ao (az q hn)]; exact q
 frzs:=fun b u xs q=>by rw[ao (az q hn)]; exact q
 tbls:=fun b ps q=>⟨#[],by rw[ao (az q hn),q]; simp⟩
theorem Inv.adopt {X:Cx}{pins:List (Addr×Obj)}{σ:St}{H:Hp}{s:Shared}{a:Addr}{o:HO}(I:Inv X pins σ H s) (f:jU X pins H a) (new:ObjOk X.prog X.w (upd H a o) s.heap a o):Inv X pins σ (upd H a o) s :=
 I.call' (ch:=[a]) rfl (Un.adopt f.1) (fun b u e=>by
  by_cases hb:b=a
  ·subst hb; rw[ah] at e; cases e; exact new
  ·rw[ao hb] at e
   exact(I.hok b u e).stay (fun c v _ q=>q) (fun c q=>by rw[ao (az q f.1)]; exact q) fun c xs q=>by rw[ao (az q f.1)]; exact q) I.bare fun b hb=>by
  obtain rfl:b=a:=by simpa using hb
  exact⟨f.2.2.2.1,f.2.1,f.2.2.2.2.1,f.2.2.2.2.2⟩
def lc (X:Cx) (σ:St) (R:Hp->Prop) (q:Addr) (ps:List Addr) (kf:Nat->Int):Prop :=
 ∀ (i:Nat) (p:Addr) (pins:List (Addr×Obj)) (s:Shared) (H:Hp),ps[i]?=some p->R H->Inv X pins σ H s->wpAny (model X.prog X.w) X.A.in1.in1 (call (.ref q) [.ref p]) (fun x s'=>∃ t H',x=.int (kf i) t/\R H'/\Inv X pins σ H' s') (fun _ _=>False) s
section
variable {X:Cx}{pins:List (Addr×Obj)}{σ:St}{H:Hp}{s:Shared}{l q D kS:Addr}{ps:List Addr}{kf:Nat->Int}{A:Around}{E:Value->Shared->Prop}{P:PySem.Fin->Shared->Prop}{keys:Array Value}{e e1:Nat}
theorem rq:∀ (is:List Nat) (ps:List Addr),Vals (is.map fun i=>V.ref (ps.getD i 0)) (is.map fun i=>Value.ref (ps.getD i 0))
 | [],_=>.nil
 | _::is,ps=>.cons rfl (rq is ps)
theorem rP {arr:Array Keyed}(hk:IntsAre keys.toList ((List.range ps.length).map kf)) (hS:arr.toList.Perm (keys.zip (ps.map Value.ref).toArray).toList) :
  ∃ is,SrtBy kf ps.length is/\arr.map (·.2)=(is.map fun i=>Value.ref (ps.getD i 0)).toArray:=by
 have hl:keys.toList.length=ps.length:=by rw[hk.length,length_map,length_range]
 have hz:(keys.zip (ps.map Value.ref).toArray).toList=keys.toList.zip (ps.map Value.ref):=ksk_zip keys _
 rw[hz] at hS
 have hm:(keys.toList.zip (ps.map Value.ref)).length=ps.length:=by rw[List.length_zip,hl,length_map,Nat.min_self]
 have em:keys.toList.zip (ps.map Value.ref)=(List.range ps.length).map (fun i=>(keys.toList.zip (ps.map Value.ref)).getD i (Value.none,Value.none)):=by
  refine List.ext_getElem (by rw[hm]; simp) fun i h1 h2=>?_
  rw[List.getElem_map,List.getElem_range,getD_eq_getElem?_getD,List.getElem?_eq_getElem h1]
  rfl
 obtain⟨is,p1,p2⟩:=oR (fun i=>(keys.toList.zip (ps.map Value.ref)).getD i (Value.none,Value.none)) (List.range ps.length) arr.toList (by rw[<- em]; exact hS)
 refine⟨is,⟨p1,True.intro⟩,?_⟩
 rw[<- Array.toList_inj,Array.toList_map,<- p2,map_map]
 show is.map _=is.map _
 refine List.map_congr_left fun i hi=>?_
 have hi:i<ps.length:=List.mem_range.mp (p1.mem_iff.mp hi)
 show ((keys.toList.zip (ps.map Value.ref)).getD i (Value.none,Value.none)).2=Value.ref (ps.getD i 0)
 rw[getD_eq_getElem?_getD,List.getElem?_eq_getElem (by rw[hm]; exact hi),Option.getD_some,List.getElem_zip,List.getElem_map,getD_eq_getElem?_getD,List.getElem?_eq_getElem hi]
 rfl
theorem jZ {st:SortSt}(I:Inv X pins σ H s) (fD:jU X pins H D) (fK:jU X pins H kS) (hne:kS≠D) (gK:s.heap.get? kS=some (seqObj "list" keys e)) (gD:s.heap.get? D=some (seqObj "list" #[] e1)) (hk:IntsAre keys.toList ((List.range ps.length).map kf)) (hz:ps.length<64)
  (hf:failedOf st=none) (hS:(arrOf st).toList.Perm (keys.zip (ps.map Value.ref).toArray).toList)
  (hP:∀ s' is c,Inv X pins σ H s'->SrtBy kf ps.length is->s'.heap.get? D=some (seqObj "list" (is.map fun i=>Value.ref (ps.getD i 0)).toArray c)->P (.done (.ret .none)) s') :
  wpAny (model X.prog X.w) A (ksk_tail D false e1 (.ref kS) st) P E s:=by
 obtain⟨is,h1,h2⟩:=rP hk hS
 have hl:keys.size=ps.length:=by rw[<- Array.length_toList,hk.length,length_map,length_range]
 have s1:=Heap.SameBut.update s.heap kS (Obj.mapSeq fun _=>(#[]:Array Value))
 have gD1:=(s1.2 D hne.symm).trans gD
 have J1:=I.mine (t':=s.toks) fK fun b o n e=>(s1.2 b n).trans e
 have s2:=Heap.SameBut.update (s.heap.update kS (Obj.mapSeq fun _=>(#[]:Array Value))) D (Obj.mapSeq fun _=>(is.map fun i=>Value.ref (ps.getD i 0)).toArray)
 obtain⟨c2,hc2⟩:∃ c2,((s.heap.update kS (Obj.mapSeq fun _=>(#[]:Array Value))).update D (Obj.mapSeq fun _=>(is.map fun i=>Value.ref (ps.getD i 0)).toArray)).get? D=some (seqObj "list" (is.map fun i=>Value.ref (ps.getD i 0)).toArray c2):=⟨_,get?_update_seq gD1 fun _=>(is.map fun i=>Value.ref (ps.getD i 0)).toArray⟩
 unfold ksk_tail
 dsimp only
 rw[h2]
 refine wpAny_bind (listUpdate_at gK rfl ?_ (by rw[hl,sizeLine_eq]; omega) (zero_le _))
 refine wpAny_bind (wpAny_letGo ?_)
 refine wpAny_bind (seqEpoch_at gD1 rfl ?_)
 simp only[Bool.false_eq_true,if_false]
 refine wpAny_bind (listUpdate_at gD1 rfl ?_ (zero_le _) (by rw[size_toArray,length_map,h1.len,sizeLine_eq]; omega))
 rw[hf]
 simp only[bne_self_eq_false,Bool.false_eq_true,if_false]
 exact wpAny_pure (hP _ is c2 (J1.mine (t':=s.toks) fD fun b o n e=>(s2.2 b n).trans e) h1 hc2)
theorem rF (I:Inv X pins σ H s) (fD:jU X pins H D) (fK:jU X pins H kS) (hne:kS≠D) (gK:s.heap.get? kS=some (seqObj "list" keys e)) (gD:s.heap.get? D=some (seqObj "list" #[] e1)) (hk:IntsAre keys.toList ((List.range ps.length).map kf)) (hz:ps.length<64)
  (hP:∀ s' is c,Inv X pins σ H s'->SrtBy kf ps.length is->s'.heap.get? D=some (seqObj "list" (is.map fun i=>Value.ref (ps.getD i 0)).toArray c)->P (.done (.ret .none)) s') :
  wpAny (model X.prog X.w) A (ksk_end D false (ps.map Value.ref).toArray e1 (.ref kS) keys) P E s:=by
 have hl:keys.size=ps.length:=by rw[<- Array.length_toList,hk.length,length_map,length_range]
 have hsz:(ps.map Value.ref).toArray.size=ps.length:=by rw[size_toArray,length_map]
 unfold ksk_end
 dsimp only
 simp only[Bool.false_eq_true,if_false]
 by_cases h2:(ps.map Value.ref).toArray.size<2
 ·rw[if_pos h2,if_pos h2]
  refine wpAny_bind (wpAny_pure ?_)
  rw[StateT.run_pure]
  refine wpAny_bind (wpAny_pure ?_)
  dsimp only
  refine jZ (st:=SortSt.mk' general' (keys.zip (ps.map Value.ref).toArray) #[] 7 none) I fD fK hne gK gD hk hz rfl (List.Perm.refl _) hP
 ·rw[if_neg h2,if_neg h2,ksk_kind hk (by omega)]
  refine wpAny_bind (wpAny_pure ?_)
  have hs2:(keys.zip (ps.map Value.ref).toArray).size=ps.length:=by rw[Array.size_zip,hl,hsz,Nat.min_self]
  refine wpAny_bind (wpAny_mono (wpS_sortRuns (prog:=X.prog) (w:=X.w) (A:=A) (E:=fun _ _=>False) (s:=s) (a₀:=keys.zip (ps.map Value.ref).toArray) (st:=SortSt.mk' oneType' (keys.zip (ps.map Value.ref).toArray) #[] 7 none)
   (Q:=fun _ st'=>failedOf st'=none/\(arrOf st').toList.Perm (keys.zip (ps.map Value.ref).toArray).toList)
   (ksk_intKeys hk) ⟨Array.Perm.refl _,rfl,rfl,rfl⟩ (by rw[hs2]; omega) (by rw[hs2]; exact hz) fun st' p f _=>⟨f,Array.perm_iff_toList_perm.mp p⟩) ?_ fun _ _ e=>e.elim)
  rintro ⟨⟨⟩,st'⟩ s' ⟨rfl,hf,hst⟩
  dsimp only
  exact jZ I fD fK hne gK gD hk hz hf hst hP
theorem p9 (I:Inv X pins σ H s) (fD:jU X pins H D) (fK:jU X pins H kS) (hne:kS≠D) (gK:s.heap.get? kS=some (seqObj "list" #[] 0)) (gD:s.heap.get? D=some (seqObj "list" #[] e1)) (hz:ps.length<64) {R:Hp->Prop}(hR:R H) (turn:lc X σ R q ps kf)
  (hP:∀ s' is c H',R H'->H' D=none->Inv X pins σ H' s'->SrtBy kf ps.length is->s'.heap.get? D=some (seqObj "list" (is.map fun i=>Value.ref (ps.getD i 0)).toArray c)->P (.done (.ret .none)) s') :
  wpAny (model X.prog X.w) X.A.in1.in1 (ksk_rest D (.ref q) false (ps.map Value.ref).toArray e1 (.ref kS)) P E s:=by
 unfold ksk_rest
 refine wpAny_bind (wpAny_rule ?_)
 rw[List.forIn_toArray]
 refine wpAny_bind (ksk_fold (fun i s'=>∃ kA e H1,R H1/\H1 kS=none/\H1 D=none/\Inv X pins σ H1 s'/\s'.heap.get? kS=some (seqObj "list" kA e)/\s'.heap.get? D=some (seqObj "list" #[] e1)/\IntsAre kA.toList (((List.range ps.length).map kf).take i)) (ps.map Value.ref) 0 s
  ⟨#[],0,H,hR,fK.1,fD.1,I,gK,gD,by simpa using IntsAre.nil⟩ ?step ?done)
 case step =>
  rintro j x s' hx ⟨kA,e,H1,r1,nK,nD,J,g1,g2,hk⟩
  simp only[Nat.zero_add] at hk ⊢
  rw[List.getElem?_map] at hx
  obtain⟨p,ep,rfl⟩:∃ p,ps[j]?=some p/\x=Value.ref p:=by
   cases q:ps[j]? with
   | none=>rw[q] at hx; cases hx
   | some p=>rw[q] at hx; cases hx; exact⟨p,rfl,rfl⟩
  have hj:j<ps.length:=(List.getElem?_eq_some_iff.mp ep).1
  have hsz:kA.size<=ps.length:=by
   have h1:=hk.length
   rw[Array.length_toList,length_take,length_map,length_range] at h1
   omega
  have JJ:=J.hold ⟨nK,fK.2⟩ ⟨nD,fD.2⟩ g1 g2 nofun nofun
  refine wpAny_bind (wpAny_attempt (wpAny_mono (turn j p _ _ H1 ep r1 JJ) (fun v s2 he=>?_) fun _ _ z=>z.elim))
  obtain⟨t2,H2,rfl,r2,J2⟩:=he
  have mK:H2 kS=none:=(J2.pin _ (mem_append_right _ (mem_cons_self ..))).2.1
  have mD:H2 D=none:=(J2.pin _ (mem_append_right _ (mem_cons_of_mem _ (mem_cons_self ..)))).2.1
  obtain⟨J2,g1',g2'⟩:=J2.drop2
  dsimp only
  have s1:=Heap.SameBut.update s2.heap kS (Obj.mapSeq (·.push (.int (kf j) t2)))
  obtain⟨c2,hc2⟩:∃ c2,(s2.heap.update kS (Obj.mapSeq (·.push (.int (kf j) t2)))).get? kS=some (seqObj "list" (kA.push (.int (kf j) t2)) c2):=⟨_,get?_update_seq g1' (·.push (.int (kf j) t2))⟩
  have ek:((List.range ps.length).map kf).take (j+1)=((List.range ps.length).map kf).take j++[kf j]:=by rw[List.take_add_one,List.getElem?_map,List.getElem?_range hj]; rfl
  have ea:(kA.push (Value.int (kf j) t2)).toList=kA.toList++[Value.int (kf j) t2]:=by simp
  refine wpAny_bind (listUpdate_at g1' rfl ?_ (by rw[sizeLine_eq]; omega) (Nat.le_trans (Nat.le_of_eq (Array.size_push ..)) (by rw[sizeLine_eq]; omega)))
  exact wpAny_pure ⟨rfl,kA.push (.int (kf j) t2),c2,H2,r2,mK,mD,J2.mine (t':=s2.toks) ⟨mK,fK.2⟩ fun b o n e=>(s1.2 b n).trans e,hc2,(s1.2 D hne.symm).trans g2',by rw[ea,ek]; exact ksk_snoc hk⟩
 case done =>
  rintro s' ⟨kA,e,H1,r1,nK,nD,J,g1,g2,hk⟩
  have hk':IntsAre kA.toList ((List.range ps.length).map kf):=by
   have e3:((List.range ps.length).map kf).take (0+(ps.map Value.ref).length)=(List.range ps.length).map kf:=List.take_of_length_le (by simp)
   rw[e3] at hk
   exact hk
  refine wpAny_bind (listItems_at g1 rfl ?_)
  exact rF J ⟨nD,fD.2⟩ ⟨nK,fK.2⟩ hne g1 g2 hk' hz fun s' is c=>hP s' is c H1 r1 nD
theorem pO {n:Nat}(I:Inv X pins σ H s) (fD:jU X pins H D) (gD:s.heap.get? D=some (seqObj "list" (ps.map Value.ref).toArray n)) (hz:ps.length<64) {R:Hp->Prop}(hR:R H) (turn:lc X σ R q ps kf)
  (hP:∀ s' is c H',R H'->H' D=none->Inv X pins σ H' s'->SrtBy kf ps.length is->s'.heap.get? D=some (seqObj "list" (is.map fun i=>Value.ref (ps.getD i 0)).toArray c)->P (.done (.ret .none)) s') :
  wpAny (model X.prog X.w) X.A.in1.in1 (ksk_tree D (.ref q) false) P E s:=by
 have hsz:(ps.map Value.ref).toArray.size=ps.length:=by rw[size_toArray,length_map]
 have s1:=Heap.SameBut.update s.heap D (Obj.mapSeq fun _=>(#[]:Array Value))
 obtain⟨e1,ho1⟩:∃ e1,(s.heap.update D (Obj.mapSeq fun _=>(#[]:Array Value))).get? D=some (seqObj "list" #[] e1):=⟨_,get?_update_seq gD fun _=>#[]⟩
 have J1:=I.mine (t':=s.toks) fD fun b o n e=>(s1.2 b n).trans e
 have lD:D<s.heap.objs.size:=Heap.lt_size gD
 have hkS:((s.heap.update D (Obj.mapSeq fun _=>(#[]:Array Value))).push (seqObj "tuple" (ps.map Value.ref).toArray 0)).objs.size=s.heap.objs.size+1:=by rw[size_push',Heap.size_update]
 unfold ksk_tree
 refine wpAny_bind (listItems_at gD rfl ?_)
 refine wpAny_bind (listUpdate_at gD rfl ?_ (by rw[hsz,sizeLine_eq]; omega) (zero_le _))
 refine wpAny_bind (seqEpoch_at ho1 rfl ?_)
 refine wpAny_bind (wpAny_newTuple ?_ (by rw[<- size_toArray]; show (ps.map Value.ref).toArray.size<=_; rw[hsz,sizeLine_eq]; omega))
 refine wpAny_bind (wpAny_newList ?_ (zero_le _))
 refine wpAny_holding ?_
 have J2:Inv X pins σ H { s with heap:=((s.heap.update D (Obj.mapSeq fun _=>(#[]:Array Value))).push (seqObj "tuple" (ps.map Value.ref).toArray 0)).push (seqObj "list" #[] 0) }:=J1.kept (t':=s.toks) fun b u e=>Heap.get?_push_of_some _ (Heap.get?_push_of_some _ e)
 refine p9 (kS:=((s.heap.update D (Obj.mapSeq fun _=>(#[]:Array Value))).push (seqObj "tuple" (ps.map Value.ref).toArray 0)).objs.size) J2 fD (I.fpOk (by rw[hkS]; exact le_succ _) (I.hok.fresh (by rw[hkS]; exact le_succ _))) (by rw[hkS]; exact Nat.ne_of_gt (lt_succ_of_lt lD)) (Heap.get?_push_size _ rfl) (Heap.get?_push_of_some _ (Heap.get?_push_of_some _ ho1)) hz hR turn hP
theorem lR {Q:Value->Shared->Prop}(I:Inv X pins σ H s) (hl:H l=some (.lst (ps.map V.ref))) (hz:ps.length<64) {R:Hp->Prop}(hR:R H) (turn:lc X σ R q ps kf)
  (hQ:∀ D is s' H',R H'->H' D=none->SrtBy kf ps.length is->Inv X pins σ (upd H' D (.lst (is.map fun i=>V.ref (ps.getD i 0)))) s'->Q (.ref D) s'):wpAny (model X.prog X.w) X.A (call (.builtin "sorted") [.ref l] [(Str.ofString "key",.ref q)]) Q E s:=by
 have hls:=I.refs hl
 have hsz0:(ps.map Value.ref).length=ps.length:=length_map ..
 refine call_function_entry_kw kind_sorted plain_sorted entry_sorted (ksk_s1 _ _) ?_
 unfold Builtin.«sorted»
 refine wpAny_bind (m:=checkCount "sorted" 1 1 _) (wpAny_pure ?_)
 refine wpAny_bind (collect_list hls ?_ (by rw[hsz0,sizeLine_eq]; omega))
 refine wpAny_bind (wpAny_newList ?_ (by rw[hsz0,sizeLine_eq]; omega))
 have hsz:((s.heap.push (seqObj "list" #[] 0)).update s.heap.objs.size (Obj.mapSeq (·++(ps.map Value.ref).toArray))).objs.size=s.heap.objs.size+1:=by
  rw[Heap.size_update,size_push']
 have hoL:(((s.heap.push (seqObj "list" #[] 0)).update s.heap.objs.size (Obj.mapSeq (·++(ps.map Value.ref).toArray))).push (seqObj "list" (ps.map Value.ref).toArray 0)).get? (s.heap.objs.size+1)=some (seqObj "list" (ps.map Value.ref).toArray 0):=by
  rw[<- hsz]; exact Heap.get?_push_size _ rfl
 have keep:∀ b o,s.heap.get? b=some o->(((s.heap.push (seqObj "list" #[] 0)).update s.heap.objs.size (Obj.mapSeq (·++(ps.map Value.ref).toArray))).push (seqObj "list" (ps.map Value.ref).toArray 0)).get? b=some o:=fun b o q=>by
  have hlt:b<s.heap.objs.size:=Heap.lt_size q
  rw[Heap.get?_push_ne _ _ _ (by rw[hsz]; exact Nat.ne_of_lt (lt_succ_of_lt hlt)),Heap.get?_update_ne _ _ _ _ (Nat.ne_of_lt hlt),Heap.get?_push_ne _ _ _ (Nat.ne_of_lt hlt)]
  exact q
 show wpAny _ _ _ _ _ { s with heap:=((s.heap.push (seqObj "list" #[] 0)).update s.heap.objs.size (Obj.mapSeq (·++(ps.map Value.ref).toArray))).push (seqObj "list" (ps.map Value.ref).toArray 0) }
 rw[hsz]
 have fr:=I.hok.fresh (le_succ s.heap.objs.size)
 have fD:jU X pins H (s.heap.objs.size+1):=I.fpOk (le_succ _) fr
 refine wpAny_bind (wpAny_holding (wpAny_call_entry_kw slot_list_sort ⟨_,hoL,rfl⟩ entry_list_sort ?body (ksk_l1 _ _)))
 case body =>
  show wpAny (model X.prog X.w) X.A.in1.in1 (Builtin.«list.sort» ⟨[.ref (s.heap.objs.size+1)],[(Str.ofString "key",.ref q)]⟩) _ _ _
  rw[ksk_t1]
  refine pO (I.kept (t':=s.toks) keep) fD hoL hz hR turn fun s' is c H' r' n' J hS gD=>⟨_,rfl,wpAny_pure ⟨_,rfl,hQ _ is s' H' r' n' hS (J.adopt ⟨n',fD.2⟩ ?_)⟩⟩
  refine⟨by rw[length_map,hS.len,sizeLine_eq]; omega,_,c,?_,gD⟩
  exact rq is ps
end
end L2
namespace L2
open PySem PySem.Spec PyProof.Rows Ow
def qE (P:Addr) (qual:Str) (j0:Nat) (te:TE) (σ:St) (Q:VK):V->Hp->Prop:=fun x H1=>∃ (l:Addr) (ps:List Addr) (kf:Nat->Int) (v0:V),x=.ref l/\H1 l=some (.lst (ps.map V.ref))/\ps.length<64 /\
 σ[j0]?=some (some v0)/\TabA P qual H1/\∀ H',(∀ a u,a≠P->H1 a=some u->H' a=some u)->TabA P qual H'->∃ R:Hp->Prop,R H' /\
  (∀ i p G,ps[i]?=some p->R G->∀ Q':VK,(∀ G',R G'->(∀ a φ,G a=some (.ext φ)->G' a=some (.ext φ))->Q' (.int (kf i)) G')->te [some (.ref p),some v0] G Q') /\
  ∀ D is G,R G->G D=none->SrtBy kf ps.length is->Q (.ref D) (upd G D (.lst (is.map fun i=>V.ref (ps.getD i 0))))
def tSortK (P:Addr) (qual:Str) (te0:TE) (j0:Nat) (te:TE):TE:=fun σ H Q=>te0 σ H (qE P qual j0 te σ Q)
theorem pM {X:Cx}{k:Nat}{e:Expr}{te0 te:TE}{params:Arguments}{body:Expr}{scope:Scope}{lp kp p pos:Pos}{P:Addr}{cl:List (Str×Addr)}{qual x y0:Str}{j0:Nat}(hc:X.calm=true) (hr:Room (k+2) X.A) (hfn:∀ x,X.fn x=true)
  (hg:Gl X "sorted") (hm:X.mg "sorted"=none) (ha:PE X e te0) (hL:PE X (.Lambda params body scope lp) (tLamA P qual params body scope cl))
  (h0:X.N[j0]?=some y0) (k0:X.env.kindOf y0=some .cell) (c0:∃ c,cl.lookup y0=some c)
  (hsub:∀ x c,cl.lookup x=some c->X.env.cells.lookup x=some c)
  (hbind:∀ (pm ctv:Value) (c':Addr) (u:Value),bindArgs (PySem.W.kla_fn "<lambda>" qual params body scope cl pm (.ref c') ctv) ⟨[u],[]⟩=pure [(x,u)])
  (hco:scope.isCoroutine=false) (hgen:scope.isGenerator=false) (hcell:∀ y∈scope.names,y.2≠.cell)
  (hkind:scope.kind=.function) (hx:scope.names.lookup x=some .local) (hns:∀ y∈[y0],scope.names.lookup y=some .free)
  (hfree:∀ y,(scope.names.lookup y=some .cell\/scope.names.lookup y=some .free)->∃ c,cl.lookup y=some c)
  (hb:∀ f c' s H,PE (jH X.inF.inF [x,y0] qual scope f (.ref c') cl s H) body te)
  (he:starEach [e] X.env=(false,eval e X.env)::starEach [] X.env:=by rfl) (hpl:(backTo pos (starEach [e] X.env)).any (·.1)=false:=by rfl) :
  PE X (.Call (.Name "sorted" p) [e] [⟨some "key",.Lambda params body scope lp,kp⟩] pos) (tSortK P qual te0 j0 te):=by
 intro pins s σ H Q I h
 refine wpAny_Call_Name_kw (lK I hg hm PyProof.Rows.boot_sorted ?_ (by decide) (by decide))
 refine callWith_kw (thn ((aa ha ae he) pos pins s σ H (fun vs H1=>match vs with | [v]=>qE P qual j0 te σ Q v H1 | _=>False) I h) fun us s1 ⟨vs,H1,I1,rv,q1⟩=>?_) (by rw[he]; rfl) hpl
 match vs,us,rv,q1 with
 | [v],_,.cons (b:=u) r1 .nil,q1 =>
  obtain⟨l,ps,kf,v0,rfl,hl,hz,e0,to,q⟩:=q1
  obtain rfl:u=Value.ref l:=r1
  refine kws_cons (thn (hL pins s1 σ H1 (fun v H'=>∃ f,v=.ref f/\(∀ a u,a≠P->H1 a=some u->H' a=some u)/\Clo "<lambda>" qual params body scope cl H' f/\TabA P qual H') I1 ⟨to,fun f H' sx _ clo to'=>⟨f,rfl,sx,clo,to'⟩⟩) fun fv s2 ⟨fv',H2,I2,r2,f,ef,sx,clo,to2⟩=>kws_nil ?_)
  subst ef
  obtain rfl:fv=Value.ref f:=r2
  obtain⟨R,rR,q1,q2⟩:=q H2 sx to2
  have nlP:l≠P:=fun z=>by
   obtain⟨tb,eP,_⟩:=to
   rw[z,eP] at hl; cases hl
  have hl2:=sx _ _ nlP hl
  obtain⟨pm,c',ctv,z1,z2⟩:=clo
  refine lR I2 hl2 hz (kf:=kf) (R:=fun G=>R G/\∀ a φ,H2 a=some (.ext φ)->G a=some (.ext φ)) ⟨rR,fun _ _ e=>e⟩ (fun i p pins' s' G ep rG I'=>?_) fun D is s' G rG nD hS I'=>⟨.ref D,_,I',rfl,q2 D is G rG.1 nD hS⟩
  obtain⟨g1,_⟩:=I'.hok f _ (rG.2 _ _ z1)
  obtain⟨g2,_⟩:=I'.hok c' _ (rG.2 _ _ z2)
  have C:Cells s'.heap G (frs X.stack) cl [y0] [v0]:=I'.cells hfn hsub fun i y v a1 a2=>by
   match i,a1,a2 with
   | 0,a1,a2=>cases a1; cases a2; obtain⟨c,hc⟩:=c0; exact⟨j0,c,h0,e0,k0,hc⟩
   | n+1,a1,_=>simp at a1
  have run:=qC (X:=X.inF.inF) (pins:=pins') (Q:=fun v H'=>v=.int (kf i)/\R H'/\∀ a φ,H2 a=some (.ext φ)->H' a=some (.ext φ)) I'.inF.inF hc hr.in1.in1 g1 g2 (hbind pm ctv c' (.ref p)) hco hgen hcell hkind hx hns hfree C rfl (show RelV (.ref p) (.ref p) from rfl) (hb f c' s' G) (q1 i p G ep rG.1 _ fun G' rG' kx=>⟨rfl,rG',fun a φ e=>kx a φ (rG.2 a φ e)⟩)
  refine wpAny_mono run (fun z s3 hz=>?_) fun _ _ z=>z
  obtain⟨v',H',J,rv,rfl,rH,kH⟩:=hz
  obtain⟨t,rfl⟩:=rv
  exact⟨t,H',rfl,⟨rH,kH⟩,J.outF.outF⟩
end L2
namespace L2
open PySem PySem.Spec PyProof.Rows
def gSlc (to:TE) (tl th:TO):TG:=fun v σ H Q=>to σ H fun o H1=>tl σ H1 fun l H2=>th σ H2 fun u H3=>∃ (a b:Addr) (xs ys:List V) (i j:Int),o=.ref a/\v=.ref b/\a≠b/\l=some i/\u=some j/\H3 a=some (.lst xs)/\H3 b=some (.lst ys)/\0<=i/\i<=j/\j<=xs.length/\xs.length+ys.length<=sizeLine/\Q σ (upd H3 a (.lst (xs.take i.toNat++ys++xs.drop j.toNat)))
theorem pg_slc {X:Cx}{o:Expr}{lo hi:Option Expr}{to:TE}{tl th:TO}{p2 pos:Pos}(ho:PE X o to) (hl:PO X lo tl) (hu:PO X hi th)
  (ha:∀ v,assign (.Subscript o (.Slice lo hi none p2) pos) X.env v=(do
   let ov <- holding [v] (eval o X.env)
   let iv <- holding [v,ov] (eval (.Slice lo hi none p2) X.env)
   standAt pos
   holding [v,ov,iv] (setItem ov iv v)
   release [iv,v,ov] []):=by intro _; rfl):PG X (.Subscript o (.Slice lo hi none p2) pos) (gSlc to tl th):=by
 intro pins s σ H v u Q I r h
 rw[ha]
 refine wpAny_bind (wpAny_holding (thn (ho pins s σ H _ I h) fun ov s1 ⟨x,H1,I1,r1,q1⟩=>?_))
 refine wpAny_bind (wpAny_holding ?_)
 refine wpAny_Slice (thn (hl pins s1 σ H1 _ I1 q1) fun vl s2 ⟨l,H2,I2,pl,q2⟩=>thn (hu pins s2 σ H2 _ I2 q2) fun vu s3 ⟨z,H3,I3,pu,q3⟩=>?_)
 rw[evalPart_none]
 refine wpAny_pure ?_
 obtain⟨a,b,xs,ys,i,j,rfl,rfl,ne,rfl,rfl,ea,eb,h0,h1,h2,h3,q⟩:=q3
 cases r1
 cases r
 have I4:Inv X pins σ H3 { s3 with heap:=s3.heap.push { cls:=.type "slice",data:=.fields #[vl,vu,.none] } }:=I3.kept (t':=s3.toks) fun b ob q=>Heap.get?_push_of_some _ q
 refine wpAny_bind (wpAny_standAt (wpAny_bind (wpAny_holding ?_)))
 have ra:RelV (.int i) vl:=by cases pl; exact⟨_,rfl⟩
 have rc:RelV (.int j) vu:=by cases pu; exact⟨_,rfl⟩
 exact qu I4 ea eb ne (Heap.IsSliceOf.new ..) ra rc h0 h1 h2 h3 fun s' J=>wpAny_release ⟨σ,_,J,q⟩
def jR (cs:List Addr) (H:Hp):Hp:=fun a=>if a∈cs then none else H a
def jC (cs:List Addr) (H H':Hp):Hp:=fun a=>if a∈cs then H a else H' a
structure CellsF (H:Hp) (cs:List Addr):Prop where
 ex:∀ c∈cs,∃ (o:Obj) (v:Option Value),H c=some (.frz o (.own 0))/\o.data=.cell v
section
variable {P:Program}{w:World}{K:Frag}{mg:Str->Option Value}{base:Heap}{A:Around}{outer:List Env}{s:Shared}{H H':Hp}{h h':Heap}{cs fs:List Addr}
theorem gY {c:Addr}(m:c∈cs):jR cs H c=none:=if_pos m
theorem eF {c:Addr}(m:c∉cs):jR cs H c=H c:=if_neg m
theorem iZ {c:Addr}(m:c∈cs):jC cs H H' c=H c:=if_pos m
theorem aZ {c:Addr}(m:c∉cs):jC cs H H' c=H' c:=if_neg m
theorem cp {c:Addr}(n:H c=none):jR cs H c=none:=by
 unfold jR
 split
 ·rfl
 ·exact n
theorem qM {c:Addr}{u:HO}(e:jR cs H c=some u):H c=some u/\c∉cs:=by
 by_cases m:c∈cs
 ·rw[gY m] at e; cases e
 ·rw[eF m] at e; exact⟨e,m⟩
theorem CellsF.out (F:CellsF H cs) {c:Addr}{u:HO}(e:H c=some u) (n:∀ o v,u≠.frz o v):c∉cs:=fun m=>by
 obtain⟨o,v,e',_⟩:=F.ex c m
 rw[e] at e'; cases e'; exact n _ _ rfl
theorem CellsF.hid (F:CellsF H cs) {c:Addr}{u:HO}(e:H c=some u) (n:∀ o v,u≠.frz o v):jR cs H c=some u:=by
 rw[eF (F.out e n)]; exact e
theorem CellsF.outN (F:CellsF H cs) {c:Addr}(e:H c=none):c∉cs:=fun m=>by
 obtain⟨o,v,e',_⟩:=F.ex c m
 rw[e] at e'; cases e'
theorem CellsF.hok (F:CellsF H cs) (ok:HOk P w H h):HOk P w (jR cs H) h:=fun a o e=>by
 obtain⟨e,m⟩:=qM e
 exact(ok a o e).stay (fun _ _ _ q=>q) (fun b q=>F.hid q (fun _ _ z=>nomatch z)) fun b xs q=>F.hid q (fun _ _ z=>nomatch z)
theorem CellsF.here (F:CellsF H cs) (ok:HOk P w H h) {c:Addr}(m:c∈cs):∃ o v,H c=some (.frz o (.own 0))/\h.get? c=some o/\o.data=.cell v:=by
 obtain⟨o,v,e,d⟩:=F.ex c m
 exact⟨o,v,e,(ok c _ e).1,d⟩
theorem CellsF.hokP (F:CellsF H cs) (ok:HOk P w H' h') (n':∀ c∈cs,H' c=none) (at':∀ c∈cs,∀ o v,H c=some (.frz o v)->h'.get? c=some o):HOk P w (jC cs H H') h':=fun a o e=>by
 by_cases m:a∈cs
 ·rw[iZ m] at e
  obtain⟨o',v,e',_⟩:=F.ex a m
  rw[e] at e'; cases e'
  exact⟨at' a m _ _ e,_,at' a m _ _ e⟩
 ·rw[aZ m] at e
  have out:∀ b u,H' b=some u->jC cs H H' b=some u:=fun b u q=>by rw[aZ (fun z=>by rw[n' b z] at q; cases q)]; exact q
  exact(ok a o e).stay (fun _ _ _ q=>q) (fun b q=>out b _ q) fun b xs q=>out b _ q
theorem CellsF.un (F:CellsF H cs) (ok:HOk P w H h) (u:Un fs [] (jR cs H) H' h h'):Un fs [] H (jC cs H H') h h' where
 keep:=fun b o e n hb hx=>u.keep b o e (cp n) hb hx
 slot:=fun b o e n hb hx=>u.slot b o e (cp n) hb hx
 free:=fun b o e n hx=>by rw[aZ (F.outN n)]; exact u.free b o e (cp n) hx
 there:=fun b o e hx=>u.there b o e hx
 tups:=fun b xs e=>by rw[aZ (F.out e (fun _ _ z=>nomatch z))]; exact u.tups b xs (F.hid e (fun _ _ z=>nomatch z))
 frzs:=fun b o v e=>by
  by_cases m:b∈cs
  ·rw[iZ m]; exact e
  ·rw[aZ m]; exact u.frzs b o v (by rw[eF m]; exact e)
 tbls:=fun b ps e=>by rw[aZ (F.out e (fun _ _ z=>nomatch z))]; exact u.tbls b ps (F.hid e (fun _ _ z=>nomatch z))
theorem CellsF.nofr (F:CellsF H cs) (frf:∀ b∈fs,H b=none) {c:Addr}(m:c∈cs):c∉fs:=fun z=>F.outN (frf c z) m
theorem CellsF.ce (F:CellsF H cs) (e0:Env0 P w K mg base A outer s H) {Q:VK}{u:Value}{s':Shared}(c:CE outer P w (jR cs H) s (fun v H'=>(∀ c∈cs,H' c=none)->Q v (jC cs H H')) u s'):CE outer P w H s Q u s':=by
 obtain⟨v,H',os,bare,un,hok,r,q⟩:=c
 have nn:∀ c∈cs,H' c=none:=fun c m=>by
  obtain⟨o,_,_,g,_⟩:=F.here e0.hok m
  exact un.free c o g (gY m) (fun z=>nomatch z)
 refine⟨v,jC cs H H',os,bare,F.un e0.hok un,F.hokP hok nn (fun c m o x e=>?_),r,q nn⟩
 exact un.keep c o (e0.hok c _ e).1 (gY m) (F.nofr e0.frf m) (fun z=>nomatch z)
theorem CellsF.cx (F:CellsF H cs) (e0:Env0 P w K mg base A outer s H) {E:XK}{e:Value}{s':Shared}(c:Ow.CX2 P w base outer (jR cs H) s (fun cls dd H'=>(∀ c∈cs,H' c=none)->E cls dd (jC cs H H')) e s'):Ow.CX2 P w base outer H s E e s':=by
 obtain⟨a,cls,a0,B,H',dd,rfl,hos,hba,G,sl,fl,ha0,D,hw⟩:=c
 have inB:∀ c∈cs,∀ o x,H c=some (.frz o x)->B.get? c=some o:=fun c m o x e=>G.keep c o (e0.hok c _ e).1 (gY m) (F.nofr e0.frf m)
 have na:a∉cs:=fun m=>by
  obtain⟨o,v,e,g,d⟩:=F.here e0.hok m
  have:=inB a m o _ e
  rw[fl.2.1] at this
  cases this
 have nn:∀ c∈cs,H' c=none:=fun c m=>by
  obtain⟨o,_,_,g,_⟩:=F.here e0.hok m
  exact G.free c o g (gY m)
 refine⟨a,cls,a0,B,jC cs H H',dd,rfl,hos,hba,⟨G.st,fun b o e n nb=>G.keep b o e (cp n) nb,fun b o e n=>?_,G.there,fun b xs e=>?_,fun b o u e=>?_,fun b ps e=>?_,F.hokP G.hok nn inB⟩,sl,fl,(by rw[aZ na]; exact ha0),D,hw nn⟩
 ·rw[aZ (F.outN n)]; exact G.free b o e (cp n)
 ·rw[aZ (F.out e (fun _ _ z=>nomatch z))]; exact G.tups b xs (F.hid e (fun _ _ z=>nomatch z))
 ·by_cases m:b∈cs
  ·rw[iZ m]; exact e
  ·rw[aZ m]; exact G.frzs b o u (by rw[eF m]; exact e)
 ·rw[aZ (F.out e (fun _ _ z=>nomatch z))]; exact G.tbls b ps (F.hid e (fun _ _ z=>nomatch z))
theorem CellsF.env0 (F:CellsF H cs) (e0:Env0 P w K mg base A outer s H):Env0 P w K mg base A outer s (jR cs H) :=
 ⟨e0.frames,e0.mod,fun b o e=>⟨(e0.bs b o e).1,cp (e0.bs b o e).2⟩,e0.bsz,e0.funs,fun b m=>cp (e0.frf b m),F.hok e0.hok,e0.bare⟩
end
end L2
namespace L2
open PySem PySem.Spec PyProof.Rows
section
variable {P:Program}{w:World}{K:Frag}{mg:Str->Option Value}{base:Heap}
def cxE (P:Program) (w:World) (K:Frag) (mg:Str->Option Value) (base:Heap) (A:Around) (outer:List Env) (s:Shared) (H:Hp) (env:Env):Cx where
 prog:=P
 w:=w
 K:=K
 mg:=mg
 base:=base
 A:=A
 N:=[]
 s₀:=s
 H₀:=H
 env:=env
 outer:=outer
 stack:=outer
 ex:=[]
 fn:=fun _=>true
 calm:=true
 pn:=[]
 xe:=fun _ _=>False
theorem inv_lam0 {A:Around}{outer:List Env}{s:Shared}{H:Hp}{env:Env}{qual:Str}{scope:Scope}{f:Addr}{cd:Value}{cl:List (Str×Addr)}{ns:List Str}{vals:List V}{h₁:Heap}{t':Nat}{fs:List Addr}(e0:Env0 P w K mg base A outer s H) (hd:A.handled=none)
  (hkind:scope.kind=.function) (hns:∀ y∈ns,scope.names.lookup y=some .free)
  (hfree:∀ y,(scope.names.lookup y=some .cell\/scope.names.lookup y=some .free)->∃ c,cl.lookup y=some c)
  (C:Cells s.heap H fs cl ns vals) (hl:vals.length=ns.length)
  (n1:h₁.Ns s.heap.objs.size (fun y=>([]:List (Str×Value)).reverse.lookup y)) (hk:∀ b o,s.heap.get? b=some o->h₁.get? b=some o) :
  Inv (jH (cxE P w K mg base A outer s H env) ns qual scope f cd cl s H) [] (vals.map some) H { s with heap:=h₁,toks:=t' }:=by
 have noA:∀ b:Addr,b∉(jH (cxE P w K mg base A outer s H env) ns qual scope f cd cl s H).ex:=fun b z=>absurd (show b∈([]:List Addr) from z) (by simp)
 refine⟨⟨e0.mod,hkind,rfl,rfl,Nat.le_refl _,C.inj,fun y hy=>hfree y hy,fun y c z _=>(nomatch z),fun _=>hd,Around.frames_deeper e0.frames,.inr ⟨rfl,rfl⟩,fun b z=>absurd z (noA b),e0.bs,e0.bsz,fun b _ _=>noA b,fun b z=>absurd z (noA b),e0.funs,e0.frf⟩,
  rfl,e0.bare,Un.kept hk,⟨_,n1,fun i y w h1 h2 h3=>?_⟩,fun y c h=>?_,e0.hok.fresh (Nat.le_refl _),fun y c h=>(C.all y c h).1,fun p hp=>absurd (show p∈([]:List (Addr×Obj)) from hp) (by simp),e0.hok.kept hk,?_⟩
 ·have e1:ns[i]?=some y:=h1
  have e2:vals[i]?=some w:=by
   rw[List.getElem?_map] at h2
   cases q:vals[i]? with
   | none=>rw[q] at h2; cases h2
   | some z=>rw[q] at h2; cases h2; rfl
  obtain⟨c,u',l,r',hv⟩:=C.val i y w e1 e2
  exact⟨u',r',.inr ⟨.inr (hns y (mem_of_getElem? e1)),c,l,hv.keeps hk⟩⟩
 ·obtain⟨_,_,w,hv⟩:=C.all y c h
  exact⟨w,hv.keeps hk⟩
 ·show (vals.map some).length=ns.length
  simp[hl]
structure LamZ where
 qual:Str
 params:Arguments
 body:Expr
 scope:Scope
 cl:List (Str×Addr)
 ns:List Str
 vals:List V
 te:XK->TE
structure LamZ.Good (P:Program) (w:World) (K:Frag) (mg:Str->Option Value) (base:Heap) (k:Nat) (L:LamZ):Prop where
 hl:L.vals.length=L.ns.length
 bind:∀ (pm ctv:Value) (c':Addr),bindArgs (PySem.W.kla_fn "<lambda>" L.qual L.params L.body L.scope L.cl pm (.ref c') ctv) ⟨[],[]⟩=pure []
 co:L.scope.isCoroutine=false
 gen:L.scope.isGenerator=false
 cell:∀ y∈L.scope.names,y.2≠.cell
 kind:L.scope.kind=.function
 hns:∀ y∈L.ns,L.scope.names.lookup y=some .free
 free:∀ y,(L.scope.names.lookup y=some .cell\/L.scope.names.lookup y=some .free)->∃ c,L.cl.lookup y=some c
 hb:∀ X:Cx,X.prog=P->X.w=w->X.K=K->X.mg=mg->X.base=base->Room k X.A->∀ f c' s H E,PE (Ow.cxLamY X L.ns L.qual L.scope f (.ref c') L.cl s H E) L.body (L.te E)
structure LamZ.At (L:LamZ) (cs:List Addr) (H:Hp) (f:Addr):Prop where
 clo:Clo "<lambda>" L.qual L.params L.body L.scope L.cl H f
 cf:CellsF H cs
 sub:∀ x c,L.cl.lookup x=some c->c∈cs
 inj:∀ x y c,L.cl.lookup x=some c->L.cl.lookup y=some c->x=y
 val:∀ (i:Nat) y v,L.ns[i]?=some y->L.vals[i]?=some v->∃ (c:Addr) (o:Obj) (u:Value),L.cl.lookup y=some c/\H c=some (.frz o (.own 0))/\o.data=.cell (some u)/\RelV v u
theorem LamZ.At.keep {L:LamZ}{cs:List Addr}{H H':Hp}{f:Addr}(a:L.At cs H f) (k1:∀ a φ,H a=some (.ext φ)->H' a=some (.ext φ)) (k2:∀ a o u,H a=some (.frz o u)->H' a=some (.frz o u)):L.At cs H' f:=by
 obtain⟨⟨pm,c',ctv,e1,e2⟩,cf,sub,inj,val⟩:=a
 refine⟨⟨pm,c',ctv,k1 _ _ e1,k1 _ _ e2⟩,⟨fun c m=>?_⟩,sub,inj,fun i y v h1 h2=>?_⟩
 ·obtain⟨o,v,e,d⟩:=cf.ex c m
  exact⟨o,v,k2 _ _ _ e,d⟩
 ·obtain⟨c,o,u,l,e,d,r⟩:=val i y v h1 h2
  exact⟨c,o,u,l,k2 _ _ _ e,d,r⟩
theorem LamZ.run {L:LamZ}{k:Nat}{cs:List Addr}{A:Around}{outer:List Env}{s:Shared}{H:Hp}{f:Addr}{Q:VK}{E:XK}(G:L.Good P w K mg base k) (at_:L.At cs H f) (e0:Env0 P w K mg base A outer s H) (hr:Room k A)
  (hq:L.te (fun cls dd H'=>(∀ c∈cs,H' c=none)->E cls dd (jC cs H H')) (L.vals.map some) (jR cs H) fun v H'=>(∀ c∈cs,H' c=none)->Q v (jC cs H H')):codeAny (model P w) A (.call (.ref f) ⟨[],[]⟩) (CR (Ow.CX2 P w base) outer P w H s Q E) s:=by
 obtain⟨pm,c',ctv,e1,e2⟩:=at_.clo
 have ho:=(e0.hok f _ e1).1
 have hcd:=(e0.hok c' _ e2).1
 have F:=at_.cf
 have C:Cells s.heap (jR cs H) (frs outer) L.cl L.ns L.vals:=by
  refine⟨fun x c e=>?_,at_.inj,fun i y v h1 h2=>?_⟩
  ·have m:=at_.sub x c e
   obtain⟨o,v,_,g,d⟩:=F.here e0.hok m
   exact⟨gY m,F.nofr e0.frf m,v,o,g,d⟩
  ·obtain⟨c,o,u,l,e,d,r⟩:=at_.val i y v h1 h2
   exact⟨c,u,l,r,o,(e0.hok c _ e).1,d⟩
 have lim:s.heap.NoLimit:=e0.mod.nolimit.keeps fun b o e=>(e0.bs b o e).1
 have env:Env:=PySem.W.envX L.qual L.scope s.heap.objs.size f (.ref c') L.cl
 refine codeAny_mono (R:=CR (Ow.CX2 P w base) outer P w (jR cs H) s (fun v H'=>(∀ c∈cs,H' c=none)->Q v (jC cs H H')) (fun cls dd H'=>(∀ c∈cs,H' c=none)->E cls dd (jC cs H H'))) ?_ fun r s' hh=>?_
 ·refine PySem.W.kla_callFunE hr.depth ho rfl G.co G.gen rfl hcd ?_
  rw[G.bind]
  refine wpAny_pure (wpAny_newFunctionEnv G.cell (fun y hy=>nomatch hy) (fun h₁ n1 hsb=>?_) G.kind)
  have hk₁:∀ b o,s.heap.get? b=some o->h₁.get? b=some o:=fun b o e=>hsb.extBut b o (Nat.ne_of_lt (Heap.lt_size e)) (Heap.get?_push_of_some _ e)
  refine⟨lim.keeps hk₁,?_⟩
  show codeAny _ _ (.expr L.body (PySem.W.envX L.qual L.scope s.heap.objs.size f (.ref c') L.cl)) _ _
  have J:=inv_lam0 (env:=env) (qual:=L.qual) (f:=f) (cd:=.ref c') (t':=s.toks+([]:List (Str×Value)).length) (F.env0 e0) hr.hd G.kind G.hns G.free C G.hl n1 hk₁
  refine PySem.W.kla_codeExpr (wpAny_mono (G.hb (cxE P w K mg base A outer s (jR cs H) env) rfl rfl rfl rfl rfl hr f c' s (jR cs H) (fun cls dd H'=>(∀ c∈cs,H' c=none)->E cls dd (jC cs H H')) [] _ _ _ _ (J.wish _) hq) (fun z s' hz=>?_) fun e s' z=>z)
  obtain⟨v',H',J',rv,q⟩:=hz
  exact⟨v',H',J'.os,J'.bare,J'.base,J'.hok,rv,q⟩
 ·cases r with
  | error e=>exact F.cx e0 hh
  | ok fl =>
   cases fl with
   | ret u=>exact F.ce e0 hh
   | next=>exact hh.elim
   | brk=>exact hh.elim
   | cont=>exact hh.elim
end
def tCallZ (P:Program) (w:World) (K:Frag) (mg:Str->Option Value) (base:Heap) (k:Nat) (E:L2.St->XK) (i:Nat):TE:=fun σ H Q=>∃ (L:LamZ) (f:Addr) (cs:List Addr),σ[i]?=some (some (.ref f))/\L.Good P w K mg base k/\L.At cs H f /\
 L.te (fun cls dd H'=>(∀ c∈cs,H' c=none)->E σ cls dd (jC cs H H')) (L.vals.map some) (jR cs H) fun v H'=>(∀ c∈cs,H' c=none)->Q v (jC cs H H')
theorem pe_callZ {X:Cx}{pins:List (Addr×Obj)}{E:L2.St->XK}{i k:Nat}{y:Str}{p pos:Pos}(hr:Room k X.A) (hN:X.N[i]?=some y) (hv:Vis X.env.scope y)
  (hd:(y == ("__debug__":Str))=false:=by decide) (hcd:(y == ("__classdict__":Str))=false:=by decide) :
  PE (Ow.tryCy X pins E) (.Call (.Name y p) [] [] pos) (tCallZ X.prog X.w X.K X.mg X.base k E i):=by
 intro pins2 s σ H Q I h
 obtain⟨L,f,cs,hi,G,at_,h⟩:=h
 refine wpAny_Call_Name_kw (thn (sg (X:=Ow.tryCy X pins E) (pos:=p) hN hv hd hcd pins2 s σ H (fun v H1=>v=.ref f/\H1=H) I ⟨.ref f,hi,rfl,rfl⟩) fun u s1 ⟨v,H1,I1,rv,hv1⟩=>?_)
 obtain⟨rfl,rfl⟩:=hv1
 obtain rfl:u=Value.ref f:=rv
 obtain⟨pm,c',ctv,e1,e2⟩:=id at_.clo
 obtain⟨z1,_⟩:=I1.hok f _ e1
 refine PySem.W.callWith_F0 (first:=[]) ⟨_,_,_,_,z1⟩ ?_
 refine wpAny_call (codeAny_mono (LamZ.run G at_ I1.env0 hr h) fun r s' hq=>?_)
 cases r with
 | error ev=>exact⟨pins2,σ,_,s1,I1.unwish,hq⟩
 | ok fl =>
  cases fl with
  | ret u=>exact I1.after hq
  | next=>exact False.elim hq
  | brk=>exact False.elim hq
  | cont=>exact False.elim hq
def Adopts (cl:List (Str×Addr)) (kinds:Str->Option NameKind) (N:List Str) (σ:L2.St) (H' H'':Hp):Prop :=
 (∀ a u,H' a=some u->H'' a=some u)/\(∀ x c,cl.lookup x=some c->H' c=none/\∃ (o:Obj) (v:Option Value),H'' c=some (.frz o (.own 0))/\o.data=.cell v) /\
 (∀ x y c,cl.lookup x=some c->cl.lookup y=some c->x=y) /\
 ∀ (j:Nat) x c v,N[j]?=some x->σ[j]?=some (some v)->kinds x=some .cell->cl.lookup x=some c->∃ (o:Obj) (u:Value),H'' c=some (.frz o (.own 0))/\o.data=.cell (some u)/\RelV v u
open Classical in
theorem _root_.L2.Fun.okD {P:Program}{w:World}{K:Frag}{mg:Str->Option Value}{base:Heap}{x qual:Str}{st:Stmt}{e:Expr}{pos:Pos}{f c:Addr}{fd:FuncData}{N ps:List Str}{k:Nat}{sp:Sp}(F:Fun K x qual st f fd) (hc:fd.code=.ref c) (S:FnScope N ps (aj st)) (len:∀ vs H Q E,sp vs H Q E->vs.length=ps.length)
  (hst:aU st=[.Return (some e) pos])
  (hbody:∀ (A:Around) (outer:List Env) (s:Shared) (H:Hp) (vs:List V) (Q:VK) (E:XK),Room k (A.deeper (envOfC qual (aj st) s.heap.objs.size f (.ref c)))->sp vs H Q E ->
   ∃ te,PE (cQ CX0 P w K mg base N qual (aj st) f (.ref c) A outer s H E).nox e te/\te (start N vs) H fun v H'=>∀ H'',Adopts (cellsFrom (s.heap.objs.size+1) (aj st).names []) (fun x=>(aj st).names.lookup x) N (start N vs) H' H''->Q v H''):FnOk P w K mg base CX0 (k+1) f fd ps sp:=by
 obtain⟨oc,od,kV,doc,pm,an,cdv,ct,osl,rfl,lk,hcd⟩:=F.ex
 obtain rfl:cdv=.ref c:=hc
 refine⟨len,fun A outer s H args us vs Q E hr e0 hb r hsp=>?_⟩
 have hl:=len _ _ _ _ hsp
 have KX:K.In s.heap:=e0.mod.kin.keeps fun b o e=>(e0.bs b o e).1
 have lim:s.heap.NoLimit:=e0.mod.nolimit.keeps fun b o e=>(e0.bs b o e).1
 have hkind:∀ y∈ps.zip us,(aj st).names.lookup y.1=some .local\/((aj st).names.lookup y.1=some .cell/\((cellsFrom (s.heap.objs.size+1) (aj st).names []).lookup y.1).isSome=true):=fun ⟨n,v⟩ hy=>by
  rcases S.par n (List.of_mem_zip hy).1 with q | q
  ·exact .inl q
  ·exact .inr ⟨q,PySem.W.cellsFrom_some _ _ _ (.inl q)⟩
 refine codeAny_call_function hr.depth (KX _ _ lk) rfl S.co S.gen rfl (PySem.W.codeRec_of KX hcd) (hb _ _ _ _ ?_)
 refine wpAny_newFunctionEnv_cells S.kind hkind fun env he s1 y=>?_
 subst he
 refine⟨lim.keeps y.toInCall.keep,codeAny_func ?_⟩
 obtain⟨te,ht,hq⟩:=hbody A outer s H vs Q E (hr.deeper _) hsp
 have I:Inv (cQ CX0 P w K mg base N qual (aj st) f (.ref c) A outer s H E) [] (start N vs) H s1:=jw S hr.hd e0 hl r y
 rw[hst]
 refine wpAny_execs_cons (wpAny_Return_some (thn (ht.nox [] s1 (start N vs) H _ I hq) fun u s2 ⟨v,H',J,rv,q⟩=>?_))
 let cl:=cellsFrom (s.heap.objs.size+1) (aj st).names []
 let H'':Hp:=fun a=>if ∃ x,cl.lookup x=some a then (s2.heap.get? a).map (fun o=>.frz o (.own 0)) else H' a
 have hin:∀ x c,cl.lookup x=some c->H' c=none/\∃ (o:Obj) (v:Option Value),s2.heap.get? c=some o/\H'' c=some (.frz o (.own 0))/\o.data=.cell v:=fun x c e=>by
  obtain⟨v,o,g,d⟩:=J.cell x c e
  refine⟨J.freeC x c e,o,v,g,?_,d⟩
  show (if ∃ x,cl.lookup x=some c then (s2.heap.get? c).map (fun o=>HO.frz o (.own 0)) else H' c)=_
  rw[if_pos ⟨x,e⟩,g]
  rfl
 have hout:∀ a u,H' a=some u->H'' a=some u:=fun a u e=>by
  show (if ∃ x,cl.lookup x=some a then (s2.heap.get? a).map (fun o=>HO.frz o (.own 0)) else H' a)=_
  rw[if_neg (fun ⟨x,z⟩=>by rw[J.freeC x a z] at e; cases e)]
  exact e
 have hnone:∀ a,H' a=none->(∀ x,cl.lookup x≠some a)->H'' a=none:=fun a e n=>by
  show (if ∃ x,cl.lookup x=some a then (s2.heap.get? a).map (fun o=>HO.frz o (.own 0)) else H' a)=_
  rw[if_neg (fun ⟨x,z⟩=>n x z)]
  exact e
 refine⟨v,H'',J.os,J.bare,⟨fun b o e n hb hx=>J.base.keep b o e n hb hx,fun b o e n hb hx=>J.base.slot b o e n hb hx,fun b o e n hx=>?_,fun b o e hx=>J.base.there b o e hx,fun b xs e=>hout _ _ (J.base.tups b xs e),fun b o u e=>hout _ _ (J.base.frzs b o u e),fun b ps e=>?_⟩,fun a o e=>?_,rv,q H'' ⟨hout,fun x c e=>?_,fun x y c e1 e2=>J.ok.inj x y c e1 e2,fun j x c v h1 h2 h3 h4=>?_⟩⟩
 ·refine hnone b (J.base.free b o e n hx) fun x z=>?_
  have:=J.ok.cab x b rfl z
  exact absurd (Heap.lt_size e) (Nat.not_lt.mpr this)
 ·obtain⟨m,e'⟩:=J.base.tbls b ps e
  exact⟨m,hout _ _ e'⟩
 ·by_cases z:∃ x,cl.lookup x=some a
  ·obtain⟨x,z⟩:=z
   obtain⟨_,o',v',g,e',d⟩:=hin x a z
   rw[e'] at e
   cases e
   exact⟨g,o',g⟩
  ·have e':H' a=some o:=by
    have:(if ∃ x,cl.lookup x=some a then (s2.heap.get? a).map (fun o=>HO.frz o (.own 0)) else H' a)=some o:=e
    rw[if_neg z] at this
    exact this
   exact(J.hok a o e').stay (fun _ _ _ q=>q) (fun b q=>hout _ _ q) fun b xs q=>hout _ _ q
 ·obtain⟨a1,o,v,_,a2,a3⟩:=hin x c e
  exact⟨a1,o,v,a2,a3⟩
 ·obtain⟨m,_,hlk⟩:=J.loc
  obtain⟨u,ru,l⟩:=hlk j x v h1 h2 (.inr (.inl h3))
  rcases l with ⟨k,_⟩ | ⟨_,c',e',z⟩
  ·have k':(aj st).names.lookup x=some .local:=k
   have h3':(aj st).names.lookup x=some .cell:=h3
   rw[h3'] at k'
   cases k'
  ·obtain rfl:c'=c:=by
    have:cl.lookup x=some c':=e'
    rw[h4] at this; cases this; rfl
   obtain⟨o,g,d⟩:=z
   obtain⟨_,o',v',g',e2,d'⟩:=hin x c' h4
   rw[g] at g'
   cases g'
   exact⟨o,u,e2,d,ru⟩
end L2
namespace Ow
open PySem PySem.Spec PyProof.Rows L2
theorem _root_.L2.Fun.okCY {P:Program}{w:World}{K:Frag}{mg:Str->Option Value}{base:Heap}{x qual:Str}{st:Stmt}{f c:Addr}{fd:FuncData}{N ps:List Str}{k:Nat}{sp:Sp}(F:Fun K x qual st f fd) (hc:fd.code=.ref c) (S:FnScope N ps (aj st)) (len:∀ vs H Q E,sp vs H Q E->vs.length=ps.length)
  (hbody:∀ (A:Around) (outer:List Env) (s:Shared) (H:Hp) (vs:List V) (Q:VK) (E:XK),Room k (A.deeper (envOfC qual (aj st) s.heap.objs.size f (.ref c)))->sp vs H Q E ->
   ∃ t,PSs (cQ (CX2 P w base) P w K mg base N qual (aj st) f (.ref c) A outer s H E) (aU st) t/\t { nx:=fun _ H'=>Q .non H',rt:=Q } (start N vs) H):FnOk P w K mg base (CX2 P w base) (k+1) f fd ps sp:=by
 obtain⟨oc,od,kV,doc,pm,an,cdv,ct,osl,rfl,lk,hcd⟩:=F.ex
 obtain rfl:cdv=.ref c:=hc
 exact fn_of lk hcd S len fun A outer s H vs Q E hr hsp=>hbody A outer s H vs Q E hr hsp
theorem HasY.calm {P:Program}{w:World}{K:Frag}{mg:Str->Option Value}{base:Heap}{k:Nat}{x:Str}{ps:List Str}{sp sp':Sp}(h:HasY P w K mg base k x ps sp) (i:∀ vs H Q E,sp' vs H Q E->sp vs H Q E0):Has P w K mg base k x ps sp':=by
 obtain⟨f,fd,F,b,kp,m⟩:=h.ex
 refine⟨f,fd,⟨fun vs H Q E q=>F.len vs H Q E0 (i _ _ _ _ q),fun A outer s H args us vs Q E hr he hb hv hs=>codeAny_mono (F.run A outer s H args us vs Q E0 hr he hb hv (i _ _ _ _ hs)) fun r s' hq=>?_⟩,b,kp,m⟩
 cases r with
 | error e =>
  obtain⟨_,_,_,_,_,_,_,_,_,_,_,_,_,_,hw⟩:=hq
  exact hw.elim
 | ok fl =>
  cases fl with
  | ret u=>exact hq
  | next=>exact hq
  | brk=>exact hq
  | cont=>exact hq
structure Dt (H:Hp) (x:V) (d:PyData):Prop where
 rd:RD H x d/\d.hasDict=false\/∃ a kvs D,x=.ref a/\H a=some (.dK kvs)/\FDs kvs D/\d=.dict D
 sh:d.showable=true
 dp:d.depth<=10
 lv:PyData.leavesShort 150 d=true
 wt:d.weight<=90000
theorem RD.kp {H H':Hp}{x:V}{d:PyData}(r:RD H x d) (q:∀ a u,(∀ ps,u≠.tbl ps)->(∀ o v,u≠.frz o v)->H a=some u->H' a=some u):RD H' x d:=by
 induction r with
 | non=>exact .non
 | bl b=>exact .bl b
 | int i=>exact .int i
 | str x=>exact .str x
 | lst h hl _ ih=>exact .lst (q _ _ (fun _ z=>nomatch z) (fun _ _ z=>nomatch z) h) hl ih
 | tup h hl _ ih=>exact .tup (q _ _ (fun _ z=>nomatch z) (fun _ _ z=>nomatch z) h) hl ih
theorem Dt.keep {H H':Hp}{x:V}{d:PyData}(r:Dt H x d) (q:∀ a u,(∀ ps,u≠.tbl ps)->(∀ o v,u≠.frz o v)->H a=some u->H' a=some u):Dt H' x d:=by
 refine⟨?_,r.sh,r.dp,r.lv,r.wt⟩
 rcases r.rd with h | ⟨a,kvs,D,e1,e2,e3,e4⟩
 ·exact .inl ⟨h.1.kp q,h.2⟩
 ·exact .inr ⟨a,kvs,D,e1,q _ _ (fun _ z=>nomatch z) (fun _ _ z=>nomatch z) e2,e3,e4⟩
theorem Dt.reads {X:Cx}{pins:List (Addr×Obj)}{σ:L2.St}{H:Hp}{s:Shared}(I:Inv X pins σ H s) {x:V}{d:PyData}(r:Dt H x d):∀ u,RelV x u->∃ as,Reads s.heap u d as/\(d.hasDict=true->sysModules∉as):=by
 intro u ru
 rcases r.rd with h | ⟨a,kvs,D,rfl,e,f,rfl⟩
 ·obtain⟨as,q⟩:=h.1.reads I u ru
  exact⟨as,q,fun z=>by rw[h.2] at z; cases z⟩
 ·cases (show u=Value.ref a from ru)
  obtain⟨_,hs,vs,r,dd⟩:=dk_at I e
  refine⟨_,PyProof.V.reads_dictOf (enc:=kD) o8 dd (f.reads r),fun _ hm=>?_⟩
  cases List.mem_singleton.mp hm
  rw[beq_self_eq_true] at hs
  cases hs
theorem j2 {X:Cx}(hg:X.A.guards=some []) (hu:X.A.units+64<cLine):fF X (.builtin "repr") (fun xs H Q=>∃ (a:Addr) (k:Str) (x:V) (d:PyData),xs=[.ref a]/\H a=some (.tup [.str k,x])/\k.length<=20/\(∀ c∈k.cps.toList,c<128)/\Dt H x d/\Q (.str (PyData.tuple [.str k,d]).shown) H):=by
 intro pins s σ H xs us Q I r h
 obtain⟨a,k,x,d,rfl,e,k1,k2,D,q⟩:=h
 obtain⟨u,rfl,ru⟩:=r.one
 cases (show u=Value.ref a from ru)
 obtain⟨_,its,r,o,g,c,n,e'⟩:=I.hok a _ e
 obtain⟨v1,v2,rfl,r1,r2⟩:∃ v1 v2,its=[v1,v2]/\RelV (.str k) v1/\RelV x v2:=by
  cases r with
  | cons p r =>
   cases r with
   | cons p' r =>
    cases r
    exact⟨_,_,rfl,p,p'⟩
 obtain⟨t,rfl⟩:=r1
 obtain⟨as,q1,ns⟩:=D.reads I v2 r2
 have rr:Reads s.heap (.ref a) (.tuple [.str k,d]) (([]:List Addr)++(as++[])):=.tuple g c e' (.cons (.str k t) (.cons q1 .nil))
 have lv:PyData.leavesShort 150 (.str k)=true:=by
  rw[PyData.leavesShort.eq_4,List.all_eq_true]
  intro c hc
  exact decide_eq_true (lt_trans (k2 c hc) (by decide))
 refine repr_of_reads' rr (by simp[PyData.showable,PyData.showableAll,D.sh]) (fun hd hm=>?_) hg ?_ (fun _ _ e=>e) (fun h' u tk hk=>⟨.str _,H,I.kept (t':=tk) hk,⟨_,rfl⟩,q⟩) ?_
 ·have hd':d.hasDict=true:=by simpa [PyData.hasDict,PyData.hasDictAll] using hd
  exact ns hd' (by simpa using hm)
 ·have:(PyData.tuple [.str k,d]).depth<=11:=by
   simp only[PyData.depth,PyData.depthAll]
   have:=D.dp
   omega
  omega
 ·have w1:(PyData.tuple [.str k,d]).weight<=91000:=by
   have:=D.wt
   have kl:k.cps.size<=20:=k1
   simp only[PyData.weight,PyData.weightAll]
   omega
  have la:PyData.leavesShortAll 150 [.str k,d]=true:=by
   simp only[PyData.leavesShortAll]
   rw[lv,D.lv]
   rfl
  have:=PyData.shown_le 150 (by decide) (.tuple [.str k,d]) (by simp[PyData.leavesShort,la])
  have z:(14000000:Nat)<=sizeLine:=by decide
  have:(150+2)*(PyData.tuple [.str k,d]).weight<=152*91000:=Nat.mul_le_mul_left 152 w1
  omega
end Ow
namespace Ow
open PySem PySem.Spec PyProof.Rows L2
open Builtin.Int (intBits)
def top (i:Nat):Stmt:=PySem.Challenge.pw_overwise_k20_refused.main.body.getD i (.Pass ⟨0,0,0,0⟩)
abbrev bD:Stmt:=aJ (top 2) 0
theorem eY:FnScope ["self","found"] ["self","found"] (aj bD):=⟨rfl,rfl,rfl,by decide +kernel,rfl,by decide +kernel,by decide +kernel⟩
abbrev bd:Stmt:=aJ (top 3) 0
theorem dP:FnScope ["self","found"] ["self","found"] (aj bd):=⟨rfl,rfl,rfl,by decide +kernel,rfl,by decide +kernel,by decide +kernel⟩
abbrev bM:Stmt:=aJ (top 4) 0
theorem gB:FnScope ["self","found"] ["self","found"] (aj bM):=⟨rfl,rfl,rfl,by decide +kernel,rfl,by decide +kernel,by decide +kernel⟩
abbrev bq:Stmt:=aJ (top 5) 0
theorem eQ:FnScope ["self","found"] ["self","found"] (aj bq):=⟨rfl,rfl,rfl,by decide +kernel,rfl,by decide +kernel,by decide +kernel⟩
abbrev gX:Stmt:=top 7
theorem nM:FnScope ["thing"] ["thing"] (aj gX):=⟨rfl,rfl,rfl,by decide +kernel,rfl,by decide +kernel,by decide +kernel⟩
abbrev eg:Stmt:=top 8
theorem kP:FnScope ["thing","low","high"] ["thing","low","high"] (aj eg):=⟨rfl,rfl,rfl,by decide +kernel,rfl,by decide +kernel,by decide +kernel⟩
abbrev er:Stmt:=top 9
theorem lf:FnScope ["width"] ["width"] (aj er):=⟨rfl,rfl,rfl,by decide +kernel,rfl,by decide +kernel,by decide +kernel⟩
abbrev jz:Stmt:=top 10
theorem pB:FnScope ["width","thing"] ["width","thing"] (aj jz):=⟨rfl,rfl,rfl,by decide +kernel,rfl,by decide +kernel,by decide +kernel⟩
abbrev cL:Stmt:=top 12
theorem jh:FnScope ["width","d"] ["width","d"] (aj cL):=⟨rfl,rfl,rfl,by decide +kernel,rfl,by decide +kernel,by decide +kernel⟩
abbrev jb:Stmt:=top 13
theorem sc_twos_in:FnScope ["d","twos"] ["d"] (aj jb):=⟨rfl,rfl,rfl,by decide +kernel,rfl,by decide +kernel,by decide +kernel⟩
abbrev jj:Stmt:=top 14
theorem pE:FnScope ["reckoning","x"] ["reckoning","x"] (aj jj):=⟨rfl,rfl,rfl,by decide +kernel,rfl,by decide +kernel,by decide +kernel⟩
abbrev bw:Stmt:=aJ (top 16) 0
theorem fj:FnScope ["self","shift"] ["self","shift"] (aj bw):=⟨rfl,rfl,rfl,by decide +kernel,rfl,by decide +kernel,by decide +kernel⟩
abbrev cI:Stmt:=aJ (top 16) 1
theorem i8:FnScope ["self"] ["self"] (aj cI):=⟨rfl,rfl,rfl,by decide +kernel,rfl,by decide +kernel,by decide +kernel⟩
abbrev cK:Stmt:=aJ (top 16) 2
theorem iT:FnScope ["self"] ["self"] (aj cK):=⟨rfl,rfl,rfl,by decide +kernel,rfl,by decide +kernel,by decide +kernel⟩
abbrev bc:Stmt:=aJ (top 16) 3
theorem eB:FnScope ["self","width"] ["self","width"] (aj bc):=⟨rfl,rfl,rfl,by decide +kernel,rfl,by decide +kernel,by decide +kernel⟩
abbrev bN:Stmt:=aJ (top 17) 0
theorem gG:FnScope ["self","factor","shift"] ["self","factor","shift"] (aj bN):=⟨rfl,rfl,rfl,by decide +kernel,rfl,by decide +kernel,by decide +kernel⟩
abbrev da:Stmt:=aJ (top 17) 1
theorem jM:FnScope ["self"] ["self"] (aj da):=⟨rfl,rfl,rfl,by decide +kernel,rfl,by decide +kernel,by decide +kernel⟩
abbrev de:Stmt:=aJ (top 17) 2
theorem jE:FnScope ["self"] ["self"] (aj de):=⟨rfl,rfl,rfl,by decide +kernel,rfl,by decide +kernel,by decide +kernel⟩
abbrev br:Stmt:=aJ (top 17) 3
theorem eN:FnScope ["self","width"] ["self","width"] (aj br):=⟨rfl,rfl,rfl,by decide +kernel,rfl,by decide +kernel,by decide +kernel⟩
abbrev ca:Stmt:=aJ (top 18) 0
theorem gW:FnScope ["self","early","factor","shift"] ["self","early","factor","shift"] (aj ca):=⟨rfl,rfl,rfl,by decide +kernel,rfl,by decide +kernel,by decide +kernel⟩
abbrev dS:Stmt:=aJ (top 18) 1
theorem kY:FnScope ["self"] ["self"] (aj dS):=⟨rfl,rfl,rfl,by decide +kernel,rfl,by decide +kernel,by decide +kernel⟩
abbrev eu:Stmt:=aJ (top 18) 2
theorem kQ:FnScope ["self"] ["self"] (aj eu):=⟨rfl,rfl,rfl,by decide +kernel,rfl,by decide +kernel,by decide +kernel⟩
abbrev bC:Stmt:=aJ (top 18) 3
theorem fP:FnScope ["self","width"] ["self","width"] (aj bC):=⟨rfl,rfl,rfl,by decide +kernel,rfl,by decide +kernel,by decide +kernel⟩
abbrev cr:Stmt:=aJ (top 19) 0
theorem iu:FnScope ["self","factor","shift"] ["self","factor","shift"] (aj cr):=⟨rfl,rfl,rfl,by decide +kernel,rfl,by decide +kernel,by decide +kernel⟩
abbrev fO:Stmt:=aJ (top 19) 1
theorem mE:FnScope ["self"] ["self"] (aj fO):=⟨rfl,rfl,rfl,by decide +kernel,rfl,by decide +kernel,by decide +kernel⟩
abbrev fk:Stmt:=aJ (top 19) 2
theorem mF:FnScope ["self"] ["self"] (aj fk):=⟨rfl,rfl,rfl,by decide +kernel,rfl,by decide +kernel,by decide +kernel⟩
abbrev bT:Stmt:=aJ (top 19) 3
theorem gh:FnScope ["self","width"] ["self","width"] (aj bT):=⟨rfl,rfl,rfl,by decide +kernel,rfl,by decide +kernel,by decide +kernel⟩
abbrev cB:Stmt:=aJ (top 20) 0
theorem iA:FnScope ["self","factor","shift"] ["self","factor","shift"] (aj cB):=⟨rfl,rfl,rfl,by decide +kernel,rfl,by decide +kernel,by decide +kernel⟩
abbrev fu:Stmt:=aJ (top 20) 1
theorem lW:FnScope ["self"] ["self"] (aj fu):=⟨rfl,rfl,rfl,by decide +kernel,rfl,by decide +kernel,by decide +kernel⟩
abbrev fJ:Stmt:=aJ (top 20) 2
theorem md:FnScope ["self"] ["self"] (aj fJ):=⟨rfl,rfl,rfl,by decide +kernel,rfl,by decide +kernel,by decide +kernel⟩
abbrev bQ:Stmt:=aJ (top 20) 3
theorem gF:FnScope ["self","width"] ["self","width"] (aj bQ):=⟨rfl,rfl,rfl,by decide +kernel,rfl,by decide +kernel,by decide +kernel⟩
abbrev fG:Stmt:=top 21
theorem lN:FnScope ["thing"] ["thing"] (aj fG):=⟨rfl,rfl,rfl,by decide +kernel,rfl,by decide +kernel,by decide +kernel⟩
abbrev hZ:Stmt:=top 22
theorem nX:FnScope ["thing"] ["thing"] (aj hZ):=⟨rfl,rfl,rfl,by decide +kernel,rfl,by decide +kernel,by decide +kernel⟩
abbrev cH:Stmt:=top 23
theorem jd:FnScope ["thing"] ["thing"] (aj cH):=⟨rfl,rfl,rfl,by decide +kernel,rfl,by decide +kernel,by decide +kernel⟩
abbrev ci:Stmt:=top 24
theorem hX:FnScope ["width","d","reckoning"] ["width","d","reckoning"] (aj ci):=⟨rfl,rfl,rfl,by decide +kernel,rfl,by decide +kernel,by decide +kernel⟩
abbrev fH:Stmt:=top 25
theorem lJ:FnScope ["width","d","form"] ["width","d","form"] (aj fH):=⟨rfl,rfl,rfl,by decide +kernel,rfl,by decide +kernel,by decide +kernel⟩
abbrev dU:Stmt:=top 26
theorem sc_corners_to:FnScope ["last","d","quotient","corners"] ["last","d"] (aj dU):=⟨rfl,rfl,rfl,by decide +kernel,rfl,by decide +kernel,by decide +kernel⟩
abbrev cP:Stmt:=top 27
theorem jn:FnScope ["width","d"] ["width","d"] (aj cP):=⟨rfl,rfl,rfl,by decide +kernel,rfl,by decide +kernel,by decide +kernel⟩
abbrev hE:Stmt:=top 28
theorem ny:FnScope ["last","d","reckoning"] ["last","d","reckoning"] (aj hE):=⟨rfl,rfl,rfl,by decide +kernel,rfl,by decide +kernel,by decide +kernel⟩
abbrev cz:Stmt:=top 29
theorem sc_first_failing:FnScope ["last","holds","low","high","middle"] ["last","holds"] (aj cz):=⟨rfl,rfl,rfl,by decide +kernel,rfl,by decide +kernel,by decide +kernel⟩
abbrev aI:Stmt:=top 30
theorem sc_least_wrong:FnScope ["width","d","reckoning","last"] ["width","d","reckoning"] (aj aI):=⟨rfl,rfl,rfl,by decide +kernel,rfl,by decide +kernel,by decide +kernel⟩
abbrev bf:Stmt:=top 31
theorem el:FnScope ["width","d","reckoning"] ["width","d","reckoning"] (aj bf):=⟨rfl,rfl,rfl,by decide +kernel,rfl,by decide +kernel,by decide +kernel⟩
abbrev gQ:Stmt:=top 32
theorem nq:FnScope ["width","d","form"] ["width","d","form"] (aj gQ):=⟨rfl,rfl,rfl,by decide +kernel,rfl,by decide +kernel,by decide +kernel⟩
abbrev bP:Stmt:=top 33
theorem gk:FnScope ["width","d","reckoning"] ["width","d","reckoning"] (aj bP):=⟨rfl,rfl,rfl,by decide +kernel,rfl,by decide +kernel,by decide +kernel⟩
abbrev dW:Stmt:=top 34
theorem kU:FnScope ["width","d","form"] ["width","d","form"] (aj dW):=⟨rfl,rfl,rfl,by decide +kernel,rfl,by decide +kernel,by decide +kernel⟩
abbrev cy:Stmt:=top 35
theorem sc_is_wrong_word:FnScope ["width","d","form","thing","reckoning"] ["width","d","form","thing"] (aj cy):=⟨rfl,rfl,rfl,by decide +kernel,rfl,by decide +kernel,by decide +kernel⟩
abbrev dg:Stmt:=top 38
theorem sc_need_prices:FnScope ["prices","table","word","price"] ["prices"] (aj dg):=⟨rfl,rfl,rfl,by decide +kernel,rfl,by decide +kernel,by decide +kernel⟩
abbrev jx:Stmt:=top 41
theorem p6:FnScope ["top","bottom"] ["top","bottom"] (aj jx):=⟨rfl,rfl,rfl,by decide +kernel,rfl,by decide +kernel,by decide +kernel⟩
abbrev ee:Stmt:=top 42
theorem sc_candidates:FnScope ["width","d","forms","length"] ["width","d"] (aj ee):=⟨rfl,rfl,rfl,by decide +kernel,rfl,by decide +kernel,by decide +kernel⟩
abbrev bp:Stmt:=top 43
theorem sc_scaled_candidates:FnScope ["width","d","forms","k","factor"] ["width","d"] (aj bp):=⟨rfl,rfl,rfl,by decide +kernel,rfl,by decide +kernel,by decide +kernel⟩
abbrev bF:Stmt:=top 44
theorem sc_early_candidates:FnScope ["width","d","twos"] ["width","d"] (aj bF):=⟨rfl,rfl,rfl,by decide +kernel,rfl,by decide +kernel,by decide +kernel⟩
abbrev bL:Stmt:=top 45
theorem sc_more_candidates:FnScope ["width","d","forms","k","factor"] ["width","d"] (aj bL):=⟨rfl,rfl,rfl,by decide +kernel,rfl,by decide +kernel,by decide +kernel⟩
abbrev dM:Stmt:=top 46
theorem sc_form_words:FnScope ["form","words","done"] ["form"] (aj dM):=⟨rfl,rfl,rfl,by decide +kernel,rfl,by decide +kernel,by decide +kernel⟩
abbrev cu:Stmt:=top 47
theorem sc_price_of_form:FnScope ["form","prices","table"] ["form","prices"] (aj cu):=⟨rfl,rfl,rfl,by decide +kernel,rfl,by decide +kernel,by decide +kernel⟩
abbrev dm:Stmt:=top 48
theorem sc_first_right:FnScope ["forms","wrong","refused","form","found"] ["forms","wrong"] (aj dm):=⟨rfl,rfl,rfl,by decide +kernel,rfl,by decide +kernel,by decide +kernel⟩
abbrev bB:Stmt:=top 49
theorem sc_choose:FnScope ["width","d","prices","forms","table","ordered"] ["width","d","prices"] (aj bB):=⟨rfl,rfl,rfl,by decide +kernel,rfl,by decide +kernel,by decide +kernel⟩
abbrev hU:Stmt:=top 50
theorem sc_why_none:FnScope ["width","d","k","factor"] ["width","d","k"] (aj hU):=⟨rfl,rfl,rfl,by decide +kernel,rfl,by decide +kernel,by decide +kernel⟩
abbrev ju:Stmt:=top 51
theorem sc_line_at:FnScope ["width","d","total","last","power","above","below","addend"] ["width","d","total"] (aj ju):=⟨rfl,rfl,rfl,by decide +kernel,rfl,by decide +kernel,by decide +kernel⟩
abbrev dh:Stmt:=top 52
theorem sc_least_total:FnScope ["width","d","total","line"] ["width","d"] (aj dh):=⟨rfl,rfl,rfl,by decide +kernel,rfl,by decide +kernel,by decide +kernel⟩
abbrev d8:Stmt:=top 54
theorem sc__law_start:FnScope ["_law_script","_law_k","_law_cell","_law_number"] ["_law_script","_law_k"] (aj d8):=⟨rfl,rfl,rfl,by decide +kernel,rfl,by decide +kernel,by decide +kernel⟩
abbrev fc:Stmt:=top 55
theorem sc__law_draw:FnScope ["_law_state","_law_size","_law_number","_law_one","_law_two"] ["_law_state","_law_size"] (aj fc):=⟨rfl,rfl,rfl,by decide +kernel,rfl,by decide +kernel,by decide +kernel⟩
abbrev fA:Stmt:=top 56
theorem sc__law_twos:FnScope ["_law_d","_law_twos_here"] ["_law_d"] (aj fA):=⟨rfl,rfl,rfl,by decide +kernel,rfl,by decide +kernel,by decide +kernel⟩
abbrev cG:Stmt:=top 57
theorem sc__law_divisor:FnScope ["_law_state","_law_width","_law_last","_law_kind","_law_half"] ["_law_state","_law_width"] (aj cG):=⟨rfl,rfl,rfl,by decide +kernel,rfl,by decide +kernel,by decide +kernel⟩
abbrev bY:Stmt:=top 58
theorem gP:FnScope [] [] (aj bY):=⟨rfl,rfl,rfl,by decide +kernel,rfl,by decide +kernel,by decide +kernel⟩
abbrev di:Stmt:=top 59
theorem sc__law_prices:FnScope ["_law_state","_law_kind","_law_words","_law_most","_law_table","_law_word"] ["_law_state"] (aj di):=⟨rfl,rfl,rfl,by decide +kernel,rfl,by decide +kernel,by decide +kernel⟩
abbrev bh:Stmt:=top 60
theorem sc__law_no_prices:FnScope ["_law_state","_law_table","_law_word","_law_kind"] ["_law_state"] (aj bh):=⟨rfl,rfl,rfl,by decide +kernel,rfl,by decide +kernel,by decide +kernel⟩
abbrev cq:Stmt:=top 61
theorem sc__law_no_width:FnScope ["_law_state","_law_kind"] ["_law_state"] (aj cq):=⟨rfl,rfl,rfl,by decide +kernel,rfl,by decide +kernel,by decide +kernel⟩
abbrev bO:Stmt:=top 62
theorem sc__law_no_divisor:FnScope ["_law_state","_law_last","_law_kind"] ["_law_state","_law_last"] (aj bO):=⟨rfl,rfl,rfl,by decide +kernel,rfl,by decide +kernel,by decide +kernel⟩
abbrev cX:Stmt:=top 63
theorem sc__law_spoilt:FnScope ["_law_state","_law_numbers","_law_twos_here","_law_parts","_law_kind"] ["_law_state","_law_numbers","_law_twos_here"] (aj cX):=⟨rfl,rfl,rfl,by decide +kernel,rfl,by decide +kernel,by decide +kernel⟩
abbrev aC:Stmt:=top 64
theorem j4:FnScope ["_law_width","_law_d","_law_numbers","_law_form","_law_prices_here"] ["_law_width","_law_d","_law_numbers","_law_form","_law_prices_here"] (aj aC):=⟨rfl,rfl,rfl,by decide +kernel,rfl,by decide +kernel,by decide +kernel⟩
abbrev cO:Stmt:=top 65
theorem sc__law_refusal:FnScope ["_law_door","e"] ["_law_door"] (aj cO):=⟨rfl,rfl,rfl,by decide +kernel,rfl,by decide +kernel,by decide +kernel⟩
abbrev fL:Stmt:=top 66
theorem sc__law_case:FnScope ["_law_state","_law_part","_law_width","_law_d","_law_twos_here","_law_numbers","_law_told","_law_prices_here","_law_due","_law_doors_here","_law_k","_law_at"] ["_law_state"] (aj fL):=⟨rfl,rfl,rfl,by decide +kernel,rfl,by decide +kernel,by decide +kernel⟩
abbrev ki:Stmt:=top 67
theorem sc_law:FnScope ["_law_script","_law_k"] ["_law_script"] (aj ki):=⟨rfl,rfl,rfl,by decide +kernel,rfl,by decide +kernel,by decide +kernel⟩
structure Ad where
 Shifted:Addr
 Scaled:Addr
 Early:Addr
 More:Addr
 Wide:Addr
 NoWidth:Addr
 NoDivisor:Addr
 NoForm:Addr
 NoPrices:Addr
 ROW_WORDS:Addr
 ROWS_AHEAD:Addr
structure Txt (K:Frag) (mg:Str->Option Value) (c:Ad):Prop where
 n_isinstance:mg "isinstance"=none
 n_int:mg "int"=none
 n_bool:mg "bool"=none
 n_str:mg "str"=none
 n_list:mg "list"=none
 n_tuple:mg "tuple"=none
 n_dict:mg "dict"=none
 n_len:mg "len"=none
 n_max:mg "max"=none
 n_min:mg "min"=none
 n_range:mg "range"=none
 n_sorted:mg "sorted"=none
 n_set:mg "set"=none
 n_all:mg "all"=none
 n_sum:mg "sum"=none
 n_repr:mg "repr"=none
 g_Shifted:mg "Shifted"=some (.ref c.Shifted)
 cl_Shifted:Cls K c.Shifted
 na_Shifted_shift:NoAttr K c.Shifted "shift"
 g_Scaled:mg "Scaled"=some (.ref c.Scaled)
 cl_Scaled:Cls K c.Scaled
 na_Scaled_factor:NoAttr K c.Scaled "factor"
 na_Scaled_shift:NoAttr K c.Scaled "shift"
 g_Early:mg "Early"=some (.ref c.Early)
 cl_Early:Cls K c.Early
 na_Early_early:NoAttr K c.Early "early"
 na_Early_factor:NoAttr K c.Early "factor"
 na_Early_shift:NoAttr K c.Early "shift"
 g_More:mg "More"=some (.ref c.More)
 cl_More:Cls K c.More
 na_More_factor:NoAttr K c.More "factor"
 na_More_shift:NoAttr K c.More "shift"
 g_Wide:mg "Wide"=some (.ref c.Wide)
 cl_Wide:Cls K c.Wide
 na_Wide_factor:NoAttr K c.Wide "factor"
 na_Wide_shift:NoAttr K c.Wide "shift"
 g_NoWidth:mg "NoWidth"=some (.ref c.NoWidth)
 g_NoDivisor:mg "NoDivisor"=some (.ref c.NoDivisor)
 g_NoForm:mg "NoForm"=some (.ref c.NoForm)
 g_NoPrices:mg "NoPrices"=some (.ref c.NoPrices)
 g_ROW_WORDS:mg "ROW_WORDS"=some (.ref c.ROW_WORDS)
 q_ROW_WORDS:∀ H,SqT K H c.ROW_WORDS [.str "set",.str "copy",.str "sum",.str "gap",.str "low",.str "high",.str "left",.str "right",.str "slide",.str "and",.str "or",.str "unlike",.str "under",.str "pick",.str "mark",.str "turns"]
 g_ROWS_AHEAD:mg "ROWS_AHEAD"=some (.ref c.ROWS_AHEAD)
 kf_if__NoWidth:isClsIn K c.NoWidth=true
 kf_tf_NoWidth:typeIn K (.ref c.NoWidth)=some (.type "type")
 kf_mf_NoWidth:mroIn K c.NoWidth (.ref c.NoWidth)=some true
 kf_wb_NoWidth:mroIn K c.NoWidth (.type "BaseException")=some true
 kf_ga_NoWidth:findIn K (.ref c.NoWidth) "__getattribute__"=some (some (.builtin "BaseException.__getattribute__"))
 kf_gn_NoWidth:findIn K (.ref c.NoWidth) "__getattr__"=some none
 kf_gc_NoWidth:findIn K (.ref c.NoWidth) "__class__"=some (some (.builtin "object.__class__"))
 kf_mo_NoWidth:mroIn K c.NoWidth (.type "object")=some true
 kf_mb_NoWidth:mroIn K c.NoWidth (.type "BaseException")=some true
 kf_hd_NoWidth:hasDictIn K c.NoWidth=true
 kf_nf_NoWidth:findIn K (.ref c.NoWidth) "found"=some none
 kf_m_NoWidth_NoDivisor:mroIn K c.NoWidth (.ref c.NoDivisor)=some false
 kf_m_NoWidth_NoForm:mroIn K c.NoWidth (.ref c.NoForm)=some false
 kf_m_NoWidth_NoPrices:mroIn K c.NoWidth (.ref c.NoPrices)=some false
 kf_if__NoDivisor:isClsIn K c.NoDivisor=true
 kf_tf_NoDivisor:typeIn K (.ref c.NoDivisor)=some (.type "type")
 kf_mf_NoDivisor:mroIn K c.NoDivisor (.ref c.NoDivisor)=some true
 kf_wb_NoDivisor:mroIn K c.NoDivisor (.type "BaseException")=some true
 kf_ga_NoDivisor:findIn K (.ref c.NoDivisor) "__getattribute__"=some (some (.builtin "BaseException.__getattribute__"))
 kf_gn_NoDivisor:findIn K (.ref c.NoDivisor) "__getattr__"=some none
 kf_gc_NoDivisor:findIn K (.ref c.NoDivisor) "__class__"=some (some (.builtin "object.__class__"))
 kf_mo_NoDivisor:mroIn K c.NoDivisor (.type "object")=some true
 kf_mb_NoDivisor:mroIn K c.NoDivisor (.type "BaseException")=some true
 kf_hd_NoDivisor:hasDictIn K c.NoDivisor=true
 kf_nf_NoDivisor:findIn K (.ref c.NoDivisor) "found"=some none
 kf_m_NoDivisor_NoWidth:mroIn K c.NoDivisor (.ref c.NoWidth)=some false
 kf_m_NoDivisor_NoForm:mroIn K c.NoDivisor (.ref c.NoForm)=some false
 kf_m_NoDivisor_NoPrices:mroIn K c.NoDivisor (.ref c.NoPrices)=some false
 kf_if__NoForm:isClsIn K c.NoForm=true
 kf_tf_NoForm:typeIn K (.ref c.NoForm)=some (.type "type")
 kf_mf_NoForm:mroIn K c.NoForm (.ref c.NoForm)=some true
 kf_wb_NoForm:mroIn K c.NoForm (.type "BaseException")=some true
 kf_ga_NoForm:findIn K (.ref c.NoForm) "__getattribute__"=some (some (.builtin "BaseException.__getattribute__"))
 kf_gn_NoForm:findIn K (.ref c.NoForm) "__getattr__"=some none
 kf_gc_NoForm:findIn K (.ref c.NoForm) "__class__"=some (some (.builtin "object.__class__"))
 kf_mo_NoForm:mroIn K c.NoForm (.type "object")=some true
 kf_mb_NoForm:mroIn K c.NoForm (.type "BaseException")=some true
 kf_hd_NoForm:hasDictIn K c.NoForm=true
 kf_nf_NoForm:findIn K (.ref c.NoForm) "found"=some none
 kf_m_NoForm_NoWidth:mroIn K c.NoForm (.ref c.NoWidth)=some false
 kf_m_NoForm_NoDivisor:mroIn K c.NoForm (.ref c.NoDivisor)=some false
 kf_m_NoForm_NoPrices:mroIn K c.NoForm (.ref c.NoPrices)=some false
 kf_if__NoPrices:isClsIn K c.NoPrices=true
 kf_tf_NoPrices:typeIn K (.ref c.NoPrices)=some (.type "type")
 kf_mf_NoPrices:mroIn K c.NoPrices (.ref c.NoPrices)=some true
 kf_wb_NoPrices:mroIn K c.NoPrices (.type "BaseException")=some true
 kf_ga_NoPrices:findIn K (.ref c.NoPrices) "__getattribute__"=some (some (.builtin "BaseException.__getattribute__"))
 kf_gn_NoPrices:findIn K (.ref c.NoPrices) "__getattr__"=some none
 kf_gc_NoPrices:findIn K (.ref c.NoPrices) "__class__"=some (some (.builtin "object.__class__"))
 kf_mo_NoPrices:mroIn K c.NoPrices (.type "object")=some true
 kf_mb_NoPrices:mroIn K c.NoPrices (.type "BaseException")=some true
 kf_hd_NoPrices:hasDictIn K c.NoPrices=true
 kf_nf_NoPrices:findIn K (.ref c.NoPrices) "found"=some none
 kf_m_NoPrices_NoWidth:mroIn K c.NoPrices (.ref c.NoWidth)=some false
 kf_m_NoPrices_NoDivisor:mroIn K c.NoPrices (.ref c.NoDivisor)=some false
 kf_m_NoPrices_NoForm:mroIn K c.NoPrices (.ref c.NoForm)=some false
theorem mB {a b:Nat}(h:a<=b):(2:Int)^a∣2^b:=by
 have e:b=a+(b-a):=by omega
 rw[e,pow_add]
 exact Int.dvd_mul_right _ _
def Tw (d t:Int):Prop:=0<=t/\d=d/2^t.toNat*2^t.toNat/\d/2^t.toNat%2=1
theorem lX {d t u:Int}(h:Tw d t) (k:Tw d u):t=u:=by
 have key:∀ {a b:Int},Tw d a->Tw d b->a<b->False:=by
  intro a b ha hb hlt
  obtain⟨a0,a1,a2⟩:=ha
  obtain⟨b0,b1,b2⟩:=hb
  have e:b.toNat=a.toNat+((b.toNat-a.toNat-1)+1):=by omega
  have p:=gJ a.toNat
  have e2:(2:Int)^b.toNat=2^a.toNat*(2^(b.toNat-a.toNat-1)*2):=by
   conv=>lhs; rw[e]
   rw[pow_add,pow_succ]
  generalize d/2^b.toNat=f at b1 b2
  have e3:d/2^a.toNat=f*2^(b.toNat-a.toNat-1)*2:=by
   rw[b1,e2,mul_left_comm,Int.mul_ediv_cancel_left _ (Int.ne_of_gt p),Int.mul_assoc]
  omega
 rcases Int.lt_trichotomy t u with c | c | c
 ·exact(key h k c).elim
 ·exact c
 ·exact(key k h c).elim
theorem qG {d t:Int}(t0:0<=t) {D:Int}(hd:D=d*2^t.toNat) (he:d%2=0):D=d/2*2^(t+1).toNat:=by
 have e:(t+1).toNat=t.toNat+1:=by omega
 rw[e,pow_succ,hd]
 have:d=d/2*2:=by omega
 conv=>lhs; rw[this]
 rw[Int.mul_assoc,Int.mul_comm 2]
theorem qY {d t D:Int}(t0:0<=t) (hd:D=d*2^t.toNat) (he:¬ (d%2=0)):Tw D t:=by
 have p:=gJ t.toNat
 have e:D/2^t.toNat=d:=by rw[hd]; exact Int.mul_ediv_cancel _ (Int.ne_of_gt p)
 refine⟨t0,?_,?_⟩
 ·rw[e]; exact hd
 ·rw[e]; omega
theorem aE {w:Int}(h1:4<=w) (h2:w<=32):16<=(2:Int)^w.toNat/\(2:Int)^w.toNat<=4294967296:=by
 have a:(2:Int)^4<=2^w.toNat:=dG (by omega)
 have b:(2:Int)^w.toNat<=2^32:=dG (by omega)
 exact⟨a,b⟩
theorem cw {m:Int}(h0:0<m) (h:m<2^130):m.natAbs.log2<9000:=by
 have h1:m.natAbs≠0:=by omega
 have h2:m.natAbs<2^130:=by omega
 have:=(Nat.log2_lt h1).mpr h2
 omega
theorem dC {w:Int}(h1:0<=w) (h2:w<=100000):CPow 1 w:=⟨h1,by omega,by decide⟩
theorem rn {x y:Int}(h0:0<=x) (h:x<2^64):CMul x y:=.inl ⟨by omega,h⟩
theorem sz2:(2:Nat)<=sizeLine:=by decide
def Bx (H:Hp) (p:Addr):Prop:=∃ r s:Int,H p=some (.lst [.int r,.int s])
theorem Bx.same {H H':Hp}{p:Addr}(b:Bx H p) (s:Same H H'):Bx H' p:=by
 obtain⟨r,s',h⟩:=b
 exact⟨r,s',s _ _ h⟩
def qH:Sp:=fun vs H Q _=>∃ i:Int,vs=[.int i]/\Q (.bl true) H
def dY:Sp:=fun vs H Q _=>∃ i lo hi:Int,vs=[.int i,.int lo,.int hi]/\lo<=i/\i<=hi/\Q (.bl true) H
def fh:Sp:=fun vs H Q _=>∃ i:Int,vs=[.int i]/\4<=i/\i<=32/\Q .non H
def mZ (K:Frag):Sp:=fun vs H Q _=>∃ (a:Addr) (ns:List Int) (k:Int),vs=[.ref a,.int k]/\SqL K H a (ns.map V.int)/\0<=k/\k<=1000/\∀ p H',H p=none->Bx H' p->Same H H'->Q (.ref p) H'
def gE:Sp:=fun vs H Q _=>∃ (p:Addr) (m:Int),vs=[.ref p,.int m]/\Bx H p/\0<m/\m<2^130/\∀ (d:Int) H',0<=d->d<m->Bx H' p->SameX p H H'->Q (.int d) H'
def spDiv:Sp:=fun vs H Q _=>∃ (p:Addr) (w:Int),vs=[.ref p,.int w]/\Bx H p/\4<=w/\w<=32/\∀ (d:Int) H',1<=d->d<2^w.toNat->Bx H' p->SameX p H H'->Q (.int d) H'
def lenOf:Option HO->Nat
 | some (.lst ys)=>ys.length
 | _=>0
def ij:Sp:=fun vs H Q _=>∃ d:Int,vs=[.int d]/\1<=d/\∀ t:Int,Tw d t->Q (.int t) H
theorem tw_lt {w d t:Int}(h1:0<=w) (d1:1<=d) (d2:d<2^w.toNat) (h:Tw d t):t<w:=by
 obtain⟨t0,t1,t2⟩:=h
 refine Classical.byContradiction fun z=>?_
 have a:(2:Int)^w.toNat<=2^t.toNat:=dG (by omega)
 have p:=gJ t.toNat
 have b:d/2^t.toNat=0:=Int.ediv_eq_zero_of_lt (by omega) (by omega)
 omega
theorem q9 {d t:Int}(d1:1<=d) (h:Tw d t):1<=d/2^t.toNat/\d/2^t.toNat<=d:=by
 obtain⟨t0,t1,t2⟩:=h
 have a:=ediv_nonneg (show 0<=d by omega) (Int.le_of_lt (gJ t.toNat))
 have b:=ediv_le_self (2^t.toNat) (show 0<=d by omega)
 omega
def CorM (last d x:Int):Prop:=x=0\/x=(if d-1<last then d-1 else last)\/x=last/d*d\/x=last\/(last/d≠0/\x=last/d*d-1)
def Cor (last d:Int) (zs:List Int):Prop:=zs.Pairwise (·<·)/\∀ x,x∈zs ↔ CorM last d x
def brt (e f a t x:Int):Int:=(f*(x/2^e.toNat)+a)/2^t.toNat
theorem dv {n T k:Int}(hT:0<T):n/T=k ↔ k*T<=n/\n<k*T+T:=by
 constructor
 ·rintro rfl
  have h1:=Int.mul_ediv_add_emod n T
  have h2:=Int.emod_nonneg n (Int.ne_of_gt hT)
  have h3:=Int.emod_lt_of_pos n hT
  rw[Int.mul_comm] at h1
  omega
 ·rintro ⟨h1,h2⟩
  refine Int.le_antisymm ?_ ?_
  ·exact Int.le_of_lt_add_one (Int.ediv_lt_of_lt_mul hT (by rw[Int.add_mul,one_mul]; exact h2))
  ·exact Int.le_ediv_of_mul_le hT h1
theorem line {m c k q:Int}(h0:0<=k) (h1:k<=q) (a:0<=c) (b:0<=c+q*m):0<=c+k*m:=by
 by_cases hm:0<=m
 ·have:=Int.mul_nonneg h0 hm
  omega
 ·have:q*m<=k*m:=Int.mul_le_mul_of_nonpos_right h1 (by omega)
  omega
theorem mq {last d e f a t:Int}(l0:0<=last) (d1:1<=d) (f0:0<=f) (a0:0<=a) (he:(2:Int)^e.toNat∣d)
  (h:∀ x,CorM last d x->brt e f a t x=x/d):∀ x,0<=x->x<=last->brt e f a t x=x/d:=by
 obtain⟨D,rfl⟩:=he
 have T0:0<(2:Int)^t.toNat:=pow_pos (by decide)
 have E0:0<(2:Int)^e.toNat:=pow_pos (by decide)
 unfold brt at h ⊢
 generalize (2:Int)^t.toNat=T at *
 generalize (2:Int)^e.toNat=E at *
 have D0:0<D:=Int.pos_of_mul_pos_right (show 0<E*D by omega) E0
 have dd:∀ x:Int,x/(E*D)=x/E/D:=fun x=>(Int.ediv_ediv_of_nonneg (Int.le_of_lt E0)).symm
 have at_:∀ x,CorM last (E*D) x->∀ y,x/E=y->∀ k,y/D=k->k*T<=f*y+a/\f*y+a<k*T+T:=fun x hx y hy k hk=>by
  have z:=h x hx
  rw[dd,hy,hk] at z
  exact(dv T0).mp z
 intro x x0 x1
 rw[dd]
 refine(dv T0).mpr ?_
 have hq:last/(E*D)=last/E/D:=dd last
 have q0:0<=last/(E*D):=ediv_nonneg l0 (by omega)
 have hk0:0<=x/E/D:=ediv_nonneg (ediv_nonneg x0 (by omega)) (by omega)
 have hkq:x/E/D<=last/(E*D):=by
  rw[hq]
  exact Int.ediv_le_ediv D0 (Int.ediv_le_ediv E0 x1)
 have ylast:x/E<=last/E:=Int.ediv_le_ediv E0 x1
 generalize hQ:last/(E*D)=q at *
 generalize hK:x/E/D=k at *
 generalize hY:x/E=y at *
 have yk:=(dv D0).mp hK
 have c1:(q*(E*D))/E=q*D:=by
  rw[mul_left_comm]
  exact Int.mul_ediv_cancel_left _ (Int.ne_of_gt E0)
 have c2:q*D/D=q:=Int.mul_ediv_cancel _ (Int.ne_of_gt D0)
 have k1:=at_ (q*(E*D)) (by unfold CorM; rw[hQ]; exact .inr (.inr (.inl rfl))) _ c1 _ c2
 have k0:=at_ 0 (.inl rfl) 0 (Int.zero_ediv _) 0 (Int.zero_ediv _)
 have kl:=at_ last (.inr (.inr (.inr (.inl rfl)))) _ rfl q (by rw[<- hq])
 have fD:∀ z:Int,f*(z*D)=z*(f*D):=fun z=>by rw[mul_left_comm]
 constructor
 ·-- from below
  have l1:=line (m:=f*D-T) (c:=a) hk0 hkq (by omega) (by
   have z:=k1.1
   rw[fD] at z
   rw[mul_sub]
   omega)
  rw[mul_sub,<- fD] at l1
  have mono:f*(k*D)<=f*y:=mul_le_mul_of_nonneg_left yk.1 f0
  omega
 ·-- from above
  by_cases hkk:k=q
  ·subst hkk
   have mono:f*y<=f*(last/E):=mul_le_mul_of_nonneg_left ylast f0
   omega
  ·have qpos:1<=q:=by omega
   have lastd:E*D<=last:=by
    have z:=(dv (show 0<E*D by omega)).mp hQ
    have:1*(E*D)<=q*(E*D):=mul_le_mul_of_nonneg_right qpos (by omega)
    omega
   have c3:∀ z:Int,(z*(E*D)-1)/E=z*D-1:=fun z=>by
    refine(dv E0).mpr ?_
    have e1:z*(E*D)=z*D*E:=by rw[Int.mul_comm E D,Int.mul_assoc]
    rw[e1,sub_mul,one_mul]
    omega
   have c4:∀ z:Int,(z*D-1)/D=z-1:=fun z=>by
    refine(dv D0).mpr ?_
    rw[sub_mul,one_mul]
    omega
   have u0:=at_ (1*(E*D)-1) (.inr (.inl (by rw[one_mul,if_pos (by omega)]))) _ (c3 1) _ (c4 1)
   have uq:=at_ (q*(E*D)-1) (by unfold CorM; rw[hQ]; exact .inr (.inr (.inr (.inr ⟨by omega,rfl⟩)))) _ (c3 q) _ (c4 q)
   have v0:=u0.2
   have vq:=uq.2
   rw[mul_sub,fD,mul_one] at v0 vq
   have l2:=line (m:=T-f*D) (c:=T-f*D+f-a-1) (k:=k) (q:=q-1) hk0 (by omega) (by omega) (by
    rw[mul_sub,sub_mul,sub_mul,one_mul,one_mul]
    rw[sub_mul,one_mul] at vq
    omega)
   rw[mul_sub] at l2
   have mono:f*y<=f*(k*D+D-1):=mul_le_mul_of_nonneg_left (by omega) f0
   have e3:f*(k*D+D-1)=k*(f*D)+f*D-f:=by rw[mul_sub,Int.mul_add,fD,mul_one]
   omega
theorem b200 {x:Int}(h1:-(2^200)<x) (h2:x<2^200):intBits x<=100000:=Nat.le_trans (intBits_le_iff.mpr (show x.natAbs<2^200 by omega)) (by decide)
theorem pow70:(1*2^(70:Int).toNat:Int)=1180591620717411303424:=by decide
def fY:Sp:=fun vs H Q _=>∃ last d:Int,vs=[.int last,.int d]/\0<=last/\last<=18446744073709551616/\1<=d/\d<=18446744073709551616/\∀ (p:Addr) (zs:List Int) H',H p=none->H' p=some (.lst (zs.map V.int))->Same H H'->Cor last d zs->zs.length<=5->Q (.ref p) H'
theorem cor_nums {last d:Int}(l0:0<=last) (l1:last<=18446744073709551616) (d1:1<=d):0<=last/d/\last/d<=last/\0<=last/d*d/\last/d*d<=last/\(last/d≠0->1<=last/d*d):=by
 have h0:=ediv_nonneg l0 (show 0<=d by omega)
 have h1:=ediv_le_self d l0
 have h2:=Int.mul_nonneg h0 (show 0<=d by omega)
 have h3:=Int.ediv_mul_le last (show d≠0 by omega)
 refine⟨h0,h1,h2,h3,fun hz=>?_⟩
 have:=Int.mul_le_mul (show 1<=last/d by omega) d1 (by decide) h0
 omega
theorem len5 {zs ns:List Int}(pw:zs.Pairwise (·<·)) (mz:∀ x,x∈zs ↔ x∈ns) (len:ns.length<=5):zs.length<=5:=by
 have nd:zs.Nodup:=pw.imp fun h=>Int.ne_of_lt h
 exact Nat.le_trans (List.Nodup.length_le_of_subset nd fun x hx=>(mz x).mp hx) len
theorem oV {d t:Int}(d1:1<=d) (d2:d<=18446744073709551616) (h:Tw d t):t<=64:=by
 obtain⟨t0,t1,t2⟩:=h
 refine Classical.byContradiction fun z=>?_
 have a:(2:Int)^65<=2^t.toNat:=dG (by omega)
 have b:d/2^t.toNat=0:=Int.ediv_eq_zero_of_lt (by omega) (by omega)
 omega
theorem tw_dvd {d t y:Int}(h:Tw d t) (y0:0<=y) (hy:y<=t):(2:Int)^y.toNat∣d:=by
 obtain⟨t0,t1,t2⟩:=h
 have e:t.toNat=y.toNat+(t.toNat-y.toNat):=by omega
 refine⟨d/2^t.toNat*2^(t.toNat-y.toNat),?_⟩
 conv=>lhs; rw[t1]
 rw[mul_left_comm]
 congr 1
 conv=>lhs; rw[e]
 exact pow_add ..
theorem upd_upd {H:Hp}{l:Addr}{a b:HO}:upd (upd H l a) l b=upd H l b:=by
 funext c
 by_cases h:c=l
 ·rw[h,ah,ah]
 ·rw[ao h,ao h,ao h]
theorem cR {x dx C:Addr}{H H':Hp}(hx:H x=none) (hd:H dx=none) (s:SameX x (upd (upd H dx (.own x)) x (.ins C dx [])) H'):Same H H':=fun b o h=>s b o (az h hx) (by rw[ao (az h hx),ao (az h hd)]; exact h)
theorem CorM.range {last d x:Int}(l0:0<=last) (d1:1<=d) (h:CorM last d x):0<=x/\x<=last:=by
 have h0:=ediv_nonneg l0 (show 0<=d by omega)
 have h2:=Int.mul_nonneg h0 (show 0<=d by omega)
 have h3:=Int.ediv_mul_le last (show d≠0 by omega)
 rcases h with e | e | e | e | ⟨hz,e⟩
 ·omega
 ·rw[e]; split <;> omega
 ·omega
 ·omega
 ·have:=Int.mul_le_mul (show 1<=last/d by omega) d1 (by decide) h0
  omega
theorem iteC {c A B:Prop} [Decidable c] (h1:c->A) (h2:¬ c->B):if decide c=true then A else B:=by
 by_cases h:c
 ·exact lj h (h1 h)
 ·exact cM h (h2 h)
theorem iteCN {c A B:Prop} [Decidable c] (h1:¬ c->A) (h2:c->B):if (!decide c)=true then A else B:=by
 by_cases h:c
 ·exact qo h (h2 h)
 ·exact iteN h (h1 h)
theorem iteI {a b:Int}{A B:Prop}(h1:a=b->A) (h2:a≠b->B):if decide (V.int a=V.int b)=true then A else B:=iteC (fun z=>h1 (by injection z)) (fun z=>h2 (fun e=>z (congrArg V.int e)))
local macro_rules | `(tactic| walk_at "s")=>`(tactic| first
 | omega | assumption | exact oK | exact rfl | (dsimp only; omega) | exact dC (by omega) (by omega) | exact⟨by decide,by decide⟩ | exact⟨by omega,cw (by omega) (by omega)⟩
 | exact .inr ⟨by decide,by decide⟩ | exact .inl ⟨by decide,by decide⟩ | exact .inl ⟨by omega,by omega⟩ | exact .inr ⟨by omega,by omega⟩ | exact⟨b200 (by omega) (by omega),b200 (by omega) (by omega)⟩
 | exact⟨by decide,by decide,by decide⟩ | exact Nat.le_of_ble_eq_true rfl)
local macro_rules | `(tactic| walk_at "q")=>`(tactic| first | exact SqT.of (by first | assumption | exact ah) | exact SqL.of (by first | assumption | exact ah) | assumption)
local macro_rules | `(tactic| walk_at "o")=>`(tactic| repeat (first
 | refine⟨_,rfl,?_⟩ | refine⟨_,_,rfl,rfl,?_⟩ | with_reducible refine cT ?_ | with_reducible refine iw ?_
 | refine⟨_,_,_,_,rfl,rfl,(by walk_at "q"),rfl,?_⟩
 | refine And.intro (by walk_at "s") ?_
 | refine⟨_,_,rfl,?_⟩ | refine⟨_,_,_,rfl,?_⟩
 | refine⟨_,_,_,_,_,rfl,rfl,TyOf.int _,jp _,?_⟩ | refine⟨_,_,_,_,_,rfl,rfl,TyOf.int _,ik _,?_⟩
 | refine⟨_,_,_,_,_,rfl,rfl,TyOf.bl _,rfl,?_⟩
 | refine⟨_,_,_,_,_,rfl,rfl,TyOf.tup (by assumption),rfl,?_⟩
 | refine⟨_,_,rfl,.inr (SqT.of (by assumption)),?_⟩ | refine⟨_,_,rfl,.inl (SqL.of (by assumption)),?_⟩
 | with_reducible refine lj (by omega) ?_ | with_reducible refine cM (by omega) ?_ | with_reducible refine iteN (by omega) ?_ | with_reducible refine qo (by omega) ?_
 | with_reducible refine qo rfl ?_))
local macro_rules | `(tactic| walk_at "c")=>`(tactic| first | with_reducible refine iteI ?_ ?_ | with_reducible refine iteIN ?_ ?_ | with_reducible refine iteC ?_ ?_ | with_reducible refine iteCN ?_ ?_ | refine ite2 ?_ ?_)
local macro_rules | `(tactic| walk_at "n")=>`(tactic| (intro z; injection z with z; revert z; decide +kernel))
def AllG (e f a t d n:Int):Prop:=∀ x,0<=x->x<=n->brt e f a t x=x/d
theorem lG {last d e f a t:Int}(l0:0<=last) (d1:1<=d) (f0:0<=f) (a0:0<=a) (he:(2:Int)^e.toNat∣d):(∀ x,CorM last d x->brt e f a t x=x/d) ↔ AllG e f a t d last :=
 ⟨fun h=>mq l0 d1 f0 a0 he h,fun h x hx=>let ⟨a,b⟩:=hx.range l0 d1; h x a b⟩
theorem xdiv {x:Int}(x0:0<=x) (e:Int):0<=x/2^e.toNat/\x/2^e.toNat<=x:=⟨ediv_nonneg x0 (Int.le_of_lt (gJ _)),ediv_le_self _ x0⟩
theorem tw_le {d t e:Int}(h:Tw d t) (he:(2:Int)^e.toNat∣d) (e0:0<=e):e<=t:=by
 refine Classical.byContradiction fun z=>?_
 obtain⟨t0,hd,ho⟩:=h
 have a:(2:Int)^(t.toNat+1)∣2^e.toNat:=mB (by omega)
 obtain⟨k,hk⟩:=Int.dvd_trans a he
 have hp:=gJ t.toNat
 have e2:d/2^t.toNat=2*k:=by rw[hk,pow_succ,Int.mul_assoc,Int.mul_ediv_cancel_left _ (by omega)]
 omega
def RG (e f a t:Int):Prop:=0<=e/\e<=64/\0<=f/\f<=1180591620717411303424/\0<=a/\a<=1180591620717411303424/\0<=t/\t<=130
def IsG (H:Hp) (r:Addr) (e f a t:Int):Prop:=H r=some (.tup [.int e,.int f,.int a,.int t])
def fOf (c:Ad):Nat->Addr
 | 0=>c.Shifted
 | 1=>c.Scaled
 | 2=>c.Early
 | 3=>c.More
 | _=>c.Wide
def flds:Nat->Int->Int->Int->List (Str×V)
 | 0,_,_,s=>[("shift",.int s)]
 | 2,e,f,s=>[("early",.int e),("factor",.int f),("shift",.int s)]
 | _,_,f,s=>[("factor",.int f),("shift",.int s)]
def FO (c:Ad) (H:Hp) (x:Addr) (kd:Nat) (e f s:Int):Prop:=∃ dx,H x=some (.ins (fOf c kd) dx (flds kd e f s))
structure Fm (kd:Nat) (e f s:Int):Prop where
 k:kd<5
 ea:0<=e
 eb:e<=64
 e0:kd≠2->e=0
 fa:0<=f
 fb:f<=4294967295
 sa:0<=s
 sb:s<=64
 s1:kd=4->1<=s
def nF:Nat->Int->Int->Int
 | 0,_,_=>1
 | 4,w,f=>1*2^w.toNat+f
 | _,_,f=>f
def nA:Nat->Int->Int
 | 3,f=>f
 | _,_=>0
def nT:Nat->Int->Int->Int
 | 0,_,s=>s
 | _,w,s=>w+s
theorem Fm.rg {kd:Nat}{e f s w:Int}(h:Fm kd e f s) (h1:4<=w) (h2:w<=32):RG e (nF kd w f) (nA kd f) (nT kd w s):=by
 obtain⟨k,ea,eb,e0,fa,fb,sa,sb,s1⟩:=h
 have pb:=aE h1 h2
 rcases(by omega:kd=0\/kd=1\/kd=2\/kd=3\/kd=4) with rfl | rfl | rfl | rfl | rfl <;> refine⟨ea,eb,?_⟩ <;> simp only[nF,nA,nT] <;> omega
def tlv:Nat->Int->Int->Int->List V
 | 0,_,_,s=>[.str "shifted",.int s]
 | 1,_,f,s=>[.str "scaled",.int f,.int s]
 | 2,e,f,s=>[.str "early",.int e,.int f,.int s]
 | 3,_,f,s=>[.str "more",.int f,.int s]
 | _,_,f,s=>[.str "wide",.int f,.int s]
theorem pf {kd:Nat}{e f s:Int}:(flds kd e f s).lookup ("numbers_in":Str)=none:=by
 unfold flds
 split <;> rfl
def ll:Sp:=fun vs H Q _=>∃ (r:Addr) (e f a t x:Int),vs=[.ref r,.int x]/\IsG H r e f a t/\RG e f a t/\0<=x/\x<=18446744073709551616/\Q (.int (brt e f a t x)) H
def qg:Sp:=fun vs H Q _=>∃ i:Int,vs=[.int i]/\0<=i/\i<=4294967295/\Q (.bl true) H
def pS:Sp:=fun vs H Q _=>∃ i:Int,vs=[.int i]/\0<=i/\i<=64/\Q (.bl true) H
def cF:Sp:=fun vs H Q _=>∃ (last d:Int) (r:Addr) (e f a t:Int),vs=[.int last,.int d,.ref r]/\0<=last/\last<=18446744073709551616/\1<=d/\d<=18446744073709551616/\IsG H r e f a t/\RG e f a t/\(2:Int)^e.toNat∣d/\∀ (b:Bool) H',Same H H'->(b=true ↔ AllG e f a t d last)->Q (.bl b) H'
def spI0 (c:Ad):Sp:=fun vs H Q _=>∃ (x dx:Addr) (s:Int),vs=[.ref x,.int s]/\H x=some (.ins (fOf c 0) dx [])/\0<=s/\s<=64/\∀ H',SameX x H H'->FO c H' x 0 0 0 s->Q .non H'
def spI2 (c:Ad) (kd:Nat) (lo:Int):Sp:=fun vs H Q _=>∃ (x dx:Addr) (f s:Int),vs=[.ref x,.int f,.int s]/\H x=some (.ins (fOf c kd) dx [])/\0<=f/\f<=4294967295/\lo<=s/\s<=64/\∀ H',SameX x H H'->FO c H' x kd 0 f s->Q .non H'
def spI3 (c:Ad):Sp:=fun vs H Q _=>∃ (x dx:Addr) (e f s:Int),vs=[.ref x,.int e,.int f,.int s]/\H x=some (.ins (fOf c 2) dx [])/\0<=e/\e<=64/\0<=f/\f<=4294967295/\0<=s/\s<=64/\∀ H',SameX x H H'->FO c H' x 2 e f s->Q .non H'
def cm (c:Ad) (kd:Nat):Sp:=fun vs H Q _=>∃ (x:Addr) (w e f s:Int),vs=[.ref x,.int w]/\FO c H x kd e f s/\Fm kd e f s/\4<=w/\w<=32/\∀ r H',H r=none->IsG H' r e (nF kd w f) (nA kd f) (nT kd w s)->Same H H'->Q (.ref r) H'
theorem pow32:(2^(32:Int).toNat:Int)=4294967296:=by decide
theorem frX {p t:Addr}{H H':Hp}(hb:Bx H' p) (x:SameX p H H') (ht:H' t=none):H t=none:=by
 obtain⟨r1,r2,hb⟩:=hb
 cases e:H t with
 | none=>rfl
 | some o =>
  have:=x t o (fun z=>by rw[z,hb] at ht; cases ht) e
  rw[ht] at this
  cases this
abbrev lm:Expr:=lamAt aI 2 1
abbrev lmQ:Str:=("least_wrong":Str)++".<locals>."++"<lambda>"
abbrev clOf (n:Nat):List (Str×Addr):=[("reckoning",n+1+1),("d",n+1)]
abbrev TO (PT0:Addr) (H:Hp):Prop:=TabOk PT0 (oP lm) lmQ H
def IsRG (H:Hp) (r:Addr) (d e f a t:Int):Prop:=IsG H r e f a t/\RG e f a t/\(2:Int)^e.toNat∣d
theorem AllG.mono {e f a t d m n:Int}(h:AllG e f a t d n) (hm:m<=n):AllG e f a t d m:=fun x x0 x1=>h x x0 (by omega)
def WrG (e f a t d last j:Int):Prop:=0<=j/\j<=last/\AllG e f a t d (j-1)/\brt e f a t j≠j/d
theorem WrG.uniq {e f a t d last i j:Int}(x:WrG e f a t d last i) (y:WrG e f a t d last j):i=j:=by
 obtain⟨a0,a1,a2,a3⟩:=x
 obtain⟨b0,b1,b2,b3⟩:=y
 rcases Int.lt_trichotomy i j with h | h | h
 ·exact absurd (b2 i a0 (by omega)) a3
 ·exact h
 ·exact absurd (a2 j b0 (by omega)) b3
theorem WrG.not {e f a t d last j:Int}(x:WrG e f a t d last j):¬ AllG e f a t d last:=fun h=>x.2.2.2 (h j x.1 x.2.1)
theorem wrG_of {e f a t d last j:Int}(j0:0<=j) (j1:j<=last) (h:∀ n,n<j->AllG e f a t d n) (n:¬ AllG e f a t d j):WrG e f a t d last j:=by
 refine⟨j0,j1,h _ (by omega),fun z=>n fun x x0 x1=>?_⟩
 by_cases hx:x=j
 ·rw[hx]; exact z
 ·exact h (j-1) (by omega) x x0 (by omega)
def LW (e f a t d last:Int) (v:V):Prop:=(v=.non/\AllG e f a t d last)\/∃ j,v=.int j/\WrG e f a t d last j
theorem LW.uniq {e f a t d last:Int}{v u:V}(x:LW e f a t d last v) (y:LW e f a t d last u):v=u:=by
 rcases x with ⟨rfl,a⟩ | ⟨i,rfl,a⟩ <;> rcases y with ⟨rfl,b⟩ | ⟨j,rfl,b⟩
 ·rfl
 ·exact absurd a b.not
 ·exact absurd b a.not
 ·rw[a.uniq b]
def spFF (K:Frag):List Env->Shared->Sp:=fun outer s vs H Q _=>∃ (last:Int) (g:Addr) (d:Int) (r:Addr) (e f a t:Int) (cl:List (Str×Addr)),vs=[.int last,.ref g]/\0<=last/\last<=18446744073709551616/\1<=d/\d<=18446744073709551616/\IsRG H r d e f a t /\
 Clo "<lambda>" lmQ (je lm) (jr lm) (bn lm) cl H g/\Cells s.heap H (frs outer) cl ["d","reckoning"] [.int d,.ref r]/\(∀ y,((bn lm).names.lookup y=some .cell\/(bn lm).names.lookup y=some .free)->∃ c,cl.lookup y=some c) /\
 ∀ (j:Int) H',Same H H'->0<=j->j<=last->(∀ n,n<j->AllG e f a t d n)->(j=last\/¬ AllG e f a t d j)->Q (.int j) H'
def RFF (K:Frag) (n:Nat):L2.St->List V->Hp->VK->Prop:=fun σ vs H Q=>∃ (w last:Int) (g:Addr) (d:Int) (r:Addr) (e f a t:Int),σ=[some (.int w),some (.int d),some (.ref r),some (.int last)]/\vs=[.int last,.ref g]/\0<=last/\last<=18446744073709551616/\1<=d/\d<=18446744073709551616/\IsRG H r d e f a t /\
 Clo "<lambda>" lmQ (je lm) (jr lm) (bn lm) (clOf n) H g/\∀ (j:Int) H',Same H H'->0<=j->j<=last->(∀ n,n<j->AllG e f a t d n)->(j=last\/¬ AllG e f a t d j)->Q (.int j) H'
def iU (PT0:Addr):Sp:=fun vs H Q _=>∃ (w d:Int) (r:Addr) (e f a t:Int),vs=[.int w,.int d,.ref r]/\4<=w/\w<=32/\1<=d/\d<2^w.toNat/\IsRG H r d e f a t/\TO PT0 H/\∀ v H',SameX PT0 H H'->TO PT0 H'->LW e f a t d (1*2^w.toNat-1) v->Q v H'
def spWW (c:Ad) (PT0:Addr):Sp:=fun vs H Q _=>∃ (w d:Int) (x:Addr) (kd:Nat) (e f s:Int),vs=[.int w,.int d,.ref x]/\4<=w/\w<=32/\1<=d/\d<2^w.toNat/\FO c H x kd e f s/\Fm kd e f s/\(2:Int)^e.toNat∣d/\TO PT0 H/\∀ v H',SameX PT0 H H'->TO PT0 H'->LW e (nF kd w f) (nA kd f) (nT kd w s) d (1*2^w.toNat-1) v->Q v H'
theorem tab_x {P p:Addr}{pos:Pos}{qual:Str}{H H':Hp}(x:TabOk P pos qual H) (hb:Bx H p) (s:SameX p H H'):TabOk P pos qual H':=by
 obtain⟨r1,r2,hb⟩:=hb
 obtain⟨ps,e,t,z⟩:=x
 refine⟨ps,s _ _ (fun q=>by rw[q,hb] at e; cases e) e,t,?_⟩
 rcases z with z | ⟨c',z1,z2⟩
 ·exact .inl z
 ·exact .inr ⟨c',z1,s _ _ (fun q=>by rw[q,hb] at z2; cases z2) z2⟩
theorem tupQ {P r:Addr}{pos:Pos}{qual:Str}{H H':Hp}{xs:List V}(b:H r=some (.tup xs)) (x:TabOk P pos qual H) (s:SameX P H H'):H' r=some (.tup xs):=by
 obtain⟨ps,e,t,z⟩:=x
 exact s _ _ (fun q=>by rw[q,e] at b; cases b) b
theorem aR {P:Addr}{pos:Pos}{qual:Str}{H H':Hp}(x:TabOk P pos qual H) (s:Same H H'):TabOk P pos qual H':=x.mono s
theorem ceil_eq {a d:Int}(d1:1<=d):-(-a/d)=(a+d-1)/d:=by
 have h1:=Int.mul_ediv_add_emod (-a) d
 have h2:=Int.emod_nonneg (-a) (show d≠0 by omega)
 have h3:=Int.emod_lt_of_pos (-a) (show 0<d by omega)
 symm
 refine(dv (show 0<d by omega)).mpr ?_
 rw[Int.mul_comm d] at h1
 rw[Int.neg_mul]
 omega
theorem jv {a d:Int}(d1:1<=d) (a1:1<=a):a<=(a+d-1)/d*d/\((a+d-1)/d-1)*d<a/\1<=(a+d-1)/d/\(a+d-1)/d<=a:=by
 have h:=(dv (n:=a+d-1) (k:=(a+d-1)/d) (show 0<d by omega)).mp rfl
 generalize (a+d-1)/d=c at h
 have c1:1<=c:=by
  refine Classical.byContradiction fun z=>?_
  have:c*d<=0:=Int.mul_nonpos_of_nonpos_of_nonneg (by omega) (by omega)
  omega
 refine⟨by omega,by rw[sub_mul,one_mul]; omega,c1,?_⟩
 have e:c*d=c+c*(d-1):=by rw[mul_sub,mul_one]; omega
 have:1*(d-1)<=c*(d-1):=mul_le_mul_of_nonneg_right c1 (by omega)
 omega
def AllA (f a t d n:Int):Prop:=∀ x,0<=x->x<=n->brt 0 f a t x=x/d
theorem brtA (f a t x:Int):brt 0 f a t x=(f*x+a)/2^t.toNat:=by
 unfold brt
 show (f*(x/2^0)+a)/_=_
 rw[pow_zero,Int.ediv_one]
theorem allA_iff {last d f a t:Int}:AllA f a t d last ↔ ∀ x,0<=x->x<=last->x/d*2^t.toNat<=f*x+a/\f*x+a<x/d*2^t.toNat+2^t.toNat:=by
 have T0:0<(2:Int)^t.toNat:=pow_pos (by decide)
 constructor
 ·intro h x x0 x1
  have z:=h x x0 x1
  rw[brtA] at z
  exact(dv T0).mp z
 ·intro h x x0 x1
  rw[brtA]
  exact(dv T0).mpr (h x x0 x1)
theorem nR {last d w:Int}(w0:0<=w) (d1:1<=d) (d2:d<=2^w.toNat) (l1:last<2^w.toNat):AllA ((2^(2*w).toNat+d-1)/d) 0 (2*w) d last:=by
 rw[allA_iff]
 intro x x0 x1
 have eT:(2:Int)^(2*w).toNat=2^w.toNat*2^w.toNat:=by
  rw[<- pow_add]
  congr 1
  omega
 have W0:0<(2:Int)^w.toNat:=pow_pos (by decide)
 have T0:0<(2:Int)^(2*w).toNat:=pow_pos (by decide)
 have cb:=jv d1 (show (1:Int)<=2^(2*w).toNat by omega)
 generalize (2:Int)^w.toNat=W at *
 generalize (2:Int)^(2*w).toNat=T at *
 generalize (T+d-1)/d=c at *
 obtain⟨c1,c2,c3,_⟩:=cb
 have k0:=ediv_nonneg x0 (show 0<=d by omega)
 have kx:=(dv (n:=x) (k:=x/d) (show 0<d by omega)).mp rfl
 generalize x/d=k at *
 rw[sub_mul,one_mul] at c2
 constructor
 ·have e1:k*T<=k*(c*d):=mul_le_mul_of_nonneg_left c1 k0
  have e2:c*(k*d)<=c*x:=mul_le_mul_of_nonneg_left kx.1 (by omega)
  rw[mul_left_comm] at e1
  omega
 ·-- d (c x)=T x+e x,e=c d-T<d <= W,x<W
  refine Classical.byContradiction fun z=>?_
  have e1:(k*T+T)*d<=(c*x+0)*d:=mul_le_mul_of_nonneg_right (by omega) (by omega)
  have e2:(c*x+0)*d=T*x+(c*d-T)*x:=by
   rw[Int.add_zero,sub_mul,Int.mul_right_comm]
   omega
  have e3:(c*d-T)*x<=(W-1)*x:=mul_le_mul_of_nonneg_right (by omega) x0
  have e4:(W-1)*x<=(W-1)*(W-1):=mul_le_mul_of_nonneg_left (by omega) (by omega)
  have e5:(W-1)*(W-1)=W*W-2*W+1:=by rw[sub_mul,mul_sub,one_mul,mul_one]; omega
  have e6:T*x<=T*(k*d+(d-1)):=mul_le_mul_of_nonneg_left (by omega) (by omega)
  have e7:T*(k*d+(d-1))=(k*T+T)*d-T:=by
   rw[Int.mul_add,mul_sub,mul_one,Int.add_mul,mul_left_comm,<- Int.mul_assoc k T d]
   rw[Int.mul_assoc k T d]
   omega
  omega
theorem wide_div {A B d x:Int}(hA:0<A) (hB:0<B) (d1:1<=d) (d2:d<=B) (x0:0<=x) (x1:x<A):(A*B+d-1)/d*x/(A*B)=x/d:=by
 have AB:0<A*B:=Int.mul_pos hA hB
 have m1:=Int.ediv_mul_le (A*B+d-1) (show d≠0 by omega)
 have m2:=Int.lt_ediv_add_one_mul_self (A*B+d-1) (show 0<d by omega)
 have q1:=Int.ediv_mul_le x (show d≠0 by omega)
 have q2:=Int.lt_ediv_add_one_mul_self x (show 0<d by omega)
 have q0:0<=x/d:=ediv_nonneg x0 (by omega)
 have m0:0<=(A*B+d-1)/d:=ediv_nonneg (by omega) (by omega)
 generalize (A*B+d-1)/d=m at m0 m1 m2 ⊢
 generalize x/d=q at q0 q1 q2 ⊢
 generalize hT:A*B=T at AB m1 m2 ⊢
 rw[Int.add_mul,one_mul] at m2 q2
 refine(dv AB).mpr ⟨?_,?_⟩
 ·have a:q*T<=q*(m*d):=mul_le_mul_of_nonneg_left (by omega) q0
  have b:m*(q*d)<=m*x:=mul_le_mul_of_nonneg_left q1 m0
  rw[mul_left_comm] at a
  omega
 ·have a:m*d*x<=(T+d-1)*x:=mul_le_mul_of_nonneg_right m1 x0
  have b:T*(x+1)<=T*(q*d+d):=mul_le_mul_of_nonneg_left (by omega) (by omega)
  have c:(d-1)*x<=(B-1)*(A-1):=Int.mul_le_mul (by omega) (by omega) x0 (by omega)
  have e:(B-1)*(A-1)=T-A-B+1:=by rw[<- hT,sub_mul,mul_sub,mul_sub,Int.mul_comm B A]; omega
  have f:(T+d-1)*x=T*x+(d-1)*x:=by rw[show T+d-1=T+(d-1) by omega,Int.add_mul]
  have g:T*(x+1)=T*x+T:=by rw[Int.mul_add,mul_one]
  have h:m*x*d<(q*T+T)*d:=by
   have h1:m*x*d=m*d*x:=by rw[Int.mul_assoc,Int.mul_comm x d,<- Int.mul_assoc]
   have h2:(q*T+T)*d=T*(q*d+d):=by rw[Int.add_mul,Int.mul_add,Int.mul_right_comm,Int.mul_comm (q*d) T]
   rw[h1,h2]
   omega
  exact Int.lt_of_mul_lt_mul_right h (by omega)
theorem pq {A B d:Int}(hA:1<=A) (d1:1<=d) (d2:d<=B) (d3:B<=2*(d-1)) (d4:d<A):A<=(A*B+d-1)/d/\(A*B+d-1)/d<2*A:=by
 have a:A*d<=A*B:=mul_le_mul_of_nonneg_left d2 (by omega)
 have b:A*B<=A*(2*(d-1)):=mul_le_mul_of_nonneg_left d3 (by omega)
 have e:A*(2*(d-1))=2*(A*d)-2*A:=by rw[mul_left_comm,mul_sub,mul_one,mul_sub]
 refine⟨Int.le_ediv_of_mul_le (by omega) (by omega),Int.ediv_lt_of_lt_mul (by omega) ?_⟩
 rw[Int.mul_assoc]
 omega
theorem bl_le {d:Int}(d1:1<=d):d<=2^intBits (d-1):=by
 have h:(d-1).natAbs<2^intBits (d-1):=intBits_le_iff.mp (Nat.le_refl _)
 have e:((2^intBits (d-1):Nat):Int)=2^intBits (d-1):=by rw[Int.natCast_pow]; rfl
 omega
theorem bl_ge {d:Int}(d1:1<=d) (h0:0<intBits (d-1)):(2:Int)^intBits (d-1)<=2*(d-1):=by
 obtain⟨n,hn⟩:∃ n,intBits (d-1)=n+1:=⟨intBits (d-1)-1,by omega⟩
 have h:¬ intBits (d-1)<=n:=by omega
 rw[intBits_le_iff] at h
 have e:((2^n:Nat):Int)=2^n:=by rw[Int.natCast_pow]; rfl
 rw[hn,pow_succ]
 omega
theorem jP {d:Int}{w:Int}(w2:w<=32) (d1:1<=d) (d2:d<2^w.toNat):intBits (d-1)<=32/\intBits d<=32/\1<=intBits d:=by
 have:(2:Int)^w.toNat<=2^32:=dG (by omega)
 refine⟨intBits_le_iff.mpr (show (d-1).natAbs<2^32 by omega),intBits_le_iff.mpr (show d.natAbs<2^32 by omega),?_⟩
 refine Classical.byContradiction fun z=>?_
 have h:=(intBits_le_iff (m:=0) (x:=d)).mp (by omega)
 omega
theorem bl_0 {d:Int}(d1:1<=d):intBits (d-1)=0 ↔ d=1:=by
 constructor
 ·intro h
  have:=bl_le d1
  rw[h,pow_zero] at this
  omega
 ·rintro rfl
  rfl
structure Cd where
 kd:Nat
 e:Int
 f:Int
 s:Int
def upI (a b:Int):Int:=(a+b-1)/b
def cSc (kd:Nat) (e A d:Int) (n:Nat):List Cd:=(List.range n).filterMap fun (k:Nat)=>if upI (A*2^k) d<A then some ⟨kd,e,upI (A*2^k) d,(k:Int)⟩ else none
def cMo (A d:Int) (n:Nat):List Cd:=(List.range n).filterMap fun (k:Nat)=>if 1<=(A*2^k-1)/d/\(A*2^k-1)/d<A then some ⟨3,0,(A*2^k-1)/d,(k:Int)⟩ else none
def cWi (A d:Int):List Cd:=if 0<intBits (d-1) then [⟨4,0,upI (A*2^intBits (d-1)) d-A,(intBits (d-1):Int)⟩] else []
def cEa (A d t:Int):List Cd:=if 0<t then cSc 2 t A (d/2^t.toNat) (intBits (d/2^t.toNat-1)+1) else []
def pW (A d t:Int):List Cd:=[⟨0,0,0,(intBits d:Int)-1⟩]++cSc 1 0 A d (intBits (d-1)+1)++cEa A d t++cMo A d (intBits (d-1)+1)++cWi A d
theorem iL (kd:Nat) (e A d:Int) (n:Nat):cSc kd e A d (n+1)=cSc kd e A d n++(if upI (A*2^n) d<A then [⟨kd,e,upI (A*2^n) d,(n:Int)⟩] else []):=by
 unfold cSc
 rw[List.range_succ,List.filterMap_append]
 congr 1
 by_cases h:upI (A*2^n) d<A
 ·rw[if_pos h]; simp only[filterMap_cons,List.filterMap_nil,if_pos h]
 ·rw[if_neg h]; simp only[filterMap_cons,List.filterMap_nil,if_neg h]
theorem kh (A d:Int) (n:Nat):cMo A d (n+1)=cMo A d n++(if 1<=(A*2^n-1)/d/\(A*2^n-1)/d<A then [⟨3,0,(A*2^n-1)/d,(n:Int)⟩] else []):=by
 unfold cMo
 rw[List.range_succ,List.filterMap_append]
 congr 1
 by_cases h:1<=(A*2^n-1)/d/\(A*2^n-1)/d<A
 ·rw[if_pos h]; simp only[filterMap_cons,List.filterMap_nil,if_pos h]
 ·rw[if_neg h]; simp only[filterMap_cons,List.filterMap_nil,if_neg h]
theorem fq (kd:Nat) (e A d:Int) (n:Nat):(cSc kd e A d n).length<=n:=by
 have:=List.length_filterMap_le (fun (k:Nat)=>if upI (A*2^k) d<A then some (⟨kd,e,upI (A*2^k) d,(k:Int)⟩:Cd) else none) (List.range n)
 rw[length_range] at this
 exact this
theorem kr (A d:Int) (n:Nat):(cMo A d n).length<=n:=by
 have:=List.length_filterMap_le (fun (k:Nat)=>if 1<=(A*2^k-1)/d/\(A*2^k-1)/d<A then some (⟨3,0,(A*2^k-1)/d,(k:Int)⟩:Cd) else none) (List.range n)
 rw[length_range] at this
 exact this
theorem sC {a b:Int}(ha:1<=a) (hb:1<=b):1<=upI a b:=Int.le_ediv_of_mul_le (by omega) (by omega)
theorem rE {kd:Nat}{e A d:Int}{n:Nat}(hk:kd=1\/kd=2) (he:kd≠2->e=0) (e0:0<=e) (e1:e<=64) (A1:1<=A) (A2:A<=4294967296) (d1:1<=d) (hn:n<=65):∀ x∈cSc kd e A d n,Fm x.kd x.e x.f x.s/\x.e=e:=by
 intro x hx
 obtain⟨k,hk1,hk2⟩:=List.mem_filterMap.mp hx
 have:=List.mem_range.mp hk1
 have P:0<A*2^k:=Int.mul_pos (by omega) (pow_pos (by decide))
 split at hk2
 ·cases hk2
  have:=sC (show 1<=A*2^k by omega) d1
  refine⟨⟨?_,e0,e1,he,?_,?_,?_,?_,?_⟩,rfl⟩ <;> dsimp only <;> omega
 ·cases hk2
theorem cMo_fm {A d:Int}{n:Nat}(A2:A<=4294967296) (hn:n<=65):∀ x∈cMo A d n,Fm x.kd x.e x.f x.s/\x.e=0:=by
 intro x hx
 obtain⟨k,hk1,hk2⟩:=List.mem_filterMap.mp hx
 have:=List.mem_range.mp hk1
 split at hk2
 ·cases hk2
  refine⟨⟨?_,?_,?_,fun _=>rfl,?_,?_,?_,?_,?_⟩,rfl⟩ <;> dsimp only <;> omega
 ·cases hk2
theorem cWi_fm {w d:Int}(w1:4<=w) (w2:w<=32) (d1:1<=d) (d2:d<2^w.toNat):∀ x∈cWi (1*2^w.toNat) d,Fm x.kd x.e x.f x.s/\x.e=0:=by
 intro x hx
 unfold cWi at hx
 split at hx
 ·next h =>
  cases List.mem_singleton.mp hx
  have b1:=bl_le d1
  have b2:=bl_ge d1 h
  have b3:=(jP w2 d1 d2).1
  have pb:=aE w1 w2
  have b4:=pq (A:=1*2^w.toNat) (B:=2^intBits (d-1)) (by omega) d1 b1 b2 (by omega)
  refine⟨⟨?_,?_,?_,fun _=>rfl,?_,?_,?_,?_,?_⟩,rfl⟩ <;> dsimp only [upI] <;> omega
 ·cases hx
theorem qt {w d t:Int}(w1:4<=w) (w2:w<=32) (d1:1<=d) (d2:d<2^w.toNat):∃ x∈pW (1*2^w.toNat) d t,x.e=0/\AllG x.e (nF x.kd w x.f) (nA x.kd x.f) (nT x.kd w x.s) d (1*2^w.toNat-1):=by
 have pb:=aE w1 w2
 by_cases h:0<intBits (d-1)
 ·refine⟨⟨4,0,upI (1*2^w.toNat*2^intBits (d-1)) d-1*2^w.toNat,(intBits (d-1):Int)⟩,mem_append_right _ (by unfold cWi; rw[if_pos h]; exact List.mem_singleton.mpr rfl),rfl,fun x x0 x1=>?_⟩
  have b1:=bl_le d1
  have z:=wide_div (A:=1*2^w.toNat) (B:=2^intBits (d-1)) (x:=x) (by omega) (pow_pos (by decide)) d1 b1 x0 (by omega)
  rw[<- z]
  show brt 0 (1*2^w.toNat+(upI (1*2^w.toNat*2^intBits (d-1)) d-1*2^w.toNat)) 0 (w+(intBits (d-1):Int)) x=_
  unfold brt upI
  rw[show (w+(intBits (d-1):Int)).toNat=w.toNat+intBits (d-1) by omega,pow_add,one_mul,show (0:Int).toNat=0 from rfl,pow_zero,Int.ediv_one,Int.add_zero]
  congr 2
  omega
 ·have e:=(bl_0 d1).mp (by omega)
  subst e
  exact⟨⟨0,0,0,(intBits 1:Int)-1⟩,mem_append_left _ (mem_append_left _ (mem_append_left _ (mem_append_left _ (List.mem_singleton.mpr rfl)))),rfl,fun x x0 x1=>by
   show (1*(x/2^0)+0)/2^0=x/1
   rw[pow_zero,Int.ediv_one,Int.ediv_one,one_mul,Int.add_zero]⟩
def wdF:Nat->Str
 | 0=>"shifted"
 | 1=>"scaled"
 | 2=>"early"
 | 3=>"more"
 | _=>"wide"
def PL (R:Hp->Addr->Cd->Prop) (H:Hp) (ps:List Addr) (xs:List Cd):Prop:=ps.length=xs.length/\∀ (i:Nat) p x,ps[i]?=some p->xs[i]?=some x->R H p x
def FR (c:Ad) (H:Hp) (p:Addr) (x:Cd):Prop:=FO c H p x.kd x.e x.f x.s
theorem FR.same {c:Ad}{H H':Hp}{p:Addr}{x:Cd}(h:FR c H p x) (s:Same H H'):FR c H' p x:=let ⟨dx,hx⟩:=h; ⟨dx,s _ _ hx⟩
theorem PL.mono {R:Hp->Addr->Cd->Prop}{H H':Hp}{ps:List Addr}{xs:List Cd}(h:PL R H ps xs) (f:∀ p x,R H p x->R H' p x):PL R H' ps xs:=⟨h.1,fun i p x a b=>f _ _ (h.2 i p x a b)⟩
theorem PL.nil {R:Hp->Addr->Cd->Prop}{H:Hp}:PL R H [] []:=⟨rfl,fun i p x a b=>by simp at a⟩
theorem PL.append {R:Hp->Addr->Cd->Prop}{H:Hp}{ps qs:List Addr}{xs ys:List Cd}(h:PL R H ps xs) (g:PL R H qs ys):PL R H (ps++qs) (xs++ys):=by
 refine⟨by rw[length_append,length_append,h.1,g.1],fun i p x a b=>?_⟩
 by_cases hi:i<ps.length
 ·rw[List.getElem?_append_left hi] at a
  rw[List.getElem?_append_left (by rw[<- h.1]; exact hi)] at b
  exact h.2 i p x a b
 ·rw[List.getElem?_append_right (by omega)] at a
  rw[List.getElem?_append_right (by rw[<- h.1]; omega),<- h.1] at b
  exact g.2 _ p x a b
theorem PL.one {R:Hp->Addr->Cd->Prop}{H:Hp}{p:Addr}{x:Cd}(h:R H p x):PL R H [p] [x]:=⟨rfl,fun i q y a b=>by
 cases i with
 | zero=>cases a; cases b; exact h
 | succ n=>simp at a⟩
theorem PL.snoc {R:Hp->Addr->Cd->Prop}{H:Hp}{ps:List Addr}{xs:List Cd}{p:Addr}{x:Cd}(h:PL R H ps xs) (g:R H p x):PL R H (ps++[p]) (xs++[x]):=h.append (.one g)
def AL (R:Hp->Addr->Cd->Prop) (H:Hp) (a:Addr) (xs:List Cd):Prop:=∃ ps:List Addr,H a=some (.lst (ps.map V.ref))/\PL R H ps xs
theorem PL.updF {c:Ad}{H:Hp}{l:Addr}{zs ys:List V}{ps:List Addr}{xs:List Cd}(h:PL (FR c) H ps xs) (e:H l=some (.lst zs)):PL (FR c) (upd H l (.lst ys)) ps xs :=
 h.mono fun p x q=>by
  obtain⟨dx,hx⟩:=q
  exact⟨dx,by rw[ao (fun z=>by rw[z,e] at hx; cases hx)]; exact hx⟩
theorem Same.updL {H H':Hp}{l:Addr}{o:HO}(s:Same H H') (hl:H l=none):Same H (upd H' l o):=fun b u e=>by rw[ao (az e hl)]; exact s b u e
theorem pw_up {w:Int}{n:Nat}(w1:4<=w) (w2:w<=32) (hn:n<=32):1<=(1:Int)*2^w.toNat*2^n/\(1:Int)*2^w.toNat*2^n<=18446744073709551616:=by
 have pb:=aE w1 w2
 have np:(2:Int)^n<=2^32:=dG hn
 have n0:=gJ n
 have a:(1:Int)*2^w.toNat*2^n<=4294967296*4294967296:=Int.mul_le_mul (by omega) (by omega) (by omega) (by omega)
 have b:0<(1:Int)*2^w.toNat*2^n:=Int.mul_pos (by omega) n0
 omega
def lY (kd:Nat):Sp:=fun vs H Q _=>∃ x:Addr,vs=[.ref x]/\Q (.str (wdF kd)) H
def dA (c:Ad) (kd:Nat):Sp:=fun vs H Q _=>∃ (x:Addr) (e f s:Int),vs=[.ref x]/\FO c H x kd e f s/\∀ r H',H r=none->H' r=some (.tup (tlv kd e f s))->Same H H'->Q (.ref r) H'
def hV:Sp:=fun vs H Q _=>∃ a d:Int,vs=[.int a,.int d]/\1<=a/\a<=18446744073709551616/\1<=d/\d<=18446744073709551616/\Q (.int (upI a d)) H
def spScC (c:Ad):Sp:=fun vs H Q _=>∃ w d:Int,vs=[.int w,.int d]/\4<=w/\w<=32/\1<=d/\d<2^w.toNat/\∀ l H',H l=none->AL (FR c) H' l (cSc 1 0 (1*2^w.toNat) d (intBits (d-1)+1))->Same H H'->Q (.ref l) H'
def spEaC (c:Ad):Sp:=fun vs H Q _=>∃ w d:Int,vs=[.int w,.int d]/\4<=w/\w<=32/\1<=d/\d<2^w.toNat/\∀ (t:Int) l H',Tw d t->H l=none->AL (FR c) H' l (cEa (1*2^w.toNat) d t)->Same H H'->Q (.ref l) H'
def spMoC (c:Ad):Sp:=fun vs H Q _=>∃ w d:Int,vs=[.int w,.int d]/\4<=w/\w<=32/\1<=d/\d<2^w.toNat/\∀ l H',H l=none->AL (FR c) H' l (cMo (1*2^w.toNat) d (intBits (d-1)+1))->Same H H'->Q (.ref l) H'
theorem oz (A d t:Int):(cEa A d t).length<=intBits (d/2^t.toNat-1)+1:=by
 unfold cEa
 split
 ·exact fq _ _ _ _ _
 ·exact zero_le _
theorem cSc_map (t A d:Int) (n:Nat):cSc 2 t A d n=(cSc 1 0 A d n).map fun x=>⟨2,t,x.f,x.s⟩:=by
 induction n with
 | zero=>rfl
 | succ n ih =>
  rw[iL,iL,map_append,ih]
  congr 1
  split <;> rfl
theorem cSc_k {kd:Nat}{e A d:Int}{n:Nat}:∀ x∈cSc kd e A d n,x.kd=kd:=by
 intro x hx
 obtain⟨k,_,hk2⟩:=List.mem_filterMap.mp hx
 split at hk2
 ·cases hk2; rfl
 ·cases hk2
theorem cAll_fm {w d t:Int}(w1:4<=w) (w2:w<=32) (d1:1<=d) (d2:d<2^w.toNat) (tw:Tw d t):∀ x∈pW (1*2^w.toNat) d t,Fm x.kd x.e x.f x.s/\(2:Int)^x.e.toNat∣d:=by
 have pb:=aE w1 w2
 have lb:=jP w2 d1 d2
 have tl:=oV d1 (by omega) tw
 have td:=q9 d1 tw
 have lo:=(jP w2 td.1 (Int.lt_of_le_of_lt td.2 d2)).1
 have z:∀ e:Int,e=0->(2:Int)^e.toNat∣d:=fun e h=>by rw[h]; exact Int.one_dvd d
 intro x hx
 unfold pW at hx
 rcases List.mem_append.mp hx with hx | hx
 ·rcases List.mem_append.mp hx with hx | hx
  ·rcases List.mem_append.mp hx with hx | hx
   ·rcases List.mem_append.mp hx with hx | hx
    ·cases List.mem_singleton.mp hx
     refine⟨⟨(by show 0<5; decide),?_,?_,fun _=>rfl,?_,?_,?_,?_,?_⟩,z _ rfl⟩ <;> dsimp only <;> omega
    ·have f:=rE (.inl rfl) (fun _=>rfl) (by decide) (by decide) (by omega) (by omega) d1 (by omega) x hx
     exact⟨f.1,z _ f.2⟩
   ·unfold cEa at hx
    split at hx
    ·have f:=rE (.inr rfl) (fun h=>absurd rfl h) tw.1 tl (by omega) (by omega) td.1 (by omega) x hx
     refine⟨f.1,?_⟩
     rw[f.2]
     exact tw_dvd tw tw.1 (Int.le_refl _)
    ·cases hx
  ·have f:=cMo_fm (by omega) (by omega) x hx
   exact⟨f.1,z _ f.2⟩
 ·have f:=cWi_fm w1 w2 d1 d2 x hx
  exact⟨f.1,z _ f.2⟩
theorem cAll_len {w d t:Int}(w1:4<=w) (w2:w<=32) (d1:1<=d) (d2:d<2^w.toNat) (tw:Tw d t):(pW (1*2^w.toNat) d t).length<=200/\1<=(pW (1*2^w.toNat) d t).length:=by
 have lb:=jP w2 d1 d2
 have td:=q9 d1 tw
 have lo:=(jP w2 td.1 (Int.lt_of_le_of_lt td.2 d2)).1
 have a:=fq 1 0 (1*2^w.toNat) d (intBits (d-1)+1)
 have b:=oz (1*2^w.toNat) d t
 have c:=kr (1*2^w.toNat) d (intBits (d-1)+1)
 have e:(cWi (1*2^w.toNat) d).length<=1:=by unfold cWi; split <;> simp
 unfold pW
 rw[length_append,length_append,length_append,length_append,List.length_singleton]
 omega
def Tx (z:Str):Prop:=z.length<=20/\∀ c∈z.cps.toList,c<128
def FV (v:V):Prop:=v=.non\/(∃ b,v=.bl b)\/(∃ i:Int,v=.int i/\-(2^130)<i/\i<2^130)\/∃ x,v=.str x/\Tx x
structure SmD (d:PyData) (n m:Nat):Prop where
 sh:d.showable=true
 lv:PyData.leavesShort 150 d=true
 dp:d.depth<=n
 wt:d.weight<=m
 hd:d.hasDict=false
theorem int_len {i:Int}(h0:-(2^130)<i) (h1:i<2^130):(Str.ofString (toString i)).length<=150:=by
 cases i with
 | ofNat m =>
  have e:toString (Int.ofNat m)=m.repr:=rfl
  rw[e,PySem.ofString_length]
  exact Nat.le_trans (nat_repr_length_le (k:=130) (by decide) (by have:(m:Int)<2^130:=h1; omega)) (by decide)
 | negSucc m =>
  have e:toString (Int.negSucc m) = "-"++(m+1).repr:=rfl
  rw[e,PySem.ofString_length,String.length_append]
  have:=nat_repr_length_le (n:=m+1) (k:=130) (by decide) (by have:=Int.negSucc_eq m; omega)
  have e1:("-":String).length=1:=rfl
  omega
theorem ka {i:Int}(h0:-(2^130)<i) (h1:i<2^130):i.natAbs.log2<130:=by
 by_cases z:i.natAbs=0
 ·rw[z]; decide
 ·exact(Nat.log2_lt z).mpr (by omega)
theorem tx_sm {x:Str}(h:Tx x):SmD (.str x) 0 150:=by
 refine⟨by simp[PyData.showable],?_,by simp[PyData.depth],?_,by simp[PyData.hasDict]⟩
 ·rw[PyData.leavesShort.eq_4,List.all_eq_true]
  intro c hc
  exact decide_eq_true (lt_trans (h.2 c hc) (by decide))
 ·rw[PyData.weight.eq_1]
  exact Nat.le_trans h.1 (by decide)
theorem io {i:Int}(h0:-(2^130)<i) (h1:i<2^130):SmD (.int i) 0 150:=by
 have l:=ka h0 h1
 refine⟨by simp only[PyData.showable]; exact decide_eq_true (by omega),?_,by simp[PyData.depth],?_,by simp[PyData.hasDict]⟩
 ·rw[PyData.leavesShort.eq_3]
  exact decide_eq_true (by simp only[PyData.shown]; exact int_len h0 h1)
 ·rw[PyData.weight.eq_5]
  split <;> omega
theorem FV.sm {v:V}(h:FV v):∃ d,FD v d/\SmD d 0 150:=by
 rcases h with rfl | ⟨b,rfl⟩ | ⟨i,rfl,h0,h1⟩ | ⟨x,rfl,h⟩
 ·exact⟨_,.non,by simp[PyData.showable],by simp[PyData.leavesShort],by simp[PyData.depth],by simp[PyData.weight],by simp[PyData.hasDict]⟩
 ·exact⟨_,.bl b,by simp[PyData.showable],by simp[PyData.leavesShort],by simp[PyData.depth],by simp[PyData.weight],by simp[PyData.hasDict]⟩
 ·exact⟨_,.int i,io h0 h1⟩
 ·exact⟨_,.str x,tx_sm h⟩
theorem FV.th {v:V}{H:Hp}(h:FV v):Th H v:=by
 rcases h with rfl | ⟨b,rfl⟩ | ⟨i,rfl,_⟩ | ⟨x,rfl,_⟩
 ·exact .non
 ·exact .bl b
 ·exact .int i
 ·exact .str x
theorem FD.rd {v:V}{d:PyData}{H:Hp}(h:FD v d):RD H v d:=by
 cases h with
 | non=>exact .non
 | bl b=>exact .bl b
 | int i=>exact .int i
 | str x=>exact .str x
structure SmL (ds:List PyData) (n m:Nat):Prop where
 sh:PyData.showableAll ds=true
 lv:PyData.leavesShortAll 150 ds=true
 dp:PyData.depthAll ds<=n
 wt:PyData.weightAll ds<=m
 hd:PyData.hasDictAll ds=false
theorem SmL.nil {n m:Nat}:SmL [] n m:=⟨by simp[PyData.showableAll],by simp[PyData.leavesShortAll],by simp[PyData.depthAll],by simp[PyData.weightAll],by simp[PyData.hasDictAll]⟩
theorem SmL.cons {d:PyData}{ds:List PyData}{n m k:Nat}(a:SmD d n k) (b:SmL ds n m):SmL (d::ds) n (m+k+1):=by
 refine⟨by simp[PyData.showableAll,a.sh,b.sh],by simp[PyData.leavesShortAll,a.lv,b.lv],?_,?_,by simp[PyData.hasDictAll,a.hd,b.hd]⟩
 ·rw[PyData.depthAll.eq_2]; exact Nat.max_le.mpr ⟨a.dp,b.dp⟩
 ·rw[PyData.weightAll.eq_2]; have:=a.wt; have:=b.wt; omega
theorem SmL.list {ds:List PyData}{n m:Nat}(a:SmL ds n m):SmD (.list ds) (n+1) m:=by
 refine⟨by simp[PyData.showable,a.sh],by simp[PyData.leavesShort,a.lv],by rw[PyData.depth.eq_1]; exact Nat.succ_le_succ a.dp,by rw[PyData.weight.eq_2]; exact a.wt,by simp[PyData.hasDict,a.hd]⟩
theorem SmL.tup {ds:List PyData}{n m:Nat}(a:SmL ds n m):SmD (.tuple ds) (n+1) m:=by
 refine⟨by simp[PyData.showable,a.sh],by simp[PyData.leavesShort,a.lv],by rw[PyData.depth.eq_2]; exact Nat.succ_le_succ a.dp,by rw[PyData.weight.eq_3]; exact a.wt,by simp[PyData.hasDict,a.hd]⟩
def rw16:List Str:=["set","copy","sum","gap","low","high","left","right","slide","and","or","unlike","under","pick","mark","turns"]
structure Tb (n:Nat) (kvs:List (Key×V)):Prop where
 ln:kvs.length<=n
 ok:∀ kv∈kvs,(∃ x,kv.1=.inr x/\Tx x)/\FV kv.2
theorem Tb.dict {n:Nat}{kvs:List (Key×V)}(t:Tb n kvs) (hn:n<=200):∃ D,FDs kvs D/\(PyData.dict D).showable=true/\(PyData.dict D).depth<=10/\PyData.leavesShort 150 (PyData.dict D)=true/\(PyData.dict D).weight<=90000:=by
 have key:∀ kvs:List (Key×V),(∀ kv∈kvs,(∃ x,kv.1=.inr x/\Tx x)/\FV kv.2)->∃ D,FDs kvs D/\PyData.showableKv D=true/\PyData.leavesShortKv 150 D=true/\PyData.depthKv D<=0/\PyData.weightKv D<=302*kvs.length:=by
  intro kvs
  induction kvs with
  | nil=>intro _; exact⟨[],.nil,by simp[PyData.showableKv],by simp[PyData.leavesShortKv],by simp[PyData.depthKv],by simp[PyData.weightKv]⟩
  | cons kv r ih =>
   intro h
   obtain⟨D,f,a,b,c,e⟩:=ih fun z hz=>h z (mem_cons_of_mem _ hz)
   obtain⟨⟨x,hx,tx⟩,fv⟩:=h kv (mem_cons_self ..)
   obtain⟨d,fd,sm⟩:=fv.sm
   obtain⟨k,v⟩:=kv
   dsimp only at hx fd
   subst hx
   have sk:=tx_sm tx
   refine⟨(.str x,d)::D,.cons fd f,?_,?_,?_,?_⟩
   ·simp[PyData.showableKv,sk.sh,sm.sh,a]
   ·simp[PyData.leavesShortKv,sk.lv,sm.lv,b]
   ·rw[PyData.depthKv.eq_2]; exact Nat.max_le.mpr ⟨Nat.max_le.mpr ⟨sk.dp,sm.dp⟩,c⟩
   ·rw[PyData.weightKv.eq_2,length_cons]; have:=sk.wt; have:=sm.wt; omega
 obtain⟨D,f,a,b,c,e⟩:=key kvs t.ok
 refine⟨D,f,by simp[PyData.showable,a],by rw[PyData.depth.eq_3]; omega,by simp[PyData.leavesShort,b],by rw[PyData.weight.eq_4]; have:=t.ln; omega⟩
theorem valV_mm {kvs:List (Key×V)}{k:Key}{v:V}(h:bR kvs k=some v):∃ kv∈kvs,kv.1=k/\kv.2=v:=by
 unfold bR at h
 obtain⟨kv,h1,h2⟩:=Option.map_eq_some_iff.mp h
 exact⟨kv,List.mem_of_find?_eq_some h1,by simpa using List.find?_some h1,h2⟩
theorem Tb.put {n:Nat}{kvs:List (Key×V)}{x:Str}{v:V}(t:Tb n kvs) (hx:Tx x) (hv:FV v):Tb (n+1) (eK kvs (.inr x) v):=by
 refine⟨Nat.le_trans (cY kvs _ v) (Nat.succ_le_succ t.ln),fun kv h=>?_⟩
 unfold eK at h
 split at h
 ·obtain⟨p,hp,rfl⟩:=List.mem_map.mp h
  split
  ·next e=>exact⟨⟨x,e,hx⟩,hv⟩
  ·exact t.ok p hp
 ·rcases List.mem_append.mp h with h | h
  ·exact t.ok kv h
  ·cases List.mem_singleton.mp h
   exact⟨⟨x,rfl,hx⟩,hv⟩
theorem Tb.drop {n:Nat}{kvs:List (Key×V)}{k:Key}(t:Tb n kvs):Tb n (iH kvs k):=⟨Nat.le_trans (oJ kvs k) t.ln,fun kv h=>t.ok kv (sq h)⟩
theorem Tb.le {n m:Nat}{kvs:List (Key×V)}(t:Tb n kvs) (h:n<=m):Tb m kvs:=⟨Nat.le_trans t.ln h,t.ok⟩
def jS (o:Option V):Prop:=∃ i:Int,o=some (.int i)/\0<=i/\i<=1000
def GoodD (kvs:List (Key×V)):Prop:=∀ x∈rw16,jS (bR kvs (.inr x))
def GoodP (H:Hp) (x:V):Prop:=∃ a kvs,x=.ref a/\H a=some (.dK kvs)/\GoodD kvs
def DFl (H:Hp) (x:V):Prop:=∀ a kvs,x=.ref a->H a=some (.dK kvs)->∀ kv∈kvs,FV kv.2
def pz (kvs:List (Key×V)) (x:Str):Int:=match bR kvs (.inr x) with | some (.int i)=>i | _=>0
def cost (kvs:List (Key×V)) (l:List Str):Int:=(l.map (pz kvs)).sum
theorem GoodD.at {kvs:List (Key×V)}(g:GoodD kvs) {x:Str}(hx:x∈rw16):bR kvs (.inr x)=some (.int (pz kvs x))/\0<=pz kvs x/\pz kvs x<=1000:=by
 obtain⟨i,e,h⟩:=g x hx
 unfold pz
 rw[e]
 exact⟨rfl,h⟩
theorem GoodD.more {kvs:List (Key×V)}(g:GoodD kvs) {x:Str}{v:V}(h:x∉rw16):GoodD (eK kvs (.inr x) v):=fun y hy=>by
 rw[fW,if_neg (fun z=>h (by injection z with z; exact z ▸ hy))]
 exact g y hy
theorem btw_ok {v:V}(h:btw v 0 1000=true):jS (some v):=by
 cases v with
 | int i =>
  have h':(decide (0<=i)&&decide (i<=1000))=true:=h
  rw[Bool.and_eq_true,decide_eq_true_iff,decide_eq_true_iff] at h'
  exact⟨i,rfl,h'⟩
 | _=>cases h
theorem btw_no {o:Option V}(h:btw (o.getD .non) 0 1000=false):¬ jS o:=by
 rintro ⟨i,rfl,h0,h1⟩
 have h':(decide (0<=i)&&decide (i<=1000))=false:=h
 rw[decide_eq_true h0,decide_eq_true h1] at h'
 cases h'
theorem tx_rw:∀ x∈rw16,Tx x:=by
 have:∀ x∈rw16,x.length<=20/\∀ c∈x.cps.toList,c<128:=by decide +kernel
 exact this
theorem aD {i:Int}(h0:-(2^130)<i) (h1:i<2^130):FV (.int i):=.inr (.inr (.inl ⟨i,rfl,h0,h1⟩))
theorem DFl.of {n:Nat}{H:Hp}{a:Addr}{kvs:List (Key×V)}(h:H a=some (.dK kvs)) (t:Tb n kvs):DFl H (.ref a):=fun b k e h' kv hk=>by
 cases e
 rw[h] at h'
 cases h'
 exact(t.ok kv hk).2
theorem GoodP.back {H H':Hp}{x:V}(t:Th H x) (s:Same H H') (g:GoodP H' x):GoodP H x:=by
 obtain⟨a,kvs,rfl,h,g⟩:=g
 cases t with
 | lst h1=>rw[s _ _ h1] at h; cases h
 | tup h1=>rw[s _ _ h1] at h; cases h
 | dct h1=>rw[s _ _ h1] at h; cases h; exact⟨a,_,rfl,h1,g⟩
theorem nW {H:Hp}{a:Addr}{o:HO}(h:H a=some o) (hn:∀ kvs,o≠.dK kvs):¬ GoodP H (.ref a):=by
 rintro ⟨b,kvs,e,h',_⟩
 cases e
 rw[h] at h'
 cases h'
 exact hn _ rfl
theorem bad_put {H:Hp}{a:Addr}{kvs:List (Key×V)}{x:Str}{v:V}(h:H a=some (.dK (eK kvs (.inr x) v))) (hx:x∈rw16) (hv:¬ jS (some v)):¬ GoodP H (.ref a):=by
 rintro ⟨b,k2,e,h',g⟩
 cases e
 rw[h] at h'
 cases h'
 have:=g x hx
 rw[fW,if_pos rfl] at this
 exact hv this
theorem qL {kvs:List (Key×V)}{k:Key}:bR (iH kvs k) k=none:=by
 unfold bR iH
 rw[Option.map_eq_none_iff,List.find?_eq_none]
 intro kv h
 have:=(List.mem_filter.mp h).2
 simpa using this
theorem bad_drop {H:Hp}{a:Addr}{kvs:List (Key×V)}{x:Str}(h:H a=some (.dK (iH kvs (.inr x)))) (hx:x∈rw16):¬ GoodP H (.ref a):=by
 rintro ⟨b,k2,e,h',g⟩
 cases e
 rw[h] at h'
 cases h'
 obtain⟨i,e,_⟩:=g x hx
 rw[qL] at e
 cases e
def rA:Nat->List Str
 | 0=>[]
 | 1=>["set","high"]
 | 2=>["right","set","high"]
 | 3=>["set","low","sum","high","sum"]
 | _=>["set","high","gap","right","sum"]
def dn (kd:Nat):Int:=if kd=4 then 1 else 0
def fw (kd:Nat) (s:Int):List Str:=rA kd++(if dn kd<s then [("right":Str)] else [])
theorem se {kd:Nat}{s:Int}:∀ x∈fw kd s,x∈rw16:=by
 intro x h
 unfold fw at h
 rcases List.mem_append.mp h with h | h
 ·have:∀ x∈rA kd,x∈rw16:=by
   unfold rA
   split <;> decide +kernel
  exact this x h
 ·split at h
  ·cases List.mem_singleton.mp h; decide +kernel
  ·cases h
theorem fw_len {kd:Nat}{s:Int}:(fw kd s).length<=6:=by
 unfold fw
 rw[length_append]
 have:(rA kd).length<=5:=by unfold rA; split <;> decide
 split <;> simp <;> omega
theorem rB:∀ vs H Q E,qH vs H Q E->iP vs H Q E:=fun _ _ _ _ ⟨i,hv,q⟩=>⟨.int i,hv,.int i,q⟩
theorem nH:∀ vs H Q E,dY vs H Q E->ii vs H Q E:=fun _ H Q _ ⟨i,lo,hi,hv,h1,h2,q⟩=>⟨.int i,lo,hi,hv,.int i,by show Q (.bl (decide (lo<=i)&&decide (i<=hi))) H; rw[decide_eq_true h1,decide_eq_true h2]; exact q⟩
def ents (t:Nat->Tok) (b:Nat->Addr):List (Str×Tok×Addr):=[("shifted",t 0,b 0),("scaled",t 1,b 1),("early",t 2,b 2),("more",t 3,b 3),("wide",t 4,b 4)]
def RowsA (K:Frag) (P:Program) (w:World) (a:Addr):Prop:=∃ (t:Nat->Tok) (b:Nat->Addr),GD K P w a ((ents t b).map gVal)/\∀ i,i<5->∀ H,SqT K H (b i) ((rA i).map V.str)
def spFW (c:Ad):Sp:=fun vs H Q _=>∃ (x:Addr) (kd:Nat) (e f s:Int),vs=[.ref x]/\FO c H x kd e f s/\Fm kd e f s/\∀ l H',H l=none->H' l=some (.lst ((fw kd s).map V.str))->Same H H'->Q (.ref l) H'
def spRW:Sp:=fun vs H Q _=>vs=[]/\∀ l,H l=none->Q (.ref l) (upd H l (.lst (rw16.map V.str)))
def spPr:Sp:=fun vs H Q _=>∃ p:Addr,vs=[.ref p]/\Bx H p/\∀ (a:Addr) (kvs:List (Key×V)) H',H a=none->H' a=some (.dK kvs)->GoodD kvs->Tb 40 kvs->Bx H' p->SameX p H H'->Q (.ref a) H'
theorem FO.same {c:Ad}{H H':Hp}{x:Addr}{kd:Nat}{e f s:Int}(h:FO c H x kd e f s) (q:Same H H'):FO c H' x kd e f s:=by
 obtain⟨dx,h⟩:=h
 exact⟨dx,q _ _ h⟩
theorem m7 (K:Frag):kitOne K (.type "dict") (.type "dict")=some true:=by with_unfolding_all rfl
theorem oq (K:Frag):kitOne K (.type "int") (.type "dict")=some false:=by with_unfolding_all rfl
theorem pN (K:Frag):kitOne K (.type "bool") (.type "dict")=some false:=by with_unfolding_all rfl
theorem oB (K:Frag):kitOne K (.type "str") (.type "dict")=some false:=by with_unfolding_all rfl
theorem nU (K:Frag):kitOne K (.type "NoneType") (.type "dict")=some false:=by with_unfolding_all rfl
theorem nQ (K:Frag):kitOne K (.type "list") (.type "dict")=some false:=by with_unfolding_all rfl
theorem mM (K:Frag):kitOne K (.type "tuple") (.type "dict")=some false:=by with_unfolding_all rfl
theorem rows_at {t:Nat->Tok}{b:Nat->Addr}{kd:Nat}(h:kd<5):valueAt ((ents t b).map gVal) (.inr (wdF kd))=some (.ref (b kd)):=by
 rcases(by omega:kd=0\/kd=1\/kd=2\/kd=3\/kd=4) with rfl | rfl | rfl | rfl | rfl <;> rfl
theorem Txt.shf {K:Frag}{mg:Str->Option Value}{c:Ad}(T:Txt K mg c) {kd:Nat}(h:kd<5):Cls K (fOf c kd)/\NoAttr K (fOf c kd) "shift":=by
 rcases(by omega:kd=0\/kd=1\/kd=2\/kd=3\/kd=4) with rfl | rfl | rfl | rfl | rfl
 ·exact⟨T.cl_Shifted,T.na_Shifted_shift⟩
 ·exact⟨T.cl_Scaled,T.na_Scaled_shift⟩
 ·exact⟨T.cl_Early,T.na_Early_shift⟩
 ·exact⟨T.cl_More,T.na_More_shift⟩
 ·exact⟨T.cl_Wide,T.na_Wide_shift⟩
theorem rb {kd:Nat}{e f s:Int}:(flds kd e f s).lookup ("word":Str)=none:=by
 unfold flds
 split <;> rfl
theorem fl_shift {kd:Nat}{e f s:Int}:(flds kd e f s).lookup ("shift":Str)=some (.int s):=by
 unfold flds
 split <;> rfl
def spNP0 (c:Ad):Sp:=fun vs H Q _=>∃ (a:Addr) (kvs:List (Key×V)),vs=[.ref a]/\H a=some (.dK kvs)/\GoodD kvs/\∀ t tk H',H t=none->H' t=some (.dK tk)->(∀ y∈rw16,bR tk (.inr y)=bR kvs (.inr y))->Same H H'->Q (.ref t) H'
def spPF0 (c:Ad):Sp:=fun vs H Q _=>∃ (x:Addr) (kd:Nat) (e f s:Int) (a:Addr) (kvs:List (Key×V)),vs=[.ref x,.ref a]/\FO c H x kd e f s/\Fm kd e f s/\H a=some (.dK kvs)/\GoodD kvs/\∀ H',Same H H'->Q (.int (cost kvs (fw kd s))) H'
def cN (d t:Int):Int:=(1*2^t.toNat+d-1)/d
def gN (d t:Int):Int:=(1*2^t.toNat-1)/d
def aN (d last t:Int):Int:=last/d*(1*2^t.toNat-gN d t*d)
theorem rZ (t:Int):(1:Int)*2^t.toNat=2^t.toNat:=one_mul _
abbrev lmF:Expr:=lamAt bB 3 1
abbrev lmFQ:Str:=("choose":Str)++".<locals>."++"<lambda>"
abbrev TA (PT1:Addr) (H:Hp):Prop:=TabA PT1 lmFQ H
theorem Dt.same {H H':Hp}{x:V}{d:PyData}(r:Dt H x d) (s:Same H H'):Dt H' x d:=r.keep fun a u _ _ e=>s a u e
def XE (C:Addr) (H:Hp) (x:V) (E:XK):Prop:=∀ d H',H' d=some (.xd [("found",x)])->Same H H'->E (.ref C) (some d) H'
structure WD (c:Ad) (H:Hp) (x y:V) (E:XK) (G:Int->Int->Prop):Prop where
 tx:Th H x
 ty:Th H y
 ew:btw x 4 32=false->XE c.NoWidth H x E
 ed:∀ w:Int,x=.int w->4<=w->w<=32->btw y 1 (1*2^w.toNat-1)=false->XE c.NoDivisor H y E
 ok:∀ w d:Int,x=.int w->y=.int d->4<=w->w<=32->1<=d->d<2^w.toNat->G w d
theorem WD.imp {c:Ad}{H:Hp}{x y:V}{E:XK}{G G':Int->Int->Prop}(h:WD c H x y E G) (f:∀ w d:Int,x=.int w->y=.int d->4<=w->w<=32->1<=d->d<2^w.toNat->G w d->G' w d):WD c H x y E G' :=
 ⟨h.tx,h.ty,h.ew,h.ed,fun w d a b c e g k=>f w d a b c e g k (h.ok w d a b c e g k)⟩
theorem WD.good {c:Ad}{H:Hp}{w d:Int}{E:XK}{G:Int->Int->Prop}(h1:4<=w) (h2:w<=32) (d1:1<=d) (d2:d<2^w.toNat) (g:G w d):WD c H (.int w) (.int d) E G:=by
 refine⟨.int w,.int d,fun h=>?_,fun w' e _ _ h=>?_,fun w' d' e1 e2 _ _ _ _=>?_⟩
 ·have h':(decide (4<=w)&&decide (w<=32))=false:=h
  rw[decide_eq_true h1,decide_eq_true h2] at h'
  cases h'
 ·cases e
  have h':(decide (1<=d)&&decide (d<=1*2^w.toNat-1))=false:=h
  rw[decide_eq_true d1,decide_eq_true (show d<=1*2^w.toNat-1 by omega)] at h'
  cases h'
 ·cases e1; cases e2; exact g
theorem sv {v:V}{a b:Int}(h:btw v a b=true):∃ i:Int,v=.int i/\a<=i/\i<=b:=by
 cases v with
 | int i =>
  have h':(decide (a<=i)&&decide (i<=b))=true:=h
  rw[Bool.and_eq_true] at h'
  exact⟨i,rfl,of_decide_eq_true h'.1,of_decide_eq_true h'.2⟩
 | _=>cases h
theorem cJ {i a b:Int}(h1:a<=i) (h2:i<=b):btw (.int i) a b=true:=by
 show (decide (a<=i)&&decide (i<=b))=true
 rw[decide_eq_true h1,decide_eq_true h2]
 rfl
theorem bS {i a b:Int}(h:i<a\/b<i):btw (.int i) a b=false:=by
 show (decide (a<=i)&&decide (i<=b))=false
 rcases h with h | h
 ·rw[decide_eq_false (by omega)]; rfl
 ·rw[decide_eq_false (show ¬ i<=b by omega)]; exact Bool.and_false _
def spNWY (c:Ad):Sp:=fun vs H Q E=>∃ x:V,vs=[x]/\Th H x/\(btw x 4 32=true->Q .non H)/\(btw x 4 32=false->XE c.NoWidth H x E)
theorem qJ {c:Ad}:∀ vs H Q E,fh vs H Q E->spNWY c vs H Q E0:=fun _ _ _ _ ⟨i,hv,h1,h2,q⟩=>⟨.int i,hv,.int i,fun _=>q,fun h=>by rw[cJ h1 h2] at h; cases h⟩
def pV (c:Ad):Sp:=fun vs H Q E=>∃ x y:V,vs=[x,y]/\WD c H x y E fun _ _=>Q .non H
def spCW (c:Ad):Sp:=fun vs H Q E=>∃ x y:V,vs=[x,y]/\WD c H x y E fun _ _=>∀ v H',Same H H'->Q v H'
def spCd (c:Ad):Sp:=fun vs H Q E=>∃ x y:V,vs=[x,y]/\WD c H x y E fun w d=>∀ (t:Int) l H',Tw d t->H l=none->AL (FR c) H' l (pW (1*2^w.toNat) d t)->Same H H'->Q (.ref l) H'
def spWN (c:Ad) (PT0:Addr):Sp:=fun vs H Q E=>∃ x y:V,vs=[x,y,.int 1]/\TO PT0 H/\WD c H x y E fun _ _=>∀ v H',SameX PT0 H H'->TO PT0 H'->Q v H'
def VL (d last t:Int) (H:Hp) (v:V):Prop:=(v=.non/\¬ AllA (cN d t) 0 t d last)\/∃ (r:Addr) (x y:Int),v=.ref r/\H r=some (.tup [.int x,.int y])
def spLA (c:Ad):Sp:=fun vs H Q E=>∃ (x y:V) (t:Int),vs=[x,y,.int t]/\0<=t/\t<=64/\WD c H x y E fun w d=>∀ v H',Same H H'->VL d (1*2^w.toNat-1) t H' v->Q v H'
def spLT (c:Ad):Sp:=fun vs H Q E=>∃ x y:V,vs=[x,y]/\WD c H x y E fun _ _=>∀ v H',Same H H'->Q v H'
def rkB (xs:List V):Bool:=match xs with
 | [e,f,a,t]=>btw e 0 64&&btw t 0 130&&btw f 0 1180591620717411303424&&btw a 0 1180591620717411303424
 | _=>false
inductive RkT (H:Hp):V->Bool->Prop where
 | no {z:V} (h:Th H z) (n:∀ a xs,z=.ref a->H a≠some (.tup xs)):RkT H z false
 | tup {a:Addr} {xs:List V} (h:H a=some (.tup xs)) (t:∀ v∈xs,Th H v) (l:xs.length<=10):RkT H (.ref a) (rkB xs)
def qI:Sp:=fun vs H Q _=>∃ (z:V) (b:Bool),vs=[z]/\RkT H z b/\Q (.bl b) H
def RkE (H:Hp) (z:V) (tw:Int):Prop:=RkT H z false\/∃ (r:Addr) (e f a t:Int),z=.ref r/\IsG H r e f a t/\RG e f a t/\tw<e
def RkZ (c:Ad) (H:Hp) (z:V) (d:Int) (E:XK) (G:Addr->Int->Int->Int->Int->Prop):Prop :=
 (∃ tw,Tw d tw/\RkE H z tw/\XE c.NoForm H z E)\/∃ (r:Addr) (e f a t:Int),z=.ref r/\IsG H r e f a t/\RG e f a t/\(2:Int)^e.toNat∣d/\G r e f a t
def spNR (c:Ad):Sp:=fun vs H Q E=>∃ x y z:V,vs=[x,y,z]/\WD c H x y E fun _ d=>RkZ c H z d E fun _ _ _ _ _=>Q .non H
def qj (c:Ad):Sp:=fun vs H Q E=>∃ x y z:V,vs=[x,y,z]/\WD c H x y E fun _ d=>RkZ c H z d E fun _ _ _ _ _=>∀ b H',Same H H'->Q (.bl b) H'
def pQ (c:Ad) (PT0:Addr):Sp:=fun vs H Q E=>∃ x y z:V,vs=[x,y,z]/\TO PT0 H/\WD c H x y E fun _ d=>RkZ c H z d E fun _ _ _ _ _=>∀ v H',SameX PT0 H H'->TO PT0 H'->Q v H'
def FmZ (c:Ad) (H:Hp) (kd:Nat) (e f s d:Int) (E:XK) (G:Prop):Prop :=
 ((∃ tw,Tw d tw/\tw<e)/\∀ dd r H',H' dd=some (.xd [("found",.ref r)])->H' r=some (.tup (tlv kd e f s))->Same H H'->E (.ref c.NoForm) (some dd) H')\/((2:Int)^e.toNat∣d/\G)
def spNF (c:Ad):Sp:=fun vs H Q E=>∃ (x y:V) (p:Addr) (kd:Nat) (e f s:Int),vs=[x,y,.ref p]/\FO c H p kd e f s/\Fm kd e f s/\WD c H x y E fun _ d=>FmZ c H kd e f s d E (∀ H',Same H H'->Q .non H')
def ou (c:Ad):Sp:=fun vs H Q E=>∃ (x y:V) (p:Addr) (kd:Nat) (e f s:Int),vs=[x,y,.ref p]/\FO c H p kd e f s/\Fm kd e f s/\WD c H x y E fun _ d=>FmZ c H kd e f s d E (∀ b H',Same H H'->Q (.bl b) H')
def spIW (c:Ad):Sp:=fun vs H Q E=>∃ (x y:V) (p:Addr) (kd:Nat) (e f s:Int),vs=[x,y,.ref p,.int 1]/\FO c H p kd e f s/\Fm kd e f s/\WD c H x y E fun _ d=>FmZ c H kd e f s d E (∀ b H',Same H H'->Q (.bl b) H')
def pY (c:Ad) (PT0:Addr):Sp:=fun vs H Q E=>∃ (x y:V) (p:Addr) (kd:Nat) (e f s:Int),vs=[x,y,.ref p]/\FO c H p kd e f s/\Fm kd e f s/\TO PT0 H/\WD c H x y E fun w d=>FmZ c H kd e f s d E (∀ v H',SameX PT0 H H'->TO PT0 H'->LW e (nF kd w f) (nA kd f) (nT kd w s) d (1*2^w.toNat-1) v->Q v H')
theorem imp_ww {c:Ad}{PT0:Addr}:∀ vs H Q E,spWW c PT0 vs H Q E->pY c PT0 vs H Q E0:=fun _ _ _ _ ⟨i,d,x,kd,e,f,t,hv,h1,h2,d1,d2,fo,fm,hd,to,q⟩=>⟨.int i,.int d,x,kd,e,f,t,hv,fo,fm,to,WD.good h1 h2 d1 d2 (.inr ⟨hd,q⟩)⟩
def DFr (H:Hp) (x:V):Prop:=∀ a kvs,x=.ref a->H a=some (.dK kvs)->∀ y∈rw16,∀ v,bR kvs (.inr y)=some v->FV v
theorem DFl.r {H:Hp}{x:V}(h:DFl H x):DFr H x:=fun a kvs e e2 y _ v e3=>by
 obtain⟨kv,m,_,rfl⟩:=valV_mm e3
 exact h a kvs e e2 kv m
theorem DFr.same {H H':Hp}{x:V}(t:Th H x) (d:DFr H x) (s:Same H H'):DFr H' x:=fun a kvs e h=>by
 subst e
 cases t with
 | lst h1=>rw[s _ _ h1] at h; cases h
 | tup h1=>rw[s _ _ h1] at h; cases h
 | dct h1=>rw[s _ _ h1] at h; cases h; exact d a _ rfl h1
def spNP (c:Ad):Sp:=fun vs H Q E=>∃ x:V,vs=[x]/\Th H x/\DFr H x/\(∀ a kvs,x=.ref a->H a=some (.dK kvs)->GoodD kvs->∀ t tk H',H t=none->H' t=some (.dK tk)->(∀ y∈rw16,bR tk (.inr y)=bR kvs (.inr y))->Same H H'->Q (.ref t) H')/\(¬ GoodP H x->XE c.NoPrices H x E)
theorem imp_np {c:Ad}:∀ vs H Q E,spNP0 c vs H Q E->spNP c vs H Q E0:=fun _ H _ _ ⟨a,kvs,hv,h,g,q⟩=>⟨.ref a,hv,.dct h,fun b k e h' y hy v e3=>(by
 cases e
 rw[h] at h'
 cases h'
 obtain⟨e4,e5,e6⟩:=g.at hy
 rw[e4] at e3
 cases e3
 exact aD (by omega) (by omega)),fun b k e h' _=>(by
 cases e
 rw[h] at h'
 cases h'
 exact q),fun n=>absurd ⟨a,kvs,rfl,h,g⟩ n⟩
def rL (H:Hp) (x:V):Prop:=∃ d,Dt H x d
def Kq (P0 P1:Addr) (H H':Hp):Prop:=∀ a u,a≠P0->a≠P1->H a=some u->H' a=some u
theorem Kq.of {P0 P1:Addr}{H H':Hp}(s:Same H H'):Kq P0 P1 H H':=fun a u _ _ e=>s a u e
def qp (c:Ad) (PT0 PT1:Addr):Sp:=fun vs H Q E=>∃ x y p:V,vs=[x,y,p]/\Th H p/\DFr H p/\TO PT0 H/\TA PT1 H/\WD c H x y E fun w _=>(¬ GoodP H p/\XE c.NoPrices H p E)\/(GoodP H p/\w<=12/\∀ v H',Kq PT0 PT1 H H'->TO PT0 H'->TA PT1 H'->Q v H')
theorem j3 {H:Hp}{p a:Addr}{xs:List V}(b:Bx H p) (e:H a=some (.tup xs)):a≠p:=fun z=>by
 obtain⟨r1,r2,hb⟩:=b
 rw[z,hb] at e; cases e
theorem dO {H:Hp}{p a:Addr}(b:Bx H p) (e:H a=none):a≠p:=fun z=>by
 obtain⟨r1,r2,hb⟩:=b
 rw[z,hb] at e; cases e
def nw (H H':Hp):Hp:=fun a=>if (H a).isSome then none else H' a
theorem dE {H H':Hp}{a:Addr}{o:HO}(e:H' a=some o) (n:H a=none):nw H H' a=some o:=by unfold nw; rw[n]; exact e
theorem sxn {H H':Hp}{p a:Addr}(x:SameX p H H') (n:a≠p) (e:H' a=none):H a=none:=by
 cases h:H a with
 | none=>rfl
 | some u=>rw[x a u n h] at e; cases e
def tm:Sp:=fun vs H Q _=>∃ p:Addr,vs=[.ref p]/\Bx H p/\∀ (x:V) H',Th (nw H H') x->DFl (nw H H') x->¬ GoodP H' x->rL (nw H H') x->Bx H' p->SameX p H H'->Q x H'
def spNoW:Sp:=fun vs H Q _=>∃ p:Addr,vs=[.ref p]/\Bx H p/\∀ (x:V) H',Th (nw H H') x->btw x 4 32=false->rL (nw H H') x->Bx H' p->SameX p H H'->Q x H'
def spNoD:Sp:=fun vs H Q _=>∃ (p:Addr) (n:Int),vs=[.ref p,.int n]/\0<=n/\n<=4294967296/\Bx H p/\∀ (x:V) H',Th (nw H H') x->btw x 1 n=false->rL (nw H H') x->Bx H' p->SameX p H H'->Q x H'
def spSpo:Sp:=fun vs H Q _=>∃ (p r:Addr) (e f a tw:Int),vs=[.ref p,.ref r,.int tw]/\Bx H p/\IsG H r e f a 130/\RG e f a 130/\0<=tw/\tw<=32/\∀ (z:V) H',RkE (nw H H') z tw->rL (nw H H') z->Bx H' p->SameX p H H'->Q z H'
theorem SmD.ok {H:Hp}{x:V}{d:PyData}{n m:Nat}(r:RD H x d) (s:SmD d n m) (hn:n<=10) (hm:m<=90000):rL H x :=
 ⟨d,.inl ⟨r,s.hd⟩,s.sh,Nat.le_trans s.dp hn,s.lv,Nat.le_trans s.wt hm⟩
theorem tb_rp {n:Nat}{H:Hp}{a:Addr}{kvs:List (Key×V)}(h:H a=some (.dK kvs)) (t:Tb n kvs) (hn:n<=200):rL H (.ref a):=by
 obtain⟨D,f,a1,a2,a3,a4⟩:=t.dict hn
 exact⟨.dict D,.inr ⟨a,kvs,D,rfl,h,f,rfl⟩,a1,a2,a3,a4⟩
theorem RkZ.imp {c:Ad}{H:Hp}{z:V}{d:Int}{E:XK}{G G':Addr->Int->Int->Int->Int->Prop}(h:RkZ c H z d E G) (f:∀ r e f a t,z=.ref r->IsG H r e f a t->RG e f a t->(2:Int)^e.toNat∣d->G r e f a t->G' r e f a t):RkZ c H z d E G':=by
 rcases h with h | ⟨r,e,g,a,t,rfl,h1,h2,h3,h4⟩
 ·exact .inl h
 ·exact .inr ⟨r,e,g,a,t,rfl,h1,h2,h3,f r e g a t rfl h1 h2 h3 h4⟩
theorem FmZ.imp {c:Ad}{H:Hp}{kd:Nat}{e f s d:Int}{E:XK}{G G':Prop}(h:FmZ c H kd e f s d E G) (k:(2:Int)^e.toNat∣d->G->G'):FmZ c H kd e f s d E G':=by
 rcases h with h | ⟨h1,h2⟩
 ·exact .inl h
 ·exact .inr ⟨h1,k h1 h2⟩
theorem apart01 {a b c:Addr}(h:mJ [a,b,c]):a≠b:=fun z=>by
 have:=(List.nodup_cons.mp h).1
 exact this (by rw[z]; exact mem_cons_self ..)
section
variable {P:Program}{w:World}{K:Frag}{mg:Str->Option Value}{base:Heap}{c:Ad}{cT0 PT0 cT1 PT1 cT2 PT2:Addr}
theorem fN {f:Addr}{fd:FuncData}(F:Fun K "__init__" "NoWidth.__init__" bD f fd) (T:Txt K mg c)  (xc:XCls K c.NoWidth f "found"):FnOk P w K mg base CX0 1 f fd ["self","found"] (spXI "found" c.NoWidth):=by
 refine F.ok eY (fun vs H Q E h=>?_) (fun cdv A outer s H vs Q E hr h=>?_)
 ·obtain⟨e,t,v,rfl,_⟩:=h
  rfl
 obtain⟨e,t,v,rfl,he,q⟩:=h
 refine⟨_,(ag (ku (pv 0) (pv 1) rfl)),?_⟩
 exact⟨_,rfl,_,rfl,e,c.NoWidth,t,_,rfl,he,xc,fun d hd hne=>q d hd hne⟩
theorem dL {f:Addr}{fd:FuncData}(F:Fun K "__init__" "NoDivisor.__init__" bd f fd) (T:Txt K mg c)  (xc:XCls K c.NoDivisor f "found"):FnOk P w K mg base CX0 1 f fd ["self","found"] (spXI "found" c.NoDivisor):=by
 refine F.ok dP (fun vs H Q E h=>?_) (fun cdv A outer s H vs Q E hr h=>?_)
 ·obtain⟨e,t,v,rfl,_⟩:=h
  rfl
 obtain⟨e,t,v,rfl,he,q⟩:=h
 refine⟨_,(ag (ku (pv 0) (pv 1) rfl)),?_⟩
 exact⟨_,rfl,_,rfl,e,c.NoDivisor,t,_,rfl,he,xc,fun d hd hne=>q d hd hne⟩
theorem fT {f:Addr}{fd:FuncData}(F:Fun K "__init__" "NoForm.__init__" bM f fd) (T:Txt K mg c)  (xc:XCls K c.NoForm f "found"):FnOk P w K mg base CX0 1 f fd ["self","found"] (spXI "found" c.NoForm):=by
 refine F.ok gB (fun vs H Q E h=>?_) (fun cdv A outer s H vs Q E hr h=>?_)
 ·obtain⟨e,t,v,rfl,_⟩:=h
  rfl
 obtain⟨e,t,v,rfl,he,q⟩:=h
 refine⟨_,(ag (ku (pv 0) (pv 1) rfl)),?_⟩
 exact⟨_,rfl,_,rfl,e,c.NoForm,t,_,rfl,he,xc,fun d hd hne=>q d hd hne⟩
theorem eR {f:Addr}{fd:FuncData}(F:Fun K "__init__" "NoPrices.__init__" bq f fd) (T:Txt K mg c)  (xc:XCls K c.NoPrices f "found"):FnOk P w K mg base CX0 1 f fd ["self","found"] (spXI "found" c.NoPrices):=by
 refine F.ok eQ (fun vs H Q E h=>?_) (fun cdv A outer s H vs Q E hr h=>?_)
 ·obtain⟨e,t,v,rfl,_⟩:=h
  rfl
 obtain⟨e,t,v,rfl,he,q⟩:=h
 refine⟨_,(ag (ku (pv 0) (pv 1) rfl)),?_⟩
 exact⟨_,rfl,_,rfl,e,c.NoPrices,t,_,rfl,he,xc,fun d hd hne=>q d hd hne⟩
theorem nV {f:Addr}{fd:FuncData}(F:Fun K "is_whole" "is_whole" gX f fd) (T:Txt K mg c) :FnOk P w K mg base CX0 1 f fd ["thing"] iP:=by
 refine F.ok nM (fun vs H Q E h=>?_) (fun cdv A outer s H vs Q E hr h=>?_)
 ·obtain⟨x,rfl,_⟩:=h
  rfl
 obtain⟨x,rfl,th,q⟩:=h
 refine⟨_,(ag (aq (rO (aW cW rfl T.n_isinstance boot_isinstance (aa (pv 0) (aa (pe_ty rfl T.n_int boot_int) ae))) (oN (pe_not (aW cW rfl T.n_isinstance boot_isinstance (aa (pv 0) (aa (pe_ty rfl T.n_bool boot_bool) ae)))))))),?_⟩
 cases th with
 | int i =>
  refine⟨_,rfl,_,_,_,_,_,rfl,rfl,TyOf.int _,jp _,_,rfl,iw ?_⟩
  exact⟨_,rfl,_,_,_,_,_,rfl,rfl,TyOf.int _,ik _,_,rfl,q⟩
 | bl b =>
  refine⟨_,rfl,_,_,_,_,_,rfl,rfl,TyOf.bl _,pF _,_,rfl,iw ?_⟩
  exact⟨_,rfl,_,_,_,_,_,rfl,rfl,TyOf.bl _,sO _,_,rfl,q⟩
 | str x=>exact⟨_,rfl,_,_,_,_,_,rfl,rfl,TyOf.str _,oj _,_,rfl,cT q⟩
 | non=>exact⟨_,rfl,_,_,_,_,_,rfl,rfl,TyOf.non,nY _,_,rfl,cT q⟩
 | lst h=>exact⟨_,rfl,_,_,_,_,_,rfl,rfl,TyOf.lst h,nN _,_,rfl,cT q⟩
 | tup h=>exact⟨_,rfl,_,_,_,_,_,rfl,rfl,TyOf.tup h,nJ _,_,rfl,cT q⟩
 | dct h=>exact⟨_,rfl,_,_,_,_,_,rfl,rfl,TyOf.dK h,nj _,_,rfl,cT q⟩
theorem kR {f:Addr}{fd:FuncData}(F:Fun K "is_between" "is_between" eg f fd) (T:Txt K mg c) (H_is_whole:Has P w K mg base 1 "is_whole" ["thing"] iP):FnOk P w K mg base CX0 2 f fd ["thing","low","high"] ii:=by
 refine F.ok kP (fun vs H Q E h=>?_) (fun cdv A outer s H vs Q E hr h=>?_)
 ·obtain⟨x,lo,hi,rfl,_⟩:=h
  rfl
 obtain⟨x,lo,hi,rfl,th,q⟩:=h
 refine⟨_,(ag (aq (rO (av H_is_whole (hr.mono (by omega)) rfl (aa (pv 0) ae)) (oN (pe_chain op_le op_le (pv 1) (pv 0) (pv 2)))))),?_⟩
 refine⟨_,rfl,x,rfl,th,_,rfl,?_⟩
 cases hi':isI x with
 | false =>
  refine cT ?_
  rw[btw_not hi'] at q
  exact q
 | true =>
  refine iw ?_
  cases x with
  | int i =>
   refine⟨_,rfl,_,rfl,_,_,rfl,rfl,_,rfl,?_⟩
   by_cases c1:lo<=i
   ·refine lj c1 ⟨_,rfl,_,_,rfl,rfl,?_⟩
    have e:btw (.int i) lo hi=decide (i<=hi):=by show (decide (lo<=i)&&decide (i<=hi))=_; rw[decide_eq_true c1,Bool.true_and]
    rw[e] at q
    exact q
   ·refine cM c1 ?_
    have e:btw (.int i) lo hi=false:=by show (decide (lo<=i)&&decide (i<=hi))=_; rw[decide_eq_false c1,Bool.false_and]
    rw[e] at q
    exact q
  | _=>cases hi'
theorem pT {f:Addr}{fd:FuncData}(F:Fun K "is_word" "is_word" jz f fd) (T:Txt K mg c) (H_is_between:Has P w K mg base 2 "is_between" ["thing","low","high"] ii):FnOk P w K mg base CX0 3 f fd ["width","thing"] mT:=by
 refine F.ok pB (fun vs H Q E h=>?_) (fun cdv A outer s H vs Q E hr h=>?_)
 ·obtain⟨i,x,rfl,_⟩:=h
  rfl
 obtain⟨i,x,rfl,h1,h2,th,q⟩:=h
 refine⟨_,(ag (aq (av H_is_between (hr.mono (by omega)) rfl (aa (pv 1) (aa ac (aa (ap aQ (ap aS ac (pv 0)) ac) ae)))))),?_⟩
 exact⟨_,rfl,_,rfl,_,_,rfl,rfl,dC (by omega) (by omega),_,_,rfl,rfl,x,_,_,rfl,th,q⟩
theorem kW {f:Addr}{fd:FuncData}(F:Fun K "_law_start" "_law_start" d8 f fd) (T:Txt K mg c) :FnOk P w K mg base CX0 1 f fd ["_law_script","_law_k"] (mZ K):=by
 refine F.ok sc__law_start (fun vs H Q E h=>?_) (fun cdv A outer s H vs Q E hr h=>?_)
 ·obtain⟨a,ns,k,rfl,_⟩:=h
  rfl
 obtain⟨a,ns,k,rfl,hS,k0,k1,q⟩:=h
 refine⟨_,(af (aw (i:=2) sc__law_start.nd rfl (Or.inl rfl) ac)
  (af (aB (ar (op_ne0 (Nat.lt_of_succ_lt (iD hr))) (pv 0) (bX ae) (ax _))
   (ag (aw (i:=2) sc__law_start.nd rfl (Or.inl rfl) (bo bK (pv 0) (ap dX (pv 1) (aW dR rfl T.n_len boot_len (aa (pv 0) ae))) (fun _ _=>rfl))))
   au)
  (af (aw (i:=3) sc__law_start.nd rfl (Or.inl rfl) ac)
  (af (aB (ar op_ge (pv 2) (ap ip ac ac) (ax _))
   (ag (aw (i:=3) sc__law_start.nd rfl (Or.inl rfl) (pv 2)))
   au)
  (ag (aq (bX (aa (pv 3) (aa (ap aA (ap dX (ap aA (pv 2) (ap fR ac (pv 1))) ac) ac) ae))))))))),?_⟩
 have fin:∀ (c:Int) (H1:Hp),Same H H1->(∃ t:L2.TS,True)->True:=fun _ _ _ _=>trivial
 refine⟨_,rfl,(by show 0<=sizeLine; decide),fun l hl=>?_⟩
 have sl:=ak hl (.lst [])
 refine⟨a,l,_,rfl,rfl,sl.seq hS,SqL.of ah,_,rfl,?_⟩
 cases ns with
 | nil =>
  refine cT ?_
  refine⟨_,rfl,_,_,rfl,rfl,⟨by decide,by decide,by decide⟩,_,_,rfl,rfl,_,rfl,cM (by decide) ?_⟩
  refine⟨_,rfl,_,rfl,_,rfl,_,_,rfl,rfl,rn (by decide) (by decide),_,_,rfl,rfl,_,_,rfl,rfl,(by show (0:Int)<2147483646; decide),_,_,rfl,rfl,sz2,fun p hp=>?_⟩
  exact q p _ (sl.free hp) ⟨_,_,ah⟩ (sl.trans (ak hp _))
 | cons n ns' =>
  refine iw ?_
  have hl2:((n::ns').map V.int).length=(n::ns').length:=length_map _
  have hn:0<((((n::ns').map V.int).length:Nat):Int):=by rw[hl2,length_cons]; omega
  have j0:=Int.emod_nonneg k (show ((((n::ns').map V.int).length:Nat):Int)≠0 by omega)
  have j1:=Int.emod_lt_of_pos k hn
  have hj:(k%((((n::ns').map V.int).length:Nat):Int)).toNat<(n::ns').length:=by rw[<- hl2]; omega
  have g:=getI (n::ns') _ hj
  have e:k%((((n::ns').map V.int).length:Nat):Int)=(((k%((((n::ns').map V.int).length:Nat):Int)).toNat:Nat):Int):=by omega
  rw[<- e] at g
  refine⟨_,rfl,_,rfl,_,rfl,a,_,rfl,.inl (sl.seq hS),_,_,rfl,rfl,hn,a,_,_,_,rfl,rfl,sl.seq hS,g,?_⟩
  refine⟨_,rfl,_,_,rfl,rfl,⟨by decide,by decide,by decide⟩,_,_,rfl,rfl,_,rfl,?_⟩
  refine ite2 (fun _=>?_) (fun _=>?_)
  ·refine⟨_,rfl,?_⟩
   refine⟨_,rfl,_,rfl,_,rfl,_,_,rfl,rfl,rn (by decide) (by decide),_,_,rfl,rfl,_,_,rfl,rfl,(by show (0:Int)<2147483646; decide),_,_,rfl,rfl,sz2,fun p hp=>?_⟩
   exact q p _ (sl.free hp) ⟨_,_,ah⟩ (sl.trans (ak hp _))
  ·refine⟨_,rfl,_,rfl,_,rfl,_,_,rfl,rfl,rn (by decide) (by decide),_,_,rfl,rfl,_,_,rfl,rfl,(by show (0:Int)<2147483646; decide),_,_,rfl,rfl,sz2,fun p hp=>?_⟩
   exact q p _ (sl.free hp) ⟨_,_,ah⟩ (sl.trans (ak hp _))
theorem lO {f:Addr}{fd:FuncData}(F:Fun K "_law_draw" "_law_draw" fc f fd) (T:Txt K mg c) :FnOk P w K mg base CX0 1 f fd ["_law_state","_law_size"] gE:=by
 refine F.ok sc__law_draw (fun vs H Q E h=>?_) (fun cdv A outer s H vs Q E hr h=>?_)
 ·obtain⟨p,m,rfl,_⟩:=h
  rfl
 obtain⟨p,m,rfl,⟨r,s1,hp⟩,h1,h2,q⟩:=h
 refine⟨_,(af (aB (ar p4 (bo bK (pv 0) ac (fun _ _=>rfl)) ac (ax _))
   (af (aw (i:=2) sc__law_draw.nd rfl (Or.inl rfl) (ap dX (bo bK (pv 0) ac (fun _ _=>rfl)) (pv 1)))
   (af (gr (ap bE (bo bK (pv 0) ac (fun _ _=>rfl)) (pv 1)) (iq (pv 0) ac cC))
   (ag (aq (pv 2)))))
   au)
  (af (gr (ap dX (ap fR (bo bK (pv 0) ac (fun _ _=>rfl)) ac) ac) (iq (pv 0) ac cC))
  (af (aw (i:=3) sc__law_draw.nd rfl (Or.inl rfl) (ap dX (ap fR (ap aA (bo bK (pv 0) ac (fun _ _=>rfl)) (ap fR ac (ap bE (bo bK (pv 0) ac (fun _ _=>rfl)) ac))) ac) ac))
  (af (aw (i:=4) sc__law_draw.nd rfl (Or.inl rfl) (ap dX (ap aA (ap fR (pv 3) ac) (ap bE (bo bK (pv 0) ac (fun _ _=>rfl)) ac)) ac))
  (ag (aq (ap dX (ap aA (ap fR (pv 3) ac) (pv 4)) (pv 1)))))))),?_⟩
 refine⟨_,rfl,p,_,_,_,rfl,rfl,SqL.of hp,rfl,_,_,rfl,rfl,_,rfl,?_⟩
 by_cases hc:0<r
 ·refine lj hc ?_
  refine⟨_,rfl,p,_,_,_,rfl,rfl,SqL.of hp,rfl,_,rfl,_,_,rfl,rfl,h1,?_⟩
  refine⟨_,rfl,p,_,_,_,rfl,rfl,SqL.of hp,rfl,_,rfl,_,_,rfl,rfl,⟨h1,cw h1 h2⟩,?_⟩
  refine⟨_,rfl,p,_,_,_,rfl,rfl,hp,rfl,?_⟩
  refine⟨_,rfl,?_⟩
  exact q _ _ (Int.emod_nonneg _ (by omega)) (Int.emod_lt_of_pos _ h1) ⟨_,_,ah⟩ SameX.upd
 ·refine cM hc ?_
  refine⟨_,rfl,p,_,_,_,rfl,rfl,SqL.of hp,rfl,_,_,rfl,rfl,.inr ⟨by decide,by decide⟩,_,_,rfl,rfl,(by show (0:Int)<2147483647; decide),?_⟩
  refine⟨_,rfl,p,_,_,_,rfl,rfl,hp,rfl,?_⟩
  refine⟨_,rfl,p,_,_,_,rfl,rfl,SqL.of ah,rfl,_,rfl,p,_,_,_,rfl,rfl,SqL.of ah,rfl,_,_,rfl,rfl,⟨by decide,by decide⟩,_,_,rfl,rfl,.inl ⟨by decide,by decide⟩,_,_,rfl,rfl,_,_,rfl,rfl,.inr ⟨by decide,by decide⟩,_,_,rfl,rfl,(by show (0:Int)<2147483629; decide),?_⟩
  refine⟨_,rfl,_,_,rfl,rfl,.inr ⟨by decide,by decide⟩,_,rfl,p,_,_,_,rfl,rfl,SqL.of ah,rfl,_,_,rfl,rfl,⟨by decide,by decide⟩,_,_,rfl,rfl,_,_,rfl,rfl,(by show (0:Int)<2147483399; decide),?_⟩
  refine⟨_,rfl,_,_,rfl,rfl,.inr ⟨by decide,by decide⟩,_,rfl,_,_,rfl,rfl,_,rfl,_,_,rfl,rfl,h1,?_⟩
  exact q _ _ (Int.emod_nonneg _ (by omega)) (Int.emod_lt_of_pos _ h1) ⟨_,_,ah⟩ SameX.upd
theorem i7 {f:Addr}{fd:FuncData}(F:Fun K "_law_divisor" "_law_divisor" cG f fd) (T:Txt K mg c) (H__law_draw:Has P w K mg base 1 "_law_draw" ["_law_state","_law_size"] gE):FnOk P w K mg base CX0 2 f fd ["_law_state","_law_width"] spDiv:=by
 refine F.ok sc__law_divisor (fun vs H Q E h=>?_) (fun cdv A outer s H vs Q E hr h=>?_)
 ·obtain⟨p,i,rfl,_⟩:=h
  rfl
 obtain⟨p,i,rfl,hb,h1,h2,q⟩:=h
 have pb:=aE h1 h2
 refine⟨_,(af (aw (i:=2) sc__law_divisor.nd rfl (Or.inl rfl) (ap aQ (ap aS ac (pv 1)) ac))
  (af (aw (i:=3) sc__law_divisor.nd rfl (Or.inl rfl) (av H__law_draw (hr.mono (by omega)) rfl (aa (pv 0) (aa ac ae))))
  (af (aB (ar aO (pv 3) ac (ax _))
   (ag (aq (ap aS ac (av H__law_draw (hr.mono (by omega)) rfl (aa (pv 0) (aa (pv 1) ae))))))
   au)
  (af (aB (ar aO (pv 3) ac (ax _))
   (ag (aq (ap aQ (pv 2) (av H__law_draw (hr.mono (by omega)) rfl (aa (pv 0) (aa ac ae))))))
   au)
  (af (aB (ar aO (pv 3) ac (ax _))
   (ag (aq (ap aA ac (av H__law_draw (hr.mono (by omega)) rfl (aa (pv 0) (aa ac ae))))))
   au)
  (af (aB (ar aO (pv 3) ac (ax _))
   (af (aw (i:=4) sc__law_divisor.nd rfl (Or.inl rfl) (ap nu (pv 1) ac))
   (ag (aq (ap aS (ap aA ac (av H__law_draw (hr.mono (by omega)) rfl (aa (pv 0) (aa (ap aS ac (ap aQ (pv 1) (pv 4))) ae)))) (av H__law_draw (hr.mono (by omega)) rfl (aa (pv 0) (aa (pv 4) ae)))))))
   au)
  (ag (aq (ap aA ac (av H__law_draw (hr.mono (by omega)) rfl (aa (pv 0) (aa (pv 2) ae)))))))))))),?_⟩
 refine⟨_,rfl,_,_,rfl,rfl,dC (by omega) (by omega),_,_,rfl,rfl,?_⟩
 refine⟨_,rfl,p,_,rfl,hb,by decide,by decide,fun k H1 k0 k1 b1 x1=>?_⟩
 refine⟨_,rfl,rfl,_,rfl,?_⟩
 by_cases c0:V.int k=V.int 0
 ·refine lj c0 ?_
  refine⟨_,rfl,_,rfl,p,_,rfl,b1,by omega,by omega,fun e H2 e0 e1 b2 x2=>⟨_,_,rfl,rfl,dC e0 (by omega),?_⟩⟩
  have a1:=p1_pos e.toNat
  have a2:(2:Int)^(e.toNat+1)<=2^i.toNat:=dG (by omega)
  rw[pow_succ] at a2
  exact q _ _ (by omega) (by omega) b2 (x1.trans x2)
 refine cM c0 ?_
 refine⟨_,rfl,rfl,_,rfl,?_⟩
 by_cases c1:V.int k=V.int 1
 ·refine lj c1 ?_
  refine⟨_,rfl,_,rfl,p,_,rfl,b1,by decide,by decide,fun e H2 e0 e1 b2 x2=>⟨_,_,rfl,rfl,?_⟩⟩
  exact q _ _ (by omega) (by omega) b2 (x1.trans x2)
 refine cM c1 ?_
 refine⟨_,rfl,rfl,_,rfl,?_⟩
 by_cases c2:V.int k=V.int 2
 ·refine lj c2 ?_
  refine⟨_,rfl,p,_,rfl,b1,by decide,by decide,fun e H2 e0 e1 b2 x2=>⟨_,_,rfl,rfl,?_⟩⟩
  exact q _ _ (by omega) (by omega) b2 (x1.trans x2)
 refine cM c2 ?_
 refine⟨_,rfl,rfl,_,rfl,?_⟩
 by_cases c3:V.int k=V.int 3
 ·refine lj c3 ?_
  refine⟨_,rfl,_,_,rfl,rfl,⟨by decide,by decide⟩,?_⟩
  have a3:(2:Int)^(i-i/2).toNat<=2^32:=dG (by omega)
  have a4:=p1_pos (i-i/2).toNat
  refine⟨_,rfl,_,rfl,_,rfl,_,_,rfl,rfl,_,_,rfl,rfl,dC (by omega) (by omega),p,_,rfl,b1,a4,by omega,fun e H2 e0 e1 b2 x2=>⟨_,_,rfl,rfl,_,rfl,_,rfl,p,_,rfl,b2,by omega,by omega,fun f H3 f0 f1 b3 x3=>⟨_,_,rfl,rfl,⟨f0,by omega,by omega⟩,?_⟩⟩⟩
  have a5:(2:Int)^((i-i/2).toNat+f.toNat+1)<=2^i.toNat:=dG (by omega)
  rw[pow_succ,pow_add] at a5
  have a6:=gJ f.toNat
  have a7:(1+e)*2^f.toNat<=2^(i-i/2).toNat*2^f.toNat:=mul_le_mul_of_nonneg_right (by omega) (by omega)
  have a8:1*2^f.toNat<=(1+e)*2^f.toNat:=mul_le_mul_of_nonneg_right (by omega) (by omega)
  exact q _ _ (by omega) (by omega) b3 (x1.trans (x2.trans x3))
 refine cM c3 ?_
 refine⟨_,rfl,_,rfl,p,_,rfl,b1,by omega,by omega,fun e H2 e0 e1 b2 x2=>⟨_,_,rfl,rfl,?_⟩⟩
 exact q _ _ (by omega) (by omega) b2 (x1.trans x2)
theorem lV {f:Addr}{fd:FuncData}(F:Fun K "_law_twos" "_law_twos" fA f fd) (T:Txt K mg c) :FnOk P w K mg base CX0 1 f fd ["_law_d"] ij:=by
 refine F.ok sc__law_twos (fun vs H Q E h=>?_) (fun cdv A outer s H vs Q E hr h=>?_)
 ·obtain⟨d,rfl,_⟩:=h
  rfl
 obtain⟨D,rfl,d1,q⟩:=h
 refine⟨_,(af (aw (i:=1) sc__law_twos.nd rfl (Or.inl rfl) ac)
  (af (iK PassesOwn.never (ar aO (ap dX (pv 0) ac) ac (ax _))
   (af (aw (i:=0) sc__law_twos.nd rfl (Or.inl rfl) (ap nu (pv 0) ac))
   (ag (aw (i:=1) sc__law_twos.nd rfl (Or.inl rfl) (ap aA (pv 1) ac)))))
  (ag (aq (pv 1))))),?_⟩
 refine iO (fun σ H1=>∃ d t:Int,σ=[some (.int d),some (.int t)]/\H1=H/\1<=d/\0<=t/\D=d*2^t.toNat) (fun σ _=>match σ with | [some (.int d),_]=>d.toNat | _=>0) ⟨D,0,rfl,rfl,d1,by decide,by show D=D*2^0; rw[pow_zero,mul_one]⟩ ?_ ?_
 ·rintro σ H1 ⟨d,t,rfl,rfl,d0,t0,e⟩
  refine⟨_,rfl,_,_,rfl,rfl,(by show (0:Int)<2; decide),rfl,_,rfl,?_⟩
  by_cases hc:d%2=0
  ·refine lj (congrArg V.int hc) ?_
   refine⟨_,rfl,_,_,rfl,rfl,⟨by decide,by decide⟩,?_⟩
   refine⟨_,rfl,_,_,rfl,rfl,?_⟩
   refine⟨⟨d/2,t+1,rfl,rfl,by omega,by omega,qG t0 e hc⟩,?_⟩
   show (d/2).toNat<d.toNat
   omega
  ·refine cM (fun z=>hc (by injection z)) ?_
   exact⟨_,rfl,q t (qY t0 e hc)⟩
 ·rintro σ H1 Q1 Q2 hQ ⟨v,hv,a,b,c,d,e,f,k,hk,q1⟩
  exact⟨v,hv,a,b,c,d,e,f,k,hk,hQ _ _ q1⟩
theorem pI {f:Addr}{fd:FuncData}(F:Fun K "twos_in" "twos_in" jb f fd) (T:Txt K mg c) :FnOk P w K mg base CX0 1 f fd ["d"] ij:=by
 refine F.ok sc_twos_in (fun vs H Q E h=>?_) (fun cdv A outer s H vs Q E hr h=>?_)
 ·obtain⟨d,rfl,_⟩:=h
  rfl
 obtain⟨D,rfl,d1,q⟩:=h
 refine⟨_,(af (aw (i:=1) sc_twos_in.nd rfl (Or.inl rfl) ac)
  (af (iK PassesOwn.never (ar aO (ap dX (pv 0) ac) ac (ax _))
   (af (aw (i:=0) sc_twos_in.nd rfl (Or.inl rfl) (ap nu (pv 0) ac))
   (ag (aw (i:=1) sc_twos_in.nd rfl (Or.inl rfl) (ap aA (pv 1) ac)))))
  (ag (aq (pv 1))))),?_⟩
 refine iO (fun σ H1=>∃ d t:Int,σ=[some (.int d),some (.int t)]/\H1=H/\1<=d/\0<=t/\D=d*2^t.toNat) (fun σ _=>match σ with | [some (.int d),_]=>d.toNat | _=>0) ⟨D,0,rfl,rfl,d1,by decide,by show D=D*2^0; rw[pow_zero,mul_one]⟩ ?_ ?_
 ·rintro σ H1 ⟨d,t,rfl,rfl,d0,t0,e⟩
  refine⟨_,rfl,_,_,rfl,rfl,(by show (0:Int)<2; decide),rfl,_,rfl,?_⟩
  by_cases hc:d%2=0
  ·refine lj (congrArg V.int hc) ?_
   refine⟨_,rfl,_,_,rfl,rfl,⟨by decide,by decide⟩,?_⟩
   refine⟨_,rfl,_,_,rfl,rfl,?_⟩
   refine⟨⟨d/2,t+1,rfl,rfl,by omega,by omega,qG t0 e hc⟩,?_⟩
   show (d/2).toNat<d.toNat
   omega
  ·refine cM (fun z=>hc (by injection z)) ?_
   exact⟨_,rfl,q t (qY t0 e hc)⟩
 ·rintro σ H1 Q1 Q2 hQ ⟨v,hv,a,b,c,d,e,f,k,hk,q1⟩
  exact⟨v,hv,a,b,c,d,e,f,k,hk,hQ _ _ q1⟩
theorem kF {f:Addr}{fd:FuncData}(F:Fun K "corners_to" "corners_to" dU f fd) (T:Txt K mg c) :FnOk P w K mg base CX0 1 f fd ["last","d"] fY:=by
 refine F.ok sc_corners_to (fun vs H Q E h=>?_) (fun cdv A outer s H vs Q E hr h=>?_)
 ·obtain⟨last,d,rfl,_⟩:=h
  rfl
 obtain⟨last,d,rfl,l0,l1,d1,d2,q⟩:=h
 refine⟨_,(af (aw (i:=2) sc_corners_to.nd rfl (Or.inl rfl) (ap bE (pv 0) (pv 1)))
  (af (aw (i:=3) sc_corners_to.nd rfl (Or.inl rfl) (bX (aa ac (aa (aW (mr rfl) rfl T.n_min boot_min (aa (ap aQ (pv 1) ac) (aa (pv 0) ae))) (aa (ap jl (pv 2) (pv 1)) (aa (pv 0) ae))))))
  (bj (aB (ar op_ne (pv 2) ac (ax _))
   (ag (aF (j7 PySem.F.plainAttrs_list PySem.F.slot_list_append PySem.F.type_list_append bW (pv 3) (aa (ap aQ (ap jl (pv 2) (pv 1)) ac) ae))))
   au)
  (ag (aq (aW (iY hr.hd) rfl T.n_sorted boot_sorted (aa (bg (call_set hr.hd) rfl T.n_set boot_set (aa (pv 3) ae)) ae))))))),?_⟩
 obtain⟨n0,n1,n2,n3,n4⟩:=cor_nums l0 l1 d1
 have lg:=cw (m:=d) (by omega) (by omega)
 refine⟨_,rfl,_,rfl,_,_,rfl,rfl,⟨by omega,lg⟩,?_⟩
 refine⟨_,rfl,_,_,rfl,rfl,_,rfl,_,_,rfl,_,rfl,_,rfl,_,_,rfl,rfl,⟨b200 (by omega) (by omega),b200 (by omega) (by omega)⟩,_,rfl,(by show 4<=sizeLine; decide),fun l hl=>?_⟩
 refine⟨fun σ2 HZ=>∃ ns:List Int,σ2=[some (.int last),some (.int d),some (.int (last/d)),some (.ref l)]/\HZ=upd H l (.lst (ns.map V.int))/\ns.length<=5/\∀ x,x∈ns ↔ CorM last d x,?_,?_⟩
 ·have em:(if last<d-1 then last else d-1)=(if d-1<last then d-1 else last):=by
   split <;> split <;> omega
  refine⟨_,rfl,rfl,_,rfl,?_⟩
  by_cases hq:last/d=0
  ·refine qo (congrArg V.int hq) ⟨[0,if last<d-1 then last else d-1,last/d*d,last],rfl,rfl,(by show 4<=5; decide),fun x=>?_⟩
   rw[em]
   unfold CorM
   simp only[mem_cons,not_mem_nil,or_false,hq,ne_eq,not_true_eq_false,false_and]
  ·refine iteN (fun z=>hq (by injection z)) ?_
   refine⟨_,rfl,.inl ⟨rfl,_,SqL.of ah⟩,_,rfl,_,rfl,_,_,rfl,rfl,⟨b200 (by omega) (by omega),b200 (by omega) (by omega)⟩,_,_,rfl,rfl,l,_,_,rfl,rfl,ah,(by show 4<sizeLine; decide),?_⟩
   refine⟨[0,if last<d-1 then last else d-1,last/d*d,last,last/d*d-1],rfl,?_,(by show 5<=5; decide),fun x=>?_⟩
   ·rw[upd_upd]
    rfl
   ·rw[em]
    unfold CorM
    simp only[mem_cons,not_mem_nil,or_false,hq,ne_eq,not_false_eq_true,true_and]
 rintro σ2 HZ ⟨ns,rfl,rfl,len,mem⟩
 refine⟨_,rfl,l,ns,rfl,SqL.of ah,by omega,fun p hp=>?_⟩
 refine⟨p,ns,rfl,ah,by omega,fun r zs hr' pw mz=>?_⟩
 have s1:=ak hl (.lst (ns.map V.int))
 have s2:Same H (upd (upd H l (.lst (ns.map V.int))) p (sI w p ns)):=s1.trans (ak hp _)
 exact q r zs _ (s2.free hr') ah (s2.trans (ak hr' _)) ⟨pw,fun x=>(mz x).trans (mem x)⟩ (len5 pw mz len)
theorem e9 {f:Addr}{fd:FuncData}(F:Fun K "__init__" "Shifted.__init__" bw f fd) (T:Txt K mg c) (H_is_shift:Has P w K mg base 3 "is_shift" ["thing"] pS):FnOk P w K mg base CX0 4 f fd ["self","shift"] (spI0 c):=by
 refine F.ok fj (fun vs H Q E h=>?_) (fun cdv A outer s H vs Q E hr h=>?_)
 ·obtain⟨x,dx,s,rfl,_⟩:=h
  rfl
 obtain⟨x,dx,s,rfl,hx,s0,s1,q⟩:=h
 refine⟨_,(af (eW (pv 0) (pv 1) rfl)
  (ag (aB (bt (aY (av H_is_shift (hr.mono (by omega)) rfl (aa (pv 1) ae))))
   (ag fZ)
   au))),?_⟩
 refine⟨_,rfl,_,rfl,x,_,dx,_,rfl,hx,T.cl_Shifted,T.na_Shifted_shift,(by show 0<1000; decide),?_⟩
 refine⟨_,rfl,_,rfl,s0,s1,_,rfl,cT ?_⟩
 exact q _ (SameX.upd) ⟨dx,ah⟩
theorem dI {f:Addr}{fd:FuncData}(F:Fun K "numbers_in" "Shifted.numbers_in" bc f fd) (T:Txt K mg c) (H_need_width:Has P w K mg base 3 "need_width" ["width"] fh):FnOk P w K mg base CX0 4 f fd ["self","width"] (cm c 0):=by
 refine F.ok eB (fun vs H Q E h=>?_) (fun cdv A outer s H vs Q E hr h=>?_)
 ·obtain⟨x,i,e,f,t,rfl,_⟩:=h
  rfl
 obtain⟨x,i,e,f,t,rfl,⟨dx,hx⟩,fm,h1,h2,q⟩:=h
 refine⟨_,(af (aF (av H_need_width (hr.mono (by omega)) rfl (aa (pv 1) ae)))
  (ag (aq (aG (aa ac (aa ac (aa ac (aa (ba (pv 0) rfl) ae)))))))),?_⟩
 have ez:=fm.e0
 refine⟨_,rfl,_,rfl,h1,h2,?_⟩
 refine⟨_,rfl,x,_,dx,_,_,rfl,hx,T.cl_Shifted,T.na_Shifted_shift,rfl,(by show 4<=sizeLine; decide),fun r hr'=>?_⟩
 obtain rfl:=ez (by decide)
 exact q r _ hr' ah (ak hr' _)
theorem gj {f:Addr}{fd:FuncData}(F:Fun K "__init__" "Scaled.__init__" bN f fd) (T:Txt K mg c) (H_is_factor:Has P w K mg base 3 "is_factor" ["thing"] qg) (H_is_shift:Has P w K mg base 3 "is_shift" ["thing"] pS):FnOk P w K mg base CX0 4 f fd ["self","factor","shift"] (spI2 c 1 0):=by
 refine F.ok gG (fun vs H Q E h=>?_) (fun cdv A outer s H vs Q E hr h=>?_)
 ·obtain⟨x,dx,f,s,rfl,_⟩:=h
  rfl
 obtain⟨x,dx,f,s,rfl,hx,f0,f1,s0,s1,q⟩:=h
 refine⟨_,(af (eW (pv 0) (pv 1) rfl)
  (af (eW (pv 0) (pv 2) rfl)
  (ag (aB (PW.pt (lr (bt (aY (av H_is_factor (hr.mono (by omega)) rfl (aa (pv 1) ae)))) (i6 (bt (aY (av H_is_shift (hr.mono (by omega)) rfl (aa (pv 2) ae)))))))
   (ag fZ)
   au)))),?_⟩
 refine⟨_,rfl,_,rfl,x,_,dx,_,rfl,hx,T.cl_Scaled,T.na_Scaled_factor,(by show 0<1000; decide),?_⟩
 refine⟨_,rfl,_,rfl,x,_,dx,_,rfl,ah,T.cl_Scaled,T.na_Scaled_shift,(by show 1<1000; decide),?_⟩
 refine⟨_,rfl,_,rfl,f0,f1,_,rfl,cT ?_⟩
 refine⟨_,rfl,_,rfl,s0,s1,_,rfl,cT ?_⟩
 exact q _ (SameX.upd.trans (SameX.upd)) ⟨dx,ah⟩
theorem eO {f:Addr}{fd:FuncData}(F:Fun K "numbers_in" "Scaled.numbers_in" br f fd) (T:Txt K mg c) (H_need_width:Has P w K mg base 3 "need_width" ["width"] fh):FnOk P w K mg base CX0 4 f fd ["self","width"] (cm c 1):=by
 refine F.ok eN (fun vs H Q E h=>?_) (fun cdv A outer s H vs Q E hr h=>?_)
 ·obtain⟨x,i,e,f,t,rfl,_⟩:=h
  rfl
 obtain⟨x,i,e,f,t,rfl,⟨dx,hx⟩,fm,h1,h2,q⟩:=h
 refine⟨_,(af (aF (av H_need_width (hr.mono (by omega)) rfl (aa (pv 1) ae)))
  (ag (aq (aG (aa ac (aa (ba (pv 0) rfl) (aa ac (aa (ap aA (pv 1) (ba (pv 0) rfl)) ae)))))))),?_⟩
 have ez:=fm.e0
 refine⟨_,rfl,_,rfl,h1,h2,?_⟩
 refine⟨_,rfl,x,_,dx,_,_,rfl,hx,T.cl_Scaled,T.na_Scaled_factor,rfl,_,rfl,_,rfl,x,_,dx,_,_,rfl,hx,T.cl_Scaled,T.na_Scaled_shift,rfl,_,_,rfl,rfl,(by show 4<=sizeLine; decide),fun r hr'=>?_⟩
 obtain rfl:=ez (by decide)
 exact q r _ hr' ah (ak hr' _)
theorem gH {f:Addr}{fd:FuncData}(F:Fun K "__init__" "Early.__init__" ca f fd) (T:Txt K mg c) (H_is_shift:Has P w K mg base 3 "is_shift" ["thing"] pS) (H_is_factor:Has P w K mg base 3 "is_factor" ["thing"] qg):FnOk P w K mg base CX0 4 f fd ["self","early","factor","shift"] (spI3 c):=by
 refine F.ok gW (fun vs H Q E h=>?_) (fun cdv A outer s H vs Q E hr h=>?_)
 ·obtain⟨x,dx,e,f,s,rfl,_⟩:=h
  rfl
 obtain⟨x,dx,e,f,s,rfl,hx,e0,e1,f0,f1,s0,s1,q⟩:=h
 refine⟨_,(af (eW (pv 0) (pv 1) rfl)
  (af (eW (pv 0) (pv 2) rfl)
  (af (eW (pv 0) (pv 3) rfl)
  (ag (aB (PW.pt (lr (bt (aY (av H_is_shift (hr.mono (by omega)) rfl (aa (pv 1) ae)))) (lr (bt (aY (av H_is_factor (hr.mono (by omega)) rfl (aa (pv 2) ae)))) (i6 (bt (aY (av H_is_shift (hr.mono (by omega)) rfl (aa (pv 3) ae))))))))
   (ag fZ)
   au))))),?_⟩
 refine⟨_,rfl,_,rfl,x,_,dx,_,rfl,hx,T.cl_Early,T.na_Early_early,(by show 0<1000; decide),?_⟩
 refine⟨_,rfl,_,rfl,x,_,dx,_,rfl,ah,T.cl_Early,T.na_Early_factor,(by show 1<1000; decide),?_⟩
 refine⟨_,rfl,_,rfl,x,_,dx,_,rfl,ah,T.cl_Early,T.na_Early_shift,(by show 2<1000; decide),?_⟩
 refine⟨_,rfl,_,rfl,e0,e1,_,rfl,cT ?_⟩
 refine⟨_,rfl,_,rfl,f0,f1,_,rfl,cT ?_⟩
 refine⟨_,rfl,_,rfl,s0,s1,_,rfl,cT ?_⟩
 exact q _ (SameX.upd.trans (SameX.upd.trans (SameX.upd))) ⟨dx,ah⟩
theorem fB {f:Addr}{fd:FuncData}(F:Fun K "numbers_in" "Early.numbers_in" bC f fd) (T:Txt K mg c) (H_need_width:Has P w K mg base 3 "need_width" ["width"] fh):FnOk P w K mg base CX0 4 f fd ["self","width"] (cm c 2):=by
 refine F.ok fP (fun vs H Q E h=>?_) (fun cdv A outer s H vs Q E hr h=>?_)
 ·obtain⟨x,i,e,f,t,rfl,_⟩:=h
  rfl
 obtain⟨x,i,e,f,t,rfl,⟨dx,hx⟩,fm,h1,h2,q⟩:=h
 refine⟨_,(af (aF (av H_need_width (hr.mono (by omega)) rfl (aa (pv 1) ae)))
  (ag (aq (aG (aa (ba (pv 0) rfl) (aa (ba (pv 0) rfl) (aa ac (aa (ap aA (pv 1) (ba (pv 0) rfl)) ae)))))))),?_⟩
 have ez:=fm.e0
 refine⟨_,rfl,_,rfl,h1,h2,?_⟩
 refine⟨_,rfl,x,_,dx,_,_,rfl,hx,T.cl_Early,T.na_Early_early,rfl,_,rfl,x,_,dx,_,_,rfl,hx,T.cl_Early,T.na_Early_factor,rfl,_,rfl,_,rfl,x,_,dx,_,_,rfl,hx,T.cl_Early,T.na_Early_shift,rfl,_,_,rfl,rfl,(by show 4<=sizeLine; decide),fun r hr'=>?_⟩
 exact q r _ hr' ah (ak hr' _)
theorem iJ {f:Addr}{fd:FuncData}(F:Fun K "__init__" "More.__init__" cr f fd) (T:Txt K mg c) (H_is_factor:Has P w K mg base 3 "is_factor" ["thing"] qg) (H_is_shift:Has P w K mg base 3 "is_shift" ["thing"] pS):FnOk P w K mg base CX0 4 f fd ["self","factor","shift"] (spI2 c 3 0):=by
 refine F.ok iu (fun vs H Q E h=>?_) (fun cdv A outer s H vs Q E hr h=>?_)
 ·obtain⟨x,dx,f,s,rfl,_⟩:=h
  rfl
 obtain⟨x,dx,f,s,rfl,hx,f0,f1,s0,s1,q⟩:=h
 refine⟨_,(af (eW (pv 0) (pv 1) rfl)
  (af (eW (pv 0) (pv 2) rfl)
  (ag (aB (PW.pt (lr (bt (aY (av H_is_factor (hr.mono (by omega)) rfl (aa (pv 1) ae)))) (i6 (bt (aY (av H_is_shift (hr.mono (by omega)) rfl (aa (pv 2) ae)))))))
   (ag fZ)
   au)))),?_⟩
 refine⟨_,rfl,_,rfl,x,_,dx,_,rfl,hx,T.cl_More,T.na_More_factor,(by show 0<1000; decide),?_⟩
 refine⟨_,rfl,_,rfl,x,_,dx,_,rfl,ah,T.cl_More,T.na_More_shift,(by show 1<1000; decide),?_⟩
 refine⟨_,rfl,_,rfl,f0,f1,_,rfl,cT ?_⟩
 refine⟨_,rfl,_,rfl,s0,s1,_,rfl,cT ?_⟩
 exact q _ (SameX.upd.trans (SameX.upd)) ⟨dx,ah⟩
theorem gy {f:Addr}{fd:FuncData}(F:Fun K "numbers_in" "More.numbers_in" bT f fd) (T:Txt K mg c) (H_need_width:Has P w K mg base 3 "need_width" ["width"] fh):FnOk P w K mg base CX0 4 f fd ["self","width"] (cm c 3):=by
 refine F.ok gh (fun vs H Q E h=>?_) (fun cdv A outer s H vs Q E hr h=>?_)
 ·obtain⟨x,i,e,f,t,rfl,_⟩:=h
  rfl
 obtain⟨x,i,e,f,t,rfl,⟨dx,hx⟩,fm,h1,h2,q⟩:=h
 refine⟨_,(af (aF (av H_need_width (hr.mono (by omega)) rfl (aa (pv 1) ae)))
  (ag (aq (aG (aa ac (aa (ba (pv 0) rfl) (aa (ba (pv 0) rfl) (aa (ap aA (pv 1) (ba (pv 0) rfl)) ae)))))))),?_⟩
 have ez:=fm.e0
 refine⟨_,rfl,_,rfl,h1,h2,?_⟩
 refine⟨_,rfl,x,_,dx,_,_,rfl,hx,T.cl_More,T.na_More_factor,rfl,_,rfl,x,_,dx,_,_,rfl,hx,T.cl_More,T.na_More_factor,rfl,_,rfl,_,rfl,x,_,dx,_,_,rfl,hx,T.cl_More,T.na_More_shift,rfl,_,_,rfl,rfl,(by show 4<=sizeLine; decide),fun r hr'=>?_⟩
 obtain rfl:=ez (by decide)
 exact q r _ hr' ah (ak hr' _)
theorem iG {f:Addr}{fd:FuncData}(F:Fun K "__init__" "Wide.__init__" cB f fd) (T:Txt K mg c) (H_is_factor:Has P w K mg base 3 "is_factor" ["thing"] qg) (H_is_between:Has P w K mg base 2 "is_between" ["thing","low","high"] dY):FnOk P w K mg base CX0 4 f fd ["self","factor","shift"] (spI2 c 4 1):=by
 refine F.ok iA (fun vs H Q E h=>?_) (fun cdv A outer s H vs Q E hr h=>?_)
 ·obtain⟨x,dx,f,s,rfl,_⟩:=h
  rfl
 obtain⟨x,dx,f,s,rfl,hx,f0,f1,s0,s1,q⟩:=h
 refine⟨_,(af (eW (pv 0) (pv 1) rfl)
  (af (eW (pv 0) (pv 2) rfl)
  (ag (aB (PW.pt (lr (bt (aY (av H_is_factor (hr.mono (by omega)) rfl (aa (pv 1) ae)))) (i6 (bt (aY (av H_is_between (hr.mono (by omega)) rfl (aa (pv 2) (aa ac (aa ac ae)))))))))
   (ag fZ)
   au)))),?_⟩
 refine⟨_,rfl,_,rfl,x,_,dx,_,rfl,hx,T.cl_Wide,T.na_Wide_factor,(by show 0<1000; decide),?_⟩
 refine⟨_,rfl,_,rfl,x,_,dx,_,rfl,ah,T.cl_Wide,T.na_Wide_shift,(by show 1<1000; decide),?_⟩
 refine⟨_,rfl,_,rfl,f0,f1,_,rfl,cT ?_⟩
 refine⟨_,rfl,_,_,_,rfl,s0,s1,_,rfl,cT ?_⟩
 exact q _ (SameX.upd.trans (SameX.upd)) ⟨dx,ah⟩
theorem gu {f:Addr}{fd:FuncData}(F:Fun K "numbers_in" "Wide.numbers_in" bQ f fd) (T:Txt K mg c) (H_need_width:Has P w K mg base 3 "need_width" ["width"] fh):FnOk P w K mg base CX0 4 f fd ["self","width"] (cm c 4):=by
 refine F.ok gF (fun vs H Q E h=>?_) (fun cdv A outer s H vs Q E hr h=>?_)
 ·obtain⟨x,i,e,f,t,rfl,_⟩:=h
  rfl
 obtain⟨x,i,e,f,t,rfl,⟨dx,hx⟩,fm,h1,h2,q⟩:=h
 refine⟨_,(af (aF (av H_need_width (hr.mono (by omega)) rfl (aa (pv 1) ae)))
  (ag (aq (aG (aa ac (aa (ap aA (ap aS ac (pv 1)) (ba (pv 0) rfl)) (aa ac (aa (ap aA (pv 1) (ba (pv 0) rfl)) ae)))))))),?_⟩
 have ez:=fm.e0
 refine⟨_,rfl,_,rfl,h1,h2,?_⟩
 refine⟨_,rfl,_,_,rfl,rfl,dC (by omega) (by omega),_,rfl,x,_,dx,_,_,rfl,hx,T.cl_Wide,T.na_Wide_factor,rfl,_,_,rfl,rfl,_,rfl,_,rfl,x,_,dx,_,_,rfl,hx,T.cl_Wide,T.na_Wide_shift,rfl,_,_,rfl,rfl,(by show 4<=sizeLine; decide),fun r hr'=>?_⟩
 obtain rfl:=ez (by decide)
 exact q r _ hr' ah (ak hr' _)
theorem p7 {f:Addr}{fd:FuncData}(F:Fun K "brought" "brought" jj f fd) (T:Txt K mg c) :FnOk P w K mg base CX0 1 f fd ["reckoning","x"] ll:=by
 refine F.ok pE (fun vs H Q E h=>?_) (fun cdv A outer s H vs Q E hr h=>?_)
 ·obtain⟨r,e,f,a,t,x,rfl,_⟩:=h
  rfl
 obtain⟨r,e,f,a,t,x,rfl,ht,⟨e0,e1,f0,f1,a0,a1,t0,t1⟩,x0,x1,q⟩:=h
 refine⟨_,(ag (aq (ap sN (ap aA (ap jl (bo bV (pv 0) ac (fun _ _=>rfl)) (ap sN (pv 1) (bo bV (pv 0) ac (fun _ _=>rfl)))) (bo bV (pv 0) ac (fun _ _=>rfl))) (bo bV (pv 0) ac (fun _ _=>rfl))))),?_⟩
 have z:=xdiv x0 e
 unfold IsG at ht
 walk_at "o"
 exact q
theorem mh {f:Addr}{fd:FuncData}(F:Fun K "is_factor" "is_factor" fG f fd) (T:Txt K mg c) (H_is_between:Has P w K mg base 2 "is_between" ["thing","low","high"] dY):FnOk P w K mg base CX0 3 f fd ["thing"] qg:=by
 refine F.ok lN (fun vs H Q E h=>?_) (fun cdv A outer s H vs Q E hr h=>?_)
 ·obtain⟨i,rfl,_⟩:=h
  rfl
 obtain⟨i,rfl,h1,h2,q⟩:=h
 refine⟨_,(ag (aq (av H_is_between (hr.mono (by omega)) rfl (aa (pv 0) (aa ac (aa (ap aQ (ap ip ac ac) ac) ae)))))),?_⟩
 exact⟨_,rfl,_,_,rfl,rfl,⟨by decide,by decide,by decide⟩,_,_,rfl,rfl,_,_,_,rfl,h1,by rw[pow32]; omega,q⟩
theorem oy {f:Addr}{fd:FuncData}(F:Fun K "is_shift" "is_shift" hZ f fd) (T:Txt K mg c) (H_is_between:Has P w K mg base 2 "is_between" ["thing","low","high"] dY):FnOk P w K mg base CX0 3 f fd ["thing"] pS:=by
 refine F.ok nX (fun vs H Q E h=>?_) (fun cdv A outer s H vs Q E hr h=>?_)
 ·obtain⟨i,rfl,_⟩:=h
  rfl
 obtain⟨i,rfl,h1,h2,q⟩:=h
 refine⟨_,(ag (aq (av H_is_between (hr.mono (by omega)) rfl (aa (pv 0) (aa ac (aa ac ae)))))),?_⟩
 exact⟨_,rfl,_,_,_,rfl,h1,h2,q⟩
theorem mU {f:Addr}{fd:FuncData}(F:Fun K "right_to" "right_to" hE f fd) (T:Txt K mg c) (H_brought:Has P w K mg base 1 "brought" ["reckoning","x"] ll) (H_corners_to:Has P w K mg base 1 "corners_to" ["last","d"] fY):FnOk P w K mg base CX0 2 f fd ["last","d","reckoning"] cF:=by
 refine F.ok ny (fun vs H Q E h=>?_) (fun cdv A outer s H vs Q E hr h=>?_)
 ·obtain⟨last,d,r,e,f,a,t,rfl,_⟩:=h
  rfl
 obtain⟨last,d,r,e,f,a,t,rfl,l0,l1,d1,d2,ht,rg,hd,q⟩:=h
 refine⟨_,(ag (aq (aW (mO rfl) rfl T.n_all boot_all (aa (kI [2,1] ["reckoning","d"] rfl (by first | rfl | with_unfolding_all rfl) (by rfl) (by exact(List.forall_mem_cons.mpr ⟨rfl,(List.forall_mem_cons.mpr ⟨rfl,(fun _ h=>nomatch h)⟩)⟩)) (by decide +kernel) rfl (by decide +kernel) rfl (by decide +kernel) (by exact(List.forall_mem_cons.mpr ⟨⟨by first | exact Or.inl rfl | exact Or.inr rfl,rfl⟩,(List.forall_mem_cons.mpr ⟨⟨by first | exact Or.inl rfl | exact Or.inr rfl,rfl⟩,(fun _ h=>nomatch h)⟩)⟩)) rfl (by rfl) (i0 (av H_corners_to (hr.mono (by omega)) rfl (aa (pv 0) (aa (pv 1) ae)))) (fun C s2 H2 fp=>(iR aO (av H_brought (hr.mono (by omega)) rfl (aa (pv 1) (aa (pv 0) ae))) (ap bE (pv 0) (pv 2)) (ax _)))) ae)))),?_⟩
 have lg:=cw (m:=d) (by omega) (by omega)
 refine⟨_,rfl,_,rfl,_,_,rfl,l0,l1,d1,d2,fun p zs H' fp hp s1 cor ln=>?_⟩
 refine⟨p,rfl,⟨_,SqL.of hp⟩,fun D hD=>?_⟩
 refine jA (K:=K) (a:=p) (te':=tOp rEq (cU ll [] E0 (aX (dF 1) (aX (dF 0) li))) (tOp (rI (fun _ j=>0<j/\j.natAbs.log2<9000) fun i j=>V.int (i/j)) (dF 0) (dF 2))) (xs:=zs.map V.int) (fun j H1=>Same H' H1/\H1 D=some (.lst ((zs.take j).map fun z=>V.bl (decide (V.int (brt e f a t z)=V.int (z/d)))))) ⟨ak hD _,ah⟩ (fun j H1 _ ⟨s2,_⟩=>SqL.of (s2 _ _ hp)) ?_ ?_
 ·rintro j y H1 hj ⟨s2,hd1⟩
  rw[List.getElem?_map] at hj
  cases hz:zs[j]? with
  | none=>rw[hz] at hj; cases hj
  | some z =>
   rw[hz] at hj
   cases hj
   have hjl:=(List.getElem?_eq_some_iff.mp hz).1
   obtain⟨z0,z1⟩:=((cor.2 z).mp (mem_of_getElem? hz)).range l0 d1
   have hl2:(zs.map V.int).length=zs.length:=length_map _
   refine⟨_,rfl,_,rfl,r,e,f,a,t,z,rfl,s2 _ _ (s1 _ _ ht),rg,z0,by omega,_,rfl,_,rfl,_,_,rfl,rfl,⟨by omega,lg⟩,rfl,_,hd1,?_,(zs.map V.int).length-(j+1),by omega,rfl,by omega,?_,?_⟩
   ·rw[length_map,length_take,sizeLine_eq]
    omega
   ·exact fun b o h=>by rw[ao (az h hD)]; exact s2 b o h
   ·rw[ah,List.take_succ,hz,map_append]
    rfl
 ·rintro H1 ⟨s2,hd1⟩
  rw[length_map,List.take_length] at hd1
  have hd2:H1 D=some (.lst ((zs.map fun z=>decide (V.int (brt e f a t z)=V.int (z/d))).map V.bl)):=by rw[hd1,map_map]; rfl
  refine⟨D,_,rfl,SqL.of hd2,q _ H1 (s1.trans s2) ?_⟩
  rw[<- lG l0 d1 rg.2.2.1 rg.2.2.2.2.1 hd,List.all_map,List.all_eq_true]
  constructor
  ·intro h x hx
   have z:=h x ((cor.2 x).mpr hx)
   have z2:=of_decide_eq_true (show decide (V.int (brt e f a t x)=V.int (x/d))=true from z)
   injection z2
  ·intro h x hx
   exact decide_eq_true (congrArg V.int (h x ((cor.2 x).mp hx)))
theorem iF {f:Addr}{fd:FuncData}(F:Fun K "first_failing" "first_failing" cz f fd) (T:Txt K mg c)  (H_right_to:Has P w K mg base 2 "right_to" ["last","d","reckoning"] cF):FnOkS P w K mg base CX0 4 f fd ["last","holds"] (spFF K):=by
 refine F.okS sc_first_failing (fun o s vs H Q E h=>?_) (fun cdv A outer s H vs Q E hr h=>?_)
 ·obtain⟨last,g,d,r,e,f,a,t,cl,rfl,_⟩:=h
  rfl
 obtain⟨last,g,d,r,e',fa,a',t,cl,rfl,l0,l1,d1,d2,ir,clo,C,hfree,q⟩:=h
 refine⟨_,(af (aw (i:=2) sc_first_failing.nd rfl (Or.inl rfl) ac)
  (af (aw (i:=3) sc_first_failing.nd rfl (Or.inl rfl) (pv 0))
  (af (iK PassesOwn.never (ar nG (pv 2) (pv 3) (ax _))
   (af (aw (i:=4) sc_first_failing.nd rfl (Or.inl rfl) (ap bE (ap aA (pv 2) (pv 3)) ac))
   (ag (aB (aY (oW (name:="<lambda>") (qual:=lmQ) (params:=je lm) (body:=jr lm) (scope:=bn lm) (cl:=cl) (ns:=["d","reckoning"]) (vals:=[.int d,.ref r]) (x:="n") (i:=1) rfl rfl hr rfl (Or.inl rfl) C rfl (fun _ _ _ _=>rfl) rfl rfl (by decide +kernel) rfl rfl (by decide +kernel) hfree (pv 4) (fun f c' s H=>(av H_right_to ((hr.mono (j:=3) (by omega)).deeper _) rfl (aa (pv 0) (aa (pv 1) (aa (pv 2) ae)))))))
    (ag (aw (i:=2) sc_first_failing.nd rfl (Or.inl rfl) (ap aA (pv 4) ac)))
    (ag (aw (i:=3) sc_first_failing.nd rfl (Or.inl rfl) (pv 4)))))))
  (ag (aq (pv 2)))))),?_⟩
 refine⟨_,rfl,?_⟩
 refine iO (fun σ H1=>∃ (lo hi:Int) (mid:Option V),σ=[some (.int last),some (.ref g),some (.int lo),some (.int hi),mid]/\Same H H1/\0<=lo/\lo<=hi/\hi<=last/\(∀ n,n<lo->AllG e' fa a' t d n)/\(hi=last\/¬ AllG e' fa a' t d hi)) (fun σ _=>match σ with | [_,_,some (.int lo),some (.int hi),_]=>(hi-lo).toNat | _=>0) ⟨0,last,_,rfl,Same.refl _,Int.le_refl _,l0,Int.le_refl _,fun n hn x x0 x1=>by omega,.inl rfl⟩ ?_ ?_
 ·rintro σ H1 ⟨lo,hi,mid,rfl,sm,a0,a1,a2,al,wr⟩
  refine⟨_,rfl,_,rfl,_,_,rfl,rfl,_,rfl,?_⟩
  by_cases hc:lo<hi
  ·refine lj hc ?_
   have hm:0<=(lo+hi)/2/\lo<=(lo+hi)/2/\(lo+hi)/2<hi:=by omega
   refine⟨_,rfl,_,rfl,_,_,rfl,rfl,_,_,rfl,rfl,⟨by decide,by decide⟩,?_⟩
   refine⟨g,rfl,clo.mono sm,_,rfl,clo.mono sm,_,rfl,_,rfl,_,rfl,(lo+hi)/2,d,r,e',fa,a',t,rfl,hm.1,by omega,d1,d2,sm _ _ ir.1,ir.2.1,ir.2.2,fun b H2 s2 hb=>⟨_,rfl,?_⟩⟩
   cases b with
   | true =>
    refine iw ?_
    refine⟨_,rfl,_,_,rfl,rfl,⟨(lo+hi)/2+1,hi,_,rfl,sm.trans s2,by omega,by omega,a2,fun n hn=>(hb.mp rfl).mono (by omega),wr⟩,?_⟩
    show (hi-((lo+hi)/2+1)).toNat<(hi-lo).toNat
    omega
   | false =>
    refine cT ?_
    refine⟨_,rfl,⟨lo,(lo+hi)/2,_,rfl,sm.trans s2,a0,by omega,by omega,al,.inr fun z=>by have:=hb.mpr z; cases this⟩,?_⟩
    show ((lo+hi)/2-lo).toNat<(hi-lo).toNat
    omega
  ·refine cM hc ?_
   have e:lo=hi:=by omega
   exact⟨_,rfl,q lo H1 sm a0 (by omega) al (by rw[e]; exact wr)⟩
 ·rintro σ H1 Q1 Q2 hQ ⟨v,hv,u,hu,i,j,e1,e2,k,hk,q1⟩
  exact⟨v,hv,u,hu,i,j,e1,e2,k,hk,hQ _ _ q1⟩
theorem jF {f:Addr}{fd:FuncData}(F:Fun K "least_wrong" "least_wrong" aI f fd) (T:Txt K mg c) (H_right_to:Has P w K mg base 2 "right_to" ["last","d","reckoning"] cF) (H_first_failing:HasS P w K mg base 4 "first_failing" ["last","holds"] (spFF K)) (B:LamBase mg base cT0 PT0) (hcd:fd.code=.ref cT0):FnOk P w K mg base CX0 5 f fd ["width","d","reckoning"] (iU PT0):=by
 refine F.okC hcd sc_least_wrong (fun vs H Q E h=>?_) (fun A outer s H vs Q E hr h=>?_)
 ·obtain⟨i,d,r,e,f,a,t,rfl,_⟩:=h
  rfl
 obtain⟨i,d,r,e',fa,a',t,rfl,h1,h2,d1,d2,ir,to,q⟩:=h
 have hR:∀ pins σ H' s' vs Q,Inv (cQ CX0 P w K mg base ["width","d","reckoning","last"] "least_wrong" (aj aI) f (.ref cT0) A outer s H E).nox pins σ H' s'->RFF K s.heap.objs.size σ vs H' Q->spFF K ((cQ CX0 P w K mg base ["width","d","reckoning","last"] "least_wrong" (aj aI) f (.ref cT0) A outer s H E).nox).stack s' vs H' Q E0:=by
  rintro pins σ H' s' vs Q I ⟨w',last,g,d,r,e',fa,a',t,rfl,rfl,l0,l1,d1,d2,ir,clo,q⟩
  have hsub:∀ p∈clOf s.heap.objs.size,(cQ CX0 P w K mg base ["width","d","reckoning","last"] "least_wrong" (aj aI) f (.ref cT0) A outer s H E).nox.env.cells.lookup p.1=some p.2:=List.forall_mem_cons.mpr ⟨rfl,List.forall_mem_cons.mpr ⟨rfl,fun _ h=>nomatch h⟩⟩
  refine⟨last,g,d,r,e',fa,a',t,clOf s.heap.objs.size,rfl,l0,l1,d1,d2,ir,clo,I.cells (fun _=>rfl) (fun x c e=>hsub (x,c) (PySem.mem_of_lookup e)) (fun i y v e1 e2=>?_),aV (ns:=["reckoning","d"]) rfl (by decide +kernel),q⟩
  match i,e1,e2 with
  | 0,e1,e2 =>
   cases e1; cases e2
   exact⟨1,_,rfl,rfl,rfl,rfl⟩
  | 1,e1,e2 =>
   cases e1; cases e2
   exact⟨2,_,rfl,rfl,rfl,rfl⟩
  | n+2,e1,_=>simp at e1
 refine⟨_,(af (aw (i:=3) sc_least_wrong.nd rfl (Or.inl rfl) (ap aQ (ap aS ac (pv 0)) ac))
  (af (aB (aY (av H_right_to (hr.mono (by omega)) rfl (aa (pv 3) (aa (pv 1) (aa (pv 2) ae)))))
   (ag (aq cE))
   au)
  (ag (aq (pe_fnS (R:=RFF K s.heap.objs.size) H_first_failing (hr.mono (by omega)) rfl (aa (pv 3) (aa (pe_lam (qual:=lmQ) (cl:=clOf s.heap.objs.size) B rfl rfl rfl) ae)) hR))))),?_⟩
 have pb:=aE h1 h2
 have ei:(1:Int)*2^i.toNat=2^i.toNat:=one_mul _
 refine⟨_,rfl,_,_,rfl,rfl,dC (by omega) (by omega),_,_,rfl,rfl,?_⟩
 refine⟨_,rfl,_,rfl,_,rfl,_,d,r,e',fa,a',t,rfl,by omega,by omega,d1,by omega,ir.1,ir.2.1,ir.2.2,fun b H1 s1 hb=>⟨_,rfl,?_⟩⟩
 cases b with
 | true =>
  refine iw ?_
  exact q .non H1 (SameX.of s1) (aR to s1) (.inl ⟨rfl,hb.mp rfl⟩)
 | false =>
  refine cT ?_
  refine⟨_,rfl,aR to s1,fun g H2 sx fg clo to2=>?_⟩
  refine⟨i,1*2^i.toNat-1,g,d,r,e',fa,a',t,rfl,rfl,by omega,by omega,d1,by omega,⟨tupQ (s1 _ _ ir.1) (aR to s1) sx,ir.2⟩,clo,fun j H3 s3 j0 j1 al wr=>?_⟩
  refine q (.int j) H3 ((SameX.of s1).trans (SameX.trans sx (SameX.of s3))) (aR to2 s3) (.inr ⟨j,rfl,wrG_of j0 j1 al ?_⟩)
  rcases wr with rfl | h
  ·intro z
   have:=hb.mpr z
   cases this
  ·exact h
theorem iS {f:Addr}{fd:FuncData}(F:Fun K "word" "Shifted.word" cI f fd) (T:Txt K mg c) :FnOk P w K mg base CX0 1 f fd ["self"] (lY 0):=by
 refine F.ok i8 (fun vs H Q E h=>?_) (fun cdv A outer s H vs Q E hr h=>?_)
 ·obtain⟨x,rfl,_⟩:=h
  rfl
 obtain⟨x,rfl,q⟩:=h
 exact⟨_,(ag (aq aM)),q⟩
theorem iX {f:Addr}{fd:FuncData}(F:Fun K "told" "Shifted.told" cK f fd) (T:Txt K mg c)  (MW:MHas P w K mg base 1 c.Shifted "word" ["self"] (lY 0)):FnOk P w K mg base CX0 2 f fd ["self"] (dA c 0):=by
 refine F.ok iT (fun vs H Q E h=>?_) (fun cdv A outer s H vs Q E hr h=>?_)
 ·obtain⟨x,e,f,s,rfl,_⟩:=h
  rfl
 obtain⟨x,e,f,s,rfl,⟨dx,hx⟩,q⟩:=h
 refine⟨_,(ag (aq (aG (aa (bU (k:=1) (pv 0) (hr.mono (by omega))) (aa (ba (pv 0) rfl) ae))))),?_⟩
 refine⟨_,rfl,x,_,dx,_,_,_,rfl,hx,rfl,MW,x,rfl,_,rfl,x,_,dx,_,_,rfl,hx,T.cl_Shifted,T.na_Shifted_shift,rfl,(by show 2<=sizeLine; decide),fun r hr'=>q r _ hr' ah (ak hr' _)⟩
theorem jL {f:Addr}{fd:FuncData}(F:Fun K "word" "Scaled.word" da f fd) (T:Txt K mg c) :FnOk P w K mg base CX0 1 f fd ["self"] (lY 1):=by
 refine F.ok jM (fun vs H Q E h=>?_) (fun cdv A outer s H vs Q E hr h=>?_)
 ·obtain⟨x,rfl,_⟩:=h
  rfl
 obtain⟨x,rfl,q⟩:=h
 exact⟨_,(ag (aq aM)),q⟩
theorem jK {f:Addr}{fd:FuncData}(F:Fun K "told" "Scaled.told" de f fd) (T:Txt K mg c)  (MW:MHas P w K mg base 1 c.Scaled "word" ["self"] (lY 1)):FnOk P w K mg base CX0 2 f fd ["self"] (dA c 1):=by
 refine F.ok jE (fun vs H Q E h=>?_) (fun cdv A outer s H vs Q E hr h=>?_)
 ·obtain⟨x,e,f,s,rfl,_⟩:=h
  rfl
 obtain⟨x,e,f,s,rfl,⟨dx,hx⟩,q⟩:=h
 refine⟨_,(ag (aq (aG (aa (bU (k:=1) (pv 0) (hr.mono (by omega))) (aa (ba (pv 0) rfl) (aa (ba (pv 0) rfl) ae)))))),?_⟩
 refine⟨_,rfl,x,_,dx,_,_,_,rfl,hx,rfl,MW,x,rfl,_,rfl,x,_,dx,_,_,rfl,hx,T.cl_Scaled,T.na_Scaled_factor,rfl,_,rfl,x,_,dx,_,_,rfl,hx,T.cl_Scaled,T.na_Scaled_shift,rfl,(by show 3<=sizeLine; decide),fun r hr'=>q r _ hr' ah (ak hr' _)⟩
theorem kj {f:Addr}{fd:FuncData}(F:Fun K "word" "Early.word" dS f fd) (T:Txt K mg c) :FnOk P w K mg base CX0 1 f fd ["self"] (lY 2):=by
 refine F.ok kY (fun vs H Q E h=>?_) (fun cdv A outer s H vs Q E hr h=>?_)
 ·obtain⟨x,rfl,_⟩:=h
  rfl
 obtain⟨x,rfl,q⟩:=h
 exact⟨_,(ag (aq aM)),q⟩
theorem kT {f:Addr}{fd:FuncData}(F:Fun K "told" "Early.told" eu f fd) (T:Txt K mg c)  (MW:MHas P w K mg base 1 c.Early "word" ["self"] (lY 2)):FnOk P w K mg base CX0 2 f fd ["self"] (dA c 2):=by
 refine F.ok kQ (fun vs H Q E h=>?_) (fun cdv A outer s H vs Q E hr h=>?_)
 ·obtain⟨x,e,f,s,rfl,_⟩:=h
  rfl
 obtain⟨x,e,f,s,rfl,⟨dx,hx⟩,q⟩:=h
 refine⟨_,(ag (aq (aG (aa (bU (k:=1) (pv 0) (hr.mono (by omega))) (aa (ba (pv 0) rfl) (aa (ba (pv 0) rfl) (aa (ba (pv 0) rfl) ae))))))),?_⟩
 refine⟨_,rfl,x,_,dx,_,_,_,rfl,hx,rfl,MW,x,rfl,_,rfl,x,_,dx,_,_,rfl,hx,T.cl_Early,T.na_Early_early,rfl,_,rfl,x,_,dx,_,_,rfl,hx,T.cl_Early,T.na_Early_factor,rfl,_,rfl,x,_,dx,_,_,rfl,hx,T.cl_Early,T.na_Early_shift,rfl,(by show 4<=sizeLine; decide),fun r hr'=>q r _ hr' ah (ak hr' _)⟩
theorem ly {f:Addr}{fd:FuncData}(F:Fun K "word" "More.word" fO f fd) (T:Txt K mg c) :FnOk P w K mg base CX0 1 f fd ["self"] (lY 3):=by
 refine F.ok mE (fun vs H Q E h=>?_) (fun cdv A outer s H vs Q E hr h=>?_)
 ·obtain⟨x,rfl,_⟩:=h
  rfl
 obtain⟨x,rfl,q⟩:=h
 exact⟨_,(ag (aq aM)),q⟩
theorem lC {f:Addr}{fd:FuncData}(F:Fun K "told" "More.told" fk f fd) (T:Txt K mg c)  (MW:MHas P w K mg base 1 c.More "word" ["self"] (lY 3)):FnOk P w K mg base CX0 2 f fd ["self"] (dA c 3):=by
 refine F.ok mF (fun vs H Q E h=>?_) (fun cdv A outer s H vs Q E hr h=>?_)
 ·obtain⟨x,e,f,s,rfl,_⟩:=h
  rfl
 obtain⟨x,e,f,s,rfl,⟨dx,hx⟩,q⟩:=h
 refine⟨_,(ag (aq (aG (aa (bU (k:=1) (pv 0) (hr.mono (by omega))) (aa (ba (pv 0) rfl) (aa (ba (pv 0) rfl) ae)))))),?_⟩
 refine⟨_,rfl,x,_,dx,_,_,_,rfl,hx,rfl,MW,x,rfl,_,rfl,x,_,dx,_,_,rfl,hx,T.cl_More,T.na_More_factor,rfl,_,rfl,x,_,dx,_,_,rfl,hx,T.cl_More,T.na_More_shift,rfl,(by show 3<=sizeLine; decide),fun r hr'=>q r _ hr' ah (ak hr' _)⟩
theorem lu {f:Addr}{fd:FuncData}(F:Fun K "word" "Wide.word" fu f fd) (T:Txt K mg c) :FnOk P w K mg base CX0 1 f fd ["self"] (lY 4):=by
 refine F.ok lW (fun vs H Q E h=>?_) (fun cdv A outer s H vs Q E hr h=>?_)
 ·obtain⟨x,rfl,_⟩:=h
  rfl
 obtain⟨x,rfl,q⟩:=h
 exact⟨_,(ag (aq aM)),q⟩
theorem lP {f:Addr}{fd:FuncData}(F:Fun K "told" "Wide.told" fJ f fd) (T:Txt K mg c)  (MW:MHas P w K mg base 1 c.Wide "word" ["self"] (lY 4)):FnOk P w K mg base CX0 2 f fd ["self"] (dA c 4):=by
 refine F.ok md (fun vs H Q E h=>?_) (fun cdv A outer s H vs Q E hr h=>?_)
 ·obtain⟨x,e,f,s,rfl,_⟩:=h
  rfl
 obtain⟨x,e,f,s,rfl,⟨dx,hx⟩,q⟩:=h
 refine⟨_,(ag (aq (aG (aa (bU (k:=1) (pv 0) (hr.mono (by omega))) (aa (ba (pv 0) rfl) (aa (ba (pv 0) rfl) ae)))))),?_⟩
 refine⟨_,rfl,x,_,dx,_,_,_,rfl,hx,rfl,MW,x,rfl,_,rfl,x,_,dx,_,_,rfl,hx,T.cl_Wide,T.na_Wide_factor,rfl,_,rfl,x,_,dx,_,_,rfl,hx,T.cl_Wide,T.na_Wide_shift,rfl,(by show 3<=sizeLine; decide),fun r hr'=>q r _ hr' ah (ak hr' _)⟩
theorem fl_told {kd:Nat}{e f s:Int}:(flds kd e f s).lookup ("told":Str)=none:=by
 unfold flds
 split <;> rfl
theorem pK {f:Addr}{fd:FuncData}(F:Fun K "ceiling" "ceiling" jx f fd) (T:Txt K mg c) :FnOk P w K mg base CX0 1 f fd ["top","bottom"] hV:=by
 refine F.ok p6 (fun vs H Q E h=>?_) (fun cdv A outer s H vs Q E hr h=>?_)
 ·obtain⟨a,d,rfl,_⟩:=h
  rfl
 obtain⟨a,d,rfl,a1,a2,d1,d2,q⟩:=h
 refine⟨_,(ag (aq (pe_un sY (ap bE (pe_un sY (pv 0)) (pv 1))))),?_⟩
 refine⟨_,rfl,_,rfl,_,rfl,_,_,rfl,rfl,⟨by omega,cw (by omega) (by omega)⟩,_,rfl,?_⟩
 show Q (.int (-(-a/d))) H
 rw[ceil_eq d1]
 exact q
theorem eM {f:Addr}{fd:FuncData}(F:Fun K "scaled_candidates" "scaled_candidates" bp f fd) (T:Txt K mg c) (H_ceiling:Has P w K mg base 1 "ceiling" ["top","bottom"] hV) (C_Scaled:CHas P w K mg base 4 c.Scaled "Scaled" ["self","factor","shift"] (spI2 c 1 0)):FnOk P w K mg base CX0 6 f fd ["width","d"] (spScC c):=by
 refine F.ok sc_scaled_candidates (fun vs H Q E h=>?_) (fun cdv A outer s H vs Q E hr h=>?_)
 ·obtain⟨i,d,rfl,_⟩:=h
  rfl
 obtain⟨i,d,rfl,h1,h2,d1,d2,q⟩:=h
 refine⟨_,(af (aw (i:=2) sc_scaled_candidates.nd rfl (Or.inl rfl) (bX ae))
  (af (ja PassesOwn.never rfl (cA rfl T.n_range (aa (ap aA (lx PySem.F.plainAttrs_int PySem.F.slot_int_bit_length PySem.F.type_int_bit_length lh (ap aQ (pv 1) ac)) ac) ae)) (fE (i:=3) sc_scaled_candidates.nd rfl (Or.inl rfl))
   (af (aw (i:=4) sc_scaled_candidates.nd rfl (Or.inl rfl) (av H_ceiling (hr.mono (by omega)) rfl (aa (ap aS ac (ap aA (pv 0) (pv 3))) (aa (pv 1) ae))))
   (ag (aB (ar nG (pv 4) (ap aS ac (pv 0)) (ax _))
    (ag (aF (j7 PySem.F.plainAttrs_list PySem.F.slot_list_append PySem.F.type_list_append bW (pv 2) (aa (jT C_Scaled (hr.mono (by omega)) rfl (aa (pv 4) (aa (pv 3) ae))) ae))))
    au))))
  (ag (aq (pv 2))))),?_⟩
 have pb:=aE h1 h2
 have lb:=(jP h2 d1 d2).1
 have L100:(100:Nat)<=sizeLine:=by decide
 walk_at "o"; intro l hl
 refine⟨_,rfl,_,_,rfl,rfl,oK,_,rfl,rfl,_,_,rfl,rfl,_,rfl,(by omega),(by omega),gt (fun n σ H2=>∃ y1 y2:Option V,σ=[some (.int i),some (.int d),some (.ref l),y1,y2]/\(∃ ps:List Addr,H2 l=some (.lst (ps.map V.ref))/\PL (FR c) H2 ps (cSc 1 0 (1*2^i.toNat) d n))/\Same H H2) ⟨_,_,rfl,⟨[],ah,PL.nil⟩,ak hl _⟩ ?_ ?_⟩
 ·rintro n σ H2 hn ⟨y1,y2,rfl,⟨ps,hp,pl⟩,sm⟩
  have ep:(1:Int)*2^(i+(0+(n:Int))).toNat=1*2^i.toNat*2^n:=by rw[show (i+(0+(n:Int))).toNat=i.toNat+n by omega,pow_add,Int.mul_assoc]
  have ub:=pw_up h1 h2 (show n<=32 by omega)
  have ul:=sC ub.1 d1
  walk_at "o"
  rw[ep]
  have cl:=fq 1 0 (1*2^i.toNat) d n
  rw[<- pl.1] at cl
  walk_at "c" <;> intro c0
  ·refine⟨_,rfl,.inl ⟨rfl,_,SqL.of hp⟩,_,rfl,_,rfl,fun x dx hx hdx hne=>⟨x,dx,_,_,rfl,ah,by omega,by omega,by omega,by omega,fun H' s' fo=>⟨rfl,?_⟩⟩⟩
   have sM:=cR hx hdx s'
   refine⟨l,_,_,rfl,rfl,sM _ _ hp,(by rw[length_map]; omega),_,_,rfl,⟨ps++[x],(by rw[ah,map_append]; rfl),?_⟩,Same.updL (sm.trans sM) hl⟩
   rw[iL,if_pos c0]
   have fx:FR c H' x ⟨1,0,upI (1*2^i.toNat*2^n) d,(n:Int)⟩:=by
    have e0:(0:Int)+(n:Int)=n:=by omega
    rw[e0] at fo
    exact fo
   exact((pl.mono fun p x q=>q.same sM).snoc fx).updF (sM _ _ hp)
  ·refine⟨_,_,rfl,⟨ps,hp,?_⟩,sm⟩
   rw[iL,if_neg c0,append_nil]
   exact pl
 ·rintro σ H2 ⟨y1,y2,rfl,⟨ps,hp,pl⟩,sm⟩
  refine⟨_,rfl,q l H2 hl ⟨ps,hp,?_⟩ sm⟩
  rw[show ((intBits (d-1):Int)+1).toNat=intBits (d-1)+1 by omega] at pl
  exact pl
theorem gx {f:Addr}{fd:FuncData}(F:Fun K "more_candidates" "more_candidates" bL f fd) (T:Txt K mg c)  (C_More:CHas P w K mg base 4 c.More "More" ["self","factor","shift"] (spI2 c 3 0)):FnOk P w K mg base CX0 6 f fd ["width","d"] (spMoC c):=by
 refine F.ok sc_more_candidates (fun vs H Q E h=>?_) (fun cdv A outer s H vs Q E hr h=>?_)
 ·obtain⟨i,d,rfl,_⟩:=h
  rfl
 obtain⟨i,d,rfl,h1,h2,d1,d2,q⟩:=h
 refine⟨_,(af (aw (i:=2) sc_more_candidates.nd rfl (Or.inl rfl) (bX ae))
  (af (ja PassesOwn.never rfl (cA rfl T.n_range (aa (ap aA (lx PySem.F.plainAttrs_int PySem.F.slot_int_bit_length PySem.F.type_int_bit_length lh (ap aQ (pv 1) ac)) ac) ae)) (fE (i:=3) sc_more_candidates.nd rfl (Or.inl rfl))
   (af (aw (i:=4) sc_more_candidates.nd rfl (Or.inl rfl) (ap bE (ap aQ (ap aS ac (ap aA (pv 0) (pv 3))) ac) (pv 1)))
   (ag (aB (pt_chain op_le nG ac (pv 4) (ap aS ac (pv 0)))
    (ag (aF (j7 PySem.F.plainAttrs_list PySem.F.slot_list_append PySem.F.type_list_append bW (pv 2) (aa (jT C_More (hr.mono (by omega)) rfl (aa (pv 4) (aa (pv 3) ae))) ae))))
    au))))
  (ag (aq (pv 2))))),?_⟩
 have pb:=aE h1 h2
 have lb:=(jP h2 d1 d2).1
 have L100:(100:Nat)<=sizeLine:=by decide
 walk_at "o"; intro l hl
 refine⟨_,rfl,_,_,rfl,rfl,oK,_,rfl,rfl,_,_,rfl,rfl,_,rfl,(by omega),(by omega),gt (fun n σ H2=>∃ y1 y2:Option V,σ=[some (.int i),some (.int d),some (.ref l),y1,y2]/\(∃ ps:List Addr,H2 l=some (.lst (ps.map V.ref))/\PL (FR c) H2 ps (cMo (1*2^i.toNat) d n))/\Same H H2) ⟨_,_,rfl,⟨[],ah,PL.nil⟩,ak hl _⟩ ?_ ?_⟩
 ·rintro n σ H2 hn ⟨y1,y2,rfl,⟨ps,hp,pl⟩,sm⟩
  have ep:(1:Int)*2^(i+(0+(n:Int))).toNat=1*2^i.toNat*2^n:=by rw[show (i+(0+(n:Int))).toNat=i.toNat+n by omega,pow_add,Int.mul_assoc]
  have ub:=pw_up h1 h2 (show n<=32 by omega)
  walk_at "o"
  rw[ep]
  have cl:=kr (1*2^i.toNat) d n
  rw[<- pl.1] at cl
  walk_at "c" <;> intro c0
  ·walk_at "o"
   walk_at "c" <;> intro c1
   ·refine⟨_,rfl,.inl ⟨rfl,_,SqL.of hp⟩,_,rfl,_,rfl,fun x dx hx hdx hne=>⟨x,dx,_,_,rfl,ah,by omega,by omega,by omega,by omega,fun H' s' fo=>⟨rfl,?_⟩⟩⟩
    have sM:=cR hx hdx s'
    refine⟨l,_,_,rfl,rfl,sM _ _ hp,(by rw[length_map]; omega),_,_,rfl,⟨ps++[x],(by rw[ah,map_append]; rfl),?_⟩,Same.updL (sm.trans sM) hl⟩
    rw[kh,if_pos ⟨c0,c1⟩]
    have fx:FR c H' x ⟨3,0,(1*2^i.toNat*2^n-1)/d,(n:Int)⟩:=by
     have e0:(0:Int)+(n:Int)=n:=by omega
     rw[e0] at fo
     exact fo
    exact((pl.mono fun p x q=>q.same sM).snoc fx).updF (sM _ _ hp)
   ·refine⟨_,_,rfl,⟨ps,hp,?_⟩,sm⟩
    rw[kh,if_neg (fun z=>c1 z.2),append_nil]
    exact pl
  ·refine⟨_,rfl,cT ⟨_,_,rfl,⟨ps,hp,?_⟩,sm⟩⟩
   rw[kh,if_neg (fun z=>c0 z.1),append_nil]
   exact pl
 ·rintro σ H2 ⟨y1,y2,rfl,⟨ps,hp,pl⟩,sm⟩
  refine⟨_,rfl,q l H2 hl ⟨ps,hp,?_⟩ sm⟩
  rw[show ((intBits (d-1):Int)+1).toNat=intBits (d-1)+1 by omega] at pl
  exact pl
theorem AL.ext {c:Ad}{H2:Hp}{l:Addr}{ps qs:List Addr}{xs ys:List Cd}(h:PL (FR c) H2 ps xs) (hl:H2 l=some (.lst (ps.map V.ref))) (g:PL (FR c) H2 qs ys):AL (FR c) (upd H2 l (.lst (ps.map V.ref++qs.map V.ref))) l (xs++ys) :=
 ⟨ps++qs,by rw[ah,map_append],(h.append g).updF hl⟩
theorem rM {X:Cx}{K:Frag}{e:Expr}{f:Str}{pos:Pos}{ta:TE}(hK:X.K=K) (he:PE X e ta) (hb:attributeBase e f X.env (eval e X.env)=eval e X.env):PE X (.Attribute e f pos) (tFld K ta f):=by
 subst hK
 exact ba he hb
theorem eZ {f:Addr}{fd:FuncData}(F:Fun K "early_candidates" "early_candidates" bF f fd) (T:Txt K mg c) (H_twos_in:Has P w K mg base 1 "twos_in" ["d"] ij) (H_scaled_candidates:Has P w K mg base 6 "scaled_candidates" ["width","d"] (spScC c)) (C_Early:CHas P w K mg base 4 c.Early "Early" ["self","early","factor","shift"] (spI3 c)):FnOk P w K mg base CX0 7 f fd ["width","d"] (spEaC c):=by
 refine F.ok sc_early_candidates (fun vs H Q E h=>?_) (fun cdv A outer s H vs Q E hr h=>?_)
 ·obtain⟨i,d,rfl,_⟩:=h
  rfl
 obtain⟨i,d,rfl,h1,h2,d1,d2,q⟩:=h
 refine⟨_,(af (aw (i:=2) sc_early_candidates.nd rfl (Or.inr rfl) (av H_twos_in (hr.mono (by omega)) rfl (aa (pv 1) ae)))
  (af (aB (ar aO (pv 2) ac (ax _))
   (ag (aq (bX ae)))
   au)
  (ag (aq (kI [2] ["twos"] rfl (by first | rfl | with_unfolding_all rfl) (by rfl) (by exact(List.forall_mem_cons.mpr ⟨rfl,(fun _ h=>nomatch h)⟩)) (by decide +kernel) rfl (by decide +kernel) rfl (by decide +kernel) (by exact(List.forall_mem_cons.mpr ⟨⟨by first | exact Or.inl rfl | exact Or.inr rfl,rfl⟩,(fun _ h=>nomatch h)⟩)) rfl (by rfl) (i0 (av H_scaled_candidates (hr.mono (by omega)) rfl (aa (pv 0) (aa (ap sN (pv 1) (pv 2)) ae)))) (fun C s2 H2 fp=>(jT C_Early (hr.mono (by omega)) rfl (aa (pv 1) (aa (rM (K:=K) rfl (pv 0) rfl) (aa (rM (K:=K) rfl (pv 0) rfl) ae)))))))))),?_⟩
 have L100:(1000:Nat)<=sizeLine:=by decide
 walk_at "o"; intro t tw
 have t0:=tw.1
 have tl:=oV d1 (by have:=aE h1 h2; omega) tw
 have o1:=xdiv (x:=d) (by omega) t
 have o2:1<=d/2^t.toNat:=Classical.byContradiction fun z=>by
  have a:=Int.mul_nonpos_of_nonpos_of_nonneg (show d/2^t.toNat<=0 by omega) (Int.le_of_lt (gJ t.toNat))
  have b:=tw.2.1
  omega
 have lo:=(jP h2 o2 (Int.lt_of_le_of_lt o1.2 d2)).1
 refine⟨_,rfl,rfl,_,rfl,?_⟩
 by_cases c0:t=0
 ·subst c0
  refine lj rfl ⟨(by show 0<=sizeLine; decide),fun l hl=>q 0 l _ tw hl ⟨[],ah,?_⟩ (ak hl _)⟩
  unfold cEa
  rw[if_neg (by omega)]
  exact PL.nil
 ·refine cM (fun z=>c0 (by injection z)) ?_
  refine⟨_,rfl,_,rfl,_,rfl,_,_,rfl,rfl,t0,i,_,rfl,h1,h2,o2,Int.lt_of_le_of_lt o1.2 d2,fun b H1 b0 ⟨ps,hp,pl⟩ s1=>⟨b,rfl,⟨_,SqL.of hp⟩,fun D hD=>?_⟩⟩
  have pb:=aE h1 h2
  refine jA (xs:=ps.map V.ref) (fun n HJ=>∃ qs:List Addr,HJ D=some (.lst (qs.map V.ref))/\PL (FR c) HJ qs (((cSc 1 0 (1*2^i.toNat) (d/2^t.toNat) (intBits (d/2^t.toNat-1)+1)).take n).map fun x=>⟨2,t,x.f,x.s⟩)/\Same H1 HJ) ⟨[],ah,PL.nil,ak hD _⟩ ?_ ?_ ?_
  ·rintro n HJ hn ⟨qs,hq,ql,sJ⟩
   exact SqL.of (sJ _ _ hp)
  ·rintro n v HJ hv ⟨qs,hq,ql,sJ⟩
   rw[List.getElem?_map] at hv
   cases e1:ps[n]? with
   | none=>rw[e1] at hv; cases hv
   | some p =>
    rw[e1] at hv
    cases hv
    have np:=(List.getElem?_eq_some_iff.mp e1).1
    obtain⟨x,ex⟩:∃ x,(cSc 1 0 (1*2^i.toNat) (d/2^t.toNat) (intBits (d/2^t.toNat-1)+1))[n]?=some x:=⟨_,List.getElem?_eq_getElem (by rw[<- pl.1]; exact np)⟩
    have xm:=mem_of_getElem? ex
    have fm:=(rE (.inl rfl) (fun _=>rfl) (by decide) (by decide) (by omega) (by omega) o2 (by omega) x xm).1
    obtain⟨dx,hx⟩:=(pl.2 n p x e1 ex).same sJ
    rw[cSc_k x xm] at hx
    have qn:=ql.1
    rw[length_map,length_take] at qn
    have pn:=pl.1
    have cn:=fq 1 0 (1*2^i.toNat) (d/2^t.toNat) (intBits (d/2^t.toNat-1)+1)
    refine⟨_,rfl,_,rfl,p,_,dx,_,_,rfl,hx,T.cl_Scaled,T.na_Scaled_factor,rfl,_,rfl,p,_,dx,_,_,rfl,hx,T.cl_Scaled,T.na_Scaled_shift,rfl,fun y dy hy hdy hne=>⟨y,dy,t,x.f,x.s,rfl,ah,t0,tl,fm.fa,fm.fb,fm.sa,fm.sb,fun H' s' fo=>⟨rfl,?_⟩⟩⟩
    have sM:=cR hy hdy s'
    refine⟨_,sM _ _ hq,(by rw[length_map]; omega),(ps.map V.ref).length-(n+1),(by rw[length_map]; omega),rfl,(by rw[length_map]; omega),qs++[y],(by rw[ah,map_append]; rfl),?_,Same.updL (sJ.trans sM) hD⟩
    rw[List.take_succ,ex,map_append]
    have fx:FR c H' y ⟨2,t,x.f,x.s⟩:=fo
    exact((ql.mono fun _ _ q=>q.same sM).snoc fx).updF (sM _ _ hq)
  ·rintro HJ ⟨qs,hq,ql,sJ⟩
   refine q t D HJ tw ?_ ⟨qs,hq,?_⟩ (s1.trans sJ)
   ·cases e:H D with
    | none=>rfl
    | some o=>have:=s1 _ _ e; rw[hD] at this; cases this
   ·unfold cEa
    rw[if_pos (by omega),cSc_map]
    rw[length_map,pl.1,List.take_length] at ql
    exact ql
theorem dgetk {H:Hp}{a:Addr}{kvs:List (Key×V)}{y:Str}(e:H a=some (.dK kvs)):DGet H a (.str y) (bR kvs (.inr y)):=DGet.k (k:=.inr y) e
theorem j9 {H:Hp}{a:Addr}{kvs:List (Key×V)}{y:Str}{v:V}(e:H a=some (.dK kvs)) (hl:kvs.length<sizeLine):DPut H a (.str y) v (upd H a (.dK (eK kvs (.inr y) v))):=DPut.k (k:=.inr y) e hl
theorem rA_len (kd:Nat):(rA kd).length<=5:=by unfold rA; split <;> decide
theorem kZ {f:Addr}{fd:FuncData}(F:Fun K "form_words" "form_words" dM f fd) (T:Txt K mg c)  (MW:∀ i,i<5->MHas P w K mg base 1 (fOf c i) "word" ["self"] (lY i)) (RA:RowsA K P w c.ROWS_AHEAD):FnOk P w K mg base CX0 2 f fd ["form"] (spFW c):=by
 refine F.ok sc_form_words (fun vs H Q E h=>?_) (fun cdv A outer s H vs Q E hr h=>?_)
 ·obtain⟨x,kd,e,f,s',rfl,_⟩:=h
  rfl
 obtain⟨x,kd,e,f,s',rfl,⟨dx,fo⟩,fm,q⟩:=h
 obtain⟨tt,bb,gd_ROWS_AHEAD,hb⟩:=RA
 refine⟨_,(af (aw (i:=1) sc_form_words.nd rfl (Or.inl rfl) (bg im rfl T.n_list boot_list (aa (pe_gdget gd_ROWS_AHEAD (pe_cls rfl T.g_ROWS_AHEAD) (bU (k:=1) (pv 0) (hr.mono (by omega))) (fun _ _=>rfl)) ae)))
  (af (aw (i:=2) sc_form_words.nd rfl (Or.inl rfl) (pe_ifExp (ar aO (bU (k:=1) (pv 0) (hr.mono (by omega))) aM (ax _)) ac ac))
  (bj (aB (ar p4 (ba (pv 0) rfl) (pv 2) (ax _))
   (ag (aF (j7 PySem.F.plainAttrs_list PySem.F.slot_list_append PySem.F.type_list_append bW (pv 1) (aa aM ae))))
   au)
  (ag (aq (pv 1)))))),?_⟩
 have k5:=fm.k
 obtain⟨cl,na⟩:=T.shf k5
 refine⟨_,rfl,x,_,dx,_,_,_,rfl,fo,rb,MW kd k5,x,rfl,_,bb kd,rfl,rfl,rows_at k5,bb kd,_,rfl,.inr (hb kd k5 _),fun l hl=>?_⟩
 have s1:=ak hl (.lst ((rA kd).map V.str))
 have l1:upd H l (.lst ((rA kd).map V.str)) l=some (.lst ((rA kd).map V.str)):=ah
 generalize upd H l (.lst ((rA kd).map V.str))=H1 at s1 l1 ⊢
 have fo1:=s1 _ _ fo
 refine⟨_,rfl,x,_,dx,_,_,_,rfl,fo1,rb,MW kd k5,x,rfl,rfl,_,rfl,?_⟩
 have n4:kd≠4->V.str (wdF kd)≠V.str "wide":=fun hk=>by
  rcases(by omega:kd=0\/kd=1\/kd=2\/kd=3) with rfl | rfl | rfl | rfl <;> walk_at "n"
 by_cases hk:kd=4
 case' pos =>
  have dk:dn kd=1:=if_pos hk
  refine lj (by subst hk; rfl) ?_
 case' neg =>
  have dk:dn kd=0:=if_neg hk
  refine cM (n4 hk) ?_
 all_goals
  refine⟨fun σ2 HZ=>∃ d,σ2=[some (.ref x),some (.ref l),some (.int d)]/\HZ l=some (.lst ((fw kd s').map V.str))/\Same H HZ,?_,?_⟩
  ·refine⟨_,rfl,x,_,dx,_,_,rfl,fo1,cl,na,fl_shift,_,rfl,_,_,rfl,rfl,_,rfl,?_⟩
   walk_at "c" <;> intro c1
   ·refine⟨_,rfl,.inl ⟨rfl,_,SqL.of l1⟩,l,_,_,rfl,rfl,l1,(by rw[length_map]; exact Nat.lt_of_le_of_lt (rA_len kd) (by decide)),?_⟩
    refine⟨_,rfl,?_,Same.updL s1 hl⟩
    rw[ah]
    unfold fw
    rw[dk,if_pos c1,map_append]
    rfl
   ·refine⟨_,rfl,?_,s1⟩
    unfold fw
    rw[dk,if_neg c1,append_nil]
    exact l1
  ·rintro σ2 HZ ⟨d,rfl,lZ,sZ⟩
   exact⟨_,rfl,q l HZ hl lZ sZ⟩
theorem ic {f:Addr}{fd:FuncData}(F:Fun K "_law_row_words" "_law_row_words" bY f fd) (T:Txt K mg c) :FnOk P w K mg base CX0 1 f fd [] spRW:=by
 refine F.ok gP (fun vs H Q E h=>?_) (fun cdv A outer s H vs Q E hr h=>?_)
 ·obtain⟨rfl,_⟩:=h
  rfl
 obtain⟨rfl,q⟩:=h
 refine⟨_,(ag (aq (lx PySem.F.plainAttrs_str PySem.F.slot_str_split PySem.F.type_str_split mt_split aM))),?_⟩
 have e:wordsOf "set copy sum gap low high left right slide and or unlike under pick mark turns"=rw16:=by decide +kernel
 refine⟨ty_str,_,rfl,rfl,by decide +kernel,by decide +kernel,by decide +kernel,by decide +kernel,?_⟩
 rw[e]
 exact q
theorem jJ {f:Addr}{fd:FuncData}(F:Fun K "_law_prices" "_law_prices" di f fd) (T:Txt K mg c) (H__law_draw:Has P w K mg base 1 "_law_draw" ["_law_state","_law_size"] gE) (H__law_row_words:Has P w K mg base 1 "_law_row_words" [] spRW):FnOk P w K mg base CX0 2 f fd ["_law_state"] spPr:=by
 refine F.ok sc__law_prices (fun vs H Q E h=>?_) (fun cdv A outer s H vs Q E hr h=>?_)
 ·obtain⟨p,rfl,_⟩:=h
  rfl
 obtain⟨p,rfl,bx,q⟩:=h
 refine⟨_,(af (aw (i:=1) sc__law_prices.nd rfl (Or.inl rfl) (av H__law_draw (hr.mono (by omega)) rfl (aa (pv 0) (aa ac ae))))
  (af (aw (i:=2) sc__law_prices.nd rfl (Or.inl rfl) (pe_fn0 H__law_row_words (hr.mono (by omega)) rfl))
  (bj (aB (ar aO (av H__law_draw (hr.mono (by omega)) rfl (aa (pv 0) (aa ac ae))) ac (ax _))
   (ag (aw (i:=2) sc__law_prices.nd rfl (Or.inl rfl) (pe_rev (pv 2))))
   au)
  (af (aw (i:=3) sc__law_prices.nd rfl (Or.inl rfl) (bo bK (bX (aa ac (aa ac (aa ac (aa ac ae))))) (pv 1) (fun _ _=>rfl)))
  (af (aw (i:=4) sc__law_prices.nd rfl (Or.inl rfl) o0)
  (af (ja PassesOwn.never rfl (i0 (pv 2)) (fE (i:=5) sc__law_prices.nd rfl (Or.inl rfl))
   (af (cZ (iD hr) (pv 4) (pv 5) (av H__law_draw (hr.mono (by omega)) rfl (aa (pv 0) (aa (pv 3) ae))) rfl)
   (ag (aB (PW.pt (pw_and (ar aO (pv 1) ac (ax _)) (sA (ar rj (pv 5) (bX (aa aM (aa aM (aa aM ae)))) (by with_unfolding_all rfl)))))
    (ag (cZ (iD hr) (pv 4) (pv 5) ac rfl))
    au))))
  (bj (aB (ar aO (av H__law_draw (hr.mono (by omega)) rfl (aa (pv 0) (aa ac ae))) ac (ax _))
   (ag (cZ (iD hr) (pv 4) aM aM rfl))
   au)
  (ag (aq (pv 4)))))))))),?_⟩
 walk_at "o"; intro kd H1 k0 k1 b1 x1
 refine⟨rfl,fun lw hlw=>?_⟩
 have x2:=x1.trans (SameX.of (ak hlw (.lst (rw16.map V.str))))
 have b2:=b1.same (ak hlw (.lst (rw16.map V.str)))
 have lw2:upd H1 lw (.lst (rw16.map V.str)) lw=some (.lst (rw16.map V.str)):=ah
 have hlwp:lw≠p:=fun e=>by obtain⟨r1,r2,hb⟩:=b1; rw[e,hb] at hlw; cases hlw
 generalize upd H1 lw (.lst (rw16.map V.str))=H2 at x2 b2 lw2 ⊢
 refine⟨fun σ2 HZ=>∃ (l:Addr) (xs:List Str),σ2=[some (.ref p),some (.int kd),some (.ref l),none,none,none]/\HZ l=some (.lst (xs.map V.str))/\l≠p/\xs.length=16/\(∀ y,y∈xs ↔ y∈rw16)/\Bx HZ p/\SameX p H HZ,?_,?_⟩
 ·walk_at "o"; intro z H3 z0 z1 b3 x3
  walk_at "o"
  have lw3:=x3 _ _ hlwp lw2
  walk_at "c" <;> intro c1
  ·refine⟨_,rfl,lw,_,rfl,SqL.of lw3,fun l hl=>?_⟩
   have hlp:l≠p:=fun e=>by obtain⟨r1,r2,hb⟩:=b3; rw[e,hb] at hl; cases hl
   refine⟨l,rw16.reverse,rfl,?_,hlp,rfl,fun y=>List.mem_reverse,b3.same (ak hl _),(x2.trans x3).trans (SameX.of (ak hl _))⟩
   rw[ah,List.map_reverse]
  ·exact⟨lw,rw16,rfl,lw3,hlwp,rfl,fun y=>Iff.rfl,b3,x2.trans x3⟩
 rintro σ2 H3 ⟨l,xs,rfl,l3,hlp,xl,xm,b3,x3⟩
 obtain⟨m,am,m0,m1⟩:∃ m:Int,atI [V.int 1,.int 3,.int 1001,.int 1001] kd=some (.int m)/\0<m/\m<=1001:=by
  rcases(by omega:kd=0\/kd=1\/kd=2\/kd=3) with rfl | rfl | rfl | rfl
  ·exact⟨1,rfl,by decide,by decide⟩
  ·exact⟨3,rfl,by decide,by decide⟩
  ·exact⟨1001,rfl,by decide,by decide⟩
  ·exact⟨1001,rfl,by decide,by decide⟩
 refine⟨(by show 4<=sizeLine; decide),fun lm hlm=>⟨_,rfl,lm,_,_,_,rfl,rfl,SqL.of ah,am,?_⟩⟩
 have sm:=ak hlm (.lst [V.int 1,.int 3,.int 1001,.int 1001])
 have l4:=sm _ _ l3
 have b4:=b3.same sm
 have x4:=x3.trans (SameX.of sm)
 generalize upd H3 lm (.lst [V.int 1,.int 3,.int 1001,.int 1001])=H4 at l4 b4 x4 ⊢
 refine fun t ht=>?_
 have htp:t≠p:=fun e=>by obtain⟨r1,r2,hb⟩:=b4; rw[e,hb] at ht; cases ht
 have htH:H t=none:=frX b4 x4 ht
 have s5:=ak ht (.dK [])
 have l5:=s5 _ _ l4
 refine⟨_,rfl,l,rfl,⟨_,SqL.of l5⟩,oH (xs:=xs.map V.str) (fun i σ HI=>∃ kvs x5,σ=[some (.ref p),some (.int kd),some (.ref l),some (.int m),some (.ref t),x5]/\HI t=some (.dK kvs)/\HI l=some (.lst (xs.map V.str))/\Tb (2*i) kvs/\(∀ y∈xs.take i,jS (bR kvs (.inr y)))/\Bx HI p/\SameX p H HI) ⟨[],_,rfl,ah,l5,⟨Nat.le_refl _,fun _ h=>nomatch h⟩,(fun _ h=>nomatch h),b4.same s5,x4.trans (SameX.of s5)⟩ (fun i σ HI _ ⟨_,_,_,_,lI,_⟩=>SqL.of lI) ?_ ?_⟩
 ·rintro i y σ HI hy ⟨kvs,x5,rfl,tI,lI,tb,al,bI,xI⟩
  rw[List.getElem?_map] at hy
  obtain⟨z,hz,rfl⟩:=Option.map_eq_some_iff.mp hy
  have hi:i<16:=by have:=(List.getElem?_eq_some_iff.mp hz).1; omega
  have hzm:z∈rw16:=(xm z).mp (mem_of_getElem? hz)
  have tz:=tx_rw z hzm
  refine⟨_,rfl,_,rfl,p,m,rfl,bI,m0,by omega,fun d H6 d0 d1 b6 x6=>?_⟩
  have t6:=x6 _ _ htp tI
  have l6:=x6 _ _ hlp lI
  have kl:kvs.length<sizeLine:=Nat.lt_of_le_of_lt tb.ln (lt_of_lt_of_le (show 2*i<100 by omega) (by decide))
  refine⟨_,rfl,_,rfl,t,_,rfl,j9 t6 kl,?_⟩
  have hlt:l≠t:=fun e=>by rw[e,t6] at l6; cases l6
  have nx7:∀ (kv2:List (Key×V)) (HJ:Hp),HJ t=some (.dK kv2)->HJ l=some (.lst (xs.map V.str))->Bx HJ p->SameX p H HJ->Tb (2*i+2) kv2->(∀ y,jS (bR kvs (.inr y))->jS (bR kv2 (.inr y)))->jS (bR kv2 (.inr z))->∃ kvs x5,([some (.ref p),some (.int kd),some (.ref l),some (.int m),some (.ref t),some (.str z)]:L2.St)=[some (.ref p),some (.int kd),some (.ref l),some (.int m),some (.ref t),x5]/\HJ t=some (.dK kvs)/\HJ l=some (.lst (xs.map V.str))/\Tb (2*(i+1)) kvs/\(∀ y∈xs.take (i+1),jS (bR kvs (.inr y)))/\Bx HJ p/\SameX p H HJ:=fun kv2 HJ a1 a2 a3 a4 a5 a6 a7=>by
   refine⟨kv2,_,rfl,a1,a2,a5,fun y hy=>?_,a3,a4⟩
   rw[List.take_add_one,hz] at hy
   rcases List.mem_append.mp hy with hy | hy
   ·exact a6 y (al y hy)
   ·cases List.mem_singleton.mp hy
    exact a7
  have p1:∀ (kk:List (Key×V)) (v:Int),0<=v->v<=1000->(∀ y,jS (bR kk (.inr y))->jS (bR (eK kk (.inr z) (.int v)) (.inr y)))/\jS (bR (eK kk (.inr z) (.int v)) (.inr z)):=fun kk v v0 v1=>by
   refine⟨fun y hy=>?_,?_⟩
   ·rw[fW]
    split
    ·exact⟨v,rfl,v0,v1⟩
    ·exact hy
   ·rw[fW,if_pos rfl]
    exact⟨v,rfl,v0,v1⟩
  have b7:Bx (upd H6 t (.dK (eK kvs (.inr z) (.int d)))) p:=by
   obtain⟨r1,r2,hb⟩:=b6
   exact⟨r1,r2,by rw[ao (Ne.symm htp)]; exact hb⟩
  have x7:SameX p H (upd H6 t (.dK (eK kvs (.inr z) (.int d)))):=fun b o hb e=>by
   rw[ao (fun e'=>by rw[e',htH] at e; cases e)]
   exact(xI.trans x6) b o hb e
  have l7:upd H6 t (.dK (eK kvs (.inr z) (.int d))) l=some (.lst (xs.map V.str)):=by rw[ao hlt]; exact l6
  have t7:upd H6 t (.dK (eK kvs (.inr z) (.int d))) t=some (.dK (eK kvs (.inr z) (.int d))):=ah
  have tb7:Tb (2*i+1) (eK kvs (.inr z) (.int d)):=tb.put tz (aD (by omega) (by omega))
  have ok7:=p1 kvs d d0 (by omega)
  generalize upd H6 t (.dK (eK kvs (.inr z) (.int d)))=H7 at b7 x7 l7 t7 ⊢
  generalize eK kvs (.inr z) (.int d)=kv7 at t7 tb7 ok7
  have fin:∀ HJ,Same H7 HJ->∃ kvs x5,([some (.ref p),some (.int kd),some (.ref l),some (.int m),some (.ref t),some (.str z)]:L2.St)=[some (.ref p),some (.int kd),some (.ref l),some (.int m),some (.ref t),x5]/\HJ t=some (.dK kvs)/\HJ l=some (.lst (xs.map V.str))/\Tb (2*(i+1)) kvs/\(∀ y∈xs.take (i+1),jS (bR kvs (.inr y)))/\Bx HJ p/\SameX p H HJ:=fun HJ sJ=>nx7 kv7 HJ (sJ _ _ t7) (sJ _ _ l7) (b7.same sJ) (x7.trans (SameX.of sJ)) (tb7.le (by omega)) ok7.1 ok7.2
  refine⟨_,rfl,rfl,_,rfl,?_⟩
  by_cases c2:V.int kd=V.int 2
  ·refine lj c2 ⟨_,rfl,(by show 3<=sizeLine; decide),fun l8 h8=>⟨l8,_,rfl,.inl (SqL.of ah),rfl,rfl,_,rfl,?_⟩⟩
   have s8:=ak h8 (.lst [V.str "set",.str "copy",.str "right"])
   cases inV (.str z) [V.str "set",.str "copy",.str "right"] with
   | false=>exact cT (fin _ s8)
   | true =>
    have t8:=s8 _ _ t7
    have l8':=s8 _ _ l7
    have b8:=b7.same s8
    have x8:=x7.trans (SameX.of s8)
    generalize upd H7 l8 (.lst [V.str "set",.str "copy",.str "right"])=H8 at t8 l8' b8 x8 ⊢
    refine iw ⟨_,rfl,_,rfl,t,_,rfl,j9 t8 (Nat.lt_of_le_of_lt tb7.ln (lt_of_lt_of_le (show 2*i+1<100 by omega) (by decide))),?_⟩
    have ok9:=p1 kv7 0 (by decide) (by decide)
    refine nx7 (eK kv7 (.inr z) (.int 0)) _ ah (by rw[ao hlt]; exact l8') ?_ (fun b o hb e=>?_) (tb7.put tz (aD (by decide) (by decide))) (fun y hy=>ok9.1 y (ok7.1 y hy)) ok9.2
    ·obtain⟨r1,r2,hb⟩:=b8
     exact⟨r1,r2,by rw[ao (Ne.symm htp)]; exact hb⟩
    ·rw[ao (fun e'=>by rw[e',htH] at e; cases e)]
     exact x8 b o hb e
  ·refine cM c2 ?_
   exact cT (fin _ (Same.refl _))
 ·rintro σ HI ⟨kvs,x5,rfl,tI,lI,tb,al,bI,xI⟩
  have g:GoodD kvs:=fun y hy=>al y (by rw[length_map,List.take_length]; exact(xm y).mpr hy)
  rw[length_map,xl] at tb
  refine⟨fun σ2 HZ=>∃ kv2 x5,σ2=[some (.ref p),some (.int kd),some (.ref l),some (.int m),some (.ref t),x5]/\HZ t=some (.dK kv2)/\GoodD kv2/\Tb 40 kv2/\Bx HZ p/\SameX p H HZ,?_,?_⟩
  ·walk_at "o"; intro d H6 d0 d1 b6 x6
   have t6:=x6 _ _ htp tI
   walk_at "o"
   walk_at "c" <;> intro c3
   ·refine⟨_,rfl,t,_,rfl,j9 t6 (Nat.lt_of_le_of_lt tb.ln (by decide)),?_⟩
    refine⟨eK kvs (.inr "more") (.str "else"),_,rfl,ah,g.more (by decide +kernel),(tb.put (x:="more") ⟨by decide +kernel,by decide +kernel⟩ (.inr (.inr (.inr ⟨"else",rfl,by decide +kernel,by decide +kernel⟩)))).le (by decide),?_,fun b o hb e=>?_⟩
    ·obtain⟨r1,r2,hb⟩:=b6
     exact⟨r1,r2,by rw[ao (Ne.symm htp)]; exact hb⟩
    ·rw[ao (fun e'=>by rw[e',htH] at e; cases e)]
     exact(xI.trans x6) b o hb e
   ·exact⟨kvs,_,rfl,t6,g,tb.le (by decide),b6,xI.trans x6⟩
  rintro σ2 HZ ⟨kv2,x6,rfl,tZ,gZ,tbZ,bZ,xZ⟩
  exact⟨_,rfl,q t kv2 HZ htH tZ gZ tbZ bZ xZ⟩
theorem ty_not {K:Frag}{H:Hp}{z:V}(h:Th H z) (n:∀ a xs,z=.ref a->H a≠some (.tup xs)):∃ t,TyOf K H z t/\kitOne K t (.type "tuple")=some false:=by
 cases h with
 | int i=>exact⟨_,TyOf.int _,by with_unfolding_all rfl⟩
 | bl b=>exact⟨_,TyOf.bl _,by with_unfolding_all rfl⟩
 | str x=>exact⟨_,TyOf.str _,by with_unfolding_all rfl⟩
 | non=>exact⟨_,TyOf.non,by with_unfolding_all rfl⟩
 | lst h=>exact⟨_,TyOf.lst h,by with_unfolding_all rfl⟩
 | tup h=>exact absurd h (n _ _ rfl)
 | dct h=>exact⟨_,TyOf.dK h,by with_unfolding_all rfl⟩
theorem rkB_len {xs:List V}(h:xs.length≠4):rkB xs=false:=by
 unfold rkB
 split
 ·exact absurd rfl h
 ·rfl
theorem rk_yes {e f a t:Int}(g:RG e f a t):rkB [.int e,.int f,.int a,.int t]=true:=by
 obtain⟨g1,g2,g3,g4,g5,g6,g7,g8⟩:=g
 show (btw (.int e) 0 64&&btw (.int t) 0 130&&btw (.int f) 0 1180591620717411303424&&btw (.int a) 0 1180591620717411303424)=true
 rw[cJ g1 g2,cJ g3 g4,cJ g5 g6,cJ g7 g8]
 rfl
theorem kX {f:Addr}{fd:FuncData}(F:Fun K "need_width" "need_width" er f fd) (T:Txt K mg c) (H_is_between:Has P w K mg base 2 "is_between" ["thing","low","high"] ii) (X_NoWidth:XHas P w K mg base 1 "NoWidth" c.NoWidth "found"):FnOk P w K mg base (CX2 P w base) 3 f fd ["width"] (spNWY c):=by
 refine Fun.okY F lf (fun vs H Q E h=>?_) (fun cdv A outer s H vs Q E hr h=>?_)
 ·obtain⟨x,rfl,_⟩:=h
  rfl
 obtain⟨x,rfl,th,qv,qe⟩:=h
 refine⟨_,(ag (aB (bt (aY (av H_is_between (hr.mono (by omega)) rfl (aa (pv 0) (aa ac (aa ac ae))))))
   (ag (cV X_NoWidth (hr.mono (by omega)) rfl (aa (pv 0) ae)))
   au)),?_⟩
 refine⟨_,rfl,x,_,_,rfl,th,_,rfl,?_⟩
 cases hb:btw x 4 32 with
 | true=>exact cT (qv hb)
 | false=>exact iw ⟨_,rfl,_,rfl,fun d hd=>qe hb d _ ah (ak hd _)⟩
theorem iQ {f:Addr}{fd:FuncData}(F:Fun K "need_divisor" "need_divisor" cL f fd) (T:Txt K mg c) (H_need_width:HasY P w K mg base 3 "need_width" ["width"] (spNWY c)) (H_is_between:Has P w K mg base 2 "is_between" ["thing","low","high"] ii) (X_NoDivisor:XHas P w K mg base 1 "NoDivisor" c.NoDivisor "found"):FnOk P w K mg base (CX2 P w base) 4 f fd ["width","d"] (pV c):=by
 refine Fun.okY F jh (fun vs H Q E h=>?_) (fun cdv A outer s H vs Q E hr h=>?_)
 ·obtain⟨x,y,rfl,_⟩:=h
  rfl
 obtain⟨x,y,rfl,wd⟩:=h
 refine⟨_,(af (aF (be H_need_width (hr.mono (by omega)) rfl (aa (pv 0) ae)))
  (ag (aB (bt (aY (av H_is_between (hr.mono (by omega)) rfl (aa (pv 1) (aa ac (aa (ap aQ (ap aS ac (pv 0)) ac) ae))))))
   (ag (cV X_NoDivisor (hr.mono (by omega)) rfl (aa (pv 1) ae)))
   au))),?_⟩
 refine⟨_,rfl,x,rfl,wd.tx,fun hb=>?_,wd.ew⟩
 obtain⟨w',rfl,h1,h2⟩:=sv hb
 refine⟨_,rfl,_,rfl,_,_,rfl,rfl,dC (by omega) (by omega),_,_,rfl,rfl,y,_,_,rfl,wd.ty,_,rfl,?_⟩
 cases hy:btw y 1 (1*2^w'.toNat-1) with
 | true =>
  obtain⟨d,rfl,d1,d2⟩:=sv hy
  exact cT (wd.ok w' d rfl rfl h1 h2 d1 (by omega))
 | false=>exact iw ⟨_,rfl,_,rfl,fun d hd=>wd.ed w' rfl h1 h2 hy d _ ah (ak hd _)⟩
theorem jm {f:Addr}{fd:FuncData}(F:Fun K "is_reckoning" "is_reckoning" cH f fd) (T:Txt K mg c) (H_is_between:Has P w K mg base 2 "is_between" ["thing","low","high"] ii):FnOk P w K mg base CX0 3 f fd ["thing"] qI:=by
 refine F.ok jd (fun vs H Q E h=>?_) (fun cdv A outer s H vs Q E hr h=>?_)
 ·obtain⟨z,b,rfl,_⟩:=h
  rfl
 obtain⟨z,b,rfl,rk,q⟩:=h
 refine⟨_,(af (aB (PW.pt (lr (bt (aY (aW cW rfl T.n_isinstance boot_isinstance (aa (pv 0) (aa (pe_ty rfl T.n_tuple boot_tuple) ae))))) (i6 (ar op_ne (aW dR rfl T.n_len boot_len (aa (pv 0) ae)) ac (ax _)))))
   (ag (aq iB))
   au)
  (af (aB (PW.pt (lr (bt (aY (av H_is_between (hr.mono (by omega)) rfl (aa (bo bV (pv 0) ac (fun _ _=>rfl)) (aa ac (aa ac ae)))))) (i6 (bt (aY (av H_is_between (hr.mono (by omega)) rfl (aa (bo bV (pv 0) ac (fun _ _=>rfl)) (aa ac (aa ac ae)))))))))
   (ag (aq iB))
   au)
  (ag (aq (rO (av H_is_between (hr.mono (by omega)) rfl (aa (bo bV (pv 0) ac (fun _ _=>rfl)) (aa ac (aa (ap aS ac ac) ae)))) (oN (av H_is_between (hr.mono (by omega)) rfl (aa (bo bV (pv 0) ac (fun _ _=>rfl)) (aa ac (aa (ap aS ac ac) ae)))))))))),?_⟩
 have P70:=pow70
 cases rk with
 | no th n =>
  obtain⟨ty,h1,h2⟩:=ty_not (K:=K) th n
  exact⟨_,rfl,_,_,_,_,_,rfl,rfl,h1,h2,_,rfl,iw q⟩
 | @tup r xs ht al ln =>
  refine⟨_,rfl,_,_,_,_,_,rfl,rfl,TyOf.tup ht,rfl,_,rfl,cT ?_⟩
  refine⟨_,rfl,r,_,rfl,.inr (SqT.of ht),rfl,_,rfl,?_⟩
  by_cases l4:xs.length=4
  ·refine qo (by rw[l4]; rfl) ?_
   match xs,l4,ht,al,q with
   | [v0,v1,v2,v3],_,ht,al,q =>
    have t0:=al v0 (by simp)
    have t1:=al v1 (by simp)
    have t2:=al v2 (by simp)
    have t3:=al v3 (by simp)
    have q':Q (.bl (btw v0 0 64&&btw v3 0 130&&btw v1 0 1180591620717411303424&&btw v2 0 1180591620717411303424)) H:=q
    refine⟨_,rfl,r,_,_,_,rfl,rfl,SqT.of ht,rfl,_,_,_,rfl,t0,_,rfl,?_⟩
    cases b0:btw v0 0 64 with
    | false=>rw[b0] at q'; exact iw q'
    | true =>
     refine cT ?_
     refine⟨_,rfl,r,_,_,_,rfl,rfl,SqT.of ht,rfl,_,_,_,rfl,t3,_,rfl,?_⟩
     cases b3:btw v3 0 130 with
     | false=>rw[b0,b3] at q'; exact iw q'
     | true =>
      refine cT ?_
      refine⟨_,rfl,r,_,_,_,rfl,rfl,SqT.of ht,rfl,_,_,rfl,rfl,dC (by decide) (by decide),_,_,_,rfl,t1,_,rfl,?_⟩
      rw[P70]
      cases b1:btw v1 0 1180591620717411303424 with
      | false=>rw[b0,b3,b1] at q'; exact cT q'
      | true =>
       refine iw ?_
       refine⟨_,rfl,r,_,_,_,rfl,rfl,SqT.of ht,rfl,_,_,rfl,rfl,dC (by decide) (by decide),_,_,_,rfl,t2,?_⟩
       rw[P70]
       rw[b0,b3,b1] at q'
       exact q'
  ·rw[rkB_len l4] at q
   exact iteCN (fun _=>q) fun z=>absurd (by injection z with z; omega) l4
theorem gM {f:Addr}{fd:FuncData}(F:Fun K "need_reckoning" "need_reckoning" ci f fd) (T:Txt K mg c) (H_need_divisor:HasY P w K mg base 4 "need_divisor" ["width","d"] (pV c)) (H_is_reckoning:Has P w K mg base 3 "is_reckoning" ["thing"] qI) (H_twos_in:Has P w K mg base 1 "twos_in" ["d"] ij) (X_NoForm:XHas P w K mg base 1 "NoForm" c.NoForm "found"):FnOk P w K mg base (CX2 P w base) 5 f fd ["width","d","reckoning"] (spNR c):=by
 refine Fun.okY F hX (fun vs H Q E h=>?_) (fun cdv A outer s H vs Q E hr h=>?_)
 ·obtain⟨x,y,z,rfl,_⟩:=h
  rfl
 obtain⟨x,y,z,rfl,wd⟩:=h
 refine⟨_,(af (aF (be H_need_divisor (hr.mono (by omega)) rfl (aa (pv 0) (aa (pv 1) ae))))
  (ag (aB (PW.pt (lr (bt (aY (av H_is_reckoning (hr.mono (by omega)) rfl (aa (pv 2) ae)))) (i6 (ar p4 (bo bV (pv 2) ac (fun _ _=>rfl)) (av H_twos_in (hr.mono (by omega)) rfl (aa (pv 1) ae)) (ax _)))))
   (ag (cV X_NoForm (hr.mono (by omega)) rfl (aa (pv 2) ae)))
   au))),?_⟩
 refine⟨_,rfl,_,rfl,x,y,rfl,wd.imp fun i d ex ey h1 h2 d1 d2 rz=>?_⟩
 subst ex ey
 have yes:∀ {r:Addr} {e f a t:Int},IsG H r e f a t->RG e f a t->RkT H (.ref r) true:=fun ig rg=>by
  have h:=RkT.tup ig (fun v hv=>by
   simp only[mem_cons,not_mem_nil,or_false] at hv
   rcases hv with rfl | rfl | rfl | rfl <;> exact .int _) (by show 4<=10; decide)
  rw[rk_yes rg] at h
  exact h
 rcases rz with ⟨tw,htw,rk | ⟨r,e,f,a,t,rfl,ig,rg,lt⟩,xe⟩ | ⟨r,e,f,a,t,rfl,ig,rg,hd,q⟩
 ·exact⟨_,rfl,z,false,rfl,rk,_,rfl,iw ⟨_,rfl,_,rfl,fun d hd=>xe d _ ah (ak hd _)⟩⟩
 ·refine⟨_,rfl,_,true,rfl,yes ig rg,_,rfl,cT ?_⟩
  exact⟨_,rfl,r,_,_,_,rfl,rfl,SqT.of ig,rfl,_,rfl,_,rfl,d1,fun tt tw'=>⟨_,_,rfl,rfl,_,rfl,lj (by rw[lX tw' htw]; exact lt) ⟨_,rfl,_,rfl,fun d hd=>xe d _ ah (ak hd _)⟩⟩⟩
 ·refine⟨_,rfl,_,true,rfl,yes ig rg,_,rfl,cT ?_⟩
  exact⟨_,rfl,r,_,_,_,rfl,rfl,SqT.of ig,rfl,_,rfl,_,rfl,d1,fun tt tw=>⟨_,_,rfl,rfl,_,rfl,cM (Int.not_lt.mpr (tw_le tw hd rg.1)) q⟩⟩
theorem mC {f:Addr}{fd:FuncData}(F:Fun K "need_form" "need_form" fH f fd) (T:Txt K mg c) (H_need_divisor:HasY P w K mg base 4 "need_divisor" ["width","d"] (pV c)) (H_twos_in:Has P w K mg base 1 "twos_in" ["d"] ij) (X_NoForm:XHas P w K mg base 1 "NoForm" c.NoForm "found") (MN:∀ i,i<5->MHas P w K mg base 4 (fOf c i) "numbers_in" ["self","width"] (cm c i)) (MT:∀ i,i<5->MHas P w K mg base 2 (fOf c i) "told" ["self"] (dA c i)):FnOk P w K mg base (CX2 P w base) 5 f fd ["width","d","form"] (spNF c):=by
 refine Fun.okY F lJ (fun vs H Q E h=>?_) (fun cdv A outer s H vs Q E hr h=>?_)
 ·obtain⟨x,y,p,kd,e,f,t,rfl,_⟩:=h
  rfl
 obtain⟨x,y,p,kd,e,f,t,rfl,fo,fm,wd⟩:=h
 refine⟨_,(af (aF (be H_need_divisor (hr.mono (by omega)) rfl (aa (pv 0) (aa (pv 1) ae))))
  (ag (aB (ar p4 (bo bV (iN (k:=4) (pv 2) (hr.mono (by omega)) (aa (pv 0) ae)) ac (fun _ _=>rfl)) (av H_twos_in (hr.mono (by omega)) rfl (aa (pv 1) ae)) (ax _))
   (ag (cV X_NoForm (hr.mono (by omega)) rfl (aa (bU (k:=2) (pv 2) (hr.mono (by omega))) ae)))
   au))),?_⟩
 refine⟨_,rfl,_,rfl,x,y,rfl,wd.imp fun i d ex ey h1 h2 d1 d2 fz=>?_⟩
 subst ex ey
 obtain⟨dx,hx⟩:=id fo
 refine⟨_,rfl,p,_,dx,_,_,_,rfl,hx,pf,MN kd fm.k,_,rfl,p,i,e,f,t,rfl,fo,fm,h1,h2,fun r H' h0 hr' s'=>?_⟩
 refine⟨_,_,_,_,rfl,rfl,SqT.of hr',rfl,_,rfl,_,rfl,d1,fun tt tw=>⟨_,_,rfl,rfl,_,rfl,?_⟩⟩
 rcases fz with ⟨⟨tw',htw,lt⟩,xe⟩ | ⟨hd,q⟩
 ·refine lj (by rw[lX tw htw]; exact lt) ?_
  refine⟨_,rfl,p,_,dx,_,_,_,rfl,s' _ _ hx,fl_told,MT kd fm.k,p,e,f,t,rfl,⟨dx,s' _ _ hx⟩,fun r2 H2 h2' hr2 s2=>⟨_,rfl,fun dd hdd=>xe dd r2 _ ah ?_ ((s'.trans s2).trans (ak hdd _))⟩⟩
  exact ak hdd _ _ _ hr2
 ·exact cM (Int.not_lt.mpr (tw_le tw hd fm.ea)) (q _ s')
theorem jg {f:Addr}{fd:FuncData}(F:Fun K "corner_words" "corner_words" cP f fd) (T:Txt K mg c) (H_need_divisor:HasY P w K mg base 4 "need_divisor" ["width","d"] (pV c)) (H_corners_to:Has P w K mg base 1 "corners_to" ["last","d"] fY):FnOk P w K mg base (CX2 P w base) 5 f fd ["width","d"] (spCW c):=by
 refine Fun.okY F jn (fun vs H Q E h=>?_) (fun cdv A outer s H vs Q E hr h=>?_)
 ·obtain⟨x,y,rfl,_⟩:=h
  rfl
 obtain⟨x,y,rfl,wd⟩:=h
 refine⟨_,(af (aF (be H_need_divisor (hr.mono (by omega)) rfl (aa (pv 0) (aa (pv 1) ae))))
  (ag (aq (av H_corners_to (hr.mono (by omega)) rfl (aa (ap aQ (ap aS ac (pv 0)) ac) (aa (pv 1) ae)))))),?_⟩
 refine⟨_,rfl,_,rfl,x,y,rfl,wd.imp fun i d ex ey h1 h2 d1 d2 q=>?_⟩
 subst ex ey
 have pb:=aE h1 h2
 have ei:(1:Int)*2^i.toNat=2^i.toNat:=one_mul _
 exact⟨_,rfl,_,_,rfl,rfl,dC (by omega) (by omega),_,_,rfl,rfl,_,rfl,_,d,rfl,by omega,by omega,d1,by omega,fun p zs H' _ _ s _ _=>q _ _ s⟩
theorem dZ {f:Addr}{fd:FuncData}(F:Fun K "reckoning_is_right" "reckoning_is_right" bf f fd) (T:Txt K mg c) (H_need_reckoning:HasY P w K mg base 5 "need_reckoning" ["width","d","reckoning"] (spNR c)) (H_right_to:Has P w K mg base 2 "right_to" ["last","d","reckoning"] cF):FnOk P w K mg base (CX2 P w base) 6 f fd ["width","d","reckoning"] (qj c):=by
 refine Fun.okY F el (fun vs H Q E h=>?_) (fun cdv A outer s H vs Q E hr h=>?_)
 ·obtain⟨x,y,z,rfl,_⟩:=h
  rfl
 obtain⟨x,y,z,rfl,wd⟩:=h
 refine⟨_,(af (aF (be H_need_reckoning (hr.mono (by omega)) rfl (aa (pv 0) (aa (pv 1) (aa (pv 2) ae)))))
  (ag (aq (av H_right_to (hr.mono (by omega)) rfl (aa (ap aQ (ap aS ac (pv 0)) ac) (aa (pv 1) (aa (pv 2) ae))))))),?_⟩
 refine⟨_,rfl,_,rfl,_,rfl,x,y,z,rfl,wd.imp fun i d ex ey h1 h2 d1 d2 rz=>?_⟩
 subst ex ey
 have pb:=aE h1 h2
 have ei:(1:Int)*2^i.toNat=2^i.toNat:=one_mul _
 refine rz.imp fun r e f a t ez ig rg hd q=>?_
 subst ez
 exact⟨_,rfl,_,_,rfl,rfl,dC (by omega) (by omega),_,_,rfl,rfl,_,rfl,_,rfl,_,d,r,e,f,a,t,rfl,by omega,by omega,d1,by omega,ig,rg,hd,fun b H' s' _=>q b H' s'⟩
theorem nZ {f:Addr}{fd:FuncData}(F:Fun K "is_right" "is_right" gQ f fd) (T:Txt K mg c) (H_need_form:HasY P w K mg base 5 "need_form" ["width","d","form"] (spNF c)) (H_right_to:Has P w K mg base 2 "right_to" ["last","d","reckoning"] cF) (MN:∀ i,i<5->MHas P w K mg base 4 (fOf c i) "numbers_in" ["self","width"] (cm c i)):FnOk P w K mg base (CX2 P w base) 6 f fd ["width","d","form"] (ou c):=by
 refine Fun.okY F nq (fun vs H Q E h=>?_) (fun cdv A outer s H vs Q E hr h=>?_)
 ·obtain⟨x,y,p,kd,e,f,t,rfl,_⟩:=h
  rfl
 obtain⟨x,y,p,kd,e,f,t,rfl,fo,fm,wd⟩:=h
 refine⟨_,(af (aF (be H_need_form (hr.mono (by omega)) rfl (aa (pv 0) (aa (pv 1) (aa (pv 2) ae)))))
  (ag (aq (av H_right_to (hr.mono (by omega)) rfl (aa (ap aQ (ap aS ac (pv 0)) ac) (aa (pv 1) (aa (iN (k:=4) (pv 2) (hr.mono (by omega)) (aa (pv 0) ae)) ae))))))),?_⟩
 refine⟨_,rfl,_,rfl,_,rfl,x,y,p,kd,e,f,t,rfl,fo,fm,wd.imp fun i d ex ey h1 h2 d1 d2 fz=>?_⟩
 subst ex ey
 have pb:=aE h1 h2
 have ei:(1:Int)*2^i.toNat=2^i.toNat:=one_mul _
 refine fz.imp fun hd q H1 s1=>?_
 obtain⟨dx,hx⟩:=fo
 have hx1:=s1 _ _ hx
 refine⟨_,rfl,_,_,rfl,rfl,dC (by omega) (by omega),_,_,rfl,rfl,_,rfl,_,rfl,p,_,dx,_,_,_,rfl,hx1,pf,MN kd fm.k,_,rfl,p,i,e,f,t,rfl,⟨dx,hx1⟩,fm,h1,h2,fun r H2 h0 hr' s2=>?_⟩
 exact⟨_,d,r,_,_,_,_,rfl,by omega,by omega,d1,by omega,hr',fm.rg h1 h2,hd,fun b H3 s3 _=>q b H3 (s1.trans (s2.trans s3))⟩
theorem gm {f:Addr}{fd:FuncData}(F:Fun K "reckoning_wrong" "reckoning_wrong" bP f fd) (T:Txt K mg c) (H_need_reckoning:HasY P w K mg base 5 "need_reckoning" ["width","d","reckoning"] (spNR c)) (H_least_wrong:Has P w K mg base 5 "least_wrong" ["width","d","reckoning"] (iU PT0)):FnOk P w K mg base (CX2 P w base) 6 f fd ["width","d","reckoning"] (pQ c PT0):=by
 refine Fun.okY F gk (fun vs H Q E h=>?_) (fun cdv A outer s H vs Q E hr h=>?_)
 ·obtain⟨x,y,z,rfl,_⟩:=h
  rfl
 obtain⟨x,y,z,rfl,to,wd⟩:=h
 refine⟨_,(af (aF (be H_need_reckoning (hr.mono (by omega)) rfl (aa (pv 0) (aa (pv 1) (aa (pv 2) ae)))))
  (ag (aq (av H_least_wrong (hr.mono (by omega)) rfl (aa (pv 0) (aa (pv 1) (aa (pv 2) ae))))))),?_⟩
 refine⟨_,rfl,_,rfl,_,rfl,x,y,z,rfl,wd.imp fun i d ex ey h1 h2 d1 d2 rz=>?_⟩
 subst ex ey
 refine rz.imp fun r e f a t ez ig rg hd q=>?_
 subst ez
 exact⟨_,rfl,_,rfl,_,rfl,_,d,r,e,f,a,t,rfl,h1,h2,d1,d2,⟨ig,rg,hd⟩,to,fun v H' s' to' _=>q v H' s' to'⟩
theorem kC {f:Addr}{fd:FuncData}(F:Fun K "wrong_word" "wrong_word" dW f fd) (T:Txt K mg c) (H_need_form:HasY P w K mg base 5 "need_form" ["width","d","form"] (spNF c)) (H_least_wrong:Has P w K mg base 5 "least_wrong" ["width","d","reckoning"] (iU PT0)) (MN:∀ i,i<5->MHas P w K mg base 4 (fOf c i) "numbers_in" ["self","width"] (cm c i)):FnOk P w K mg base (CX2 P w base) 6 f fd ["width","d","form"] (pY c PT0):=by
 refine Fun.okY F kU (fun vs H Q E h=>?_) (fun cdv A outer s H vs Q E hr h=>?_)
 ·obtain⟨x,y,p,kd,e,f,t,rfl,_⟩:=h
  rfl
 obtain⟨x,y,p,kd,e,f,t,rfl,fo,fm,to,wd⟩:=h
 refine⟨_,(af (aF (be H_need_form (hr.mono (by omega)) rfl (aa (pv 0) (aa (pv 1) (aa (pv 2) ae)))))
  (ag (aq (av H_least_wrong (hr.mono (by omega)) rfl (aa (pv 0) (aa (pv 1) (aa (iN (k:=4) (pv 2) (hr.mono (by omega)) (aa (pv 0) ae)) ae))))))),?_⟩
 refine⟨_,rfl,_,rfl,_,rfl,x,y,p,kd,e,f,t,rfl,fo,fm,wd.imp fun i d ex ey h1 h2 d1 d2 fz=>?_⟩
 subst ex ey
 refine fz.imp fun hd q H1 s1=>?_
 obtain⟨dx,hx⟩:=fo
 have hx1:=s1 _ _ hx
 refine⟨_,rfl,_,rfl,_,rfl,p,_,dx,_,_,_,rfl,hx1,pf,MN kd fm.k,_,rfl,p,i,e,f,t,rfl,⟨dx,hx1⟩,fm,h1,h2,fun r H2 h0 hr' s2=>?_⟩
 exact⟨_,d,r,_,_,_,_,rfl,h1,h2,d1,d2,⟨hr',fm.rg h1 h2,hd⟩,aR to (s1.trans s2),fun v H3 x3 to3 lw=>q v H3 ((SameX.of (s1.trans s2)).trans x3) to3 lw⟩
theorem iC {f:Addr}{fd:FuncData}(F:Fun K "is_wrong_word" "is_wrong_word" cy f fd) (T:Txt K mg c) (H_need_form:HasY P w K mg base 5 "need_form" ["width","d","form"] (spNF c)) (H_is_right:HasY P w K mg base 6 "is_right" ["width","d","form"] (ou c)) (H_is_word:Has P w K mg base 3 "is_word" ["width","thing"] mT) (H_brought:Has P w K mg base 1 "brought" ["reckoning","x"] ll) (H_right_to:Has P w K mg base 2 "right_to" ["last","d","reckoning"] cF) (MN:∀ i,i<5->MHas P w K mg base 4 (fOf c i) "numbers_in" ["self","width"] (cm c i)):FnOk P w K mg base (CX2 P w base) 7 f fd ["width","d","form","thing"] (spIW c):=by
 refine Fun.okY F sc_is_wrong_word (fun vs H Q E h=>?_) (fun cdv A outer s H vs Q E hr h=>?_)
 ·obtain⟨x,y,p,kd,e,f,t,rfl,_⟩:=h
  rfl
 obtain⟨x,y,p,kd,e,f,t,rfl,fo,fm,wd⟩:=h
 refine⟨_,(af (aB (ar sT (pv 3) cE (ax _))
   (ag (aq (be H_is_right (hr.mono (by omega)) rfl (aa (pv 0) (aa (pv 1) (aa (pv 2) ae))))))
   au)
  (af (aF (be H_need_form (hr.mono (by omega)) rfl (aa (pv 0) (aa (pv 1) (aa (pv 2) ae)))))
  (af (aB (bt (aY (av H_is_word (hr.mono (by omega)) rfl (aa (pv 0) (aa (pv 3) ae)))))
   (ag (aq iB))
   au)
  (af (aw (i:=4) sc_is_wrong_word.nd rfl (Or.inl rfl) (iN (k:=4) (pv 2) (hr.mono (by omega)) (aa (pv 0) ae)))
  (af (aB (ar aO (av H_brought (hr.mono (by omega)) rfl (aa (pv 4) (aa (pv 3) ae))) (ap bE (pv 3) (pv 1)) (ax _))
   (ag (aq iB))
   au)
  (ag (aq (pe_or (iR aO (pv 3) ac (ax _)) (oN (av H_right_to (hr.mono (by omega)) rfl (aa (ap aQ (pv 3) ac) (aa (pv 1) (aa (pv 4) ae))))))))))))),?_⟩
 refine⟨_,rfl,rfl,_,rfl,cM (by nofun) ?_⟩
 refine⟨_,rfl,_,rfl,_,rfl,x,y,p,kd,e,f,t,rfl,fo,fm,wd.imp fun i d ex ey h1 h2 d1 d2 fz=>?_⟩
 subst ex ey
 have pb:=aE h1 h2
 have lg:=cw (m:=d) (by omega) (by omega)
 refine fz.imp fun hd q H1 s1=>?_
 obtain⟨dx,hx⟩:=fo
 have hx1:=s1 _ _ hx
 refine⟨_,rfl,_,rfl,i,_,rfl,h1,h2,.int 1,_,rfl,?_⟩
 rw[cJ (by decide) (show (1:Int)<=1*2^i.toNat-1 by omega)]
 refine cT ?_
 refine⟨_,rfl,p,_,dx,_,_,_,rfl,hx1,pf,MN kd fm.k,_,rfl,p,i,e,f,t,rfl,⟨dx,hx1⟩,fm,h1,h2,fun r H2 h0 hr' s2=>?_⟩
 have rg:=fm.rg h1 h2
 have s12:=s1.trans s2
 refine⟨_,rfl,_,rfl,r,_,_,_,_,1,rfl,hr',rg,by decide,by decide,_,rfl,_,rfl,_,_,rfl,rfl,⟨by omega,lg⟩,rfl,_,rfl,?_⟩
 walk_at "c" <;> intro c3
 ·exact q false H2 s12
 refine⟨_,rfl,rfl,_,rfl,cM (by nofun) ?_⟩
 exact⟨_,rfl,_,_,rfl,rfl,_,rfl,_,rfl,0,d,r,_,_,_,_,rfl,by decide,by decide,d1,by omega,hr',rg,hd,fun b H' s' _=>q b H' (s12.trans s')⟩
theorem getD_fr {H:Hp}{o:Option V}(d:∀ v,o=some v->FV v):Th H (o.getD .non):=by
 cases o with
 | none=>exact .non
 | some v=>exact(d v rfl).th
theorem kb {f:Addr}{fd:FuncData}(F:Fun K "candidates" "candidates" ee f fd) (T:Txt K mg c) (H_need_divisor:HasY P w K mg base 4 "need_divisor" ["width","d"] (pV c)) (H_scaled_candidates:Has P w K mg base 6 "scaled_candidates" ["width","d"] (spScC c)) (H_early_candidates:Has P w K mg base 7 "early_candidates" ["width","d"] (spEaC c)) (H_more_candidates:Has P w K mg base 6 "more_candidates" ["width","d"] (spMoC c)) (H_ceiling:Has P w K mg base 1 "ceiling" ["top","bottom"] hV) (C_Shifted:CHas P w K mg base 4 c.Shifted "Shifted" ["self","shift"] (spI0 c)) (C_Wide:CHas P w K mg base 4 c.Wide "Wide" ["self","factor","shift"] (spI2 c 4 1)):FnOk P w K mg base (CX2 P w base) 8 f fd ["width","d"] (spCd c):=by
 refine Fun.okY F sc_candidates (fun vs H Q E h=>?_) (fun cdv A outer s H vs Q E hr h=>?_)
 ·obtain⟨x,y,rfl,_⟩:=h
  rfl
 obtain⟨x,y,rfl,wd⟩:=h
 refine⟨_,(af (aF (be H_need_divisor (hr.mono (by omega)) rfl (aa (pv 0) (aa (pv 1) ae))))
  (af (aw (i:=2) sc_candidates.nd rfl (Or.inl rfl) (bX (aa (jT C_Shifted (hr.mono (by omega)) rfl (aa (ap aQ (lx PySem.F.plainAttrs_int PySem.F.slot_int_bit_length PySem.F.type_int_bit_length lh (pv 1)) ac) ae)) ae)))
  (af (aF (j7 PySem.F.plainAttrs_list PySem.F.slot_list_extend PySem.F.type_list_extend jy (pv 2) (aa (av H_scaled_candidates (hr.mono (by omega)) rfl (aa (pv 0) (aa (pv 1) ae))) ae)))
  (af (aF (j7 PySem.F.plainAttrs_list PySem.F.slot_list_extend PySem.F.type_list_extend jy (pv 2) (aa (av H_early_candidates (hr.mono (by omega)) rfl (aa (pv 0) (aa (pv 1) ae))) ae)))
  (af (aF (j7 PySem.F.plainAttrs_list PySem.F.slot_list_extend PySem.F.type_list_extend jy (pv 2) (aa (av H_more_candidates (hr.mono (by omega)) rfl (aa (pv 0) (aa (pv 1) ae))) ae)))
  (af (aw (i:=3) sc_candidates.nd rfl (Or.inl rfl) (lx PySem.F.plainAttrs_int PySem.F.slot_int_bit_length PySem.F.type_int_bit_length lh (ap aQ (pv 1) ac)))
  (bj (aB (ar op_ne (pv 3) ac (ax _))
   (ag (aF (j7 PySem.F.plainAttrs_list PySem.F.slot_list_append PySem.F.type_list_append bW (pv 2) (aa (jT C_Wide (hr.mono (by omega)) rfl (aa (ap aQ (av H_ceiling (hr.mono (by omega)) rfl (aa (ap aS ac (ap aA (pv 0) (pv 3))) (aa (pv 1) ae))) (ap aS ac (pv 0))) (aa (pv 3) ae))) ae))))
   au)
  (ag (aq (pv 2)))))))))),?_⟩
 refine⟨_,rfl,_,rfl,x,y,rfl,wd.imp fun i d ex ey h1 h2 d1 d2 q=>?_⟩
 subst ex ey
 have pb:=aE h1 h2
 have lb:=jP h2 d1 d2
 have L100:(1000:Nat)<=sizeLine:=by decide
 walk_at "o"
 refine fun x dx hx hdx hne=>⟨x,dx,_,rfl,ah,(by omega),(by omega),fun H1 s1 fo=>⟨rfl,(by show 1<=sizeLine; decide),fun l hl=>?_⟩⟩
 have sM:=cR hx hdx s1
 have hz:H l=none:=by
  cases e:H l with
  | none=>rfl
  | some o=>have:=sM _ _ e; rw[hl] at this; cases this
 have n1:=ak hl (.lst [.ref x])
 have A1:AL (FR c) (upd H1 l (.lst [.ref x])) l [⟨0,0,0,(intBits d:Int)-1⟩]:=⟨[x],ah,.one (FR.same (x:=⟨0,0,0,(intBits d:Int)-1⟩) fo n1)⟩
 have S1:=sM.trans n1
 generalize upd H1 l (.lst [.ref x])=G1 at A1 S1 ⊢
 obtain⟨ps1,hp1,pl1⟩:=A1
 refine⟨_,rfl,.inl ⟨rfl,_,SqL.of hp1⟩,_,rfl,_,rfl,i,d,rfl,h1,h2,d1,d2,fun b2 H2 b20 ⟨qs2,hq2,ql2⟩ s2=>⟨l,b2,_,_,rfl,rfl,s2 _ _ hp1,hq2,?_,?_⟩⟩
 ·have:=pl1.1
  have:=ql2.1
  have:=fq 1 0 (1*2^i.toNat) d (intBits (d-1)+1)
  rw[length_map,length_map]
  simp only[length_cons,List.length_nil] at *
  omega
 have A2:=AL.ext (pl1.mono fun _ _ q=>q.same s2) (s2 _ _ hp1) ql2
 have S2:=Same.updL (o:=.lst (ps1.map V.ref++qs2.map V.ref)) (S1.trans s2) hz
 have l2:([⟨0,0,0,(intBits d:Int)-1⟩]++cSc 1 0 (1*2^i.toNat) d (intBits (d-1)+1):List Cd).length<=40:=by
  have:=fq 1 0 (1*2^i.toNat) d (intBits (d-1)+1)
  rw[length_append]
  show 1+_<=40
  omega
 generalize upd H2 l (.lst (ps1.map V.ref++qs2.map V.ref))=G2 at A2 S2 ⊢
 clear pl1 hp1 S1 s2 hq2 ql2 n1 fo s1 sM
 obtain⟨ps2,hp2,pl2⟩:=A2
 refine⟨_,rfl,.inl ⟨rfl,_,SqL.of hp2⟩,_,rfl,_,rfl,i,d,rfl,h1,h2,d1,d2,fun t b3 H3 tw b30 ⟨qs3,hq3,ql3⟩ s3=>?_⟩
 have t0:=tw.1
 have o1:=xdiv (x:=d) (by omega) t
 have o2:1<=d/2^t.toNat:=Classical.byContradiction fun z=>by
  have a:=Int.mul_nonpos_of_nonpos_of_nonneg (show d/2^t.toNat<=0 by omega) (Int.le_of_lt (gJ t.toNat))
  have b:=tw.2.1
  omega
 have lo:=(jP h2 o2 (Int.lt_of_le_of_lt o1.2 d2)).1
 have l3:([⟨0,0,0,(intBits d:Int)-1⟩]++cSc 1 0 (1*2^i.toNat) d (intBits (d-1)+1)++cEa (1*2^i.toNat) d t:List Cd).length<=80:=by
  have:=oz (1*2^i.toNat) d t
  rw[length_append]
  omega
 have A3:=AL.ext (pl2.mono fun _ _ q=>q.same s3) (s3 _ _ hp2) ql3
 have S3:=Same.updL (o:=.lst (ps2.map V.ref++qs3.map V.ref)) (S2.trans s3) hz
 have e3:ps2.length+qs3.length<=80:=by
  have a:=pl2.1
  have b:=ql3.1
  rw[length_append] at l3
  omega
 refine⟨l,b3,_,_,rfl,rfl,s3 _ _ hp2,hq3,(by rw[length_map,length_map]; omega),?_⟩
 show tSeq _ _ _ _ _
 generalize upd H3 l (.lst (ps2.map V.ref++qs3.map V.ref))=G3 at A3 S3 ⊢
 clear pl2 hp2 S2 s3 hq3 ql3
 obtain⟨ps3,hp3,pl3⟩:=A3
 refine⟨_,rfl,.inl ⟨rfl,_,SqL.of hp3⟩,_,rfl,_,rfl,i,d,rfl,h1,h2,d1,d2,fun b4 H4 b40 ⟨qs4,hq4,ql4⟩ s4=>?_⟩
 have l4:=kr (1*2^i.toNat) d (intBits (d-1)+1)
 have A4:=AL.ext (pl3.mono fun _ _ q=>q.same s4) (s4 _ _ hp3) ql4
 have S4:=Same.updL (o:=.lst (ps3.map V.ref++qs4.map V.ref)) (S3.trans s4) hz
 have e4:ps3.length+qs4.length<=120:=by
  have a:=pl3.1
  have b:=ql4.1
  omega
 refine⟨l,b4,_,_,rfl,rfl,s4 _ _ hp3,hq4,(by rw[length_map,length_map]; omega),?_⟩
 show tSeq _ _ _ _ _
 generalize upd H4 l (.lst (ps3.map V.ref++qs4.map V.ref))=G4 at A4 S4 ⊢
 refine⟨_,rfl,_,_,rfl,rfl,oK,_,rfl,rfl,?_⟩
 refine⟨fun σ HZ=>σ=[some (.int i),some (.int d),some (.ref l),some (.int (intBits (d-1):Int))]/\AL (FR c) HZ l (pW (1*2^i.toNat) d t)/\Same H HZ,?_,?_⟩
 ·refine⟨_,rfl,rfl,_,rfl,?_⟩
  by_cases c5:intBits (d-1)=0
  ·refine qo (by rw[c5]; rfl) ⟨rfl,?_,S4⟩
   unfold pW cWi
   rw[if_neg (by omega),append_nil]
   exact A4
  ·have ep:(1:Int)*2^(i+(intBits (d-1):Int)).toNat=1*2^i.toNat*2^intBits (d-1):=by rw[show (i+(intBits (d-1):Int)).toNat=i.toNat+intBits (d-1) by omega,pow_add,Int.mul_assoc]
   have ub:=pw_up h1 h2 lb.1
   have wf:=pq (A:=1*2^i.toNat) (B:=2^intBits (d-1)) (by omega) d1 (bl_le d1) (bl_ge d1 (by omega)) (by omega)
   have wu:upI (1*2^i.toNat*2^intBits (d-1)) d=(1*2^i.toNat*2^intBits (d-1)+d-1)/d:=rfl
   obtain⟨ps,hp,pl⟩:=A4
   have pln:=pl.1
   rw[length_append] at pln
   refine iteN (fun z=>c5 (by injection z with z; omega)) ?_
   refine⟨_,rfl,.inl ⟨rfl,_,SqL.of hp⟩,_,rfl,_,rfl,_,_,rfl,rfl,_,_,rfl,rfl,dC (by omega) (by omega),_,rfl,_,_,rfl,?_⟩
   rw[ep]
   refine⟨ub.1,ub.2,d1,(by omega),?_⟩
   refine⟨_,rfl,_,_,rfl,rfl,dC (by omega) (by omega),_,_,rfl,rfl,_,rfl,fun x dx hx hdx hne=>⟨x,dx,_,_,rfl,ah,(by omega),(by omega),(by omega),(by omega),fun H' s' fo=>⟨rfl,?_⟩⟩⟩
   have sM:=cR hx hdx s'
   have Sx:=Same.updL (o:=.lst (ps.map V.ref++[.ref x])) (S4.trans sM) hz
   refine⟨l,_,_,rfl,rfl,sM _ _ hp,(by rw[length_map]; omega),rfl,?_,Sx⟩
   unfold pW cWi
   rw[if_pos (by omega)]
   have fx:FR c H' x ⟨4,0,upI (1*2^i.toNat*2^intBits (d-1)) d-1*2^i.toNat,(intBits (d-1):Int)⟩:=fo
   exact⟨ps++[x],(by rw[ah,map_append]; rfl),((pl.mono fun _ _ q=>q.same sM).snoc fx).updF (sM _ _ hp)⟩
 ·rintro σ HZ ⟨rfl,a,s'⟩
  exact⟨_,rfl,q t l HZ tw hz a s'⟩
theorem jO {f:Addr}{fd:FuncData}(F:Fun K "need_prices" "need_prices" dg f fd) (T:Txt K mg c) (H_is_between:Has P w K mg base 2 "is_between" ["thing","low","high"] ii) (X_NoPrices:XHas P w K mg base 1 "NoPrices" c.NoPrices "found"):FnOk P w K mg base (CX2 P w base) 3 f fd ["prices"] (spNP c):=by
 refine Fun.okY F sc_need_prices (fun vs H Q E h=>?_) (fun cdv A outer s H vs Q E hr h=>?_)
 ·obtain⟨x,rfl,_⟩:=h
  rfl
 obtain⟨x,rfl,th,df,qv,qe⟩:=h
 refine⟨_,(af (aB (bt (aY (aW cW rfl T.n_isinstance boot_isinstance (aa (pv 0) (aa (pe_ty rfl T.n_dict boot_dict) ae)))))
   (ag (cV X_NoPrices (hr.mono (by omega)) rfl (aa (pv 0) ae)))
   au)
  (af (aw (i:=1) sc_need_prices.nd rfl (Or.inl rfl) o0)
  (af (ja PassesOwn.leaving rfl (pi_tup (pe_cls rfl T.g_ROW_WORDS)) (fE (i:=2) sc_need_prices.nd rfl (Or.inl rfl))
   (af (aw (i:=3) sc_need_prices.nd rfl (Or.inl rfl) (pe_dget1 (iD hr) (pv 0) (pv 2) ⟨rfl,rfl,rfl,rfl⟩))
   (af (aB (bt (aY (av H_is_between (hr.mono (by omega)) rfl (aa (pv 3) (aa ac (aa ac ae))))))
    (ag (cV X_NoPrices (hr.mono (by omega)) rfl (aa (pv 0) ae)))
    au)
   (ag (cZ (iD hr) (pv 1) (pv 2) (pv 3) rfl)))))
  (ag (aq (pv 1)))))),?_⟩
 have bad:¬ GoodP H x->∀ H1,Same H H1->∀ d,H1 d=none->E (.ref c.NoPrices) (some d) (upd H1 d (.xd [("found",x)])):=fun g H1 s d hd=>qe g d _ ah (s.trans (ak hd _))
 have nr:∀ {a:Addr} {o:HO},H a=some o->(∀ kvs,o≠.dK kvs)->x=.ref a->¬ GoodP H x:=fun h hn e=>e ▸ nW h hn
 cases th with
 | int i=>exact⟨_,rfl,_,_,_,_,_,rfl,rfl,TyOf.int _,oq _,_,rfl,iw ⟨_,rfl,_,rfl,bad (fun ⟨_,_,z,_⟩=>nomatch z) H (Same.refl H)⟩⟩
 | bl b=>exact⟨_,rfl,_,_,_,_,_,rfl,rfl,TyOf.bl _,pN _,_,rfl,iw ⟨_,rfl,_,rfl,bad (fun ⟨_,_,z,_⟩=>nomatch z) H (Same.refl H)⟩⟩
 | str y=>exact⟨_,rfl,_,_,_,_,_,rfl,rfl,TyOf.str _,oB _,_,rfl,iw ⟨_,rfl,_,rfl,bad (fun ⟨_,_,z,_⟩=>nomatch z) H (Same.refl H)⟩⟩
 | non=>exact⟨_,rfl,_,_,_,_,_,rfl,rfl,TyOf.non,nU _,_,rfl,iw ⟨_,rfl,_,rfl,bad (fun ⟨_,_,z,_⟩=>nomatch z) H (Same.refl H)⟩⟩
 | lst h=>exact⟨_,rfl,_,_,_,_,_,rfl,rfl,TyOf.lst h,nQ _,_,rfl,iw ⟨_,rfl,_,rfl,bad (nr h (fun _ z=>nomatch z) rfl) H (Same.refl H)⟩⟩
 | tup h=>exact⟨_,rfl,_,_,_,_,_,rfl,rfl,TyOf.tup h,mM _,_,rfl,iw ⟨_,rfl,_,rfl,bad (nr h (fun _ z=>nomatch z) rfl) H (Same.refl H)⟩⟩
 | @dct a kvs h =>
  have df':=df a kvs rfl h
  have GPat:∀ {y:Str},y∈rw16->GoodP H (.ref a)->jS (bR kvs (.inr y)):=fun hy ⟨b,k2,e,h2,g⟩=>by
   cases e
   rw[h] at h2
   cases h2
   exact g _ hy
  refine⟨_,rfl,_,_,_,_,_,rfl,rfl,TyOf.dK h,m7 _,_,rfl,cT ?_⟩
  refine fun t ht=>⟨_,rfl,⟨_,T.q_ROW_WORDS _⟩,for_tup (xs:=rw16.map V.str) (fun i σ H2=>∃ tk x2 x3,σ=[some (.ref a),some (.ref t),x2,x3]/\H2 t=some (.dK tk)/\tk.length<=i/\(∀ y∈rw16.take i,jS (bR kvs (.inr y))/\bR tk (.inr y)=bR kvs (.inr y))/\Same H H2) ⟨[],_,_,rfl,ah,Nat.le_refl _,(fun y hy=>nomatch hy),ak ht _⟩ (fun i σ H2 _ _=>T.q_ROW_WORDS _) ?_ ?_⟩
  ·rintro i y σ H2 hy ⟨tk,x2,x3,rfl,t2,tl,al,s2⟩
   rw[List.getElem?_map] at hy
   obtain⟨z,hz,rfl⟩:=Option.map_eq_some_iff.mp hy
   have hi:i<16:=(List.getElem?_eq_some_iff.mp hz).1
   have hzm:z∈rw16:=mem_of_getElem? hz
   have h2:=s2 _ _ h
   refine⟨_,rfl,a,rfl,.inl ⟨kvs,.inl h2⟩,_,rfl,_,dgetk h2,?_⟩
   refine⟨_,rfl,_,_,_,rfl,getD_fr (df' z hzm),_,rfl,?_⟩
   cases hb:btw ((bR kvs (.inr z)).getD .non) 0 1000 with
   | false=>exact iw ⟨_,rfl,_,rfl,bad (fun g=>btw_no hb (GPat hzm g)) H2 s2⟩
   | true =>
    refine cT ?_
    have pr:jS (bR kvs (.inr z)):=by
     cases e:bR kvs (.inr z) with
     | none=>rw[e] at hb; cases hb
     | some v=>rw[e] at hb; exact btw_ok hb
    obtain⟨n,en,_⟩:=id pr
    refine⟨_,rfl,_,rfl,_,rfl,t,_,rfl,j9 t2 (Nat.lt_of_le_of_lt tl (lt_trans hi (by decide))),?_⟩
    refine⟨_,_,_,rfl,ah,Nat.le_trans (cY tk _ _) (Nat.succ_le_succ tl),fun y hy=>?_,Same.updL s2 ht⟩
    rw[List.take_add_one,hz] at hy
    rw[fW]
    rcases List.mem_append.mp hy with hy | hy
    ·split
     ·next e =>
      injection e with e
      subst e
      exact⟨pr,by rw[en]; rfl⟩
     ·exact al y hy
    ·cases List.mem_singleton.mp hy
     rw[if_pos rfl]
     exact⟨pr,by rw[en]; rfl⟩
  ·rintro σ H2 ⟨tk,x2,x3,rfl,t2,tl,al,s2⟩
   have al':∀ y∈rw16,jS (bR kvs (.inr y))/\bR tk (.inr y)=bR kvs (.inr y):=fun y hy=>al y hy
   exact⟨_,rfl,qv a kvs rfl h (fun y hy=>(al' y hy).1) t tk H2 ht t2 (fun y hy=>(al' y hy).2) s2⟩
theorem iy {f:Addr}{fd:FuncData}(F:Fun K "price_of_form" "price_of_form" cu f fd) (T:Txt K mg c) (H_need_prices:Has P w K mg base 3 "need_prices" ["prices"] (spNP0 c)) (H_form_words:Has P w K mg base 2 "form_words" ["form"] (spFW c)):FnOk P w K mg base CX0 4 f fd ["form","prices"] (spPF0 c):=by
 refine F.ok sc_price_of_form (fun vs H Q E h=>?_) (fun cdv A outer s H vs Q E hr h=>?_)
 ·obtain⟨x,kd,e,f,s',a,kvs,rfl,_⟩:=h
  rfl
 obtain⟨x,kd,e,f,s',a,kvs,rfl,fo,fm,ha,g,qv⟩:=h
 refine⟨_,(af (aw (i:=2) sc_price_of_form.nd rfl (Or.inr rfl) (av H_need_prices (hr.mono (by omega)) rfl (aa (pv 1) ae)))
  (ag (aq (aW (call_sum rfl) rfl T.n_sum boot_sum (aa (kI [2] ["table"] rfl (by first | rfl | with_unfolding_all rfl) (by rfl) (by exact(List.forall_mem_cons.mpr ⟨rfl,(fun _ h=>nomatch h)⟩)) (by decide +kernel) rfl (by decide +kernel) rfl (by decide +kernel) (by exact(List.forall_mem_cons.mpr ⟨⟨by first | exact Or.inl rfl | exact Or.inr rfl,rfl⟩,(fun _ h=>nomatch h)⟩)) rfl (by rfl) (i0 (av H_form_words (hr.mono (by omega)) rfl (aa (pv 0) ae))) (fun C s2 H2 fp=>(pe_dget (iD hr) (pv 1) (pv 0) (fun _ _=>rfl)))) ae))))),?_⟩
 refine⟨_,rfl,a,kvs,rfl,ha,g,fun t tk H1 ht h1 al s1=>?_⟩
 refine⟨_,rfl,x,kd,e,f,s',rfl,fo.same s1,fm,fun l H2 hl l2 s2=>?_⟩
 refine⟨l,rfl,⟨_,SqL.of l2⟩,fun D hD=>?_⟩
 have t2:=s2 _ _ h1
 have gat:∀ y∈fw kd s',bR tk (.inr y)=some (.int (pz kvs y)):=fun y hy=>by rw[al y (se y hy)]; exact(g.at (se y hy)).1
 refine jA (xs:=(fw kd s').map V.str) (fun i HI=>HI D=some (.lst (((fw kd s').take i).map fun y=>V.int (pz kvs y)))/\Same H2 HI) ⟨ah,ak hD _⟩ (fun i HI _ ⟨_,sI⟩=>SqL.of (sI _ _ l2)) ?_ ?_
 ·rintro i y HI hy ⟨hDI,sI⟩
  rw[List.getElem?_map] at hy
  obtain⟨z,hz,rfl⟩:=Option.map_eq_some_iff.mp hy
  have hi:=(List.getElem?_eq_some_iff.mp hz).1
  have ti:=sI _ _ t2
  refine⟨_,rfl,_,rfl,t,_,rfl,(by have:=dgetk (y:=z) ti; rw[gat z (mem_of_getElem? hz)] at this; exact this),?_⟩
  have hl6:=fw_len (kd:=kd) (s:=s')
  refine⟨_,hDI,(by rw[length_map,length_take]; exact Nat.lt_of_le_of_lt (Nat.le_trans (Nat.min_le_right ..) hl6) (by decide)),_,(show (fw kd s').length-(i+1)<((fw kd s').map V.str).length-i by rw[length_map]; omega),(by rw[length_map]),(by rw[length_map]; exact hi),?_,Same.updL sI hD⟩
  rw[ah,List.take_add_one,hz,map_append]
  rfl
 rintro H3 ⟨hD3,s3⟩
 rw[length_map,List.take_length] at hD3
 refine⟨D,(fw kd s').map (pz kvs),rfl,(by rw[map_map]; exact SqL.of hD3),?_⟩
 exact qv H3 ((s1.trans s2).trans s3)
def verd (w d:Int) (x:Cd) (v:V):Prop:=LW x.e (nF x.kd w x.f) (nA x.kd x.f) (nT x.kd w x.s) d (1*2^w.toNat-1) v
def RefT (w d:Int) (ps:List Addr) (xs:List Cd) (qs:List Addr) (H:Hp):Prop:=∀ (k:Nat) (q:Addr),qs[k]?=some q->∃ (x:Cd) (p:Addr) (j:Int),xs[k]?=some x/\ps[k]?=some p/\H q=some (.tup [.ref p,.int j])/\verd w d x (.int j)
structure Chos (w d:Int) (ps:List Addr) (xs:List Cd) (r:Addr) (H:Hp) (i:Nat) (m:Addr) (qs:List Addr):Prop where
 hr:∃ p,ps[i]?=some p/\H r=some (.tup [.ref p,.ref m])
 hm:H m=some (.lst (qs.map V.ref))
 ln:qs.length=i
 ok:∃ x,xs[i]?=some x/\verd w d x .non
 rf:RefT w d ps xs qs H
def spFR (c:Ad) (PT0:Addr):List Env->Shared->Sp:=fun outer s vs H Q _=>∃ (l g:Addr) (xs:List Cd) (ps:List Addr) (w d:Int) (cl:List (Str×Addr)) (n:Nat),vs=[.ref l,.ref g]/\H l=some (.lst (ps.map V.ref))/\PL (FR c) H ps xs/\(∀ x∈xs,Fm x.kd x.e x.f x.s/\(2:Int)^x.e.toNat∣d)/\xs.length<=200 /\
 4<=w/\w<=32/\1<=d/\d<2^w.toNat/\n<xs.length/\(∀ x,xs[n]?=some x->verd w d x .non)/\TO PT0 H/\Clo "<lambda>" lmFQ (je lmF) (jr lmF) (bn lmF) cl H g/\Cells s.heap H (frs outer) cl ["width","d"] [.int w,.int d] /\
 (∀ y,((bn lmF).names.lookup y=some .cell\/(bn lmF).names.lookup y=some .free)->∃ c,cl.lookup y=some c) /\
 ∀ r H' i m qs,Chos w d ps xs r H' i m qs->H r=none->H m=none->SameX PT0 H H'->TO PT0 H'->Q (.ref r) H'
theorem tab_l {P m:Addr}{pos:Pos}{qual:Str}{H:Hp}{zs:List V}{o:HO}(x:TabOk P pos qual H) (hm:H m=some (.lst zs)):TabOk P pos qual (upd H m o):=by
 obtain⟨ps,e,t,z⟩:=x
 refine⟨ps,by rw[ao (fun q=>by rw[q,hm] at e; cases e)]; exact e,t,?_⟩
 rcases z with z | ⟨c',z1,z2⟩
 ·exact .inl z
 ·exact .inr ⟨c',z1,by rw[ao (fun q=>by rw[q,hm] at z2; cases z2)]; exact z2⟩
theorem cloX {n q:Str}{a:Arguments}{b:Expr}{sc:Scope}{cl:List (Str×Addr)}{PT0 g:Addr}{pos:Pos}{q2:Str}{H H':Hp}(c:Clo n q a b sc cl H g) (t:TabOk PT0 pos q2 H) (s:SameX PT0 H H'):Clo n q a b sc cl H' g:=by
 obtain⟨pm,c',ctv,z1,z2⟩:=c
 obtain⟨tb,e,_⟩:=t
 exact⟨pm,c',ctv,s _ _ (fun z=>by rw[z,e] at z1; cases z1) z1,s _ _ (fun z=>by rw[z,e] at z2; cases z2) z2⟩
theorem verd_i {w d:Int}{x:Cd}{v:V}(h:verd w d x v):v=.non\/∃ j,v=.int j:=by
 rcases h with ⟨rfl,_⟩ | ⟨j,rfl,_⟩
 ·exact .inl rfl
 ·exact .inr ⟨j,rfl⟩
theorem jI {f:Addr}{fd:FuncData}(F:Fun K "first_right" "first_right" dm f fd) (T:Txt K mg c)  (H_wrong_word:Has P w K mg base 6 "wrong_word" ["width","d","form"] (spWW c PT0)):FnOkS P w K mg base CX0 9 f fd ["forms","wrong"] (spFR c PT0):=by
 refine F.okS sc_first_right (fun o s vs H Q E h=>?_) (fun cdv A outer s H vs Q E hr h=>?_)
 ·obtain⟨l,g,xs,ps,w',d,cl,n,rfl,_⟩:=h
  rfl
 obtain⟨l,g,xs,ps,w',d,cl,n,rfl,hl,pl,fm,xl,w1,w2,d1,d2,hn,al,to,clo,C,hfree,q⟩:=h
 refine⟨_,(af (aw (i:=2) sc_first_right.nd rfl (Or.inl rfl) (bX ae))
  (ag (ja PassesOwn.never rfl (i0 (pv 0)) (fE (i:=3) sc_first_right.nd rfl (Or.inl rfl))
   (af (aw (i:=4) sc_first_right.nd rfl (Or.inl rfl) (oW (name:="<lambda>") (qual:=lmFQ) (params:=je lmF) (body:=jr lmF) (scope:=bn lmF) (cl:=cl) (ns:=["width","d"]) (vals:=[.int w',.int d]) (x:="form") (i:=1) rfl rfl hr rfl (Or.inl rfl) C rfl (fun _ _ _ _=>rfl) rfl rfl (by decide +kernel) rfl rfl (by decide +kernel) hfree (pv 3) (fun f c' s H=>(av H_wrong_word ((hr.mono (j:=7) (by omega)).deeper _) rfl (aa (pv 1) (aa (pv 2) (aa (pv 0) ae)))))))
   (af (aB (ar sT (pv 4) cE (ax _))
    (ag (aq (aG (aa (pv 3) (aa (pv 2) ae)))))
    au)
   (ag (aF (j7 PySem.F.plainAttrs_list PySem.F.slot_list_append PySem.F.type_list_append bW (pv 2) (aa (aG (aa (pv 3) (aa (pv 4) ae))) ae))))))))),?_⟩
 walk_at "o"; intro m hm
 have sx0:SameX PT0 H (upd H m (.lst [])):=SameX.of (ak hm _)
 refine⟨_,rfl,l,rfl,⟨_,SqL.of (ak hm _ _ _ hl)⟩,oH (xs:=ps.map V.ref) (fun i σ H2=>∃ qs x2 x3,σ=[some (.ref l),some (.ref g),some (.ref m),x2,x3]/\H2 m=some (.lst (qs.map V.ref))/\qs.length=i/\i<=n/\RefT w' d ps xs qs H2/\SameX PT0 H H2/\TO PT0 H2) ⟨[],_,_,rfl,ah,rfl,zero_le _,(fun k q h=>by simp at h),sx0,aR to (ak hm _)⟩ (fun i σ H2 _ ⟨qs,x2,x3,_,_,_,_,_,sx,_⟩=>SqL.of (sx _ _ (fun z=>by obtain⟨tb,e,_⟩:=to; rw[z,e] at hl; cases hl) hl)) ?_ ?_⟩
 ·rintro i y σ H2 hy ⟨qs,x2,x3,rfl,hm2,ql,hin,rt,sx,to2⟩
  rw[List.getElem?_map] at hy
  obtain⟨p,hp,rfl⟩:=Option.map_eq_some_iff.mp hy
  have hi:=(List.getElem?_eq_some_iff.mp hp).1
  obtain⟨x,hx⟩:∃ x,xs[i]?=some x:=⟨_,List.getElem?_eq_getElem (by rw[<- pl.1]; exact hi)⟩
  obtain⟨fx,dx⟩:=fm x (mem_of_getElem? hx)
  obtain⟨dp,fo⟩:=pl.2 i p x hp hx
  have nP:∀ {a:Addr} {o:HO},H a=some o->(∀ t,o≠.tbl t)->a≠PT0:=fun h hn z=>by obtain⟨tb,e,_⟩:=to; rw[z,e] at h; cases h; exact hn _ rfl
  have fo2:=sx _ _ (nP fo nofun) fo
  have clo2:=cloX clo to sx
  refine⟨g,rfl,clo2,_,rfl,clo2,_,rfl,_,rfl,_,rfl,w',d,p,x.kd,x.e,x.f,x.s,rfl,w1,w2,d1,d2,⟨dp,fo2⟩,fx,dx,to2,fun v H3 s3 to3 lw=>?_⟩
  have nP2:∀ {a:Addr} {o:HO},H2 a=some o->(∀ t,o≠.tbl t)->a≠PT0:=fun h hn z=>by obtain⟨tb,e,_⟩:=to2; rw[z,e] at h; cases h; exact hn _ rfl
  have hm3:=s3 _ _ (nP2 hm2 nofun) hm2
  have rt3:RefT w' d ps xs qs H3:=fun k q h=>by
   obtain⟨x,p,j,a1,a2,a3,a4⟩:=rt k q h
   exact⟨x,p,j,a1,a2,s3 _ _ (nP2 a3 nofun) a3,a4⟩
  rcases verd_i (x:=x) lw with rfl | ⟨j,rfl⟩
  ·refine⟨_,rfl,rfl,_,rfl,lj rfl ?_⟩
   refine⟨_,rfl,_,rfl,(by show 2<=sizeLine; decide),fun r hr'=>?_⟩
   have fr:H r=none:=by
    cases e:H r with
    | none=>rfl
    | some o =>
     by_cases z:r=PT0
     ·obtain⟨tb,e3,_⟩:=to3
      rw[z,e3] at hr'; cases hr'
     ·rw[s3 _ _ z (sx _ _ z e)] at hr'; cases hr'
   have sn:=ak hr' (.tup [V.ref p,.ref m])
   exact q r _ i m qs ⟨⟨p,hp,ah⟩,sn _ _ hm3,ql,⟨x,hx,lw⟩,fun k q h=>by
    obtain⟨x,p,j,a1,a2,a3,a4⟩:=rt3 k q h
    exact⟨x,p,j,a1,a2,sn _ _ a3,a4⟩⟩ fr hm (SameX.trans sx (SameX.trans s3 (SameX.of sn))) (aR to3 sn)
  ·refine⟨_,rfl,rfl,_,rfl,cM (by nofun) ?_⟩
   have ni:i≠n:=fun z=>by
    have a:=al x (by rw[<- z]; exact hx)
    have:=a.uniq lw
    cases this
   refine⟨_,rfl,.inl ⟨rfl,_,SqL.of hm3⟩,_,rfl,_,rfl,(by show 2<=sizeLine; decide),fun t ht=>?_⟩
   have sn:=ak ht (.tup [V.ref p,.int j])
   have mn:=sn _ _ hm3
   have le:(qs.map V.ref).length<sizeLine:=by rw[length_map,ql]; exact lt_of_lt_of_le (show i<201 by omega) (by decide)
   refine⟨m,_,_,rfl,rfl,mn,le,?_⟩
   refine⟨qs++[t],_,_,rfl,(by rw[ah,map_append]; rfl),(by rw[length_append,ql]; rfl),by omega,fun k q h=>?_,fun a o n e=>?_,tab_l (aR to3 sn) mn⟩
   ·by_cases hk:k<qs.length
    ·rw[List.getElem?_append_left hk] at h
     obtain⟨x,p,j,a1,a2,a3,a4⟩:=rt3 k q h
     exact⟨x,p,j,a1,a2,by rw[ao (fun z=>by rw[z,hm3] at a3; cases a3)]; exact sn _ _ a3,a4⟩
    ·rw[List.getElem?_append_right (by omega)] at h
     have hk2:k=i:=by
      cases e:k-qs.length with
      | zero=>omega
      | succ z=>rw[e] at h; simp at h
     subst hk2
     rw[ql,Nat.sub_self] at h
     cases h
     exact⟨x,p,j,hx,hp,by rw[ao (fun z=>by rw[z,hm3] at ht; cases ht)]; exact ah,lw⟩
   ·rw[ao (az e hm)]
    exact sn _ _ (s3 _ _ n (sx _ _ n e))
 ·rintro σ H2 ⟨qs,x2,x3,rfl,hm2,ql,hin,rt,sx,to2⟩
  have:=pl.1
  rw[length_map] at hin
  omega
theorem kJ (d:Int):(2:Int)^(0:Int).toNat∣d:=⟨d,by rw[show ((2:Int)^(0:Int).toNat)=1 from rfl,one_mul]⟩
theorem nb20 {d last t:Int}(l0:0<=last) (l1:last<=4294967296) (d1:1<=d) (d2:d<=4294967296) (t0:0<=t) (t1:t<=64):(1:Int)<=1*2^t.toNat/\(1:Int)*2^t.toNat<=18446744073709551616/\RG 0 (cN d t) 0 t/\RG 0 (gN d t) (aN d last t) t/\0<=gN d t/\gN d t<=18446744073709551616/\0<=1*2^t.toNat-gN d t*d/\1*2^t.toNat-gN d t*d<=18446744073709551616:=by
 have T0:(0:Int)<1*2^t.toNat:=by rw[one_mul]; exact gJ _
 have T1:(1:Int)*2^t.toNat<=2^64:=by rw[one_mul]; exact dG (by omega)
 obtain⟨c1,c2,c3,c4⟩:=jv d1 (show (1:Int)<=1*2^t.toNat by omega)
 have gb:=(dv (n:=1*2^t.toNat-1) (k:=gN d t) (show 0<d by omega)).mp rfl
 have g0:0<=gN d t:=ediv_nonneg (by omega) (by omega)
 have g1:gN d t<=1*2^t.toNat-1:=ediv_le_self _ (by omega)
 have q0:=ediv_nonneg l0 (show 0<=d by omega)
 have q1:=ediv_le_self d l0
 have gd:=Int.mul_nonneg g0 (show 0<=d by omega)
 have a0:0<=aN d last t:=Int.mul_nonneg q0 (by omega)
 have a1:aN d last t<=4294967296*4294967296:=Int.mul_le_mul (by omega) (by omega) (by omega) (by decide)
 unfold RG
 show _/\_/\(_/\_/\0<=(1*2^t.toNat+d-1)/d/\(1*2^t.toNat+d-1)/d<=_/\_)/\_
 refine⟨by omega,by omega,⟨by omega,by omega,by omega,by omega,by omega,by omega,t0,by omega⟩,⟨by omega,by omega,g0,by omega,a0,by omega,t0,by omega⟩,g0,by omega,by omega,by omega⟩
theorem wide20 {w d:Int}(w0:0<=w) (d1:1<=d) (d2:d<2^w.toNat):AllA (cN d (2*w)) 0 (2*w) d (1*2^w.toNat-1):=by
 unfold cN
 rw[rZ]
 exact nR w0 d1 (by omega) (by rw[rZ]; omega)
theorem mP {f:Addr}{fd:FuncData}(F:Fun K "why_none" "why_none" hU f fd) (T:Txt K mg c) (H_need_divisor:HasY P w K mg base 4 "need_divisor" ["width","d"] (pV c)) (H_ceiling:Has P w K mg base 1 "ceiling" ["top","bottom"] hV) (H_least_wrong:Has P w K mg base 5 "least_wrong" ["width","d","reckoning"] (iU PT0)):FnOk P w K mg base (CX2 P w base) 6 f fd ["width","d","k"] (spWN c PT0):=by
 refine Fun.okY F sc_why_none (fun vs H Q E h=>?_) (fun cdv A outer s H vs Q E hr h=>?_)
 ·obtain⟨x,y,rfl,_⟩:=h
  rfl
 obtain⟨x,y,rfl,to,wd⟩:=h
 refine⟨_,(af (aF (be H_need_divisor (hr.mono (by omega)) rfl (aa (pv 0) (aa (pv 1) ae))))
  (af (aw (i:=3) sc_why_none.nd rfl (Or.inl rfl) (av H_ceiling (hr.mono (by omega)) rfl (aa (ap aS ac (ap aA (pv 0) (pv 2))) (aa (pv 1) ae))))
  (ag (aq (aG (aa (pv 3) (aa (av H_least_wrong (hr.mono (by omega)) rfl (aa (pv 0) (aa (pv 1) (aa (aG (aa ac (aa (pv 3) (aa ac (aa (ap aA (pv 0) (pv 2)) ae))))) ae)))) ae))))))),?_⟩
 refine⟨_,rfl,_,rfl,x,y,rfl,wd.imp fun i d ex ey h1 h2 d1 d2 q=>?_⟩
 subst ex ey
 have pb:=aE h1 h2
 obtain⟨n1,n2,n3,_⟩:=nb20 (last:=0) (t:=i+1) (by omega) (by omega) d1 (by omega) (by omega) (by omega)
 refine⟨_,rfl,_,rfl,_,_,rfl,rfl,_,_,rfl,rfl,dC (by omega) (by omega),_,rfl,_,_,rfl,n1,n2,d1,by omega,?_⟩
 refine⟨_,rfl,_,rfl,_,rfl,_,rfl,_,rfl,_,rfl,_,_,rfl,rfl,(by show 4<=sizeLine; decide),fun r hr'=>⟨i,d,r,0,cN d (i+1),0,i+1,rfl,h1,h2,d1,d2,⟨ah,n3,kJ d⟩,aR to (ak hr' _),fun v H2 x2 to2 lw=>⟨(by show 2<=sizeLine; decide),fun r2 hr2=>?_⟩⟩⟩
 exact q _ _ ((SameX.of (ak hr' _)).trans (x2.trans (SameX.of (ak hr2 _)))) (aR to2 (ak hr2 _))
theorem qa {f:Addr}{fd:FuncData}(F:Fun K "line_at" "line_at" ju f fd) (T:Txt K mg c) (H_need_divisor:HasY P w K mg base 4 "need_divisor" ["width","d"] (pV c)) (H_ceiling:Has P w K mg base 1 "ceiling" ["top","bottom"] hV) (H_right_to:Has P w K mg base 2 "right_to" ["last","d","reckoning"] cF):FnOk P w K mg base (CX2 P w base) 5 f fd ["width","d","total"] (spLA c):=by
 refine Fun.okY F sc_line_at (fun vs H Q E h=>?_) (fun cdv A outer s H vs Q E hr h=>?_)
 ·obtain⟨x,y,t,rfl,_⟩:=h
  rfl
 obtain⟨x,y,t,rfl,t0,t1,wd⟩:=h
 refine⟨_,(af (aF (be H_need_divisor (hr.mono (by omega)) rfl (aa (pv 0) (aa (pv 1) ae))))
  (af (aw (i:=3) sc_line_at.nd rfl (Or.inl rfl) (ap aQ (ap aS ac (pv 0)) ac))
  (af (aw (i:=4) sc_line_at.nd rfl (Or.inl rfl) (ap aS ac (pv 2)))
  (af (aw (i:=5) sc_line_at.nd rfl (Or.inl rfl) (av H_ceiling (hr.mono (by omega)) rfl (aa (pv 4) (aa (pv 1) ae))))
  (af (aB (aY (av H_right_to (hr.mono (by omega)) rfl (aa (pv 3) (aa (pv 1) (aa (aG (aa ac (aa (pv 5) (aa ac (aa (pv 2) ae))))) ae)))))
   (ag (aq (aG (aa (pv 5) (aa ac ae)))))
   au)
  (af (aw (i:=6) sc_line_at.nd rfl (Or.inl rfl) (ap bE (ap aQ (pv 4) ac) (pv 1)))
  (af (aw (i:=7) sc_line_at.nd rfl (Or.inl rfl) (ap jl (ap bE (pv 3) (pv 1)) (ap aQ (pv 4) (ap jl (pv 6) (pv 1)))))
  (af (aB (aY (av H_right_to (hr.mono (by omega)) rfl (aa (pv 3) (aa (pv 1) (aa (aG (aa ac (aa (pv 6) (aa (pv 7) (aa (pv 2) ae))))) ae)))))
   (ag (aq (aG (aa (pv 6) (aa (pv 7) ae)))))
   au)
  (ag (aq cE)))))))))),?_⟩
 refine⟨_,rfl,_,rfl,x,y,rfl,wd.imp fun i d ex ey h1 h2 d1 d2 q=>?_⟩
 subst ex ey
 have pb:=aE h1 h2
 have ei:(1:Int)*2^i.toNat=2^i.toNat:=one_mul _
 obtain⟨n1,n2,n3,n6,n4,n5,n7,n8⟩:=nb20 (last:=1*2^i.toNat-1) (t:=t) (by omega) (by omega) d1 (by omega) t0 t1
 have lg:=cw (m:=d) (by omega) (by omega)
 have q0:=ediv_nonneg (show (0:Int)<=1*2^i.toNat-1 by omega) (show 0<=d by omega)
 have q1:=ediv_le_self d (show (0:Int)<=1*2^i.toNat-1 by omega)
 have gb1:intBits (gN d t)<=100000:=b200 (by omega) (by omega)
 have gb2:intBits (1*2^t.toNat-gN d t*d)<=100000:=b200 (by omega) (by omega)
 refine⟨_,rfl,_,_,rfl,rfl,dC (by omega) (by omega),_,_,rfl,rfl,?_⟩
 refine⟨_,rfl,_,_,rfl,rfl,dC t0 (by omega),?_⟩
 refine⟨_,rfl,_,rfl,_,d,rfl,n1,n2,d1,by omega,?_⟩
 refine⟨_,rfl,_,rfl,_,rfl,_,rfl,(by show 4<=sizeLine; decide),fun r hr'=>⟨_,d,r,0,cN d t,0,t,rfl,by omega,by omega,d1,by omega,ah,n3,kJ d,fun b H1 s1 hb=>⟨_,rfl,?_⟩⟩⟩
 have sa:=(ak hr' _).trans s1
 cases b with
 | true =>
  refine iw ?_
  exact⟨_,rfl,(by show 2<=sizeLine; decide),fun r2 hr2=>q _ _ (sa.trans (ak hr2 _)) (.inr ⟨r2,_,_,rfl,ah⟩)⟩
 | false =>
  refine cT ?_
  have nb:¬ AllA (cN d t) 0 t d (1*2^i.toNat-1):=fun z=>by have:=hb.mpr z; cases this
  refine⟨_,rfl,_,_,rfl,rfl,_,rfl,_,_,rfl,rfl,⟨by omega,lg⟩,?_⟩
  refine⟨_,rfl,_,rfl,_,_,rfl,rfl,⟨by omega,lg⟩,_,rfl,_,rfl,_,rfl,_,_,rfl,rfl,⟨gb1,b200 (by omega) (by omega)⟩,_,_,rfl,rfl,_,_,rfl,rfl,⟨b200 (by omega) (by omega),gb2⟩,?_⟩
  refine⟨_,rfl,_,rfl,_,rfl,_,rfl,_,rfl,(by show 4<=sizeLine; decide),fun r2 hr2=>⟨_,d,r2,0,gN d t,aN d (1*2^i.toNat-1) t,t,rfl,by omega,by omega,d1,by omega,ah,n6,kJ d,fun b H2 s2 hb2=>⟨_,rfl,?_⟩⟩⟩
  have sb:=sa.trans ((ak hr2 _).trans s2)
  cases b with
  | true =>
   refine iw ?_
   exact⟨_,rfl,_,rfl,(by show 2<=sizeLine; decide),fun r3 hr3=>q _ _ (sb.trans (ak hr3 _)) (.inr ⟨r3,_,_,rfl,ah⟩)⟩
  | false=>exact cT (q .non H2 sb (.inl ⟨rfl,nb⟩))
theorem jG {f:Addr}{fd:FuncData}(F:Fun K "least_total" "least_total" dh f fd) (T:Txt K mg c) (H_line_at:HasY P w K mg base 5 "line_at" ["width","d","total"] (spLA c)):FnOk P w K mg base (CX2 P w base) 6 f fd ["width","d"] (spLT c):=by
 refine Fun.okY F sc_least_total (fun vs H Q E h=>?_) (fun cdv A outer s H vs Q E hr h=>?_)
 ·obtain⟨x,y,rfl,_⟩:=h
  rfl
 obtain⟨x,y,rfl,wd⟩:=h
 refine⟨_,(af (aw (i:=2) sc_least_total.nd rfl (Or.inl rfl) ac)
  (af (aw (i:=3) sc_least_total.nd rfl (Or.inl rfl) (be H_line_at (hr.mono (by omega)) rfl (aa (pv 0) (aa (pv 1) (aa (pv 2) ae)))))
  (af (PS.nox (iK PassesOwn.never (ar sT (pv 3) cE (ax _))
   (af (aw (i:=2) sc_least_total.nd rfl (Or.inl rfl) (ap aA (pv 2) ac))
   (ag (aw (i:=3) sc_least_total.nd rfl (Or.inl rfl) (qZ H_line_at (hr.mono (by omega)) rfl (aa (pv 0) (aa (pv 1) (aa (pv 2) ae)))))))))
  (ag (aq (aG (aa (pv 2) (aa (bo bV (pv 3) ac (fun _ _=>rfl)) (aa (bo bV (pv 3) ac (fun _ _=>rfl)) ae))))))))),?_⟩
 refine⟨_,rfl,_,rfl,_,rfl,x,y,0,rfl,Int.le_refl _,by decide,wd.imp fun i d ex ey h1 h2 d1 d2 q v H1 s1 vd=>?_⟩
 subst ex ey
 have dw:=wide20 (w:=i) (by omega) d1 d2
 refine iO (fun σ H1=>∃ (t:Int) (v:V),σ=[some (.int i),some (.int d),some (.int t),some v]/\Same H H1/\0<=t/\t<=2*i/\VL d (1*2^i.toNat-1) t H1 v) (fun σ _=>match σ with | [_,_,some (.int t),_]=>(2*i-t).toNat | _=>0) ⟨0,v,rfl,s1,Int.le_refl _,by omega,vd⟩ ?_ ?_
 ·rintro σ H2 ⟨t,v,rfl,sm,t0,t1,vd⟩
  refine⟨_,rfl,rfl,_,rfl,?_⟩
  rcases vd with ⟨rfl,na⟩ | ⟨r,x,y,rfl,hr2⟩
  ·have tn:t≠2*i:=fun z=>na (by rw[z]; exact dw)
   refine lj rfl ?_
   refine⟨_,rfl,_,_,rfl,rfl,?_⟩
   refine⟨_,rfl,_,rfl,_,rfl,.int i,.int d,t+1,rfl,by omega,by omega,WD.good h1 h2 d1 d2 fun v2 H3 s3 vd2=>⟨⟨t+1,v2,rfl,sm.trans s3,by omega,by omega,vd2⟩,?_⟩⟩
   show (2*i-(t+1)).toNat<(2*i-t).toNat
   omega
  ·refine cM (by nofun) ?_
   exact⟨_,rfl,_,rfl,r,_,_,_,rfl,rfl,SqT.of hr2,rfl,_,rfl,r,_,_,_,rfl,rfl,SqT.of hr2,rfl,(by show 3<=sizeLine; decide),fun r3 hr3=>q _ _ (sm.trans (ak hr3 _))⟩
 ·rintro σ H1 Q1 Q2 hQ ⟨v,hv,e,k,hk,q1⟩
  exact⟨v,hv,e,k,hk,hQ _ _ q1⟩
def prc (kvs:List (Key×V)) (xs:List Cd) (i:Nat):Int:=match xs[i]? with | some x=>cost kvs (fw x.kd x.s) | none=>0
abbrev clK (n:Nat):List (Str×Addr):=[("table",n+1+1+1)]
abbrev clF (n:Nat):List (Str×Addr):=[("width",n+1),("d",n+1+1)]
def cd0:Cd:=⟨0,0,0,0⟩
theorem ph {P:Addr}{pos:Pos}{q:Str}{H H':Hp}(x:TabOk P pos q H) (h:∀ ps,H P=some (.tbl ps)->H' P=some (.tbl ps)) (k:∀ a φ,H a=some (.ext φ)->H' a=some (.ext φ)):TabOk P pos q H':=by
 obtain⟨ps,e,t,z⟩:=x
 refine⟨ps,h _ e,t,?_⟩
 rcases z with z | ⟨c',z1,z2⟩
 ·exact .inl z
 ·exact .inr ⟨c',z1,k _ _ z2⟩
theorem _root_.L2.TabA.tok {P:Addr}{pos:Pos}{q:Str}{H:Hp}(t:TabA P q H):TabOk P pos q H:=let ⟨ps,e,t,z⟩:=t; ⟨ps,e,t,z pos⟩
theorem om {P P':Addr}{pos:Pos}{q q':Str}{H H':Hp}(x:TabOk P pos q H) (ne:P≠P') (t':TabA P' q' H) (h:∀ a u,a≠P'->H a=some u->H' a=some u):TabOk P pos q H':=ph x (fun _ e=>h _ _ ne e) fun a φ e=>h _ _ (fun z=>by
 obtain⟨ps,e1,_⟩:=t'
 rw[z,e1] at e; cases e) e
theorem _root_.L2.TabA.lam {P P':Addr}{pos:Pos}{q q':Str}{H H':Hp}(x:TabA P q H) (ne:P≠P') (t':TabOk P' pos q' H) (h:SameX P' H H'):TabA P q H':=x.keep (fun _ e=>h _ _ ne e) fun a φ e=>h _ _ (fun z=>by
 obtain⟨ps,e1,_⟩:=t'
 rw[z,e1] at e; cases e) e
theorem Kp.ins {H H':Hp}{a C dx:Addr}{fs:List (Str×V)}(k:Kp H H') (e:H a=some (.ins C dx fs)):H' a=some (.ins C dx fs):=k _ _ (fun _ z=>nomatch z) e
theorem Kp.dk {H H':Hp}{a:Addr}{fs:List (Key×V)}(k:Kp H H') (e:H a=some (.dK fs)):H' a=some (.dK fs):=k _ _ (fun _ z=>nomatch z) e
theorem Kp.ls {H H':Hp}{a:Addr}{fs:List V}(k:Kp H H') (e:H a=some (.lst fs)):H' a=some (.lst fs):=k _ _ (fun _ z=>nomatch z) e
theorem pP {w d t:Int}(w1:4<=w) (w2:w<=12) (d1:1<=d) (d2:d<2^w.toNat) (tw:Tw d t):(pW (1*2^w.toNat) d t).length<64:=by
 have p:(2:Int)^w.toNat<=2^12:=dG (by omega)
 have td:=q9 d1 tw
 have l1:intBits (d-1)<=12:=intBits_le_iff.mpr (show (d-1).natAbs<2^12 by omega)
 have l2:intBits (d/2^t.toNat-1)<=12:=intBits_le_iff.mpr (show (d/2^t.toNat-1).natAbs<2^12 by omega)
 have a:=fq 1 0 (1*2^w.toNat) d (intBits (d-1)+1)
 have b:=oz (1*2^w.toNat) d t
 have c:=kr (1*2^w.toNat) d (intBits (d-1)+1)
 have e:(cWi (1*2^w.toNat) d).length<=1:=by unfold cWi; split <;> simp
 unfold pW
 rw[length_append,length_append,length_append,length_append,List.length_singleton]
 omega
theorem PL.pick {R:Hp->Addr->Cd->Prop}{H:Hp}{ps:List Addr}{xs:List Cd}(h:PL R H ps xs) (is:List Nat) (lt:∀ i∈is,i<ps.length):PL R H (is.map fun i=>ps.getD i 0) (is.map fun i=>xs.getD i cd0):=by
 refine⟨by rw[length_map,length_map],fun k p x e1 e2=>?_⟩
 rw[List.getElem?_map] at e1 e2
 obtain⟨i,hi,rfl⟩:=Option.map_eq_some_iff.mp e1
 rw[hi] at e2
 cases e2
 have l:=lt i (mem_of_getElem? hi)
 refine h.2 i _ _ ?_ ?_
 ·rw[getD_eq_getElem?_getD,List.getElem?_eq_getElem l]; rfl
 ·show xs[i]?=some (xs.getD i cd0)
  rw[getD_eq_getElem?_getD,List.getElem?_eq_getElem (by rw[<- h.1]; exact l)]; rfl
theorem pick_mem {xs:List Cd}{is:List Nat}(lt:∀ i∈is,i<xs.length):∀ x∈is.map (fun i=>xs.getD i cd0),x∈xs:=fun x hx=>by
 obtain⟨i,hi,rfl⟩:=List.mem_map.mp hx
 rw[getD_eq_getElem?_getD,List.getElem?_eq_getElem (lt i hi)]
 exact getElem_mem _
theorem pick_at {kf:Nat->Int}{xs:List Cd}{is:List Nat}(sb:SrtBy kf xs.length is) {x:Cd}(hx:x∈xs):∃ n,n<is.length/\(is.map fun i=>xs.getD i cd0)[n]?=some x:=by
 obtain⟨k,hk,rfl⟩:=List.mem_iff_getElem.mp hx
 obtain⟨n,hn,e⟩:=List.mem_iff_getElem.mp (sb.1.mem_iff.mpr (List.mem_range.mpr hk))
 refine⟨n,hn,?_⟩
 rw[List.getElem?_map,List.getElem?_eq_getElem hn,e]
 show some (xs.getD k cd0)=_
 rw[getD_eq_getElem?_getD,List.getElem?_eq_getElem hk]
 rfl
def RFR (c:Ad) (PT0:Addr) (n:Nat):L2.St->List V->Hp->VK->Prop:=fun σ vs H Q=>∃ (l g:Addr) (xs:List Cd) (ps:List Addr) (w d:Int) (a l0 t:Addr) (n':Nat),σ=[some (.int w),some (.int d),some (.ref a),some (.ref l0),some (.ref t),some (.ref l)]/\vs=[.ref l,.ref g]/\H l=some (.lst (ps.map V.ref))/\PL (FR c) H ps xs/\(∀ x∈xs,Fm x.kd x.e x.f x.s/\(2:Int)^x.e.toNat∣d)/\xs.length<=200 /\
 4<=w/\w<=32/\1<=d/\d<2^w.toNat/\n'<xs.length/\(∀ x,xs[n']?=some x->verd w d x .non)/\TO PT0 H/\Clo "<lambda>" lmFQ (je lmF) (jr lmF) (bn lmF) (clF n) H g /\
 ∀ r H' i m qs,Chos w d ps xs r H' i m qs->H r=none->H m=none->SameX PT0 H H'->TO PT0 H'->Q (.ref r) H'
theorem rD {f:Addr}{fd:FuncData}(F:Fun K "choose" "choose" bB f fd) (T:Txt K mg c) (H_candidates:HasY P w K mg base 8 "candidates" ["width","d"] (spCd c)) (H_need_prices:HasY P w K mg base 3 "need_prices" ["prices"] (spNP c)) (H_first_right:HasS P w K mg base 9 "first_right" ["forms","wrong"] (spFR c PT0)) (H_wrong_word:Has P w K mg base 6 "wrong_word" ["width","d","form"] (spWW c PT0)) (H_price_of_form:Has P w K mg base 4 "price_of_form" ["form","prices"] (spPF0 c)) (B:LamBase mg base cT1 PT1) (hcd:fd.code=.ref cT1) (hne:PT0≠PT1):FnOk P w K mg base (CX2 P w base) 10 f fd ["width","d","prices"] (qp c PT0 PT1):=by
 refine Fun.okCY F hcd sc_choose (fun vs H Q E h=>?_) (fun A outer s H vs Q E hr h=>?_)
 ·obtain⟨x,y,p,rfl,_⟩:=h
  rfl
 obtain⟨x,y,p,rfl,tp,dp,to,ta,wd⟩:=h
 have hR:∀ pins σ H' s' vs Q,Inv (cQ (CX2 P w base) P w K mg base ["width","d","prices","forms","table","ordered"] "choose" (aj bB) f (.ref cT1) A outer s H E).nox pins σ H' s'->RFR c PT0 s.heap.objs.size σ vs H' Q->spFR c PT0 ((cQ (CX2 P w base) P w K mg base ["width","d","prices","forms","table","ordered"] "choose" (aj bB) f (.ref cT1) A outer s H E).nox).stack s' vs H' Q E0:=by
  rintro pins σ H' s' vs Q I ⟨l,g,xs,ps,w',d,a,l0,t,n',rfl,rfl,hl,pl,fm,xl,w1,w2,d1,d2,hn,al,to,clo,q⟩
  have hsub:∀ p∈clF s.heap.objs.size,(cQ (CX2 P w base) P w K mg base ["width","d","prices","forms","table","ordered"] "choose" (aj bB) f (.ref cT1) A outer s H E).nox.env.cells.lookup p.1=some p.2:=List.forall_mem_cons.mpr ⟨rfl,List.forall_mem_cons.mpr ⟨rfl,fun _ h=>nomatch h⟩⟩
  refine⟨l,g,xs,ps,w',d,clF s.heap.objs.size,n',rfl,hl,pl,fm,xl,w1,w2,d1,d2,hn,al,to,clo,I.cells (fun _=>rfl) (fun x c e=>hsub (x,c) (PySem.mem_of_lookup e)) (fun i y v e1 e2=>?_),aV (ns:=["width","d"]) rfl (by decide +kernel),q⟩
  match i,e1,e2 with
  | 0,e1,e2 =>
   cases e1; cases e2
   exact⟨0,_,rfl,rfl,rfl,rfl⟩
  | 1,e1,e2 =>
   cases e1; cases e2
   exact⟨1,_,rfl,rfl,rfl,rfl⟩
  | n+2,e1,_=>simp at e1
 have hsK:∀ p∈clK s.heap.objs.size,(cQ (CX2 P w base) P w K mg base ["width","d","prices","forms","table","ordered"] "choose" (aj bB) f (.ref cT1) A outer s H E).nox.env.cells.lookup p.1=some p.2:=List.forall_mem_cons.mpr ⟨rfl,fun _ h=>nomatch h⟩
 refine⟨_,(af (aw (i:=3) sc_choose.nd rfl (Or.inl rfl) (be H_candidates (hr.mono (by omega)) rfl (aa (pv 0) (aa (pv 1) ae))))
  (af (aw (i:=4) sc_choose.nd rfl (Or.inr rfl) (be H_need_prices (hr.mono (by omega)) rfl (aa (pv 2) ae)))
  (af (PS.nox (aw (i:=5) sc_choose.nd rfl (Or.inl rfl) (pM (k:=4) (x:="form") (y0:="table") (j0:=4) (qual:=lmFQ) (cl:=clK s.heap.objs.size) rfl (hr.mono (by omega)) (fun _=>rfl) rfl T.n_sorted (pv 3) (bA (qual:=lmFQ) (cl:=clK s.heap.objs.size) B rfl rfl rfl) rfl rfl ⟨_,rfl⟩ (fun x c e=>hsK (x,c) (PySem.mem_of_lookup e)) (fun _ _ _ _=>rfl) rfl rfl (by decide +kernel) rfl rfl (by decide +kernel) (aV (ns:=["table"]) rfl (by decide +kernel)) (fun f c' s H=>(av H_price_of_form ((hr.mono (j:=7) (by omega)).in1.in1.deeper _) rfl (aa (pv 0) (aa (pv 1) ae)))))))
  (ag (PS.nox (aq (pe_fnS (R:=RFR c PT0 s.heap.objs.size) H_first_right (hr.mono (by omega)) rfl (aa (pv 5) (aa (bA (params:=je lmF) (body:=jr lmF) (scope:=bn lmF) (pos:=oP lmF) (qual:=lmFQ) (cl:=clF s.heap.objs.size) B rfl rfl rfl) ae)) hR))))))),?_⟩
 refine⟨_,rfl,_,rfl,x,y,rfl,wd.imp fun w' d ex ey w1 w2 d1 d2 gz t l H1 tw hl al s1=>?_⟩
 subst ex ey
 obtain⟨ps,hl1,pl⟩:=al
 refine⟨_,rfl,p,rfl,tp.same s1,dp.same tp s1,fun a kvs ep ha1 g tb tk H2 htb h2 al2 s2=>?_,fun ng d' H' hd s'=>?_⟩
 rotate_left
 ·rcases gz with ⟨_,xe⟩ | ⟨⟨a,kvs,ep,ha,g⟩,_⟩
  ·exact xe d' H' hd (s1.trans s')
  ·exact absurd ⟨a,kvs,ep,s1 _ _ ha,g⟩ ng
 obtain⟨w12,q⟩:=(gz.resolve_left fun z=>z.1 (GoodP.back tp s1 ⟨a,kvs,ep,ha1,g⟩)).2
 subst ep
 have fm:=cAll_fm w1 w2 d1 d2 tw
 have ln:=cAll_len w1 w2 d1 d2 tw
 have l12:=pP w1 w12 d1 d2 tw
 have rgt:=qt (t:=t) w1 w2 d1 d2
 generalize hxs:pW (1*2^w'.toNat) d t=xs at pl fm ln l12 rgt
 have gT:GoodD tk:=fun y hy=>by rw[al2 y hy]; exact g y hy
 have eC:∀ kd s',cost tk (fw kd s')=cost kvs (fw kd s'):=fun kd s'=>by
  unfold cost
  congr 1
  refine List.map_congr_left fun y hy=>?_
  unfold pz
  rw[al2 y (se y hy)]
 have s12:=s1.trans s2
 have to2:=aR to s12
 have ta2:=ta.same s12
 refine⟨_,rfl,l,ps,prc kvs xs,.ref tb,rfl,s2 _ _ hl1,(by have:=pl.1; omega),rfl,ta2,fun H3 sx3 ta3=>⟨fun G=>Same H3 G,Same.refl _,?_,?_⟩⟩
 ·intro i p G ep sG Q' hQ'
  have hi:=(List.getElem?_eq_some_iff.mp ep).1
  obtain⟨x,hx⟩:∃ x,xs[i]?=some x:=⟨_,List.getElem?_eq_getElem (by rw[<- pl.1]; exact hi)⟩
  obtain⟨fx,dx⟩:=fm x (mem_of_getElem? hx)
  have k3:=Kp.lam ta2 sx3
  obtain⟨dp,fo⟩:=(pl.2 i p x ep hx).same s2
  have fo3:FR c G p x:=⟨dp,sG _ _ (k3.ins fo)⟩
  have tb3:=sG _ _ (k3.dk h2)
  refine⟨_,rfl,_,rfl,p,x.kd,x.e,x.f,x.s,tb,tk,rfl,fo3,fx,tb3,gT,fun G' sG'=>?_⟩
  have ec:prc kvs xs i=cost tk (fw x.kd x.s):=by unfold prc; rw[hx,eC]
  rw[<- ec]
  exact hQ' G' (sG.trans sG') fun _ _ e=>sG' _ _ e
 ·intro D is G sG hD sb
  have k3:=Kp.lam ta2 sx3
  have to3:=om to2 hne ta2 sx3
  have sD:=ak hD (.lst (is.map fun i=>V.ref (ps.getD i 0)))
  have sE:=sG.trans sD
  have plE:PL (FR c) (upd G D (.lst (is.map fun i=>V.ref (ps.getD i 0)))) ps xs:=pl.mono fun p x h=>by
   obtain⟨dp,fo⟩:=h.same s2
   exact⟨dp,sE _ _ (k3.ins fo)⟩
  have toE:=aR to3 sE
  have taE:=ta3.same sE
  have kE:Kq PT0 PT1 H (upd G D (.lst (is.map fun i=>V.ref (ps.getD i 0)))):=fun a u _ n1 e=>sE a u (sx3 a u n1 (s12 a u e))
  have hDE:upd G D (.lst (is.map fun i=>V.ref (ps.getD i 0))) D=some (.lst ((is.map fun i=>ps.getD i 0).map V.ref)):=by rw[ah,map_map]; rfl
  generalize upd G D (.lst (is.map fun i=>V.ref (ps.getD i 0)))=HE at plE toE taE kE hDE ⊢
  refine⟨_,rfl,taE,fun gg H5 sx5 fg clo ta5=>?_⟩
  have k5:=Kp.lam taE sx5
  have to5:=om toE hne taE sx5
  have pl5:PL (FR c) H5 ps xs:=plE.mono fun p x h=>by
   obtain⟨dp,fo⟩:=h
   exact⟨dp,k5.ins fo⟩
  have sbx:SrtBy (prc kvs xs) xs.length is:=by rw[<- pl.1]; exact sb
  obtain⟨x,hx,x0,rx⟩:=rgt
  obtain⟨n',hn',en'⟩:=pick_at sbx hx
  refine⟨D,gg,is.map fun i=>xs.getD i cd0,is.map fun i=>ps.getD i 0,w',d,a,l,tb,n',rfl,rfl,k5.ls hDE,pl5.pick is sb.lt,fun x hx=>fm x (pick_mem sbx.lt x hx),(by rw[length_map,sbx.len]; omega),w1,w2,d1,d2,(by rw[length_map]; exact hn'),fun y hy=>?_,to5,clo,fun r H' i m qs ch hr' hm sx to'=>?_⟩
  ·rw[en'] at hy
   cases hy
   exact .inl ⟨rfl,rx⟩
  ·exact q (.ref r) H' (fun a u n0 n1 e=>sx a u n0 (sx5 a u n1 (kE a u n0 n1 e))) to' (ta5.lam (Ne.symm hne) to5 sx)
theorem FV.rp {H:Hp}{v:V}(h:FV v):rL H v:=by
 obtain⟨d,f,s⟩:=h.sm
 exact s.ok f.rd (by decide) (by decide)
theorem RD.lstR {H:Hp}{a:Addr}{xs:List V}(h:H a=some (.lst xs)):∀ {n m:Nat},(∀ x∈xs,∃ d,RD H x d/\SmD d n m)->∃ d,RD H (.ref a) d/\SmD d (n+1) (xs.length*(m+1)):=by
 intro n m al
 have key:∀ ys:List V,(∀ x∈ys,∃ d,RD H x d/\SmD d n m)->∃ ds:List PyData,ys.length=ds.length/\(∀ (i:Nat) x d,ys[i]?=some x->ds[i]?=some d->RD H x d)/\SmL ds n (ys.length*(m+1)):=by
  intro ys
  induction ys with
  | nil=>intro _; exact⟨[],rfl,fun i x d e=>(by simp at e),SmL.nil⟩
  | cons y r ih =>
   intro al
   obtain⟨ds,e1,e2,e3⟩:=ih fun x hx=>al x (mem_cons_of_mem _ hx)
   obtain⟨d,r1,r2⟩:=al y (mem_cons_self ..)
   refine⟨d::ds,by simp[e1],fun i x d' h1 h2=>?_,?_⟩
   ·cases i with
    | zero=>simp at h1 h2; subst h1 h2; exact r1
    | succ j=>simp at h1 h2; exact e2 j x d' h1 h2
   ·have:=SmL.cons r2 e3
    have e:(y::r).length*(m+1)=r.length*(m+1)+m+1:=by rw[length_cons,Nat.succ_mul]; omega
    rw[e]
    exact this
 obtain⟨ds,e1,e2,e3⟩:=key xs al
 exact⟨.list ds,.lst h e1 e2,e3.list⟩
theorem RD.pair {H:Hp}{a:Addr}{x y:V}{dx dy:PyData}(h:H a=some (.tup [x,y])) (hx:RD H x dx) (hy:RD H y dy) (sx:SmD dx 0 150) (sy:SmD dy 0 150):∃ d,RD H (.ref a) d/\SmD d 1 400:=by
 refine⟨.tuple [dx,dy],.tup h rfl (fun i z d h1 h2=>?_),?_⟩
 ·match i,h1,h2 with
  | 0,h1,h2=>cases h1; cases h2; exact hx
  | 1,h1,h2=>cases h1; cases h2; exact hy
 ·have:=(SmL.cons sx (SmL.cons sy (SmL.nil (n:=0) (m:=0)))).tup
  exact⟨this.sh,this.lv,this.dp,Nat.le_trans this.wt (by decide),this.hd⟩
theorem key_rd {H:Hp}{k:Key}(h:∃ x,k=.inr x/\Tx x):∃ d,RD H (kV k) d/\SmD d 0 150:=by
 obtain⟨x,rfl,hx⟩:=h
 exact⟨_,.str x,tx_sm hx⟩
theorem dg_str {i:Int}(h0:0<=i) (h1:i<10):FV (.str (toString i)):=by
 rcases(by omega:i=0\/i=1\/i=2\/i=3\/i=4\/i=5\/i=6\/i=7\/i=8\/i=9) with rfl | rfl | rfl | rfl | rfl | rfl | rfl | rfl | rfl | rfl <;> exact .inr (.inr (.inr ⟨_,rfl,by decide +kernel,by decide +kernel⟩))
theorem rw_at {k:Int}(h0:0<=k) (h1:k<16):∃ y,y∈rw16/\atI (rw16.map V.str) k=some (.str y):=by
 obtain⟨j,hj,rfl⟩:∃ j:Nat,j<16/\k=(j:Int):=⟨k.toNat,by omega,by omega⟩
 refine⟨rw16[j]'hj,getElem_mem _,mR ?_⟩
 rw[List.getElem?_map,List.getElem?_eq_getElem hj]
 rfl
theorem ia {f:Addr}{fd:FuncData}(F:Fun K "_law_no_prices" "_law_no_prices" bh f fd) (T:Txt K mg c) (H__law_prices:Has P w K mg base 2 "_law_prices" ["_law_state"] spPr) (H__law_draw:Has P w K mg base 1 "_law_draw" ["_law_state","_law_size"] gE) (H__law_row_words:Has P w K mg base 1 "_law_row_words" [] spRW):FnOk P w K mg base CX0 3 f fd ["_law_state"] tm:=by
 refine F.ok sc__law_no_prices (fun vs H Q E h=>?_) (fun cdv A outer s H vs Q E hr h=>?_)
 ·obtain⟨p,rfl,_⟩:=h
  rfl
 obtain⟨p,rfl,bx,q⟩:=h
 refine⟨_,(af (aw (i:=1) sc__law_no_prices.nd rfl (Or.inl rfl) (av H__law_prices (hr.mono (by omega)) rfl (aa (pv 0) ae)))
  (af (aw (i:=2) sc__law_no_prices.nd rfl (Or.inl rfl) (bo bK (pe_fn0 H__law_row_words (hr.mono (by omega)) rfl) (av H__law_draw (hr.mono (by omega)) rfl (aa (pv 0) (aa ac ae))) (fun _ _=>rfl)))
  (af (aw (i:=3) sc__law_no_prices.nd rfl (Or.inl rfl) (av H__law_draw (hr.mono (by omega)) rfl (aa (pv 0) (aa ac ae))))
  (bj (aB (ar aO (pv 3) ac (ax _))
   (ag (aF (pe_dpop1 (pv 1) (pv 2) ⟨rfl,rfl,rfl,rfl⟩)))
   (ag (aB (ar aO (pv 3) ac (ax _))
    (ag (cZ (iD hr) (pv 1) (pv 2) (ap aQ (ap aQ ac ac) (av H__law_draw (hr.mono (by omega)) rfl (aa (pv 0) (aa (ap ip ac ac) ae)))) rfl))
    (ag (aB (ar aO (pv 3) ac (ax _))
     (ag (cZ (iD hr) (pv 1) (pv 2) (ap aA ac (av H__law_draw (hr.mono (by omega)) rfl (aa (pv 0) (aa (ap ip ac ac) ae)))) rfl))
     (ag (aB (ar aO (pv 3) ac (ax _))
      (ag (cZ (iD hr) (pv 1) (pv 2) (iR aO (av H__law_draw (hr.mono (by omega)) rfl (aa (pv 0) (aa ac ae))) ac (ax _)) rfl))
      (ag (aB (ar aO (pv 3) ac (ax _))
       (ag (cZ (iD hr) (pv 1) (pv 2) (bg d9 rfl T.n_str boot_str (aa (av H__law_draw (hr.mono (by omega)) rfl (aa (pv 0) (aa ac ae))) ae)) rfl))
       (ag (aB (ar aO (pv 3) ac (ax _))
        (ag (cZ (iD hr) (pv 1) (pv 2) cE rfl))
        (ag (aB (ar aO (pv 3) ac (ax _))
         (ag (aq cE))
         (ag (aB (ar aO (pv 3) ac (ax _))
          (ag (aq (bg (qd rfl) rfl T.n_list boot_list (aa (pv 1) ae))))
          (ag (aq (pe_thaw (pe_comp0 rfl (by first | rfl | with_unfolding_all rfl) (by decide +kernel) rfl (by decide +kernel) rfl (pi_dict (pv 1)) (fun C s2 H2 fp=>(aG (aa (pv 0) (aa ac ae)))))))))))))))))))))))
  (ag (aq (pv 1))))))),?_⟩
 refine⟨_,rfl,p,rfl,bx,fun t kvs H1 ht t1 g tb b1 x1=>?_⟩
 have dq:∀ {HJ:Hp} {o:HO},t≠p->HJ t=some o->nw H HJ t=some o:=fun n e=>dE e ht
 have htp:t≠p:=fun e=>by obtain⟨r1,r2,hb⟩:=bx; rw[e,hb] at ht; cases ht
 refine⟨rfl,fun lw hlw=>?_⟩
 have sw:=ak hlw (.lst (rw16.map V.str))
 have lw2:upd H1 lw (.lst (rw16.map V.str)) lw=some (.lst (rw16.map V.str)):=ah
 have hlwp:lw≠p:=fun e=>by obtain⟨r1,r2,hb⟩:=b1; rw[e,hb] at hlw; cases hlw
 have t2:=sw _ _ t1
 have b2:=b1.same sw
 have x2:=x1.trans (SameX.of sw)
 generalize upd H1 lw (.lst (rw16.map V.str))=H2 at lw2 t2 b2 x2 ⊢
 refine⟨_,rfl,p,_,rfl,b2,by decide,by decide,fun k H3 k0 k1 b3 x3=>?_⟩
 obtain⟨y,hy,ay⟩:=rw_at k0 k1
 have t3:=x3 _ _ htp t2
 refine⟨lw,_,_,_,rfl,rfl,SqL.of (x3 _ _ hlwp lw2),ay,?_⟩
 refine⟨_,rfl,p,_,rfl,b3,by decide,by decide,fun kd H4 c0 c1 b4 x4=>?_⟩
 have t4:=x4 _ _ htp t3
 have x04:=(x2.trans x3).trans x4
 have ty:=tx_rw y hy
 have kl:kvs.length<sizeLine:=Nat.lt_of_le_of_lt tb.ln (by decide)
 have put:∀ (HJ:Hp) (v:V),HJ t=some (.dK kvs)->Bx HJ p->SameX p H HJ->FV v->¬ jS (some v)->Q (.ref t) (upd HJ t (.dK (eK kvs (.inr y) v))):=fun HJ v tJ bJ xJ fv nv=>by
  have tb':=tb.put ty fv
  have tt:upd HJ t (.dK (eK kvs (.inr y) v)) t=some (.dK (eK kvs (.inr y) v)):=ah
  refine q _ _ (.dct (dq htp tt)) (DFl.of (dq htp tt) tb') (bad_put tt hy nv) (tb_rp (dq htp tt) tb' (by decide)) ?_ (fun b o hb e=>?_)
  ·obtain⟨r1,r2,hb⟩:=bJ
   exact⟨r1,r2,by rw[ao (Ne.symm htp)]; exact hb⟩
  ·rw[ao (fun e'=>by rw[e',ht] at e; cases e)]
   exact xJ b o hb e
 have np:∀ {i:Int},(i<0\/1000<i)->¬ jS (some (.int i)):=fun h ⟨j,e,j0,j1⟩=>by
  cases e
  omega
 have nb:∀ {v:V},isI v=false->¬ jS (some v):=fun h ⟨j,e,_⟩=>by
  cases e
  cases h
 refine⟨fun σ2 HZ=>∃ a b c,σ2=[a,some (.ref t),b,c]/\Q (.ref t) HZ,?_,?_⟩
 rotate_left
 ·rintro σ2 HZ ⟨a1,a2,a3,rfl,qq⟩
  exact⟨_,rfl,qq⟩
 have fin:∀ (HJ:Hp) (v:V),HJ t=some (.dK kvs)->Bx HJ p->SameX p H HJ->FV v->¬ jS (some v)->∃ a b c,([some (.ref p),some (.ref t),some (.str y),some (.int kd)]:L2.St)=[a,some (.ref t),b,c]/\Q (.ref t) (upd HJ t (.dK (eK kvs (.inr y) v))):=fun HJ v h1 h2 h3 h4 h5=>⟨_,_,_,rfl,put HJ v h1 h2 h3 h4 h5⟩
 walk_at "o"
 walk_at "c" <;> intro d0
 ·refine⟨_,rfl,t,rfl,.inl ⟨_,.inl t4⟩,_,rfl,kvs,.inr y,_,t4,rfl,(g.at hy).1,_,_,_,rfl,?_⟩
  have tt:upd H4 t (.dK (iH kvs (.inr y))) t=some (.dK (iH kvs (.inr y))):=ah
  refine q _ _ (.dct (dq htp tt)) (DFl.of (dq htp tt) (tb.drop (k:=.inr y))) (bad_drop tt hy) (tb_rp (dq htp tt) (tb.drop (k:=.inr y)) (by decide)) ?_ (fun b o hb e=>?_)
  ·obtain⟨r1,r2,hb⟩:=b4
   exact⟨r1,r2,by rw[ao (Ne.symm htp)]; exact hb⟩
  ·rw[ao (fun e'=>by rw[e',ht] at e; cases e)]
   exact x04 b o hb e
 walk_at "o"
 walk_at "c" <;> intro d1
 ·walk_at "o"
  refine⟨by decide,by decide,?_⟩
  intro z H5 z0 z1 b5 x5
  have z1:z<100000000000000000000:=z1
  refine⟨_,_,rfl,rfl,_,rfl,_,rfl,t,_,rfl,j9 (x5 _ _ htp t4) kl,fin H5 _ (x5 _ _ htp t4) b5 (x04.trans x5) (aD ?_ ?_) (np ?_)⟩
  ·omega
  ·omega
  ·exact .inl (by omega)
 walk_at "o"
 walk_at "c" <;> intro d2
 ·walk_at "o"
  refine⟨by decide,by decide,?_⟩
  intro z H5 z0 z1 b5 x5
  have z1:z<100000000000000000000:=z1
  refine⟨_,_,rfl,rfl,_,rfl,_,rfl,t,_,rfl,j9 (x5 _ _ htp t4) kl,fin H5 _ (x5 _ _ htp t4) b5 (x04.trans x5) (aD ?_ ?_) (np ?_)⟩
  ·omega
  ·omega
  ·exact .inr (by omega)
 walk_at "o"
 walk_at "c" <;> intro d3
 ·walk_at "o"; intro z H5 z0 z1 b5 x5
  exact⟨rfl,_,rfl,_,rfl,t,_,rfl,j9 (x5 _ _ htp t4) kl,fin H5 _ (x5 _ _ htp t4) b5 (x04.trans x5) (.inr (.inl ⟨_,rfl⟩)) (nb rfl)⟩
 walk_at "o"
 walk_at "c" <;> intro d4
 ·walk_at "o"; intro z H5 z0 z1 b5 x5
  exact⟨z,rfl,lt_trans (ka (by omega) (by omega)) (by decide),_,rfl,_,rfl,t,_,rfl,j9 (x5 _ _ htp t4) kl,fin H5 _ (x5 _ _ htp t4) b5 (x04.trans x5) (dg_str z0 z1) (nb rfl)⟩
 walk_at "o"
 walk_at "c" <;> intro d5
 ·exact⟨_,rfl,_,rfl,t,_,rfl,j9 t4 kl,fin H4 _ t4 b4 x04 (.inl rfl) (nb rfl)⟩
 walk_at "o"
 walk_at "c" <;> intro d6
 ·exact q .non H4 .non (fun _ _ z=>nomatch z) (fun ⟨_,_,z,_⟩=>nomatch z) (FV.rp (.inl rfl)) b4 x04
 walk_at "o"
 walk_at "c" <;> intro d7
 ·obtain⟨D,fd,_⟩:=tb.dict (by decide)
  refine⟨_,rfl,t,kvs,D,rfl,t4,fd,Nat.le_trans tb.ln (by decide),fun l hl=>?_⟩
  have sl:=ak hl (.lst (kvs.map fun kv=>kV kv.1))
  have hlp:=sxn x04 (dO b4 hl) hl
  have l5:upd H4 l (.lst (kvs.map fun kv=>kV kv.1)) l=some (.lst (kvs.map fun kv=>kV kv.1)):=ah
  obtain⟨d,rd,sm⟩:=RD.lstR (n:=0) (m:=150) (dE l5 hlp) fun x hx=>by
   obtain⟨kv,hk,rfl⟩:=List.mem_map.mp hx
   exact key_rd (tb.ok kv hk).1
  refine q _ _ (.lst (dE l5 hlp)) (fun a k2 e h2=>?_) (nW l5 (fun _ z=>nomatch z)) (sm.ok rd (by decide) ?_) (b4.same sl) (x04.trans (SameX.of sl))
  ·cases e
   rw[dE l5 hlp] at h2
   cases h2
  ·rw[length_map]
   have:=tb.ln
   omega
 refine⟨_,rfl,t,kvs,rfl,t4,fun o D hD=>?_⟩
 have htD:D≠t:=fun e=>by rw[e,ah] at hD; cases hD
 have hDp:D≠p:=fun e=>by
  obtain⟨r1,r2,hb⟩:=b4
  rw[e,ao (Ne.symm htp),hb] at hD
  cases hD
 refine si (fun i HI=>∃ as:List Addr,HI D=some (.lst (as.map V.ref))/\as.length=i/\(∀ b∈as,H b=none/\∃ k:Key,(∃ x,k=.inr x/\Tx x)/\HI b=some (.tup [kV k,.int 1]))/\HI t=some (.frz o (.dK kvs))/\Same (upd H4 t (.frz o (.dK kvs))) HI) ⟨[],ah,rfl,(fun _ h=>nomatch h),by rw[ao (Ne.symm htD),ah],ak hD _⟩ (fun i HI _ ⟨_,_,_,_,h,_⟩=>h) ?_ ?_
 ·rintro i kv HI hi hk ⟨as,hA,hl,al,tI,sI⟩
  refine⟨_,rfl,(by show 2<=sizeLine; decide),fun b hb=>?_⟩
  have sb:=ak hb (.tup [kV kv.1,.int 1])
  have nbD:b≠D:=fun e=>by rw[e,hA] at hb; cases hb
  have hb0:H b=none:=by
   cases e:H b with
   | none=>rfl
   | some u =>
    have nb:b≠p:=fun z=>by
     obtain⟨r1,r2,h4⟩:=b4
     rw[z,sI p _ (by rw[ao (Ne.symm htp)]; exact h4)] at hb
     cases hb
    rw[sI b u (by rw[ao (fun z=>by rw[z,tI] at hb; cases hb)]; exact x04 b u nb e)] at hb
    cases hb
  refine⟨_,sb _ _ hA,(by rw[length_map,hl]; exact lt_of_lt_of_le hi (Nat.le_trans tb.ln (by decide))),kvs.length-(i+1),(by omega),rfl,hi,as++[b],?_,(by rw[length_append,hl]; rfl),fun x hx=>?_,?_,?_⟩
  ·rw[ah,map_append]
   rfl
  ·rcases List.mem_append.mp hx with hx | hx
   ·obtain⟨hn,k,kt,e⟩:=al x hx
    refine⟨hn,k,kt,?_⟩
    have nx:x≠D:=fun z=>by rw[z,hA] at e; cases e
    rw[ao nx]
    exact sb _ _ e
   ·cases List.mem_singleton.mp hx
    refine⟨hb0,kv.1,(tb.ok kv (mem_of_getElem? hk)).1,?_⟩
    rw[ao nbD,ah]
  ·rw[ao (Ne.symm htD)]
   exact sb _ _ tI
  ·exact Same.updL (sI.trans sb) hD
 rintro H5 ⟨as,hA,hl,al,t5,s5⟩
 refine⟨t,o,kvs,t5,(fun o u z=>by rw[show (cQ CX0 P w K mg base ["_law_state","_law_table","_law_word","_law_kind"] "_law_no_prices" (aj bh) f cdv A outer s H E).nox.H₀=H from rfl,ht] at z; cases z),?_⟩
 have A6:upd H5 t (.dK kvs) D=some (.lst (as.map V.ref)):=by rw[ao htD]; exact hA
 have b6:Bx (upd H5 t (.dK kvs)) p:=by
  obtain⟨r1,r2,hb⟩:=b4
  exact⟨r1,r2,by rw[ao (Ne.symm htp)]; exact s5 _ _ (by rw[ao (Ne.symm htp)]; exact hb)⟩
 have hDo:=sxn x04 hDp (by rw[ao htD] at hD; exact hD)
 obtain⟨d,rd,sm⟩:=RD.lstR (n:=1) (m:=400) (dE A6 hDo) fun x hx=>by
  obtain⟨b,hb,rfl⟩:=List.mem_map.mp hx
  obtain⟨hn,k,kt,e⟩:=al b hb
  obtain⟨dk,rk,sk⟩:=key_rd (H:=nw H (upd H5 t (.dK kvs))) kt
  have e':upd H5 t (.dK kvs) b=some (.tup [kV k,.int 1]):=by
   rw[ao (fun z=>by rw[z,t5] at e; cases e)]
   exact e
  exact RD.pair (dE e' hn) rk (.int 1) sk (io (by decide) (by decide))
 have x6:SameX p H (upd H5 t (.dK kvs)):=fun b o' hb e=>by
  have nbt:b≠t:=fun z=>by rw[z,ht] at e; cases e
  rw[ao nbt]
  refine s5 b o' ?_
  rw[ao nbt]
  exact x04 b o' hb e
 refine q _ _ (.lst (dE A6 hDo)) (fun a k2 e h2=>?_) (nW A6 (fun _ z=>nomatch z)) (sm.ok rd (by decide) ?_) b6 x6
 ·cases e
  rw[dE A6 hDo] at h2
  cases h2
 ·rw[length_map,hl]
  have:=tb.ln
  omega
def tDisp1I (tk tv:TE):TE:=fun σ H Q=>∀ p,H p=none->tk σ (upd H p (.dK [])) fun kx H1=>tv σ H1 fun y H2=>∃ i,kx=.int i/\H2 p=some (.dK [])/\Q (.ref p) (upd H2 p (.dK [(.inl i,y)]))
theorem qO {X:Cx}{pos:Pos}{k v:Expr}{tk tv:TE}(hk:PE X k tk) (hv:PE X v tv):PE X (.Dict [some k] [v] pos) (tDisp1I tk tv):=by
 intro pins s σ H Q I q
 have hn:=I.hok.fresh (Nat.le_refl s.heap.objs.size)
 have I1:=I.laid (a:=s.heap.objs.size) (o:=.dK []) (h':=s.heap.push { cls:=.type "dict",data:=.dict #[] }) (t':=s.toks) (fun _ _ q=>Heap.get?_push_of_some _ q) (Nat.le_refl _) (sV s.heap (rV I))
 refine wpAny_Dict_walk (knd:=aH X.prog X.w) rfl rfl nofun (by show 1<=15; decide) (pairTrees_cons_walk (thn (hk pins _ σ _ _ I1 (q _ hn)) fun u s1 ⟨kx,H1,I2,rk,q1⟩=>thn (hv pins s1 σ H1 _ I2 q1) fun w2 s2 ⟨y,H2,I3,ry,x,ek,e,q2⟩=>pairTrees_nil_walk ?_))
 subst ek
 obtain⟨t,rfl⟩:=rk
 obtain⟨z,hd,vs0,r0,dd⟩:=dk_at I3 e
 cases r0
 refine⟨[(.inl x,w2)],⟨jo _ _ x t,rfl,True.intro⟩,dd,fun h' dd' hs=>⟨.ref s.heap.objs.size,_,?_,rfl,q2⟩⟩
 have he:∃ q,h'.get? s.heap.objs.size=some q:=let ⟨q,_,_,hq,_⟩:=dd'; ⟨q,hq⟩
 exact I3.write (x:=s.heap.objs.size) (e:=s.heap.objs.size) (by rw[e]; exact True.intro) (.inl rfl) (fun b q hb z=>(hs.2 b hb).trans z) he ⟨(by show 1<=sizeLine; decide),hd,[(.inl x,w2)],.cons ⟨rfl,ry⟩ .nil,dd'⟩
theorem rY {i:Int}(h0:0<=i) (h1:i<40):FV (.str (Str.ofString (toString i))):=by
 obtain⟨n,hn,rfl⟩:∃ n:Nat,n<40/\i=(n:Int):=⟨i.toNat,by omega,by omega⟩
 have:∀ n<40,(Str.ofString (toString ((n:Nat):Int))).length<=20/\∀ c∈(Str.ofString (toString ((n:Nat):Int))).cps.toList,c<128:=by decide +kernel
 exact .inr (.inr (.inr ⟨_,rfl,this n hn⟩))
theorem one_rp {H:Hp}{l:Addr}{i:Int}(h:H l=some (.lst [.int i])) (h0:-(2^130)<i) (h1:i<2^130):rL H (.ref l):=by
 obtain⟨d,r,s⟩:=RD.lstR (n:=0) (m:=150) h fun x hx=>by
  rw[List.mem_singleton.mp hx]
  exact⟨_,.int i,io h0 h1⟩
 exact s.ok r (by decide) (by show 1*151<=90000; decide)
theorem iI {f:Addr}{fd:FuncData}(F:Fun K "_law_no_width" "_law_no_width" cq f fd) (T:Txt K mg c) (H__law_draw:Has P w K mg base 1 "_law_draw" ["_law_state","_law_size"] gE):FnOk P w K mg base CX0 2 f fd ["_law_state"] spNoW:=by
 refine F.ok sc__law_no_width (fun vs H Q E h=>?_) (fun cdv A outer s H vs Q E hr h=>?_)
 ·obtain⟨p,rfl,_⟩:=h
  rfl
 obtain⟨p,rfl,bx,q⟩:=h
 refine⟨_,(af (aw (i:=1) sc__law_no_width.nd rfl (Or.inl rfl) (av H__law_draw (hr.mono (by omega)) rfl (aa (pv 0) (aa ac ae))))
  (af (aB (ar aO (pv 1) ac (ax _))
   (ag (aq (ap aQ ac (av H__law_draw (hr.mono (by omega)) rfl (aa (pv 0) (aa ac ae))))))
   au)
  (af (aB (ar aO (pv 1) ac (ax _))
   (ag (aq (ap aA ac (av H__law_draw (hr.mono (by omega)) rfl (aa (pv 0) (aa ac ae))))))
   au)
  (af (aB (ar aO (pv 1) ac (ax _))
   (ag (aq (iR aO (av H__law_draw (hr.mono (by omega)) rfl (aa (pv 0) (aa ac ae))) ac (ax _))))
   au)
  (af (aB (ar aO (pv 1) ac (ax _))
   (ag (aq cE))
   au)
  (af (aB (ar aO (pv 1) ac (ax _))
   (ag (aq (bg d9 rfl T.n_str boot_str (aa (ap aA ac (av H__law_draw (hr.mono (by omega)) rfl (aa (pv 0) (aa ac ae)))) ae))))
   au)
  (af (aB (ar aO (pv 1) ac (ax _))
   (ag (aq (bX (aa (ap aA ac (av H__law_draw (hr.mono (by omega)) rfl (aa (pv 0) (aa ac ae)))) ae))))
   au)
  (ag (aq (ap fR (ap aQ ac (ap fR ac (av H__law_draw (hr.mono (by omega)) rfl (aa (pv 0) (aa ac ae))))) (ap aA (ap ip ac ac) (av H__law_draw (hr.mono (by omega)) rfl (aa (pv 0) (aa (ap ip ac ac) ae)))))))))))))),?_⟩
 walk_at "o"
 intro k H1 k0 k1 b1 x1
 walk_at "o"
 walk_at "c" <;> intro c0
 ·walk_at "o"; intro z H2 z0 z1 b2 x2
  walk_at "o"
  exact q _ H2 (.int _) (bS (.inl (by omega))) (FV.rp (aD (by omega) (by omega))) b2 (x1.trans x2)
 walk_at "o"
 walk_at "c" <;> intro c1
 ·walk_at "o"; intro z H2 z0 z1 b2 x2
  walk_at "o"
  exact q _ H2 (.int _) (bS (.inr (by omega))) (FV.rp (aD (by omega) (by omega))) b2 (x1.trans x2)
 walk_at "o"
 walk_at "c" <;> intro c2
 ·walk_at "o"; intro z H2 z0 z1 b2 x2
  walk_at "o"
  exact q _ H2 (.bl _) rfl (FV.rp (.inr (.inl ⟨_,rfl⟩))) b2 (x1.trans x2)
 walk_at "o"
 walk_at "c" <;> intro c3
 ·walk_at "o"
  exact q _ H1 .non rfl (FV.rp (.inl rfl)) b1 x1
 walk_at "o"
 walk_at "c" <;> intro c4
 ·walk_at "o"; intro z H2 z0 z1 b2 x2
  walk_at "o"
  exact⟨lt_trans (ka (by omega) (by omega)) (by decide),q _ H2 (.str _) rfl (FV.rp (rY (by omega) (by omega))) b2 (x1.trans x2)⟩
 walk_at "o"
 walk_at "c" <;> intro c5
 ·walk_at "o"; intro z H2 z0 z1 b2 x2
  walk_at "o"
  intro l hl
  have nl:=dO b2 hl
  have sl:=ak hl (.lst [.int (4+z)])
  have ho:=sxn (x1.trans x2) nl hl
  exact q _ _ (.lst (dE ah ho)) rfl (one_rp (dE ah ho) (by omega) (by omega)) (b2.same sl) ((x1.trans x2).trans (SameX.of sl))
 walk_at "o"; intro z H2 z0 z1 b2 x2
 walk_at "o"
 refine⟨by decide,by decide,?_⟩
 intro y H3 y0 y1 b3 x3
 have e30:(10:Int)^Int.toNat 30=1000000000000000000000000000000:=by decide
 rw[e30] at y1
 rcases(by omega:z=0\/z=1) with rfl | rfl
 ·refine⟨_,_,rfl,rfl,_,_,rfl,rfl,.inl ⟨by decide,by decide⟩,?_⟩
  dsimp only
  rw[e30]
  exact q _ H3 (.int _) (bS (.inr (by omega))) (FV.rp (aD (by omega) (by omega))) b3 ((x1.trans x2).trans x3)
 ·refine⟨_,_,rfl,rfl,_,_,rfl,rfl,.inl ⟨by decide,by decide⟩,?_⟩
  dsimp only
  rw[e30]
  exact q _ H3 (.int _) (bS (.inl (by omega))) (FV.rp (aD (by omega) (by omega))) b3 ((x1.trans x2).trans x3)
theorem dct1_sm {k d:PyData}(sk:SmD k 0 150) (sd:SmD d 0 150):(PyData.dict [(k,d)]).showable=true/\(PyData.dict [(k,d)]).depth<=10/\PyData.leavesShort 150 (.dict [(k,d)])=true/\(PyData.dict [(k,d)]).weight<=90000:=by
 refine⟨by simp[PyData.showable,PyData.showableKv,sk.sh,sd.sh],?_,by simp[PyData.leavesShort,PyData.leavesShortKv,sk.lv,sd.lv],?_⟩
 ·rw[PyData.depth.eq_3,PyData.depthKv.eq_2,PyData.depthKv.eq_1]
  have:=sk.dp; have:=sd.dp
  omega
 ·rw[PyData.weight.eq_4,PyData.weightKv.eq_2,PyData.weightKv.eq_1]
  have:=sk.wt; have:=sd.wt
  omega
theorem dct1_rp {H:Hp}{a:Addr}{i:Int}(h:H a=some (.dK [(.inl 1,.int i)])) (h0:-(2^130)<i) (h1:i<2^130):rL H (.ref a):=by
 obtain⟨e1,e2,e3,e4⟩:=dct1_sm (io (i:=1) (by decide) (by decide)) (io h0 h1)
 exact⟨_,.inr ⟨a,_,_,rfl,h,.cons (.int i) .nil,rfl⟩,e1,e2,e3,e4⟩
theorem qz {H:Hp}{p:Addr}(h:H p=none) (o:HO):∃ G,upd H p o=G/\Same H G/\G p=some o:=⟨_,rfl,ak h _,ah⟩
theorem fU {f:Addr}{fd:FuncData}(F:Fun K "_law_no_divisor" "_law_no_divisor" bO f fd) (T:Txt K mg c) (H__law_draw:Has P w K mg base 1 "_law_draw" ["_law_state","_law_size"] gE):FnOk P w K mg base CX0 2 f fd ["_law_state","_law_last"] spNoD:=by
 refine F.ok sc__law_no_divisor (fun vs H Q E h=>?_) (fun cdv A outer s H vs Q E hr h=>?_)
 ·obtain⟨p,n,rfl,_⟩:=h
  rfl
 obtain⟨p,n,rfl,n0,n1,bx,q⟩:=h
 refine⟨_,(af (aw (i:=2) sc__law_no_divisor.nd rfl (Or.inl rfl) (av H__law_draw (hr.mono (by omega)) rfl (aa (pv 0) (aa ac ae))))
  (af (aB (ar aO (pv 2) ac (ax _))
   (ag (aq ac))
   au)
  (af (aB (ar aO (pv 2) ac (ax _))
   (ag (aq (ap aQ (ap aQ ac ac) (av H__law_draw (hr.mono (by omega)) rfl (aa (pv 0) (aa (ap ip ac ac) ae))))))
   au)
  (af (aB (ar aO (pv 2) ac (ax _))
   (ag (aq (ap aA (ap aA (pv 1) ac) (av H__law_draw (hr.mono (by omega)) rfl (aa (pv 0) (aa ac ae))))))
   au)
  (af (aB (ar aO (pv 2) ac (ax _))
   (ag (aq (ap aA (ap aA (pv 1) ac) (av H__law_draw (hr.mono (by omega)) rfl (aa (pv 0) (aa (ap ip ac ac) ae))))))
   au)
  (af (aB (ar aO (pv 2) ac (ax _))
   (ag (aq (iR aO (av H__law_draw (hr.mono (by omega)) rfl (aa (pv 0) (aa ac ae))) ac (ax _))))
   au)
  (af (aB (ar aO (pv 2) ac (ax _))
   (ag (aq cE))
   au)
  (af (aB (ar aO (pv 2) ac (ax _))
   (ag (aq (bg d9 rfl T.n_str boot_str (aa (ap aA ac (av H__law_draw (hr.mono (by omega)) rfl (aa (pv 0) (aa ac ae)))) ae))))
   au)
  (af (aB (ar aO (pv 2) ac (ax _))
   (ag (aq (bX (aa (ap aA ac (av H__law_draw (hr.mono (by omega)) rfl (aa (pv 0) (aa ac ae)))) ae))))
   au)
  (ag (aq (qO ac (ap aA ac (av H__law_draw (hr.mono (by omega)) rfl (aa (pv 0) (aa ac ae)))))))))))))))),?_⟩
 have e30:(10:Int)^Int.toNat 30=1000000000000000000000000000000:=by decide
 have e38:(10:Int)^Int.toNat 38=100000000000000000000000000000000000000:=by decide
 walk_at "o"
 intro k H1 k0 k1 b1 x1
 walk_at "o"
 walk_at "c" <;> intro c0
 ·walk_at "o"
  exact q _ H1 (.int _) (bS (.inl (by decide))) (FV.rp (aD (by decide) (by decide))) b1 x1
 walk_at "o"
 walk_at "c" <;> intro c1
 ·walk_at "o"
  try refine⟨by decide,by decide,?_⟩
  intro z H2 z0 z1 b2 x2
  rw[e30] at z1
  walk_at "o"
  exact q _ H2 (.int _) (bS (.inl (by omega))) (FV.rp (aD (by omega) (by omega))) b2 (x1.trans x2)
 walk_at "o"
 walk_at "c" <;> intro c2
 ·walk_at "o"; intro z H2 z0 z1 b2 x2
  walk_at "o"
  exact q _ H2 (.int _) (bS (.inr (by omega))) (FV.rp (aD (by omega) (by omega))) b2 (x1.trans x2)
 walk_at "o"
 walk_at "c" <;> intro c3
 ·walk_at "o"
  try refine⟨by decide,by decide,?_⟩
  intro z H2 z0 z1 b2 x2
  rw[e38] at z1
  walk_at "o"
  exact q _ H2 (.int _) (bS (.inr (by omega))) (FV.rp (aD (by omega) (by omega))) b2 (x1.trans x2)
 walk_at "o"
 walk_at "c" <;> intro c4
 ·walk_at "o"; intro z H2 z0 z1 b2 x2
  walk_at "o"
  exact q _ H2 (.bl _) rfl (FV.rp (.inr (.inl ⟨_,rfl⟩))) b2 (x1.trans x2)
 walk_at "o"
 walk_at "c" <;> intro c5
 ·walk_at "o"
  exact q _ H1 .non rfl (FV.rp (.inl rfl)) b1 x1
 walk_at "o"
 walk_at "c" <;> intro c6
 ·walk_at "o"; intro z H2 z0 z1 b2 x2
  walk_at "o"
  exact⟨lt_trans (ka (by omega) (by omega)) (by decide),q _ H2 (.str _) rfl (FV.rp (rY (by omega) (by omega))) b2 (x1.trans x2)⟩
 walk_at "o"
 walk_at "c" <;> intro c7
 ·walk_at "o"; intro z H2 z0 z1 b2 x2
  walk_at "o"
  intro l hl
  have nl:=dO b2 hl
  have sl:=ak hl (.lst [.int (1+z)])
  have ho:=sxn (x1.trans x2) nl hl
  exact q _ _ (.lst (dE ah ho)) rfl (one_rp (dE ah ho) (by omega) (by omega)) (b2.same sl) ((x1.trans x2).trans (SameX.of sl))
 intro pd hpd
 have n1:=dO b1 hpd
 have s1:=ak hpd (.dK [])
 refine⟨_,rfl,p,_,rfl,b1.same s1,by decide,by decide,fun z H2 z0 z1 b2 x2=>?_⟩
 have h2:=x2 pd _ n1 ah
 refine⟨_,_,rfl,rfl,_,rfl,h2,?_⟩
 have hd:upd H2 pd (.dK [(.inl 1,.int (1+z))]) pd=some (.dK [(.inl 1,.int (1+z))]):=ah
 have ho:=sxn x1 n1 hpd
 refine q _ _ (.dct (dE hd ho)) rfl (dct1_rp (dE hd ho) (by omega) (by omega)) ?_ fun b o hb e=>?_
 ·obtain⟨r1,r2,hb⟩:=b2
  exact⟨r1,r2,by rw[ao (Ne.symm n1)]; exact hb⟩
 ·have e1:=x1 b o hb e
  rw[ao (az e1 hpd)]
  exact x2 b o hb (s1 b o e1)
theorem RD.tupR {H:Hp}{a:Addr}{xs:List V}(h:H a=some (.tup xs)):∀ {n m:Nat},(∀ x∈xs,∃ d,RD H x d/\SmD d n m)->∃ d,RD H (.ref a) d/\SmD d (n+1) (xs.length*(m+1)):=by
 intro n m al
 have key:∀ ys:List V,(∀ x∈ys,∃ d,RD H x d/\SmD d n m)->∃ ds:List PyData,ys.length=ds.length/\(∀ (i:Nat) x d,ys[i]?=some x->ds[i]?=some d->RD H x d)/\SmL ds n (ys.length*(m+1)):=by
  intro ys
  induction ys with
  | nil=>intro _; exact⟨[],rfl,fun i x d e=>(by simp at e),SmL.nil⟩
  | cons y r ih =>
   intro al
   obtain⟨ds,e1,e2,e3⟩:=ih fun x hx=>al x (mem_cons_of_mem _ hx)
   obtain⟨d,r1,r2⟩:=al y (mem_cons_self ..)
   refine⟨d::ds,by simp[e1],fun i x d' h1 h2=>?_,?_⟩
   ·cases i with
    | zero=>simp at h1 h2; subst h1 h2; exact r1
    | succ j=>simp at h1 h2; exact e2 j x d' h1 h2
   ·have:=SmL.cons r2 e3
    have e:(y::r).length*(m+1)=r.length*(m+1)+m+1:=by rw[length_cons,Nat.succ_mul]; omega
    rw[e]
    exact this
 obtain⟨ds,e1,e2,e3⟩:=key xs al
 exact⟨.tuple ds,.tup h e1 e2,e3.tup⟩
theorem FVs.tup {H:Hp}{a:Addr}{xs:List V}(h:H a=some (.tup xs)) (al:∀ x∈xs,FV x) (l:xs.length<=10):rL H (.ref a):=by
 obtain⟨d,r,s⟩:=RD.tupR h (n:=0) (m:=150) fun x hx=>by
  obtain⟨d,f,s⟩:=(al x hx).sm
  exact⟨d,f.rd,s⟩
 exact s.ok r (by decide) (by omega)
theorem FVs.lst {H:Hp}{a:Addr}{xs:List V}(h:H a=some (.lst xs)) (al:∀ x∈xs,FV x) (l:xs.length<=10):rL H (.ref a):=by
 obtain⟨d,r,s⟩:=RD.lstR h (n:=0) (m:=150) fun x hx=>by
  obtain⟨d,f,s⟩:=(al x hx).sm
  exact⟨d,f.rd,s⟩
 exact s.ok r (by decide) (by omega)
def Spo (tw:Int) (xs:List V):Prop:=xs.length<=5/\(∀ x∈xs,FV x)/\(rkB xs=false\/∃ e f a t:Int,xs=[.int e,.int f,.int a,.int t]/\RG e f a t/\tw<e)
theorem Spo.rk {H:Hp}{t:Addr}{tw:Int}{xs:List V}(s:Spo tw xs) (h:H t=some (.tup xs)):RkE H (.ref t) tw:=by
 obtain⟨l,al,b | ⟨e,f,a,t',rfl,g,lt⟩⟩:=s
 ·have:=RkT.tup h (fun v hv=>(al v hv).th) (by omega)
  rw[b] at this
  exact .inl this
 ·exact .inr ⟨t,e,f,a,t',rfl,h,g,lt⟩
theorem FV4 {v0 v1 v2 v3:V}(h0:FV v0) (h1:FV v1) (h2:FV v2) (h3:FV v3):∀ x∈[v0,v1,v2,v3],FV x:=List.forall_mem_cons.mpr ⟨h0,List.forall_mem_cons.mpr ⟨h1,List.forall_mem_cons.mpr ⟨h2,List.forall_mem_cons.mpr ⟨h3,fun _ h=>nomatch h⟩⟩⟩⟩
theorem rk_e {v v1 v2 v3:V}(h:btw v 0 64=false):rkB [v,v1,v2,v3]=false:=by
 show (btw v 0 64&&btw v3 0 130&&btw v1 0 1180591620717411303424&&btw v2 0 1180591620717411303424)=false
 rw[h]
 rfl
theorem rk_t {v0 v1 v2 v:V}(h:btw v 0 130=false):rkB [v0,v1,v2,v]=false:=by
 show (btw v0 0 64&&btw v 0 130&&btw v1 0 1180591620717411303424&&btw v2 0 1180591620717411303424)=false
 rw[h,Bool.and_false]
 rfl
theorem rk_f {v0 v v2 v3:V}(h:btw v 0 1180591620717411303424=false):rkB [v0,v,v2,v3]=false:=by
 show (btw v0 0 64&&btw v3 0 130&&btw v 0 1180591620717411303424&&btw v2 0 1180591620717411303424)=false
 rw[h,Bool.and_false]
 rfl
theorem rk_a {v0 v1 v v3:V}(h:btw v 0 1180591620717411303424=false):rkB [v0,v1,v,v3]=false:=by
 show (btw v0 0 64&&btw v3 0 130&&btw v1 0 1180591620717411303424&&btw v 0 1180591620717411303424)=false
 rw[h,Bool.and_false]
theorem jN {f:Addr}{fd:FuncData}(F:Fun K "_law_spoilt" "_law_spoilt" cX f fd) (T:Txt K mg c) (H__law_draw:Has P w K mg base 1 "_law_draw" ["_law_state","_law_size"] gE):FnOk P w K mg base CX0 2 f fd ["_law_state","_law_numbers","_law_twos_here"] spSpo:=by
 refine F.ok sc__law_spoilt (fun vs H Q E h=>?_) (fun cdv A outer s H vs Q E hr h=>?_)
 ·obtain⟨p,r,e,f,a,tw,rfl,_⟩:=h
  rfl
 obtain⟨p,r,e,f,a,tw,rfl,bx,ig,rg,tw0,tw1,q⟩:=h
 refine⟨_,(af (aw (i:=3) sc__law_spoilt.nd rfl (Or.inl rfl) (bg im rfl T.n_list boot_list (aa (pv 1) ae)))
  (af (aw (i:=4) sc__law_spoilt.nd rfl (Or.inl rfl) (av H__law_draw (hr.mono (by omega)) rfl (aa (pv 0) (aa ac ae))))
  (af (aB (ar aO (pv 4) ac (ax _))
   (ag (aq (pv 3)))
   au)
  (af (aB (ar aO (pv 4) ac (ax _))
   (ag (aq (bg dj rfl T.n_tuple boot_tuple (aa (pe_slice sl_list (pv 3) po_none (mQ ac)) ae))))
   au)
  (af (aB (ar aO (pv 4) ac (ax _))
   (ag (aq (bg dj rfl T.n_tuple boot_tuple (aa (ap op_addL (pv 3) (bX (aa ac ae))) ae))))
   au)
  (af (aB (ar aO (pv 4) ac (ax _))
   (ag (aq (bo bK (bX (aa cE (aa ac (aa aM (aa iB ae))))) (av H__law_draw (hr.mono (by omega)) rfl (aa (pv 0) (aa ac ae))) (fun _ _=>rfl))))
   au)
  (bj (aB (ar aO (pv 4) ac (ax _))
   (ag (gr (ap aA (ap aA (pv 2) ac) (av H__law_draw (hr.mono (by omega)) rfl (aa (pv 0) (aa ac ae)))) (iq (pv 3) ac cC)))
   (ag (aB (ar aO (pv 4) ac (ax _))
    (ag (gr (ap aA (ap aA (ap aS ac ac) ac) (av H__law_draw (hr.mono (by omega)) rfl (aa (pv 0) (aa ac ae)))) (iq (pv 3) ac cC)))
    (ag (aB (ar aO (pv 4) ac (ax _))
     (ag (gr (ap aA (ap aA (ap aS ac ac) ac) (av H__law_draw (hr.mono (by omega)) rfl (aa (pv 0) (aa ac ae)))) (iq (pv 3) ac cC)))
     (ag (aB (ar aO (pv 4) ac (ax _))
      (ag (gr (ap aA ac (av H__law_draw (hr.mono (by omega)) rfl (aa (pv 0) (aa ac ae)))) (iq (pv 3) ac cC)))
      (ag (gr (bo bK (bX (aa (ap aQ (ap aQ ac ac) (av H__law_draw (hr.mono (by omega)) rfl (aa (pv 0) (aa ac ae)))) (aa iB (aa cE (aa aM (aa iB ae)))))) (av H__law_draw (hr.mono (by omega)) rfl (aa (pv 0) (aa ac ae))) (fun _ _=>rfl)) (iq (pv 3) (ap dX (pv 4) ac) cC))))))))))
  (ag (aq (bg dj rfl T.n_tuple boot_tuple (aa (pv 3) ae))))))))))),?_⟩
 unfold IsG at ig
 obtain⟨g1,g2,g3,g4,g5,g6,g7,g8⟩:=id rg
 have fe:FV (.int e):=aD (by omega) (by omega)
 have ff:FV (.int f):=aD (by omega) (by omega)
 have fa:FV (.int a):=aD (by omega) (by omega)
 have ft:FV (.int 130):=aD (by decide) (by decide)
 have al4:=FV4 fe ff fa ft
 refine⟨_,rfl,r,[.int e,.int f,.int a,.int 130],rfl,.inr (SqT.of ig),fun l hl=>?_⟩
 have nl:=dO bx hl
 obtain⟨G,eG,sG,hG⟩:=qz hl (.lst [.int e,.int f,.int a,.int 130])
 rw[eG]
 refine⟨_,rfl,p,_,rfl,bx.same sG,by decide,by decide,fun k H1 k0 k1 b1 x1=>?_⟩
 have h1:=x1 _ _ nl hG
 have x01:=(SameX.of (p:=p) sG).trans x1
 have fin:∀ {xs:List V} {HZ:Hp} {t:Addr},Spo tw xs->Bx HZ p->SameX p H HZ->HZ t=none->Q (.ref t) (upd HZ t (.tup xs)):=fun {xs HZ t} sp bz xz ht=>by
  have s1:=ak ht (.tup xs)
  have nt:=dO bz ht
  have e1:=dE (H:=H) (H':=upd HZ t (.tup xs)) ah (sxn xz nt ht)
  exact q _ _ (sp.rk e1) (FVs.tup e1 sp.2.1 (by have:=sp.1; omega)) (bz.same s1) (xz.trans (SameX.of s1))
 walk_at "o"
 walk_at "c" <;> intro c0
 ·walk_at "o"
  exact q _ _ (.inl (.no (.lst (dE h1 hl)) fun b xs e1 e2=>by
   cases e1
   rw[dE h1 hl] at e2
   cases e2)) (FVs.lst (dE h1 hl) al4 (by show 4<=10; decide)) b1 x01
 walk_at "o"
 walk_at "c" <;> intro c1
 ·walk_at "o"
  refine⟨l,_,rfl,SqL.of h1,fun l2 h2=>?_⟩
  refine⟨l2,_,rfl,.inl ⟨SqL.of ah,fun t ht=>?_⟩⟩
  have s2:=ak h2 (.lst (cutV [V.int e,.int f,.int a,.int 130] none (some 3)))
  exact fin (xs:=[.int e,.int f,.int a]) ⟨by show 3<=5; decide,List.forall_mem_cons.mpr ⟨fe,List.forall_mem_cons.mpr ⟨ff,List.forall_mem_cons.mpr ⟨fa,fun _ h=>nomatch h⟩⟩⟩,.inl rfl⟩ (b1.same s2) (x01.trans (SameX.of s2)) ht
 walk_at "o"
 walk_at "c" <;> intro c2
 ·walk_at "o"
  intro l0 h0
  have s0:=ak h0 (.lst [V.int 0])
  refine⟨l,l0,_,_,rfl,rfl,SqL.of (s0 _ _ h1),SqL.of ah,(by show 4+1<=sizeLine; decide),fun l2 h2=>?_⟩
  refine⟨l2,_,rfl,.inl ⟨SqL.of ah,fun t ht=>?_⟩⟩
  have s2:=s0.trans (ak h2 (.lst ([V.int e,.int f,.int a,.int 130]++[V.int 0])))
  exact fin (xs:=[.int e,.int f,.int a,.int 130,.int 0]) ⟨by show 5<=5; decide,List.forall_mem_cons.mpr ⟨fe,List.forall_mem_cons.mpr ⟨ff,List.forall_mem_cons.mpr ⟨fa,List.forall_mem_cons.mpr ⟨ft,List.forall_mem_cons.mpr ⟨aD (by decide) (by decide),fun _ h=>nomatch h⟩⟩⟩⟩⟩,.inl rfl⟩ (b1.same s2) (x01.trans (SameX.of s2)) ht
 walk_at "o"
 walk_at "c" <;> intro c3
 ·walk_at "o"
  intro l0 h0
  have n0:=dO b1 h0
  have s0:=ak h0 (.lst [V.non,.int 7,.str (Str.ofString "(0, 1, 0, 0)"),.bl true])
  refine⟨_,rfl,p,_,rfl,b1.same s0,by decide,by decide,fun j H2 j0 j1 b2 x2=>?_⟩
  have fl:∀ v,FV v->Q v H2:=fun v fv=>q v H2 (.inl (.no fv.th fun b xs e1 _=>by
   subst e1
   rcases fv with z | ⟨_,z⟩ | ⟨_,z,_⟩ | ⟨_,z,_⟩ <;> cases z)) fv.rp b2 (x01.trans ((SameX.of s0).trans x2))
  have hat:∃ v,atI [V.non,.int 7,.str (Str.ofString "(0, 1, 0, 0)"),.bl true] j=some v/\FV v:=by
   rcases(by omega:j=0\/j=1\/j=2\/j=3) with rfl | rfl | rfl | rfl
   ·exact⟨_,rfl,.inl rfl⟩
   ·exact⟨_,rfl,aD (by decide) (by decide)⟩
   ·exact⟨_,rfl,.inr (.inr (.inr ⟨_,rfl,by decide +kernel,by decide +kernel⟩))⟩
   ·exact⟨_,rfl,.inr (.inl ⟨_,rfl⟩)⟩
  obtain⟨v,ev,fv⟩:=hat
  exact⟨l0,_,_,_,rfl,rfl,SqL.of (x2 _ _ n0 ah),ev,fl v fv⟩
 walk_at "o"
 refine⟨fun σ HZ=>∃ xs,σ=[some (.ref p),some (.ref r),some (.int tw),some (.ref l),some (.int k)]/\HZ l=some (.lst xs)/\Spo tw xs/\Bx HZ p/\SameX p H HZ,?_,?_⟩
 rotate_left
 ·rintro σ HZ ⟨xs,rfl,hz,sp,bz,xz⟩
  exact⟨_,rfl,l,_,rfl,.inl ⟨SqL.of hz,fun t ht=>fin sp bz xz ht⟩⟩
 have put:∀ {HZ:Hp} {xs:List V},HZ l=some (.lst [.int e,.int f,.int a,.int 130])->Spo tw xs->Bx HZ p->SameX p H HZ->∃ ys,([some (.ref p),some (.ref r),some (.int tw),some (.ref l),some (.int k)]:L2.St)=[some (.ref p),some (.ref r),some (.int tw),some (.ref l),some (.int k)]/\upd HZ l (.lst xs) l=some (.lst ys)/\Spo tw ys/\Bx (upd HZ l (.lst xs)) p/\SameX p H (upd HZ l (.lst xs)):=fun {HZ xs} hz sp bz xz=>by
  refine⟨xs,rfl,ah,sp,?_,fun b o hb eb=>?_⟩
  ·obtain⟨r1,r2,hb⟩:=bz
   exact⟨r1,r2,by rw[ao (Ne.symm nl)]; exact hb⟩
  ·rw[ao (az eb hl)]
   exact xz b o hb eb
 walk_at "o"
 walk_at "c" <;> intro c4
 ·refine⟨_,rfl,_,_,rfl,rfl,_,rfl,p,_,rfl,b1,by decide,by decide,fun z H2 z0 z1 b2 x2=>⟨_,_,rfl,rfl,_,rfl,l,_,0,0,rfl,rfl,x2 _ _ nl h1,rfl,?_⟩⟩
  refine put (xs:=[.int (tw+1+z),.int f,.int a,.int 130]) (x2 _ _ nl h1) ⟨by show 4<=5; decide,FV4 (aD (by omega) (by omega)) ff fa ft,?_⟩ b2 (x01.trans x2)
  by_cases h64:tw+1+z<=64
  ·exact .inr ⟨_,f,a,130,rfl,⟨by omega,h64,g3,g4,g5,g6,g7,g8⟩,by omega⟩
  ·exact .inl (by show (btw (.int (tw+1+z)) 0 64&&_&&_&&_)=false; rw[bS (.inr (by omega))]; rfl)
 have P70:=pow70
 walk_at "o"
 walk_at "c" <;> intro c5
 ·walk_at "o"; intro z H2 z0 z1 b2 x2
  walk_at "o"
  refine⟨l,_,1,1,rfl,rfl,x2 _ _ nl h1,rfl,?_⟩
  exact put (xs:=[.int e,.int (1*2^Int.toNat 70+1+z),.int a,.int 130]) (x2 _ _ nl h1) ⟨by show 4<=5; decide,FV4 fe (aD (by omega) (by omega)) fa ft,.inl (rk_f (bS (.inr (by omega))))⟩ b2 (x01.trans x2)
 walk_at "o"
 walk_at "c" <;> intro c6
 ·walk_at "o"; intro z H2 z0 z1 b2 x2
  walk_at "o"
  refine⟨l,_,2,2,rfl,rfl,x2 _ _ nl h1,rfl,?_⟩
  exact put (xs:=[.int e,.int f,.int (1*2^Int.toNat 70+1+z),.int 130]) (x2 _ _ nl h1) ⟨by show 4<=5; decide,FV4 fe ff (aD (by omega) (by omega)) ft,.inl (rk_a (bS (.inr (by omega))))⟩ b2 (x01.trans x2)
 walk_at "o"
 walk_at "c" <;> intro c7
 ·walk_at "o"; intro z H2 z0 z1 b2 x2
  walk_at "o"
  refine⟨l,_,3,3,rfl,rfl,x2 _ _ nl h1,rfl,?_⟩
  exact put (xs:=[.int e,.int f,.int a,.int (131+z)]) (x2 _ _ nl h1) ⟨by show 4<=5; decide,FV4 fe ff fa (aD (by omega) (by omega)),.inl (rk_t (bS (.inr (by omega))))⟩ b2 (x01.trans x2)
 walk_at "o"; intro z H2 z0 z1 b2 x2
 walk_at "o"
 intro l0 h0
 have n0:=dO b2 h0
 have s0:=ak h0 (.lst [.int (0-1-z),.bl true,.non,.str (Str.ofString "0"),.bl false])
 refine⟨_,rfl,p,_,rfl,b2.same s0,by decide,by decide,fun j H3 j0 j1 b3 x3=>?_⟩
 have hat:∃ v,atI [.int (0-1-z),.bl true,.non,.str (Str.ofString "0"),.bl false] j=some v/\FV v/\∀ n,btw v 0 n=false:=by
  rcases(by omega:j=0\/j=1\/j=2\/j=3\/j=4) with rfl | rfl | rfl | rfl | rfl
  ·exact⟨_,rfl,aD (by omega) (by omega),fun n=>bS (.inl (by omega))⟩
  ·exact⟨_,rfl,.inr (.inl ⟨_,rfl⟩),fun n=>rfl⟩
  ·exact⟨_,rfl,.inl rfl,fun n=>rfl⟩
  ·exact⟨_,rfl,.inr (.inr (.inr ⟨_,rfl,by decide +kernel,by decide +kernel⟩)),fun n=>rfl⟩
  ·exact⟨_,rfl,.inr (.inl ⟨_,rfl⟩),fun n=>rfl⟩
 obtain⟨v,ev,fv,bv⟩:=hat
 have h3:=x3 _ _ nl (s0 _ _ (x2 _ _ nl h1))
 have x03:=(x01.trans x2).trans ((SameX.of (p:=p) s0).trans x3)
 refine⟨l0,_,_,_,rfl,rfl,SqL.of (x3 _ _ n0 ah),ev,?_⟩
 walk_at "o"
 rcases(by omega:k%4=0\/k%4=1\/k%4=2\/k%4=3) with e4 | e4 | e4 | e4
 ·refine⟨l,_,_,0,rfl,rfl,h3,(by rw[e4]; rfl),?_⟩
  exact put (xs:=[v,.int f,.int a,.int 130]) h3 ⟨by show 4<=5; decide,FV4 fv ff fa ft,.inl (rk_e (bv _))⟩ b3 x03
 ·refine⟨l,_,_,1,rfl,rfl,h3,(by rw[e4]; rfl),?_⟩
  exact put (xs:=[.int e,v,.int a,.int 130]) h3 ⟨by show 4<=5; decide,FV4 fe fv fa ft,.inl (rk_f (bv _))⟩ b3 x03
 ·refine⟨l,_,_,2,rfl,rfl,h3,(by rw[e4]; rfl),?_⟩
  exact put (xs:=[.int e,.int f,v,.int 130]) h3 ⟨by show 4<=5; decide,FV4 fe ff fv ft,.inl (rk_a (bv _))⟩ b3 x03
 ·refine⟨l,_,_,3,rfl,rfl,h3,(by rw[e4]; rfl),?_⟩
  exact put (xs:=[.int e,.int f,.int a,v]) h3 ⟨by show 4<=5; decide,FV4 fe ff fa fv,.inl (rk_t (bv _))⟩ b3 x03
def drL (i:Nat):Expr:=match (aU aC).getD 0 (.Pass ⟨0,0,0,0⟩) with
 | .Return (some (.List es _)) _=>es.getD i (.Constant .none 0 ⟨0,0,0,0⟩)
 | _=>.Constant .none 0 ⟨0,0,0,0⟩
abbrev dQ:Str:=("_law_doors":Str)++".<locals>."++"<lambda>"
abbrev TB3 (P0 P1 P2:Addr) (H:Hp):Prop:=TO P0 H/\TA P1 H/\TabA P2 dQ H
def clD (j n:Nat):List (Str×Addr):=match j with
 | 0=>[("_law_width",n+1),("_law_d",n+1+1)]
 | 1=>[("_law_width",n+1),("_law_d",n+1+1)]
 | 2=>[("_law_width",n+1),("_law_d",n+1+1)]
 | 3=>[("_law_width",n+1),("_law_d",n+1+1)]
 | 4=>[("_law_width",n+1),("_law_d",n+1+1)]
 | 5=>[("_law_width",n+1),("_law_d",n+1+1)]
 | 6=>[("_law_width",n+1),("_law_form",n+1+1+1+1),("_law_d",n+1+1)]
 | 7=>[("_law_width",n+1),("_law_form",n+1+1+1+1),("_law_d",n+1+1)]
 | 8=>[("_law_width",n+1),("_law_form",n+1+1+1+1),("_law_d",n+1+1)]
 | 9=>[("_law_width",n+1),("_law_numbers",n+1+1+1),("_law_d",n+1+1)]
 | 10=>[("_law_width",n+1),("_law_numbers",n+1+1+1),("_law_d",n+1+1)]
 | _=>[("_law_width",n+1),("_law_prices_here",n+1+1+1+1+1),("_law_d",n+1+1)]
def nsD (j:Nat):List Str:=match j with
 | 0=>["_law_width","_law_d"]
 | 1=>["_law_width","_law_d"]
 | 2=>["_law_width","_law_d"]
 | 3=>["_law_width","_law_d"]
 | 4=>["_law_width","_law_d"]
 | 5=>["_law_width","_law_d"]
 | 6=>["_law_width","_law_form","_law_d"]
 | 7=>["_law_width","_law_form","_law_d"]
 | 8=>["_law_width","_law_form","_law_d"]
 | 9=>["_law_width","_law_numbers","_law_d"]
 | 10=>["_law_width","_law_numbers","_law_d"]
 | _=>["_law_width","_law_prices_here","_law_d"]
def vsD (x y z:V) (p:Addr) (pr:V) (j:Nat):List V:=match j with
 | 0=>[x,y]
 | 1=>[x,y]
 | 2=>[x,y]
 | 3=>[x,y]
 | 4=>[x,y]
 | 5=>[x,y]
 | 6=>[x,.ref p,y]
 | 7=>[x,.ref p,y]
 | 8=>[x,.ref p,y]
 | 9=>[x,z,y]
 | 10=>[x,z,y]
 | _=>[x,pr,y]
def teD (c:Ad) (P0 P1:Addr) (j:Nat):XK->TE:=match j with
 | 0=>fun E=>cU (pV c) [] E (aX (dF 0) (aX (dF 1) li))
 | 1=>fun E=>cU (spCW c) [] E (aX (dF 0) (aX (dF 1) li))
 | 2=>fun E=>cU (spCd c) [] E (aX (dF 0) (aX (dF 1) li))
 | 3=>fun E=>cU (spWN c P0) [] E (aX (dF 0) (aX (dF 1) (aX (tC (.int 1)) li)))
 | 4=>fun E=>cU (spLA c) [] E (aX (dF 0) (aX (dF 1) (aX (tC (.int 5)) li)))
 | 5=>fun E=>cU (spLT c) [] E (aX (dF 0) (aX (dF 1) li))
 | 6=>fun E=>cU (ou c) [] E (aX (dF 0) (aX (dF 2) (aX (dF 1) li)))
 | 7=>fun E=>cU (pY c P0) [] E (aX (dF 0) (aX (dF 2) (aX (dF 1) li)))
 | 8=>fun E=>cU (spIW c) [] E (aX (dF 0) (aX (dF 2) (aX (dF 1) (aX (tC (.int 1)) li))))
 | 9=>fun E=>cU (qj c) [] E (aX (dF 0) (aX (dF 2) (aX (dF 1) li)))
 | 10=>fun E=>cU (pQ c P0) [] E (aX (dF 0) (aX (dF 2) (aX (dF 1) li)))
 | _=>fun E=>cU (qp c P0 P1) [] E (aX (dF 0) (aX (dF 2) (aX (dF 1) li)))
def dr (c:Ad) (P0 P1:Addr) (j n:Nat) (x y z:V) (p:Addr) (pr:V):LamZ:=⟨dQ,je (drL j),jr (drL j),bn (drL j),clD j n,nsD j,vsD x y z p pr j,teD c P0 P1 j⟩
def spDo (c:Ad) (P0 P1 P2:Addr):Sp:=fun vs H Q _=>∃ (x y z:V) (p:Addr) (pr:V),vs=[x,y,z,.ref p,pr]/\TB3 P0 P1 P2 H/\∀ (l:Addr) (gs:List Addr) H',H' l=some (.lst (gs.map V.ref))->gs.length=12->(∀ (j:Nat) g,gs[j]?=some g->∃ n cs,(dr c P0 P1 j n x y z p pr).At cs H' g)->Kp H H'->TB3 P0 P1 P2 H'->Q (.ref l) H'
structure AccD (n:Nat) (P0 P1 P2:Addr) (H0 Hn:Hp) (gs:List Addr):Prop where
 tb:TB3 P0 P1 P2 Hn
 kp:Kp H0 Hn
 cl:∀ (j:Nat) g,gs[j]?=some g->Clo "<lambda>" dQ (je (drL j)) (jr (drL j)) (bn (drL j)) (clD j n) Hn g
theorem TB3.kp {P0 P1 P2:Addr}{H H':Hp}(t:TB3 P0 P1 P2 H) (hne:mJ [P0,P1,P2]) (k:∀ a u,a≠P2->H a=some u->H' a=some u) (t1:TabA P2 dQ H'):TB3 P0 P1 P2 H':=by
 obtain⟨a,b,c⟩:=t
 have h:=List.nodup_cons.mp hne
 have h2:=List.nodup_cons.mp h.2
 have n0:P0≠P2:=fun z=>h.1 (by rw[z]; exact mem_cons_of_mem _ (mem_cons_self ..))
 have n1:P1≠P2:=fun z=>h2.1 (by rw[z]; exact mem_cons_self ..)
 exact⟨om a n0 c k,b.other n1 c k,t1⟩
theorem cloK {n q:Str}{a:Arguments}{b:Expr}{sc:Scope}{cl:List (Str×Addr)}{g:Addr}{H H':Hp}(c:Clo n q a b sc cl H g) (k:Kp H H'):Clo n q a b sc cl H' g :=
 let ⟨pm,c',ctv,e1,e2⟩:=c; ⟨pm,c',ctv,k _ _ (fun _ z=>nomatch z) e1,k _ _ (fun _ z=>nomatch z) e2⟩
theorem AccD.step {n:Nat}{P0 P1 P2:Addr}{H0 Hn H1:Hp}{gs:List Addr}{g:Addr}(A:AccD n P0 P1 P2 H0 Hn gs) (hne:mJ [P0,P1,P2]) (k:∀ a u,a≠P2->Hn a=some u->H1 a=some u) (c:Clo "<lambda>" dQ (je (drL gs.length)) (jr (drL gs.length)) (bn (drL gs.length)) (clD gs.length n) H1 g) (t1:TabA P2 dQ H1):AccD n P0 P1 P2 H0 H1 (gs++[g]):=by
 have kk:=Kp.lam A.tb.2.2 k
 refine⟨A.tb.kp hne k t1,A.kp.trans kk,fun j g' e=>?_⟩
 by_cases h:j<gs.length
 ·rw[List.getElem?_append_left h] at e
  exact cloK (A.cl j g' e) kk
 ·rw[List.getElem?_append_right (by omega)] at e
  have hj:j=gs.length:=by
   cases q:j-gs.length with
   | zero=>omega
   | succ m=>rw[q] at e; simp at e
  subst hj
  simp only[Nat.sub_self,List.getElem?_cons_zero,Option.some.injEq] at e
  subst e
  exact c
theorem TB3.same {P0 P1 P2:Addr}{H H':Hp}(t:TB3 P0 P1 P2 H) (s:Same H H'):TB3 P0 P1 P2 H':=⟨aR t.1 s,t.2.1.same s,t.2.2.same s⟩
inductive CL3 (H:Hp) (cs:List Addr):List (Str×Addr)->List V->Prop
 | nil:CL3 H cs [] []
 | cons {q:Str} {c:Addr} {v:V} {cl:List (Str×Addr)} {vs:List V} (m:c∈cs) (h:∃ (o:Obj) (u:Value),H c=some (.frz o (.own 0))/\o.data=.cell (some u)/\RelV v u) (r:CL3 H cs cl vs):CL3 H cs ((q,c)::cl) (v::vs)
theorem CL3.mem {H:Hp}{cs:List Addr}:∀ {cl:List (Str×Addr)}{vs:List V},CL3 H cs cl vs->∀ q c,(q,c)∈cl->c∈cs
 | _,_,.cons m _ r,q,c,h=>by
  rcases List.mem_cons.mp h with e | h
  ·cases e; exact m
  ·exact r.mem q c h
theorem CL3.val {H:Hp}{cs:List Addr}:∀ {cl:List (Str×Addr)}{vs:List V},CL3 H cs cl vs->∀ (i:Nat) v,vs[i]?=some v->∃ q c,cl[i]?=some (q,c)/\∃ (o:Obj) (u:Value),H c=some (.frz o (.own 0))/\o.data=.cell (some u)/\RelV v u
 | _,_,.cons (q:=q) (c:=c) _ h r,0,v,e=>by cases e; exact⟨q,c,rfl,h⟩
 | _,_,.cons _ _ r,i+1,v,e=>r.val i v (by simpa using e)
theorem mf {q:Str}{c:Addr}:∀ {cl:List (Str×Addr)},(cl.map (·.1)).Nodup->(q,c)∈cl->cl.lookup q=some c
 | (q',c')::cl,nd,h=>by
  rcases List.mem_cons.mp h with e | h
  ·cases e
   simp[List.lookup]
  ·have nd':=List.nodup_cons.mp nd
   have ne:q≠q':=fun z=>nd'.1 (List.mem_map.mpr ⟨_,h,z⟩)
   have e:(q == q')=false:=by simpa using ne
   rw[List.lookup_cons,e]
   exact mf nd'.2 h
theorem ndN2 (n:Nat):([n+1,n+1+1]:List Nat).Nodup:=by
 simp only[List.nodup_cons,mem_cons,not_mem_nil,or_false,not_false_eq_true,nodup_nil,and_true]
 omega
theorem ndN4 (n:Nat):([n+1,n+1+1+1+1,n+1+1]:List Nat).Nodup:=by
 simp only[List.nodup_cons,mem_cons,not_mem_nil,or_false,not_false_eq_true,nodup_nil,and_true]
 omega
theorem ndN3 (n:Nat):([n+1,n+1+1+1,n+1+1]:List Nat).Nodup:=by
 simp only[List.nodup_cons,mem_cons,not_mem_nil,or_false,not_false_eq_true,nodup_nil,and_true]
 omega
theorem ndN5 (n:Nat):([n+1,n+1+1+1+1+1,n+1+1]:List Nat).Nodup:=by
 simp only[List.nodup_cons,mem_cons,not_mem_nil,or_false,not_false_eq_true,nodup_nil,and_true]
 omega
theorem door_at {c:Ad}{P0 P1:Addr}{n j:Nat}{x y z:V}{p:Addr}{pr:V}{H H0:Hp}{g:Addr}(hj:j<12) (cc:Clo "<lambda>" dQ (je (drL j)) (jr (drL j)) (bn (drL j)) (clD j n) H g)
  (a2:∀ x c,(cellsFrom (n+1) (aj aC).names []).lookup x=some c->H0 c=none/\∃ (o:Obj) (v:Option Value),H c=some (.frz o (.own 0))/\o.data=.cell v)
  (a3:∀ x y c,(cellsFrom (n+1) (aj aC).names []).lookup x=some c->(cellsFrom (n+1) (aj aC).names []).lookup y=some c->x=y)
  (a4:∀ (k:Nat) q c v,(["_law_width","_law_d","_law_numbers","_law_form","_law_prices_here"]:List Str)[k]?=some q->(L2.start ["_law_width","_law_d","_law_numbers","_law_form","_law_prices_here"] [x,y,z,.ref p,pr])[k]?=some (some v)->(aj aC).names.lookup q=some .cell->(cellsFrom (n+1) (aj aC).names []).lookup q=some c->∃ (o:Obj) (u:Value),H c=some (.frz o (.own 0))/\o.data=.cell (some u)/\RelV v u) :
  (dr c P0 P1 j n x y z p pr).At [n+1,n+1+1,n+1+1+1,n+1+1+1+1,n+1+1+1+1+1] H g:=by
 have cn:cellsFrom (n+1) (aj aC).names []=([("_law_prices_here",n+1+1+1+1+1),("_law_form",n+1+1+1+1),("_law_numbers",n+1+1+1),("_law_d",n+1+1),("_law_width",n+1)]:List (Str×Addr)):=rfl
 have kc:∀ q∈(["_law_width","_law_d","_law_numbers","_law_form","_law_prices_here"]:List Str),(aj aC).names.lookup q=some .cell:=by decide +kernel
 rw[cn] at a2 a3 a4
 have e1:=a4 0 _ (n+1) x rfl rfl (kc _ (by simp)) rfl
 have e2:=a4 1 _ (n+1+1) y rfl rfl (kc _ (by simp)) rfl
 have e3:=a4 2 _ (n+1+1+1) z rfl rfl (kc _ (by simp)) rfl
 have e4:=a4 3 _ (n+1+1+1+1) (.ref p) rfl rfl (kc _ (by simp)) rfl
 have e5:=a4 4 _ (n+1+1+1+1+1) pr rfl rfl (kc _ (by simp)) rfl
 have cf:CellsF H [n+1,n+1+1,n+1+1+1,n+1+1+1+1,n+1+1+1+1+1]:=⟨fun c hc=>by
  simp only[mem_cons,not_mem_nil,or_false] at hc
  rcases hc with rfl | rfl | rfl | rfl | rfl
  ·obtain⟨o,u,a,b,_⟩:=e1; exact⟨o,_,a,b⟩
  ·obtain⟨o,u,a,b,_⟩:=e2; exact⟨o,_,a,b⟩
  ·obtain⟨o,u,a,b,_⟩:=e3; exact⟨o,_,a,b⟩
  ·obtain⟨o,u,a,b,_⟩:=e4; exact⟨o,_,a,b⟩
  ·obtain⟨o,u,a,b,_⟩:=e5; exact⟨o,_,a,b⟩⟩
 have m1:n+1∈[n+1,n+1+1,n+1+1+1,n+1+1+1+1,n+1+1+1+1+1]:=by simp
 have m2:n+1+1∈[n+1,n+1+1,n+1+1+1,n+1+1+1+1,n+1+1+1+1+1]:=by simp
 have m3:n+1+1+1∈[n+1,n+1+1,n+1+1+1,n+1+1+1+1,n+1+1+1+1+1]:=by simp
 have m4:n+1+1+1+1∈[n+1,n+1+1,n+1+1+1,n+1+1+1+1,n+1+1+1+1+1]:=by simp
 have m5:n+1+1+1+1+1∈[n+1,n+1+1,n+1+1+1,n+1+1+1+1,n+1+1+1+1+1]:=by simp
 have key:CL3 H [n+1,n+1+1,n+1+1+1,n+1+1+1+1,n+1+1+1+1+1] (clD j n) (vsD x y z p pr j)/\(clD j n).map (·.1)=nsD j/\(nsD j).Nodup/\((clD j n).map (·.2)).Nodup:=by
  rcases(by omega:j=0\/j=1\/j=2\/j=3\/j=4\/j=5\/j=6\/j=7\/j=8\/j=9\/j=10\/j=11) with rfl | rfl | rfl | rfl | rfl | rfl | rfl | rfl | rfl | rfl | rfl | rfl
  ·exact⟨.cons m1 e1 (.cons m2 e2 .nil),rfl,by decide +kernel,ndN2 n⟩
  ·exact⟨.cons m1 e1 (.cons m2 e2 .nil),rfl,by decide +kernel,ndN2 n⟩
  ·exact⟨.cons m1 e1 (.cons m2 e2 .nil),rfl,by decide +kernel,ndN2 n⟩
  ·exact⟨.cons m1 e1 (.cons m2 e2 .nil),rfl,by decide +kernel,ndN2 n⟩
  ·exact⟨.cons m1 e1 (.cons m2 e2 .nil),rfl,by decide +kernel,ndN2 n⟩
  ·exact⟨.cons m1 e1 (.cons m2 e2 .nil),rfl,by decide +kernel,ndN2 n⟩
  ·exact⟨.cons m1 e1 (.cons m4 e4 (.cons m2 e2 .nil)),rfl,by decide +kernel,ndN4 n⟩
  ·exact⟨.cons m1 e1 (.cons m4 e4 (.cons m2 e2 .nil)),rfl,by decide +kernel,ndN4 n⟩
  ·exact⟨.cons m1 e1 (.cons m4 e4 (.cons m2 e2 .nil)),rfl,by decide +kernel,ndN4 n⟩
  ·exact⟨.cons m1 e1 (.cons m3 e3 (.cons m2 e2 .nil)),rfl,by decide +kernel,ndN3 n⟩
  ·exact⟨.cons m1 e1 (.cons m3 e3 (.cons m2 e2 .nil)),rfl,by decide +kernel,ndN3 n⟩
  ·exact⟨.cons m1 e1 (.cons m5 e5 (.cons m2 e2 .nil)),rfl,by decide +kernel,ndN5 n⟩
 obtain⟨k1,k2,k3,k4⟩:=key
 refine⟨cc,cf,fun q c' e=>k1.mem q c' (PySem.mem_of_lookup e),fun q r c' e1 e2=>name_of_addr (List.pairwise_map.mp k4) (PySem.mem_of_lookup e1) (PySem.mem_of_lookup e2),fun i q v h1 h2=>?_⟩
 obtain⟨q',c',e,hv⟩:=k1.val i v h2
 have hq:(nsD j)[i]?=some q':=by rw[<- k2,List.getElem?_map,e]; rfl
 have h1':(nsD j)[i]?=some q:=h1
 rw[hq] at h1'
 cases h1'
 obtain⟨o,u,a,b,r⟩:=hv
 exact⟨c',o,u,mf (by show ((clD j n).map (·.1)).Nodup; rw[k2]; exact k3) (mem_of_getElem? e),a,b,r⟩
theorem kL {f:Addr}{fd:FuncData}(F:Fun K "_law_doors" "_law_doors" aC f fd) (T:Txt K mg c) (H_need_divisor:HasY P w K mg base 4 "need_divisor" ["width","d"] (pV c)) (H_corner_words:HasY P w K mg base 5 "corner_words" ["width","d"] (spCW c)) (H_candidates:HasY P w K mg base 8 "candidates" ["width","d"] (spCd c)) (H_why_none:HasY P w K mg base 6 "why_none" ["width","d","k"] (spWN c PT0)) (H_line_at:HasY P w K mg base 5 "line_at" ["width","d","total"] (spLA c)) (H_least_total:HasY P w K mg base 6 "least_total" ["width","d"] (spLT c)) (H_is_right:HasY P w K mg base 6 "is_right" ["width","d","form"] (ou c)) (H_wrong_word:Has P w K mg base 6 "wrong_word" ["width","d","form"] (spWW c PT0)) (H_is_wrong_word:HasY P w K mg base 7 "is_wrong_word" ["width","d","form","thing"] (spIW c)) (H_reckoning_is_right:HasY P w K mg base 6 "reckoning_is_right" ["width","d","reckoning"] (qj c)) (H_reckoning_wrong:HasY P w K mg base 6 "reckoning_wrong" ["width","d","reckoning"] (pQ c PT0)) (H_choose:HasY P w K mg base 10 "choose" ["width","d","prices"] (qp c PT0 PT1)) (B:LamBase mg base cT2 PT2) (hcd:fd.code=.ref cT2) (hne:mJ [PT0,PT1,PT2]):FnOk P w K mg base CX0 11 f fd ["_law_width","_law_d","_law_numbers","_law_form","_law_prices_here"] (spDo c PT0 PT1 PT2):=by
 refine Fun.okD F hcd j4 (fun vs H Q E h=>?_) rfl (fun A outer s H vs Q E hr h=>?_)
 ·obtain⟨x,y,z,p,pr,rfl,_⟩:=h
  rfl
 obtain⟨x,y,z,p,pr,rfl,tb,q⟩:=h
 refine⟨_,slO (pe_lstS (bi (bA (params:=je (drL 0)) (body:=jr (drL 0)) (scope:=bn (drL 0)) (pos:=oP (drL 0)) (qual:=dQ) (cl:=clD 0 s.heap.objs.size) B rfl rfl rfl)
  (bi (bA (params:=je (drL 1)) (body:=jr (drL 1)) (scope:=bn (drL 1)) (pos:=oP (drL 1)) (qual:=dQ) (cl:=clD 1 s.heap.objs.size) B rfl rfl rfl)
  (bi (bA (params:=je (drL 2)) (body:=jr (drL 2)) (scope:=bn (drL 2)) (pos:=oP (drL 2)) (qual:=dQ) (cl:=clD 2 s.heap.objs.size) B rfl rfl rfl)
  (bi (bA (params:=je (drL 3)) (body:=jr (drL 3)) (scope:=bn (drL 3)) (pos:=oP (drL 3)) (qual:=dQ) (cl:=clD 3 s.heap.objs.size) B rfl rfl rfl)
  (bi (bA (params:=je (drL 4)) (body:=jr (drL 4)) (scope:=bn (drL 4)) (pos:=oP (drL 4)) (qual:=dQ) (cl:=clD 4 s.heap.objs.size) B rfl rfl rfl)
  (bi (bA (params:=je (drL 5)) (body:=jr (drL 5)) (scope:=bn (drL 5)) (pos:=oP (drL 5)) (qual:=dQ) (cl:=clD 5 s.heap.objs.size) B rfl rfl rfl)
  (bi (bA (params:=je (drL 6)) (body:=jr (drL 6)) (scope:=bn (drL 6)) (pos:=oP (drL 6)) (qual:=dQ) (cl:=clD 6 s.heap.objs.size) B rfl rfl rfl)
  (bi (bA (params:=je (drL 7)) (body:=jr (drL 7)) (scope:=bn (drL 7)) (pos:=oP (drL 7)) (qual:=dQ) (cl:=clD 7 s.heap.objs.size) B rfl rfl rfl)
  (bi (bA (params:=je (drL 8)) (body:=jr (drL 8)) (scope:=bn (drL 8)) (pos:=oP (drL 8)) (qual:=dQ) (cl:=clD 8 s.heap.objs.size) B rfl rfl rfl)
  (bi (bA (params:=je (drL 9)) (body:=jr (drL 9)) (scope:=bn (drL 9)) (pos:=oP (drL 9)) (qual:=dQ) (cl:=clD 9 s.heap.objs.size) B rfl rfl rfl)
  (bi (bA (params:=je (drL 10)) (body:=jr (drL 10)) (scope:=bn (drL 10)) (pos:=oP (drL 10)) (qual:=dQ) (cl:=clD 10 s.heap.objs.size) B rfl rfl rfl)
  (bi (bA (params:=je (drL 11)) (body:=jr (drL 11)) (scope:=bn (drL 11)) (pos:=oP (drL 11)) (qual:=dQ) (cl:=clD 11 s.heap.objs.size) B rfl rfl rfl)
  pa_nilS))))))))))))),?_⟩
 have A0:AccD s.heap.objs.size PT0 PT1 PT2 H H []:=⟨tb,Kp.refl H,fun j g e=>by simp at e⟩
 refine⟨A0.tb.2.2,fun g0 H1 k0 _ c0 t0=>?_⟩
 have A1:=A0.step hne k0 c0 t0
 refine⟨A1.tb.2.2,fun g1 H2 k1 _ c1 t1=>?_⟩
 have A2:=A1.step hne k1 c1 t1
 refine⟨A2.tb.2.2,fun g2 H3 k2 _ c2 t2=>?_⟩
 have A3:=A2.step hne k2 c2 t2
 refine⟨A3.tb.2.2,fun g3 H4 k3 _ c3 t3=>?_⟩
 have A4:=A3.step hne k3 c3 t3
 refine⟨A4.tb.2.2,fun g4 H5 k4 _ c4 t4=>?_⟩
 have A5:=A4.step hne k4 c4 t4
 refine⟨A5.tb.2.2,fun g5 H6 k5 _ c5 t5=>?_⟩
 have A6:=A5.step hne k5 c5 t5
 refine⟨A6.tb.2.2,fun g6 H7 k6 _ c6 t6=>?_⟩
 have A7:=A6.step hne k6 c6 t6
 refine⟨A7.tb.2.2,fun g7 H8 k7 _ c7 t7=>?_⟩
 have A8:=A7.step hne k7 c7 t7
 refine⟨A8.tb.2.2,fun g8 H9 k8 _ c8 t8=>?_⟩
 have A9:=A8.step hne k8 c8 t8
 refine⟨A9.tb.2.2,fun g9 H10 k9 _ c9 t9=>?_⟩
 have A10:=A9.step hne k9 c9 t9
 refine⟨A10.tb.2.2,fun g10 H11 k10 _ c10 t10=>?_⟩
 have A11:=A10.step hne k10 c10 t10
 refine⟨A11.tb.2.2,fun g11 H12 k11 _ c11 t11=>?_⟩
 have A12:=A11.step hne k11 c11 t11
 refine⟨(by show 12<=sizeLine; decide),fun l hl H' ad=>?_⟩
 have sl:=ak hl (.lst (([]++[g0]++[g1]++[g2]++[g3]++[g4]++[g5]++[g6]++[g7]++[g8]++[g9]++[g10]++[g11]).map V.ref))
 have s2:Same H12 H':=fun a u e=>ad.1 a u (sl a u e)
 refine q l ([]++[g0]++[g1]++[g2]++[g3]++[g4]++[g5]++[g6]++[g7]++[g8]++[g9]++[g10]++[g11]) H' (ad.1 _ _ ah) rfl (fun j g e=>?_) (A12.kp.trans (Kp.of s2)) (A12.tb.same s2)
 have hj:j<12:=(List.getElem?_eq_some_iff.mp e).1
 have cc:=cloK (A12.cl j g e) (Kp.of s2)
 obtain⟨_,a2,a3,a4⟩:=ad
 exact⟨s.heap.objs.size,_,door_at hj cc a2 a3 a4⟩
abbrev fQ:Type:=Option (Nat×PyData)
def kn:fQ->Str
 | none=>"let by"
 | some (0,_)=>"width"
 | some (1,_)=>"divisor"
 | some (2,_)=>"form"
 | some (_+3,_)=>"prices"
def dat:fQ->PyData
 | none=>.none
 | some (_,d)=>d
def xC (c:Ad):Nat->Addr
 | 0=>c.NoWidth
 | 1=>c.NoDivisor
 | 2=>c.NoForm
 | _+3=>c.NoPrices
def Errs (c:Ad) (G:Hp) (E:XK) (o:fQ):Prop:=∀ i d,o=some (i,d)->∀ dd x H',H' dd=some (.xd [("found",x)])->Dt H' x d->Same G H'->E (.ref (xC c i)) (some dd) H'
def Told (c:Ad) (L:LamZ) (G:Hp) (P0 P1:Addr) (o:fQ):Prop:=∀ (Q:VK) (E:XK),(o=none->∀ v H',Kq P0 P1 G H'->TO P0 H'->TA P1 H'->Q v H')->Errs c G E o->L.te E (L.vals.map some) G Q
inductive FZ (H:Hp) (z:V) (e f s d tw:Int):Option (PyData×PyData)->Prop where
 | bad {dz dt:PyData} (h:RkE H z tw) (D:Dt H z dz) (lt:tw<e) (t:∀ H' r,H' r=some (.tup (tlv 2 e f s))->Dt H' (.ref r) dt):FZ H z e f s d tw (some (dz,dt))
 | good {r:Addr} {e' f' a' t':Int} (hz:z=.ref r) (ig:IsG H r e' f' a' t') (rg:RG e' f' a' t') (hd:(2:Int)^e'.toNat∣d) (he:(2:Int)^e.toNat∣d):FZ H z e f s d tw none
inductive PZ (H:Hp) (pr:V):Option PyData->Prop where
 | bad {q:PyData} (n:¬ GoodP H pr) (D:Dt H pr q):PZ H pr (some q)
 | good (g:GoodP H pr):PZ H pr none
def oOf (of:Option (PyData×PyData)) (op:Option PyData):Nat->fQ:=fun i=>if i<6 then none else if i<9 then of.map (fun q=>(2,q.2)) else if i<11 then of.map (fun q=>(2,q.1)) else op.map (fun q=>(3,q))
inductive Part (H:Hp) (x y z:V) (e f s:Int) (pr:V):(Nat->fQ)->Prop where
 | w {dx:PyData} (h:btw x 4 32=false) (D:Dt H x dx):Part H x y z e f s pr (fun _=>some (0,dx))
 | d {w:Int} {dy:PyData} (hx:x=.int w) (h1:4<=w) (h2:w<=32) (h:btw y 1 (1*2^w.toNat-1)=false) (D:Dt H y dy):Part H x y z e f s pr (fun _=>some (1,dy))
 | ok {w d tw:Int} {of:Option (PyData×PyData)} {op:Option PyData} (hx:x=.int w) (hy:y=.int d) (h1:4<=w) (h2:w<=12) (d1:1<=d) (d2:d<2^w.toNat) (ht:Tw d tw) (fz:FZ H z e f s d tw of) (pz:PZ H pr op):Part H x y z e f s pr (oOf of op)
structure PtF (c:Ad) (P0 P1:Addr) (H:Hp) (x y z:V) (p:Addr) (e f s:Int) (pr:V) (o:Nat->fQ):Prop where
 tx:Th H x
 ty:Th H y
 fo:FO c H p 2 e f s
 fm:Fm 2 e f s
 tp:Th H pr
 dp:DFr H pr
 to:TO P0 H
 ta:TA P1 H
 ne:P0≠P1
 pt:Part H x y z e f s pr o
def Mv (H G:Hp):Prop:=∀ a u,(∀ ps,u≠.tbl ps)->(∀ o v,u≠.frz o v)->H a=some u->G a=some u
theorem Mv.of {H G:Hp}(s:Same H G):Mv H G:=fun a u _ _ e=>s a u e
theorem Mv.kp {H G:Hp}(s:Kp H G):Mv H G:=fun a u n _ e=>s a u n e
section
variable {H G:Hp}
theorem Th.mv {x:V}(t:Th H x) (k:Mv H G):Th G x:=by
 cases t with
 | int i=>exact .int i
 | bl b=>exact .bl b
 | str x=>exact .str x
 | non=>exact .non
 | lst h=>exact .lst (k _ _ (fun _ z=>nomatch z) (fun _ _ z=>nomatch z) h)
 | tup h=>exact .tup (k _ _ (fun _ z=>nomatch z) (fun _ _ z=>nomatch z) h)
 | dct h=>exact .dct (k _ _ (fun _ z=>nomatch z) (fun _ _ z=>nomatch z) h)
theorem Dt.mv {x:V}{d:PyData}(t:Dt H x d) (k:Mv H G):Dt G x d:=t.keep k
theorem GoodP.mv {x:V}(t:GoodP H x) (k:Mv H G):GoodP G x:=by
 obtain⟨a,kvs,e,h,g⟩:=t
 exact⟨a,kvs,e,k _ _ (fun _ z=>nomatch z) (fun _ _ z=>nomatch z) h,g⟩
theorem Mv.lst {a:Addr}{xs:List V}(k:Mv H G) (h:H a=some (.lst xs)):G a=some (.lst xs):=k _ _ (fun _ z=>nomatch z) (fun _ _ z=>nomatch z) h
theorem Mv.tup {a:Addr}{xs:List V}(k:Mv H G) (h:H a=some (.tup xs)):G a=some (.tup xs):=k _ _ (fun _ z=>nomatch z) (fun _ _ z=>nomatch z) h
theorem Mv.dK {a:Addr}{xs:List (Key×V)}(k:Mv H G) (h:H a=some (.dK xs)):G a=some (.dK xs):=k _ _ (fun _ z=>nomatch z) (fun _ _ z=>nomatch z) h
theorem Th.back {a:Addr}{u:HO}(t:Th H (.ref a)) (k:Mv H G) (e:G a=some u):H a=some u:=by
 cases t with
 | lst h=>rw[k.lst h] at e; rw[h,e]
 | tup h=>rw[k.tup h] at e; rw[h,e]
 | dct h=>rw[k.dK h] at e; rw[h,e]
theorem GoodP.vm {x:V}(th:Th H x) (t:GoodP G x) (k:Mv H G):GoodP H x:=by
 obtain⟨a,kvs,e,h,g⟩:=t
 subst e
 exact⟨a,kvs,rfl,th.back k h,g⟩
theorem RkT.mv {x:V}{b:Bool}(t:RkT H x b) (k:Mv H G):RkT G x b:=by
 cases t with
 | no h n=>exact .no (h.mv k) fun a xs e h'=>n a xs e (by subst e; exact h.back k h')
 | tup h t l=>exact .tup (k _ _ (fun _ z=>nomatch z) (fun _ _ z=>nomatch z) h) (fun v hv=>(t v hv).mv k) l
theorem RkE.mv {x:V}{tw:Int}(t:RkE H x tw) (k:Mv H G):RkE G x tw:=by
 rcases t with t | ⟨r,e,f,a,t,e1,ig,g⟩
 ·exact .inl (t.mv k)
 ·exact .inr ⟨r,e,f,a,t,e1,k _ _ (fun _ z=>nomatch z) (fun _ _ z=>nomatch z) ig,g⟩
theorem FZ.mv {z:V}{e f s d tw:Int}{of:Option (PyData×PyData)}(h:FZ H z e f s d tw of) (k:Mv H G):FZ G z e f s d tw of:=by
 cases h with
 | bad hb D lt t=>exact .bad (RkE.mv hb k) (D.mv k) lt t
 | good hz ig rg hd he=>exact .good hz (k _ _ (fun _ z=>nomatch z) (fun _ _ z=>nomatch z) ig) rg hd he
theorem PZ.mv {pr:V}{op:Option PyData}(h:PZ H pr op) (th:Th H pr) (k:Mv H G):PZ G pr op:=by
 cases h with
 | bad n D=>exact .bad (fun g=>n (g.vm th k)) (D.mv k)
 | good g=>exact .good (g.mv k)
theorem Part.mv {x y z:V}{e f s:Int}{pr:V}{o:Nat->fQ}(h:Part H x y z e f s pr o) (th:Th H pr) (k:Mv H G):Part G x y z e f s pr o:=by
 cases h with
 | w hb D=>exact .w hb (D.mv k)
 | d hx h1 h2 hb D=>exact .d hx h1 h2 hb (D.mv k)
 | ok hx hy h1 h2 d1 d2 ht fz pz=>exact .ok hx hy h1 h2 d1 d2 ht (fz.mv k) (pz.mv th k)
theorem PtF.mv {c:Ad}{P0 P1:Addr}{x y z:V}{p:Addr}{e f s:Int}{pr:V}{o:Nat->fQ}(h:PtF c P0 P1 H x y z p e f s pr o) (k:Mv H G) (to:TO P0 G) (ta:TA P1 G):PtF c P0 P1 G x y z p e f s pr o:=by
 refine⟨h.tx.mv k,h.ty.mv k,?_,h.fm,h.tp.mv k,fun a kvs e1 e2=>h.dp a kvs e1 (by have:=h.tp; subst e1; exact this.back k e2),to,ta,h.ne,h.pt.mv h.tp k⟩
 obtain⟨dx,hx⟩:=h.fo
 exact⟨dx,k _ _ (fun _ z=>nomatch z) (fun _ _ z=>nomatch z) hx⟩
theorem PtF.hid {c:Ad}{P0 P1:Addr}{x y z:V}{p:Addr}{e f s:Int}{pr:V}{o:Nat->fQ}{cs:List Addr}(h:PtF c P0 P1 H x y z p e f s pr o) (F:CellsF H cs):PtF c P0 P1 (jR cs H) x y z p e f s pr o:=by
 have nf:∀ (φ:Heap->Prop) (o:Obj) (v:HO),HO.ext φ≠.frz o v:=fun _ _ _ z=>nomatch z
 exact h.mv (fun _ _ _ n e=>F.hid e n) (ph h.to (fun ps e=>F.hid e (fun _ _ z=>nomatch z)) (fun a φ e=>F.hid e (nf φ))) (h.ta.keep (fun ps e=>F.hid e (fun _ _ z=>nomatch z)) (fun a φ e=>F.hid e (nf φ)))
end
section
variable {c:Ad}{P0 P1:Addr}{H:Hp}{x y z:V}{p:Addr}{e f s:Int}{pr:V}{o:Nat->fQ}{E:XK}{i:Nat}
theorem PtF.wd {Gd:Int->Int->Prop}(h:PtF c P0 P1 H x y z p e f s pr o) (he:Errs c H E (o i))
  (hg:∀ (w d tw:Int) of op,4<=w->w<=12->1<=d->d<2^w.toNat->Tw d tw->FZ H z e f s d tw of->PZ H pr op->o=oOf of op->Gd w d):WD c H x y E Gd:=by
 have pt:=h.pt
 cases pt with
 | w hb D=>exact⟨h.tx,h.ty,fun _ dd H' hdd s=>he 0 _ rfl dd x H' hdd (D.same s) s,fun w e h1 h2 _=>(by rw[e,cJ h1 h2] at hb; cases hb),fun w d e _ h1 h2 _ _=>(by rw[e,cJ h1 h2] at hb; cases hb)⟩
 | d hx h1 h2 hb D =>
  subst hx
  exact⟨h.tx,h.ty,fun z=>(by rw[cJ h1 h2] at z; cases z),fun w' e' _ _ _ dd H' hdd s=>he 1 _ rfl dd y H' hdd (D.same s) s,fun w' d' e1 e2 _ _ d1 d2=>(by
   cases e1
   rw[e2,cJ d1 (by omega)] at hb
   cases hb)⟩
 | ok hx hy h1 h2 d1 d2 ht fz pz =>
  subst hx hy
  exact WD.good h1 (by omega) d1 d2 (hg _ _ _ _ _ h1 h2 d1 d2 ht fz pz rfl)
theorem FZ.fm {Gd:Prop}{d tw:Int}{of:Option (PyData×PyData)}{op:Option PyData}(h:FZ H z e f s d tw of) (ht:Tw d tw) (j:6<=i/\i<9) (he:Errs c H E (oOf of op i)) (hg:oOf of op i=none->Gd):FmZ c H 2 e f s d E Gd:=by
 have q1:¬ i<6:=by omega
 cases h with
 | bad h D lt t=>exact .inl ⟨⟨tw,ht,lt⟩,fun dd r H' hdd hr s=>he 2 _ (by unfold oOf; rw[if_neg q1,if_pos j.2]; rfl) dd (.ref r) H' hdd (t H' r hr) s⟩
 | good hz ig rg hd hx=>exact .inr ⟨hx,hg (by unfold oOf; rw[if_neg q1,if_pos j.2]; rfl)⟩
theorem FZ.rk {Gd:Prop}{d tw:Int}{of:Option (PyData×PyData)}{op:Option PyData}(h:FZ H z e f s d tw of) (ht:Tw d tw) (j:9<=i/\i<11) (he:Errs c H E (oOf of op i)) (hg:oOf of op i=none->Gd):RkZ c H z d E fun _ _ _ _ _=>Gd:=by
 have q1:¬ i<6:=by omega
 have q2:¬ i<9:=by omega
 cases h with
 | bad h D lt t=>exact .inl ⟨tw,ht,h,fun dd H' hdd s=>he 2 _ (by unfold oOf; rw[if_neg q1,if_neg q2,if_pos j.2]; rfl) dd z H' hdd (D.same s) s⟩
 | good hz ig rg hd he=>exact .inr ⟨_,_,_,_,_,hz,ig,rg,hd,hg (by unfold oOf; rw[if_neg q1,if_neg q2,if_pos j.2]; rfl)⟩
theorem told {j n:Nat}(hj:j<12) (h:PtF c P0 P1 H x y z p e f s pr o):Told c (dr c P0 P1 j n x y z p pr) H P0 P1 (o j):=by
 intro Q E hq he
 have same:o j=none->∀ v H',Same H H'->Q v H':=fun e v H' s=>hq e v H' (Kq.of s) (aR h.to s) (h.ta.same s)
 have sx:o j=none->∀ v H',SameX P0 H H'->TO P0 H'->Q v H':=fun e v H' s t=>hq e v H' (fun a u n0 _ e=>s a u n0 e) t (h.ta.lam (Ne.symm h.ne) h.to s)
 rcases(by omega:j=0\/j=1\/j=2\/j=3\/j=4\/j=5\/j=6\/j=7\/j=8\/j=9\/j=10\/j=11) with rfl | rfl | rfl | rfl | rfl | rfl | rfl | rfl | rfl | rfl | rfl | rfl
 ·exact⟨_,rfl,_,rfl,x,y,rfl,h.wd he fun w d tw of op h1 h2 d1 d2 ht fz pz eo=>same (by rw[eo]; rfl) _ _ (Same.refl _)⟩
 ·exact⟨_,rfl,_,rfl,x,y,rfl,h.wd he fun w d tw of op h1 h2 d1 d2 ht fz pz eo=>same (by rw[eo]; rfl)⟩
 ·exact⟨_,rfl,_,rfl,x,y,rfl,h.wd he fun w d tw of op h1 h2 d1 d2 ht fz pz eo=>fun t l H' _ _ _ s=>same (by rw[eo]; rfl) _ H' s⟩
 ·exact⟨_,rfl,_,rfl,x,y,rfl,h.to,h.wd he fun w d tw of op h1 h2 d1 d2 ht fz pz eo=>sx (by rw[eo]; rfl)⟩
 ·exact⟨_,rfl,_,rfl,x,y,5,rfl,by decide,by decide,h.wd he fun w d tw of op h1 h2 d1 d2 ht fz pz eo=>fun v H' s _=>same (by rw[eo]; rfl) v H' s⟩
 ·exact⟨_,rfl,_,rfl,x,y,rfl,h.wd he fun w d tw of op h1 h2 d1 d2 ht fz pz eo=>same (by rw[eo]; rfl)⟩
 ·exact⟨_,rfl,_,rfl,_,rfl,x,y,p,2,e,f,s,rfl,h.fo,h.fm,h.wd he fun w d tw of op h1 h2 d1 d2 ht fz pz eo=>by subst eo; exact fz.fm (i:=6) ht (by decide) he fun q b H' s=>same q _ H' s⟩
 ·exact⟨_,rfl,_,rfl,_,rfl,x,y,p,2,e,f,s,rfl,h.fo,h.fm,h.to,h.wd he fun w d tw of op h1 h2 d1 d2 ht fz pz eo=>by subst eo; exact fz.fm (i:=7) ht (by decide) he fun q v H' s t _=>sx q v H' s t⟩
 ·exact⟨_,rfl,_,rfl,_,rfl,x,y,p,2,e,f,s,rfl,h.fo,h.fm,h.wd he fun w d tw of op h1 h2 d1 d2 ht fz pz eo=>by subst eo; exact fz.fm (i:=8) ht (by decide) he fun q b H' s=>same q _ H' s⟩
 ·exact⟨_,rfl,_,rfl,_,rfl,x,y,z,rfl,h.wd he fun w d tw of op h1 h2 d1 d2 ht fz pz eo=>by subst eo; exact fz.rk (i:=9) ht (by decide) he fun q b H' s=>same q _ H' s⟩
 ·exact⟨_,rfl,_,rfl,_,rfl,x,y,z,rfl,h.to,h.wd he fun w d tw of op h1 h2 d1 d2 ht fz pz eo=>by subst eo; exact fz.rk (i:=10) ht (by decide) he fun q v H' s t=>sx q v H' s t⟩
 ·exact⟨_,rfl,_,rfl,_,rfl,x,y,pr,rfl,h.tp,h.dp,h.to,h.ta,h.wd he fun w d tw of op h1 h2 d1 d2 ht fz pz eo=>by
   subst eo
   cases pz with
   | bad n D=>exact .inl ⟨n,fun dd H' hdd s=>he 3 _ rfl dd pr H' hdd (D.same s) s⟩
   | good g=>exact .inr ⟨g,h2,fun v H' k t a=>hq rfl v H' k t a⟩⟩
end
section
variable {P:Program}{w:World}{K:Frag}{mg:Str->Option Value}{base:Heap}{c:Ad}{P0 P1:Addr}
theorem good0 (H_:HasY P w K mg base 4 "need_divisor" ["width","d"] (pV c)) (n:Nat) (x y z:V) (p:Addr) (pr:V):LamZ.Good P w K mg base 20 (dr c P0 P1 0 n x y z p pr) :=
 ⟨rfl,fun _ _ _=>rfl,rfl,rfl,(show ∀ y∈(bn (drL 0)).names,y.2≠NameKind.cell by decide +kernel),rfl,(show ∀ y∈(["_law_width","_law_d"]:List Str),(bn (drL 0)).names.lookup y=some .free by decide +kernel),(aV (names:=(bn (drL 0)).names) (ns:=["_law_width","_law_d"]) rfl (by decide +kernel)),fun X e1 e2 e3 e4 e5 hr f' c' s' H' E=>by
  subst e1 e2 e3 e4 e5
  exact cj dB H_ ((hr.deeper _).mono (by omega)) (by rfl) (aa (pv 0) (aa (pv 1) ae))⟩
theorem good1 (H_:HasY P w K mg base 5 "corner_words" ["width","d"] (spCW c)) (n:Nat) (x y z:V) (p:Addr) (pr:V):LamZ.Good P w K mg base 20 (dr c P0 P1 1 n x y z p pr) :=
 ⟨rfl,fun _ _ _=>rfl,rfl,rfl,(show ∀ y∈(bn (drL 1)).names,y.2≠NameKind.cell by decide +kernel),rfl,(show ∀ y∈(["_law_width","_law_d"]:List Str),(bn (drL 1)).names.lookup y=some .free by decide +kernel),(aV (names:=(bn (drL 1)).names) (ns:=["_law_width","_law_d"]) rfl (by decide +kernel)),fun X e1 e2 e3 e4 e5 hr f' c' s' H' E=>by
  subst e1 e2 e3 e4 e5
  exact cj dB H_ ((hr.deeper _).mono (by omega)) (by rfl) (aa (pv 0) (aa (pv 1) ae))⟩
theorem good2 (H_:HasY P w K mg base 8 "candidates" ["width","d"] (spCd c)) (n:Nat) (x y z:V) (p:Addr) (pr:V):LamZ.Good P w K mg base 20 (dr c P0 P1 2 n x y z p pr) :=
 ⟨rfl,fun _ _ _=>rfl,rfl,rfl,(show ∀ y∈(bn (drL 2)).names,y.2≠NameKind.cell by decide +kernel),rfl,(show ∀ y∈(["_law_width","_law_d"]:List Str),(bn (drL 2)).names.lookup y=some .free by decide +kernel),(aV (names:=(bn (drL 2)).names) (ns:=["_law_width","_law_d"]) rfl (by decide +kernel)),fun X e1 e2 e3 e4 e5 hr f' c' s' H' E=>by
  subst e1 e2 e3 e4 e5
  exact cj dB H_ ((hr.deeper _).mono (by omega)) (by rfl) (aa (pv 0) (aa (pv 1) ae))⟩
theorem good3 (H_:HasY P w K mg base 6 "why_none" ["width","d","k"] (spWN c P0)) (n:Nat) (x y z:V) (p:Addr) (pr:V):LamZ.Good P w K mg base 20 (dr c P0 P1 3 n x y z p pr) :=
 ⟨rfl,fun _ _ _=>rfl,rfl,rfl,(show ∀ y∈(bn (drL 3)).names,y.2≠NameKind.cell by decide +kernel),rfl,(show ∀ y∈(["_law_width","_law_d"]:List Str),(bn (drL 3)).names.lookup y=some .free by decide +kernel),(aV (names:=(bn (drL 3)).names) (ns:=["_law_width","_law_d"]) rfl (by decide +kernel)),fun X e1 e2 e3 e4 e5 hr f' c' s' H' E=>by
  subst e1 e2 e3 e4 e5
  exact cj dB H_ ((hr.deeper _).mono (by omega)) (by rfl) (aa (pv 0) (aa (pv 1) (aa ac ae)))⟩
theorem good4 (H_:HasY P w K mg base 5 "line_at" ["width","d","total"] (spLA c)) (n:Nat) (x y z:V) (p:Addr) (pr:V):LamZ.Good P w K mg base 20 (dr c P0 P1 4 n x y z p pr) :=
 ⟨rfl,fun _ _ _=>rfl,rfl,rfl,(show ∀ y∈(bn (drL 4)).names,y.2≠NameKind.cell by decide +kernel),rfl,(show ∀ y∈(["_law_width","_law_d"]:List Str),(bn (drL 4)).names.lookup y=some .free by decide +kernel),(aV (names:=(bn (drL 4)).names) (ns:=["_law_width","_law_d"]) rfl (by decide +kernel)),fun X e1 e2 e3 e4 e5 hr f' c' s' H' E=>by
  subst e1 e2 e3 e4 e5
  exact cj dB H_ ((hr.deeper _).mono (by omega)) (by rfl) (aa (pv 0) (aa (pv 1) (aa ac ae)))⟩
theorem good5 (H_:HasY P w K mg base 6 "least_total" ["width","d"] (spLT c)) (n:Nat) (x y z:V) (p:Addr) (pr:V):LamZ.Good P w K mg base 20 (dr c P0 P1 5 n x y z p pr) :=
 ⟨rfl,fun _ _ _=>rfl,rfl,rfl,(show ∀ y∈(bn (drL 5)).names,y.2≠NameKind.cell by decide +kernel),rfl,(show ∀ y∈(["_law_width","_law_d"]:List Str),(bn (drL 5)).names.lookup y=some .free by decide +kernel),(aV (names:=(bn (drL 5)).names) (ns:=["_law_width","_law_d"]) rfl (by decide +kernel)),fun X e1 e2 e3 e4 e5 hr f' c' s' H' E=>by
  subst e1 e2 e3 e4 e5
  exact cj dB H_ ((hr.deeper _).mono (by omega)) (by rfl) (aa (pv 0) (aa (pv 1) ae))⟩
theorem good6 (H_:HasY P w K mg base 6 "is_right" ["width","d","form"] (ou c)) (n:Nat) (x y z:V) (p:Addr) (pr:V):LamZ.Good P w K mg base 20 (dr c P0 P1 6 n x y z p pr) :=
 ⟨rfl,fun _ _ _=>rfl,rfl,rfl,(show ∀ y∈(bn (drL 6)).names,y.2≠NameKind.cell by decide +kernel),rfl,(show ∀ y∈(["_law_width","_law_form","_law_d"]:List Str),(bn (drL 6)).names.lookup y=some .free by decide +kernel),(aV (names:=(bn (drL 6)).names) (ns:=["_law_width","_law_form","_law_d"]) rfl (by decide +kernel)),fun X e1 e2 e3 e4 e5 hr f' c' s' H' E=>by
  subst e1 e2 e3 e4 e5
  exact cj dB H_ ((hr.deeper _).mono (by omega)) (by rfl) (aa (pv 0) (aa (pv 2) (aa (pv 1) ae)))⟩
theorem good7 (H_:HasY P w K mg base 6 "wrong_word" ["width","d","form"] (pY c P0)) (n:Nat) (x y z:V) (p:Addr) (pr:V):LamZ.Good P w K mg base 20 (dr c P0 P1 7 n x y z p pr) :=
 ⟨rfl,fun _ _ _=>rfl,rfl,rfl,(show ∀ y∈(bn (drL 7)).names,y.2≠NameKind.cell by decide +kernel),rfl,(show ∀ y∈(["_law_width","_law_form","_law_d"]:List Str),(bn (drL 7)).names.lookup y=some .free by decide +kernel),(aV (names:=(bn (drL 7)).names) (ns:=["_law_width","_law_form","_law_d"]) rfl (by decide +kernel)),fun X e1 e2 e3 e4 e5 hr f' c' s' H' E=>by
  subst e1 e2 e3 e4 e5
  exact cj dB H_ ((hr.deeper _).mono (by omega)) (by rfl) (aa (pv 0) (aa (pv 2) (aa (pv 1) ae)))⟩
theorem good8 (H_:HasY P w K mg base 7 "is_wrong_word" ["width","d","form","thing"] (spIW c)) (n:Nat) (x y z:V) (p:Addr) (pr:V):LamZ.Good P w K mg base 20 (dr c P0 P1 8 n x y z p pr) :=
 ⟨rfl,fun _ _ _=>rfl,rfl,rfl,(show ∀ y∈(bn (drL 8)).names,y.2≠NameKind.cell by decide +kernel),rfl,(show ∀ y∈(["_law_width","_law_form","_law_d"]:List Str),(bn (drL 8)).names.lookup y=some .free by decide +kernel),(aV (names:=(bn (drL 8)).names) (ns:=["_law_width","_law_form","_law_d"]) rfl (by decide +kernel)),fun X e1 e2 e3 e4 e5 hr f' c' s' H' E=>by
  subst e1 e2 e3 e4 e5
  exact cj dB H_ ((hr.deeper _).mono (by omega)) (by rfl) (aa (pv 0) (aa (pv 2) (aa (pv 1) (aa ac ae))))⟩
theorem good9 (H_:HasY P w K mg base 6 "reckoning_is_right" ["width","d","reckoning"] (qj c)) (n:Nat) (x y z:V) (p:Addr) (pr:V):LamZ.Good P w K mg base 20 (dr c P0 P1 9 n x y z p pr) :=
 ⟨rfl,fun _ _ _=>rfl,rfl,rfl,(show ∀ y∈(bn (drL 9)).names,y.2≠NameKind.cell by decide +kernel),rfl,(show ∀ y∈(["_law_width","_law_numbers","_law_d"]:List Str),(bn (drL 9)).names.lookup y=some .free by decide +kernel),(aV (names:=(bn (drL 9)).names) (ns:=["_law_width","_law_numbers","_law_d"]) rfl (by decide +kernel)),fun X e1 e2 e3 e4 e5 hr f' c' s' H' E=>by
  subst e1 e2 e3 e4 e5
  exact cj dB H_ ((hr.deeper _).mono (by omega)) (by rfl) (aa (pv 0) (aa (pv 2) (aa (pv 1) ae)))⟩
theorem good10 (H_:HasY P w K mg base 6 "reckoning_wrong" ["width","d","reckoning"] (pQ c P0)) (n:Nat) (x y z:V) (p:Addr) (pr:V):LamZ.Good P w K mg base 20 (dr c P0 P1 10 n x y z p pr) :=
 ⟨rfl,fun _ _ _=>rfl,rfl,rfl,(show ∀ y∈(bn (drL 10)).names,y.2≠NameKind.cell by decide +kernel),rfl,(show ∀ y∈(["_law_width","_law_numbers","_law_d"]:List Str),(bn (drL 10)).names.lookup y=some .free by decide +kernel),(aV (names:=(bn (drL 10)).names) (ns:=["_law_width","_law_numbers","_law_d"]) rfl (by decide +kernel)),fun X e1 e2 e3 e4 e5 hr f' c' s' H' E=>by
  subst e1 e2 e3 e4 e5
  exact cj dB H_ ((hr.deeper _).mono (by omega)) (by rfl) (aa (pv 0) (aa (pv 2) (aa (pv 1) ae)))⟩
theorem good11 (H_:HasY P w K mg base 10 "choose" ["width","d","prices"] (qp c P0 P1)) (n:Nat) (x y z:V) (p:Addr) (pr:V):LamZ.Good P w K mg base 20 (dr c P0 P1 11 n x y z p pr) :=
 ⟨rfl,fun _ _ _=>rfl,rfl,rfl,(show ∀ y∈(bn (drL 11)).names,y.2≠NameKind.cell by decide +kernel),rfl,(show ∀ y∈(["_law_width","_law_prices_here","_law_d"]:List Str),(bn (drL 11)).names.lookup y=some .free by decide +kernel),(aV (names:=(bn (drL 11)).names) (ns:=["_law_width","_law_prices_here","_law_d"]) rfl (by decide +kernel)),fun X e1 e2 e3 e4 e5 hr f' c' s' H' E=>by
  subst e1 e2 e3 e4 e5
  exact cj dB H_ ((hr.deeper _).mono (by omega)) (by rfl) (aa (pv 0) (aa (pv 2) (aa (pv 1) ae)))⟩
theorem goods (h0:HasY P w K mg base 4 "need_divisor" ["width","d"] (pV c)) (h1:HasY P w K mg base 5 "corner_words" ["width","d"] (spCW c)) (h2:HasY P w K mg base 8 "candidates" ["width","d"] (spCd c)) (h3:HasY P w K mg base 6 "why_none" ["width","d","k"] (spWN c P0)) (h4:HasY P w K mg base 5 "line_at" ["width","d","total"] (spLA c)) (h5:HasY P w K mg base 6 "least_total" ["width","d"] (spLT c)) (h6:HasY P w K mg base 6 "is_right" ["width","d","form"] (ou c)) (h7:HasY P w K mg base 6 "wrong_word" ["width","d","form"] (pY c P0)) (h8:HasY P w K mg base 7 "is_wrong_word" ["width","d","form","thing"] (spIW c)) (h9:HasY P w K mg base 6 "reckoning_is_right" ["width","d","reckoning"] (qj c)) (h10:HasY P w K mg base 6 "reckoning_wrong" ["width","d","reckoning"] (pQ c P0)) (h11:HasY P w K mg base 10 "choose" ["width","d","prices"] (qp c P0 P1)):∀ j n x y z p pr,j<12->LamZ.Good P w K mg base 20 (dr c P0 P1 j n x y z p pr):=by
 intro j n x y z p pr hj
 rcases(by omega:j=0\/j=1\/j=2\/j=3\/j=4\/j=5\/j=6\/j=7\/j=8\/j=9\/j=10\/j=11) with rfl | rfl | rfl | rfl | rfl | rfl | rfl | rfl | rfl | rfl | rfl | rfl
 ·exact good0 h0 n x y z p pr
 ·exact good1 h1 n x y z p pr
 ·exact good2 h2 n x y z p pr
 ·exact good3 h3 n x y z p pr
 ·exact good4 h4 n x y z p pr
 ·exact good5 h5 n x y z p pr
 ·exact good6 h6 n x y z p pr
 ·exact good7 h7 n x y z p pr
 ·exact good8 h8 n x y z p pr
 ·exact good9 h9 n x y z p pr
 ·exact good10 h10 n x y z p pr
 ·exact good11 h11 n x y z p pr
end
def DoorO (c:Ad) (P:Program) (w:World) (K:Frag) (mg:Str->Option Value) (base:Heap) (P0 P1:Addr) (H:Hp) (g:Addr) (o:fQ):Prop:=∃ (L:LamZ) (cs:List Addr),LamZ.Good P w K mg base 20 L/\L.At cs H g/\Told c L (jR cs H) P0 P1 o
def spRef (c:Ad) (P:Program) (w:World) (K:Frag) (mg:Str->Option Value) (base:Heap) (P0 P1:Addr):Sp:=fun vs H Q _=>∃ (g:Addr) (o:fQ),vs=[.ref g]/\TO P0 H/\TA P1 H/\DoorO c P w K mg base P0 P1 H g o/\∀ t x H',H' t=some (.tup [.str (kn o),x])->Dt H' x (dat o)->Kq P0 P1 H H'->TO P0 H'->TA P1 H'->Q (.ref t) H'
theorem dt_non {H:Hp}:Dt H .non .none:=⟨.inl ⟨.non,by simp[PyData.hasDict]⟩,by simp[PyData.showable],by simp[PyData.depth],by simp[PyData.leavesShort],by simp[PyData.weight]⟩
theorem putC_kq {P0 P1:Addr}{H H':Hp}{cs:List Addr}(k:Kq P0 P1 (jR cs H) H'):Kq P0 P1 H (jC cs H H'):=fun a u n0 n1 e=>by
 by_cases m:a∈cs
 ·rw[iZ m]; exact e
 ·rw[aZ m]; exact k a u n0 n1 (by rw[eF m]; exact e)
theorem qP {H H':Hp}{cs:List Addr}(k:Same (jR cs H) H'):Same H (jC cs H H'):=fun a u e=>by
 by_cases m:a∈cs
 ·rw[iZ m]; exact e
 ·rw[aZ m]; exact k a u (by rw[eF m]; exact e)
theorem qN {H H':Hp}{cs:List Addr}(nn:∀ c∈cs,H' c=none):Same H' (jC cs H H'):=fun a u e=>by rw[aZ (fun m=>by rw[nn a m] at e; cases e)]; exact e
theorem jk {f:Addr}{fd:FuncData}(F:Fun K "_law_refusal" "_law_refusal" cO f fd) (T:Txt K mg c) :FnOk P w K mg base CX0 21 f fd ["_law_door"] (spRef c P w K mg base PT0 PT1):=by
 refine F.ok sc__law_refusal (fun vs H Q E h=>?_) (fun cdv A outer s H vs Q E hr h=>?_)
 ·obtain⟨g,o,rfl,_⟩:=h
  rfl
 obtain⟨g,o,rfl,to,ta,⟨L,cs,good,at_,told⟩,q⟩:=h
 refine⟨_,(af (ps_tryYL (j:=1) (fun pins E=>(ag (aF (pe_callZ (i:=0) (k:=20) (hr.mono (by omega)) rfl (Or.inl rfl))))) sc__law_refusal.nd rfl rfl (.cons rfl T.g_NoWidth (fun a oe hc=>(ag (aq (aG (aa aM (aa (pe_xf (a:=a) (oe:=oe) (mem_cons_self ..) (pv 1) rfl) ae)))))) (.cons rfl T.g_NoDivisor (fun a oe hc=>(ag (aq (aG (aa aM (aa (pe_xf (a:=a) (oe:=oe) (mem_cons_self ..) (pv 1) rfl) ae)))))) (.cons rfl T.g_NoForm (fun a oe hc=>(ag (aq (aG (aa aM (aa (pe_xf (a:=a) (oe:=oe) (mem_cons_self ..) (pv 1) rfl) ae)))))) (.cons rfl T.g_NoPrices (fun a oe hc=>(ag (aq (aG (aa aM (aa (pe_xf (a:=a) (oe:=oe) (mem_cons_self ..) (pv 1) rfl) ae)))))) .nil)))))
  (ag (aq (aG (aa aM (aa cE ae)))))),?_⟩
 have k2:2<=sizeLine:=by decide
 refine⟨L,g,cs,rfl,good,at_,told _ _ (fun eo v H' kp to' ta' nn=>?_) fun i d eo dd x H' hdd dt sm nn=>?_⟩
 ·subst eo
  have up:=qN (H:=H) nn
  refine⟨k2,fun t ht=>?_⟩
  have s1:=ak ht (.tup [.str (Str.ofString "let by"),.non])
  exact q t .non _ ah dt_non (fun a u n0 n1 e=>s1 a u (putC_kq kp a u n0 n1 e)) (aR (aR to' up) s1) ((ta'.same up).same s1)
 ·subst eo
  have up:=qN (H:=H) nn
  have e1:=up _ _ hdd
  have sH:=qP sm
  have fin:∀ t,jC cs H H' t=none->Q (.ref t) (upd (jC cs H H') t (.tup [.str (kn (some (i,d))),x])):=fun t ht=>by
   have s1:=ak ht (.tup [.str (kn (some (i,d))),x])
   exact q t x _ ah (dt.same (up.trans s1)) (Kq.of (sH.trans s1)) (aR to (sH.trans s1)) (ta.same (sH.trans s1))
  have xw:∀ {cls:Addr},True:=fun {_}=>trivial
  match i,fin with
  | 0,fin =>
   refine Or.inl ⟨oU T.kf_if__NoWidth T.kf_tf_NoWidth T.kf_mf_NoWidth T.kf_wb_NoWidth,fun a oe hcl hdi hnc ha=>?_⟩
   exact⟨_,rfl,c.NoWidth,dd,_,_,rfl,hcl,hdi,hnc,⟨T.kf_ga_NoWidth,T.kf_gn_NoWidth,T.kf_gc_NoWidth,T.kf_mo_NoWidth,T.kf_mb_NoWidth⟩,T.kf_hd_NoWidth,T.kf_nf_NoWidth,e1,rfl,k2,fin⟩
  | 1,fin =>
   refine Or.inr ⟨cS T.kf_if__NoWidth T.kf_tf_NoWidth T.kf_m_NoDivisor_NoWidth T.kf_wb_NoWidth,Or.inl ⟨oU T.kf_if__NoDivisor T.kf_tf_NoDivisor T.kf_mf_NoDivisor T.kf_wb_NoDivisor,fun a oe hcl hdi hnc ha=>?_⟩⟩
   exact⟨_,rfl,c.NoDivisor,dd,_,_,rfl,hcl,hdi,hnc,⟨T.kf_ga_NoDivisor,T.kf_gn_NoDivisor,T.kf_gc_NoDivisor,T.kf_mo_NoDivisor,T.kf_mb_NoDivisor⟩,T.kf_hd_NoDivisor,T.kf_nf_NoDivisor,e1,rfl,k2,fin⟩
  | 2,fin =>
   refine Or.inr ⟨cS T.kf_if__NoWidth T.kf_tf_NoWidth T.kf_m_NoForm_NoWidth T.kf_wb_NoWidth,Or.inr ⟨cS T.kf_if__NoDivisor T.kf_tf_NoDivisor T.kf_m_NoForm_NoDivisor T.kf_wb_NoDivisor,Or.inl ⟨oU T.kf_if__NoForm T.kf_tf_NoForm T.kf_mf_NoForm T.kf_wb_NoForm,fun a oe hcl hdi hnc ha=>?_⟩⟩⟩
   exact⟨_,rfl,c.NoForm,dd,_,_,rfl,hcl,hdi,hnc,⟨T.kf_ga_NoForm,T.kf_gn_NoForm,T.kf_gc_NoForm,T.kf_mo_NoForm,T.kf_mb_NoForm⟩,T.kf_hd_NoForm,T.kf_nf_NoForm,e1,rfl,k2,fin⟩
  | _+3,fin =>
   refine Or.inr ⟨cS T.kf_if__NoWidth T.kf_tf_NoWidth T.kf_m_NoPrices_NoWidth T.kf_wb_NoWidth,Or.inr ⟨cS T.kf_if__NoDivisor T.kf_tf_NoDivisor T.kf_m_NoPrices_NoDivisor T.kf_wb_NoDivisor,Or.inr ⟨cS T.kf_if__NoForm T.kf_tf_NoForm T.kf_m_NoPrices_NoForm T.kf_wb_NoForm,Or.inl ⟨oU T.kf_if__NoPrices T.kf_tf_NoPrices T.kf_mf_NoPrices T.kf_wb_NoPrices,fun a oe hcl hdi hnc ha=>?_⟩⟩⟩⟩
   exact⟨_,rfl,c.NoPrices,dd,_,_,rfl,hcl,hdi,hnc,⟨T.kf_ga_NoPrices,T.kf_gn_NoPrices,T.kf_gc_NoPrices,T.kf_mo_NoPrices,T.kf_mb_NoPrices⟩,T.kf_hd_NoPrices,T.kf_nf_NoPrices,e1,rfl,k2,fin⟩
def KpX (p:Addr) (H H':Hp):Prop:=∀ a u,a≠p->(∀ ps,u≠.tbl ps)->H a=some u->H' a=some u
theorem KpX.of {p:Addr}{H H':Hp}(s:SameX p H H'):KpX p H H':=fun a u n _ e=>s a u n e
theorem KpX.kp {p:Addr}{H H1 H2:Hp}(s:KpX p H H1) (k:Kp H1 H2):KpX p H H2:=fun a u n m e=>k a u m (s a u n m e)
def km (P0 P1 P2:Addr):Sp:=fun vs H Q _=>∃ p:Addr,vs=[.ref p]/\Bx H p/\TB3 P0 P1 P2 H/\∀ H',KpX p H H'->TB3 P0 P1 P2 H'->Q (.bl true) H'
def spLaw (K:Frag) (P0 P1 P2:Addr):Sp:=fun vs H Q _=>∃ (a:Addr) (ns:List Int),vs=[.ref a]/\SqL K H a (ns.map V.int)/\ns.length<=63/\(TabA P0 lmQ H/\TabA P1 lmFQ H/\TabA P2 dQ H)/\∀ H',Q (.bl true) H'
def dr2 (H:Hp) (p l:Addr):Hp:=fun a=>if a=p\/a=l then none else H a
section
variable {H H':Hp}{p l l':Addr}
theorem jc {a:Addr}{o:HO}(e:H a=some o) (n1:a≠p) (n2:a≠l):dr2 H p l a=some o:=by
 unfold dr2
 rw[if_neg (fun z=>z.elim n1 n2)]
 exact e
theorem rl {a:Addr}{o:HO}(e:dr2 H p l a=some o):a≠p/\a≠l/\H a=some o:=by
 unfold dr2 at e
 split at e
 ·cases e
 ·rename_i h
  exact⟨fun z=>h (.inl z),fun z=>h (.inr z),e⟩
theorem dr2_sub:Same (dr2 H p l) H:=fun _ _ e=>(rl e).2.2
theorem kN (s:SameX p H H'):Same (dr2 H p l) (dr2 H' p l):=fun _ _ e=>let ⟨n1,n2,h⟩:=rl e; jc (s _ _ n1 h) n1 n2
theorem dr2_l (s:SameX p H H') (n:H l'=none):Same (dr2 H p l) (dr2 H' p l'):=fun _ _ e=>let ⟨n1,_,h⟩:=rl e; jc (s _ _ n1 h) n1 (fun z=>by rw[z,n] at h; cases h)
theorem qT {o:HO}:dr2 (upd H l o) p l=dr2 H p l:=by
 funext a
 unfold dr2
 split
 ·rfl
 ·rename_i h
  exact ao (fun z=>h (.inr z))
theorem o9 {ul up:HO}(hp:H p=some up) (hl:H l=some ul):Same (nw H H') (dr2 H' p l):=fun a o e=>by
 unfold nw at e
 split at e
 ·cases e
 ·rename_i h
  exact jc e (fun z=>h (by rw[z,hp]; rfl)) (fun z=>h (by rw[z,hl]; rfl))
def DueL (p:Addr) (H:Hp) (l:Addr) (os:Nat->fQ):Prop:=∃ ts:List Addr,H l=some (.lst (ts.map V.ref))/\ts.length=12/\∀ (i:Nat) t,ts[i]?=some t->∃ x,H t=some (.tup [.str (kn (os i)),x])/\Dt (dr2 H p l) x (dat (os i))
theorem DueL.x {os:Nat->fQ}(d:DueL p H l os) (b:Bx H p) (n:l≠p) (s:SameX p H H'):DueL p H' l os:=by
 obtain⟨ts,h1,h2,h3⟩:=d
 refine⟨ts,s _ _ n h1,h2,fun i t e=>?_⟩
 obtain⟨x,e1,e2⟩:=h3 i t e
 exact⟨x,s _ _ (j3 b e1) e1,e2.same (kN s)⟩
theorem DueL.put {os:Nat->fQ}{xs:List V}(ts:List Addr) (hl:H l=some (.lst xs)) (h2:ts.length=12) (h3:∀ (i:Nat) t,ts[i]?=some t->∃ x,H t=some (.tup [.str (kn (os i)),x])/\Dt (dr2 H p l) x (dat (os i))):DueL p (upd H l (.lst (ts.map V.ref))) l os :=
 ⟨ts,ah,h2,fun i t e=>by
  obtain⟨x,e1,e2⟩:=h3 i t e
  exact⟨x,by rw[ao (fun z=>by rw[z,hl] at e1; cases e1)]; exact e1,by rw[qT]; exact e2⟩⟩
theorem DueL.all {ts:List Addr}{o:fQ}{os:Nat->fQ}{x:V}(h1:H l=some (.lst (ts.map V.ref))) (h2:ts.length=12) (h3:∀ t∈ts,H t=some (.tup [.str (kn o),x])) (D:Dt (dr2 H p l) x (dat o)) (e:∀ i,os i=o):DueL p H l os :=
 ⟨ts,h1,h2,fun i t q=>⟨x,by rw[e i]; exact h3 t (mem_of_getElem? q),by rw[e i]; exact D⟩⟩
end
structure Sg (p l:Addr) (H HZ:Hp) (os:Nat->fQ) (pr:V) (ta:Addr) (e f s:Int) (R:Hp->Prop):Prop where
 bx:Bx HZ p
 sx:SameX p H HZ
 du:DueL p HZ l os
 hn:H l=none
 lp:l≠p
 tp:Th (dr2 HZ p l) pr
 dp:DFr (dr2 HZ p l) pr
 tt:dr2 HZ p l ta=some (.tup (tlv 2 e f s))
 fm:Fm 2 e f s
 r:R (dr2 HZ p l)
section
variable {p l:Addr}{H HZ H':Hp}{os os':Nat->fQ}{pr:V}{ta:Addr}{e f s:Int}{R R':Hp->Prop}
theorem Sg.x (g:Sg p l H HZ os pr ta e f s R) (b:Bx H' p) (s':SameX p HZ H') (hR:∀ G G',Th G pr->Same G G'->R G->R G'):Sg p l H H' os pr ta e f s R :=
 ⟨b,g.sx.trans s',g.du.x g.bx g.lp s',g.hn,g.lp,g.tp.same (kN s'),g.dp.same g.tp (kN s'),kN s' _ _ g.tt,g.fm,hR _ _ g.tp (kN s') g.r⟩
theorem Sg.ex (g:Sg p l H HZ os pr ta e f s R):(∃ up,HZ p=some up)/\∃ ts:List Addr,HZ l=some (.lst (ts.map V.ref))/\ts.length=12:=by
 obtain⟨r1,r2,hb⟩:=g.bx
 obtain⟨ts,h1,h2,_⟩:=g.du
 exact⟨⟨_,hb⟩,ts,h1,h2⟩
theorem Sg.put {xs:List V}(g:Sg p l H HZ os pr ta e f s R) (ts:List Addr) (hl:HZ l=some (.lst xs)) (h2:ts.length=12) (h3:∀ (i:Nat) t,ts[i]?=some t->∃ x,HZ t=some (.tup [.str (kn (os' i)),x])/\Dt (dr2 HZ p l) x (dat (os' i))):Sg p l H (upd HZ l (.lst (ts.map V.ref))) os' pr ta e f s R:=by
 obtain⟨r1,r2,hb⟩:=id g.bx
 refine⟨⟨r1,r2,by rw[ao (Ne.symm g.lp)]; exact hb⟩,fun a u n h=>?_,DueL.put ts hl h2 h3,g.hn,g.lp,?_,?_,?_,g.fm,?_⟩
 ·rw[ao (az h g.hn)]
  exact g.sx a u n h
 ·rw[qT]; exact g.tp
 ·rw[qT]; exact g.dp
 ·rw[qT]; exact g.tt
 ·rw[qT]; exact g.r
theorem Sg.new {l':Addr}(g:Sg p l H HZ os pr ta e f s R) (b:Bx H' p) (s':SameX p HZ H') (hl:HZ l'=none) (du:DueL p H' l' os') (hR:Same (dr2 HZ p l) (dr2 H' p l')->R (dr2 HZ p l)->R' (dr2 H' p l')):Sg p l' H H' os' pr ta e f s R':=by
 have m:=dr2_l (p:=p) (l:=l) s' hl
 obtain⟨r1,r2,hb⟩:=id g.bx
 have lp:l'≠p:=fun z=>by rw[z,hb] at hl; cases hl
 exact⟨b,g.sx.trans s',du,sxn g.sx lp hl,lp,g.tp.same m,g.dp.same g.tp m,m _ _ g.tt,g.fm,hR m g.r⟩
end
def RA (pr:V) (op:Option PyData) (r:Addr) (e f a:Int):Hp->Prop:=fun G=>PZ G pr op/\IsG G r e f a 130
theorem RA.mv {pr:V}{op:Option PyData}{r:Addr}{e f a:Int}:∀ G G',Th G pr->Same G G'->RA pr op r e f a G->RA pr op r e f a G':=fun _ _ t s ⟨h1,h2⟩=>⟨h1.mv t (Mv.of s),s _ _ h2⟩
def RB (pr:V) (op:Option PyData) (z:V) (e f s d tw:Int) (of:Option (PyData×PyData)):Hp->Prop:=fun G=>PZ G pr op/\FZ G z e f s d tw of
theorem RB.mv {pr:V}{op:Option PyData}{z:V}{e f s d tw:Int}{of:Option (PyData×PyData)}:∀ G G',Th G pr->Same G G'->RB pr op z e f s d tw of G->RB pr op z e f s d tw of G':=fun _ _ t s ⟨h1,h2⟩=>⟨h1.mv t (Mv.of s),h2.mv (Mv.of s)⟩
def RC (x y z:V) (e f s:Int) (pr:V) (os:Nat->fQ):Hp->Prop:=fun G=>Part G x y z e f s pr os/\Th G x/\Th G y
theorem RC.mv {x y z:V}{e f s:Int}{pr:V}{os:Nat->fQ}:∀ G G',Th G pr->Same G G'->RC x y z e f s pr os G->RC x y z e f s pr os G':=fun _ _ t s ⟨h1,h2,h3⟩=>⟨h1.mv t (Mv.of s),h2.same s,h3.same s⟩
theorem oOf_nn (i:Nat):oOf none none i=none:=by
 unfold oOf
 split <;> (try split) <;> (try split) <;> rfl
theorem rm {D:Addr}{te':TE}{tl:L2.St}{G:Hp->Prop}{H1:Hp}(k:Str) (x:V) (hD:H1 D=none) (ht:∀ (v:Option V) HI (Q:VK),(∀ t,HI t=none->Q (.ref t) (upd HI t (.tup [.str k,x])))->te' (v::tl) HI Q)
  (hd:∀ (ts:List Addr) H,H D=some (.lst (ts.map V.ref))->ts.length=12->(∀ t∈ts,H t=some (.tup [.str k,x]))->Same H1 H->G H) :
  ∃ W:Nat->Nat->Hp->Prop,(∃ m,W 0 m (upd H1 D (.lst [])))/\∀ i m H,W i m H ->
   ((Itr 0 12).stop i H/\G H)\/((Itr 0 12).go i H/\∀ x H',(Itr 0 12).yld i H x H'->te' (some x::tl) H' fun y H2=>∃ ys,H2 D=some (.lst ys)/\ys.length<sizeLine/\∃ m',m'<m/\W (i+1) m' (upd H2 D (.lst (ys++[y])))):=by
 refine comp_rng (lo:=0) (n:=12) (fun i HI=>∃ ts:List Addr,HI D=some (.lst (ts.map V.ref))/\ts.length=i/\(∀ t∈ts,HI t=some (.tup [.str k,x]))/\Same H1 HI) ⟨[],ah,rfl,(fun _ h=>nomatch h),ak hD _⟩ ?_ fun H ⟨ts,h1,h2,h3,h4⟩=>hd ts H h1 h2 h3 h4
 rintro i HI hi ⟨ts,h1,h2,h3,h4⟩
 refine ht _ HI _ fun t htn=>?_
 have s1:=ak htn (.tup [.str k,x])
 have tD:t≠D:=fun z=>by rw[z,h1] at htn; cases htn
 refine⟨_,s1 _ _ h1,(by rw[length_map,h2]; exact lt_of_lt_of_le hi (by decide)),12-(i+1),by omega,rfl,by omega,ts++[t],by rw[ah,map_append]; rfl,by rw[length_append,h2]; rfl,fun u hu=>?_,Same.updL (h4.trans s1) hD⟩
 rcases List.mem_append.mp hu with hu | hu
 ·have e:=h3 u hu
  rw[ao (fun z=>by rw[z,h1] at e; cases e)]
  exact s1 _ _ e
 ·cases List.mem_singleton.mp hu
  rw[ao tD,ah]
theorem oOf_lt {of:Option (PyData×PyData)}{op op':Option PyData}{i:Nat}(h:i<11):oOf of op i=oOf of op' i:=by
 unfold oOf
 rw[if_pos h,if_pos h]
theorem Sg.re {p l:Addr}{H HZ:Hp}{os:Nat->fQ}{pr pr':V}{ta ta':Addr}{e f s e' f' s':Int}{R R':Hp->Prop}(g:Sg p l H HZ os pr ta e f s R) (t:Th (dr2 HZ p l) pr') (d:DFr (dr2 HZ p l) pr') (tt:dr2 HZ p l ta'=some (.tup (tlv 2 e' f' s'))) (fm:Fm 2 e' f' s') (r:R' (dr2 HZ p l)):Sg p l H HZ os pr' ta' e' f' s' R':=⟨g.bx,g.sx,g.du,g.hn,g.lp,t,d,tt,fm,r⟩
theorem Sg.prices {p l t:Addr}{H HZ:Hp}{pr x:V}{ta:Addr}{e f s:Int}{R:Hp->Prop}{q':PyData}(g:Sg p l H HZ (oOf none none) pr ta e f s R) (ht:HZ t=some (.tup [.str (Str.ofString "prices"),x])) (D:Dt (dr2 HZ p l) x q') :
  ∃ xs,HZ l=some (.lst xs)/\ixN xs.length 11=some 11/\Sg p l H (upd HZ l (.lst (xs.set 11 (.ref t)))) (oOf none (some q')) pr ta e f s R:=by
 obtain⟨ts,h1,h2,h3⟩:=g.du
 refine⟨_,h1,by rw[length_map,h2]; rfl,?_⟩
 rw[show V.ref t=(fun a=>V.ref a) t from rfl,<- List.map_set]
 refine g.put (ts.set 11 t) h1 (by rw[List.length_set,h2]) fun i u hu=>?_
 have hi:i<12:=by have:=(List.getElem?_eq_some_iff.mp hu).1; rw[List.length_set,h2] at this; exact this
 by_cases hk:i=11
 ·subst hk
  rw[List.getElem?_set_self (by rw[h2]; decide)] at hu
  cases hu
  exact⟨x,ht,D⟩
 ·rw[List.getElem?_set_ne (Ne.symm hk)] at hu
  rw[oOf_lt (op':=none) (show i<11 by omega)]
  exact h3 i u hu
theorem Sg.form {p l t1 t2 t3 t4 t5:Addr}{H HZ:Hp}{pr z zt:V}{ta:Addr}{e f s:Int}{R:Hp->Prop}{op:Option PyData}{dz dt:PyData}(g:Sg p l H HZ (oOf none op) pr ta e f s R)
  (k1:HZ t1=some (.tup [.str (Str.ofString "form"),zt])) (k2:HZ t2=some (.tup [.str (Str.ofString "form"),zt])) (k3:HZ t3=some (.tup [.str (Str.ofString "form"),zt])) (k4:HZ t4=some (.tup [.str (Str.ofString "form"),z])) (k5:HZ t5=some (.tup [.str (Str.ofString "form"),z])) (D:Dt (dr2 HZ p l) zt dt) (D':Dt (dr2 HZ p l) z dz) :
  ∃ xs:List V,HZ l=some (.lst xs)/\xs.length=12/\Sg p l H (upd HZ l (.lst (xs.take 6++[.ref t1,.ref t2,.ref t3,.ref t4,.ref t5]++xs.drop 11))) (oOf (some (dz,dt)) op) pr ta e f s R:=by
 obtain⟨ts,h1,h2,h3⟩:=g.du
 refine⟨_,h1,by rw[length_map,h2],?_⟩
 match ts,h1,h2,h3 with
 | [a0,a1,a2,a3,a4,a5,a6,a7,a8,a9,a10,a11],h1,_,h3 =>
  refine g.put [a0,a1,a2,a3,a4,a5,t1,t2,t3,t4,t5,a11] h1 rfl fun i u hu=>?_
  match i,hu with
  | 0,hu=>cases hu; exact h3 0 _ rfl
  | 1,hu=>cases hu; exact h3 1 _ rfl
  | 2,hu=>cases hu; exact h3 2 _ rfl
  | 3,hu=>cases hu; exact h3 3 _ rfl
  | 4,hu=>cases hu; exact h3 4 _ rfl
  | 5,hu=>cases hu; exact h3 5 _ rfl
  | 6,hu=>cases hu; exact⟨zt,k1,D⟩
  | 7,hu=>cases hu; exact⟨zt,k2,D⟩
  | 8,hu=>cases hu; exact⟨zt,k3,D⟩
  | 9,hu=>cases hu; exact⟨z,k4,D'⟩
  | 10,hu=>cases hu; exact⟨z,k5,D'⟩
  | 11,hu=>cases hu; exact h3 11 _ rfl
  | n+12,hu=>simp at hu
theorem WD.good' {c:Ad}{H:Hp}{x y:V}{w d:Int}{E:XK}{G:Int->Int->Prop}(ex:x=.int w) (ey:y=.int d) (h1:4<=w) (h2:w<=32) (d1:1<=d) (d2:d<2^w.toNat) (g:G w d):WD c H x y E G:=by
 subst ex ey
 exact WD.good h1 h2 d1 d2 g
theorem Kq.kp {P0 P1:Addr}{H H':Hp}(k:Kq P0 P1 H H') (to:TO P0 H) (ta:TA P1 H):Kp H H':=fun a u n e=>k a u (fun z=>by
 obtain⟨ps,e1,_⟩:=to
 rw[z,e1] at e; cases e; exact n _ rfl) (fun z=>by
 obtain⟨ps,e1,_⟩:=ta
 rw[z,e1] at e; cases e; exact n _ rfl) e
theorem TB3.kq {P0 P1 P2:Addr}{H H':Hp}(t:TB3 P0 P1 P2 H) (hne:mJ [P0,P1,P2]) (k:Kq P0 P1 H H') (to:TO P0 H') (ta:TA P1 H'):TB3 P0 P1 P2 H':=by
 have h:=List.nodup_cons.mp hne
 have h2:=List.nodup_cons.mp h.2
 have n0:P2≠P0:=fun z=>h.1 (by rw[z]; exact mem_cons_of_mem _ (mem_cons_self ..))
 have n1:P2≠P1:=fun z=>h2.1 (by rw[z]; exact mem_cons_self ..)
 exact⟨to,ta,t.2.2.keep (fun _ e=>k _ _ n0 n1 e) (k.kp t.1 t.2.1).ext⟩
def DueM (H:Hp) (l:Addr) (os:Nat->fQ):Prop:=∃ ts:List Addr,H l=some (.lst (ts.map V.ref))/\ts.length=12/\∀ (i:Nat) t,ts[i]?=some t->∃ x,H t=some (.tup [.str (kn (os i)),x])/\Dt H x (dat (os i))
theorem DueM.mv {H H':Hp}{l:Addr}{os:Nat->fQ}(d:DueM H l os) (k:Mv H H'):DueM H' l os:=by
 obtain⟨ts,h1,h2,h3⟩:=d
 refine⟨ts,k.lst h1,h2,fun i t e=>?_⟩
 obtain⟨x,e1,e2⟩:=h3 i t e
 exact⟨x,k.tup e1,e2.mv k⟩
theorem DueL.m {p l:Addr}{H:Hp}{os:Nat->fQ}(d:DueL p H l os):DueM H l os:=by
 obtain⟨ts,h1,h2,h3⟩:=d
 refine⟨ts,h1,h2,fun i t e=>?_⟩
 obtain⟨x,e1,e2⟩:=h3 i t e
 exact⟨x,e1,e2.same dr2_sub⟩
theorem oG (o:fQ):(kn o).length<=20/\∀ c∈(kn o).cps.toList,c<128:=by
 match o with
 | none=>exact⟨by decide +kernel,by decide +kernel⟩
 | some (0,_)=>exact⟨(by decide +kernel:("width":Str).length<=20),(by decide +kernel:∀ c∈("width":Str).cps.toList,c<128)⟩
 | some (1,_)=>exact⟨(by decide +kernel:("divisor":Str).length<=20),(by decide +kernel:∀ c∈("divisor":Str).cps.toList,c<128)⟩
 | some (2,_)=>exact⟨(by decide +kernel:("form":Str).length<=20),(by decide +kernel:∀ c∈("form":Str).cps.toList,c<128)⟩
 | some (_+3,_)=>exact⟨(by decide +kernel:("prices":Str).length<=20),(by decide +kernel:∀ c∈("prices":Str).cps.toList,c<128)⟩
theorem tl_dt {e f s:Int}(e0:0<=e) (e1:e<=1000) (f0:0<=f) (f1:f<=4294967296) (s0:0<=s) (s1:s<=64):∀ H' r,H' r=some (.tup (tlv 2 e f s))->Dt H' (.ref r) (.tuple [.str (Str.ofString "early"),.int e,.int f,.int s]):=by
 intro H' r h
 have sm:=(SmL.cons (tx_sm (x:=Str.ofString "early") ⟨by decide +kernel,by decide +kernel⟩) (SmL.cons (io (i:=e) (by omega) (by omega)) (SmL.cons (io (i:=f) (by omega) (by omega)) (SmL.cons (io (i:=s) (by omega) (by omega)) (SmL.nil (n:=0) (m:=0)))))).tup
 refine⟨.inl ⟨.tup h rfl (fun i z d h1 h2=>?_),sm.hd⟩,sm.sh,Nat.le_trans sm.dp (by decide),sm.lv,Nat.le_trans sm.wt (by decide)⟩
 match i,h1,h2 with
 | 0,h1,h2=>cases h1; cases h2; exact .str _
 | 1,h1,h2=>cases h1; cases h2; exact .int _
 | 2,h1,h2=>cases h1; cases h2; exact .int _
 | 3,h1,h2=>cases h1; cases h2; exact .int _
 | n+4,h1,_=>simp[tlv] at h1
theorem Tw.dvd {d t e:Int}(h:Tw d t) (e0:0<=e) (h1:e<=t):(2:Int)^e.toNat∣d:=by
 have a:(2:Int)^t.toNat∣d:=⟨d/2^t.toNat,by rw[Int.mul_comm]; exact h.2.1⟩
 refine Int.dvd_trans ?_ a
 obtain⟨k,hk⟩:∃ k,t.toNat=e.toNat+k:=⟨t.toNat-e.toNat,by omega⟩
 rw[hk,pow_add]
 exact Int.dvd_mul_right _ _
theorem TB3.x {P0 P1 P2 p:Addr}{H H':Hp}(t:TB3 P0 P1 P2 H) (b:Bx H p) (s:SameX p H H'):TB3 P0 P1 P2 H':=by
 obtain⟨r1,r2,hb⟩:=id b
 have k:∀ a φ,H a=some (.ext φ)->H' a=some (.ext φ):=fun a φ e=>s _ _ (fun z=>by rw[z,hb] at e; cases e) e
 have m:∀ a ps,H a=some (.tbl ps)->H' a=some (.tbl ps):=fun a φ e=>s _ _ (fun z=>by rw[z,hb] at e; cases e) e
 exact⟨tab_x t.1 b s,t.2.1.keep (m _) k,t.2.2.keep (m _) k⟩
theorem lM {f:Addr}{fd:FuncData}(F:Fun K "_law_case" "_law_case" fL f fd) (T:Txt K mg c) (H__law_draw:Has P w K mg base 1 "_law_draw" ["_law_state","_law_size"] gE) (H__law_divisor:Has P w K mg base 2 "_law_divisor" ["_law_state","_law_width"] spDiv) (H__law_twos:Has P w K mg base 1 "_law_twos" ["_law_d"] ij) (H__law_prices:Has P w K mg base 2 "_law_prices" ["_law_state"] spPr) (H__law_doors:Has P w K mg base 11 "_law_doors" ["_law_width","_law_d","_law_numbers","_law_form","_law_prices_here"] (spDo c PT0 PT1 PT2)) (H__law_no_prices:Has P w K mg base 3 "_law_no_prices" ["_law_state"] tm) (H__law_spoilt:Has P w K mg base 2 "_law_spoilt" ["_law_state","_law_numbers","_law_twos_here"] spSpo) (H__law_no_divisor:Has P w K mg base 2 "_law_no_divisor" ["_law_state","_law_last"] spNoD) (H__law_no_width:Has P w K mg base 2 "_law_no_width" ["_law_state"] spNoW) (H_need_divisor:HasY P w K mg base 4 "need_divisor" ["width","d"] (pV c)) (H__law_refusal:Has P w K mg base 21 "_law_refusal" ["_law_door"] (spRef c P w K mg base PT0 PT1)) (C_Early:CHas P w K mg base 4 c.Early "Early" ["self","early","factor","shift"] (spI3 c)) (hne:mJ [PT0,PT1,PT2]) (GD:∀ j n x y z p pr,j<12->LamZ.Good P w K mg base 20 (dr c PT0 PT1 j n x y z p pr)):FnOk P w K mg base CX0 22 f fd ["_law_state"] (km PT0 PT1 PT2):=by
 refine F.ok sc__law_case (fun vs H Q E h=>?_) (fun cdv A outer s H vs Q E hr h=>?_)
 ·obtain⟨p,rfl,_⟩:=h
  rfl
 obtain⟨p,rfl,bx,tb,q⟩:=h
 refine⟨_,(af (aw (i:=1) sc__law_case.nd rfl (Or.inl rfl) (av H__law_draw (hr.mono (by omega)) rfl (aa (pv 0) (aa ac ae))))
  (af (aw (i:=2) sc__law_case.nd rfl (Or.inr rfl) (ap aA ac (av H__law_draw (hr.mono (by omega)) rfl (aa (pv 0) (aa ac ae)))))
  (bj (aB (ar p4 (pv 1) ac (ax _))
   (ag (aw (i:=2) sc__law_case.nd rfl (Or.inr rfl) (ap aA ac (av H__law_draw (hr.mono (by omega)) rfl (aa (pv 0) (aa ac ae))))))
   au)
  (af (aw (i:=3) sc__law_case.nd rfl (Or.inr rfl) (av H__law_divisor (hr.mono (by omega)) rfl (aa (pv 0) (aa (pv 2) ae))))
  (af (aw (i:=4) sc__law_case.nd rfl (Or.inl rfl) (av H__law_twos (hr.mono (by omega)) rfl (aa (pv 3) ae)))
  (af (aw (i:=5) sc__law_case.nd rfl (Or.inl rfl) (aG (aa (av H__law_draw (hr.mono (by omega)) rfl (aa (pv 0) (aa (ap aA (pv 4) ac) ae))) (aa (av H__law_draw (hr.mono (by omega)) rfl (aa (pv 0) (aa (ap aA (ap aS ac ac) ac) ae))) (aa (av H__law_draw (hr.mono (by omega)) rfl (aa (pv 0) (aa (ap aS ac ac) ae))) (aa ac ae))))))
  (af (aw (i:=6) sc__law_case.nd rfl (Or.inl rfl) (aG (aa aM (aa (av H__law_draw (hr.mono (by omega)) rfl (aa (pv 0) (aa (ap aA (pv 4) ac) ae))) (aa (av H__law_draw (hr.mono (by omega)) rfl (aa (pv 0) (aa ac ae))) (aa (av H__law_draw (hr.mono (by omega)) rfl (aa (pv 0) (aa ac ae))) ae))))))
  (af (aw (i:=7) sc__law_case.nd rfl (Or.inl rfl) (av H__law_prices (hr.mono (by omega)) rfl (aa (pv 0) ae)))
  (af (ps_comp0 (i:=8) sc__law_case.nd rfl (Or.inl rfl) rfl rfl (by first | rfl | with_unfolding_all rfl) (by decide +kernel) rfl (by decide +kernel) rfl (cA rfl T.n_range (aa ac ae)) (fun C s2 H2 fp=>(aG (aa aM (aa cE ae)))))
  (bj (aB (ar nG (pv 1) ac (ax _))
   (af (aw (i:=7) sc__law_case.nd rfl (Or.inl rfl) (av H__law_no_prices (hr.mono (by omega)) rfl (aa (pv 0) ae)))
   (ag (gr (aG (aa aM (aa (pv 7) ae))) (iq (pv 8) ac cC))))
   au)
  (bj (aB (ar nG (pv 1) ac (ax _))
   (af (aw (i:=5) sc__law_case.nd rfl (Or.inl rfl) (av H__law_spoilt (hr.mono (by omega)) rfl (aa (pv 0) (aa (pv 5) (aa (pv 4) ae)))))
   (af (aw (i:=6) sc__law_case.nd rfl (Or.inl rfl) (aG (aa aM (aa (ap aA (ap aA (pv 4) ac) (av H__law_draw (hr.mono (by omega)) rfl (aa (pv 0) (aa ac ae)))) (aa (bo bV (pv 6) ac (fun _ _=>rfl)) (aa (bo bV (pv 6) ac (fun _ _=>rfl)) ae))))))
   (ag (gr (bX (aa (aG (aa aM (aa (pv 6) ae))) (aa (aG (aa aM (aa (pv 6) ae))) (aa (aG (aa aM (aa (pv 6) ae))) (aa (aG (aa aM (aa (pv 5) ae))) (aa (aG (aa aM (aa (pv 5) ae))) ae)))))) (pg_slc (pv 8) (mQ ac) (mQ ac))))))
   au)
  (bj (aB (ar nG (pv 1) ac (ax _))
   (af (aw (i:=3) sc__law_case.nd rfl (Or.inr rfl) (av H__law_no_divisor (hr.mono (by omega)) rfl (aa (pv 0) (aa (ap aQ (ap aS ac (pv 2)) ac) ae))))
   (ag (oZ (i:=8) sc__law_case.nd rfl (Or.inl rfl) rfl [3] ["_law_d"] rfl (by first | rfl | with_unfolding_all rfl) (by rfl) (by exact(List.forall_mem_cons.mpr ⟨rfl,(fun _ h=>nomatch h)⟩)) (by decide +kernel) rfl (by decide +kernel) rfl (by decide +kernel) (by exact(List.forall_mem_cons.mpr ⟨⟨by first | exact Or.inl rfl | exact Or.inr rfl,rfl⟩,(fun _ h=>nomatch h)⟩)) rfl (by rfl) (cA rfl T.n_range (aa ac ae)) (fun C s2 H2 fp=>(aG (aa aM (aa (pv 1) ae)))))))
   au)
  (bj (aB (ar nG (pv 1) ac (ax _))
   (af (aw (i:=2) sc__law_case.nd rfl (Or.inr rfl) (av H__law_no_width (hr.mono (by omega)) rfl (aa (pv 0) ae)))
   (ag (oZ (i:=8) sc__law_case.nd rfl (Or.inl rfl) rfl [2] ["_law_width"] rfl (by first | rfl | with_unfolding_all rfl) (by rfl) (by exact(List.forall_mem_cons.mpr ⟨rfl,(fun _ h=>nomatch h)⟩)) (by decide +kernel) rfl (by decide +kernel) rfl (by decide +kernel) (by exact(List.forall_mem_cons.mpr ⟨⟨by first | exact Or.inl rfl | exact Or.inr rfl,rfl⟩,(fun _ h=>nomatch h)⟩)) rfl (by rfl) (cA rfl T.n_range (aa ac ae)) (fun C s2 H2 fp=>(aG (aa aM (aa (pv 1) ae)))))))
   au)
  (af (aB (PW.pt (pw_and (ar p4 (pv 1) ac (ax _)) (sA (ar op_notN (qZ H_need_divisor (hr.mono (by omega)) rfl (aa (pv 2) (aa (pv 3) ae))) cE (ax _)))))
   (ag (aq iB))
   au)
  (af (aw (i:=9) sc__law_case.nd rfl (Or.inl rfl) (av H__law_doors (hr.mono (by omega)) rfl (aa (pv 2) (aa (pv 3) (aa (pv 5) (aa (jT C_Early (hr.mono (by omega)) rfl (aa (bo bV (pv 6) ac (fun _ _=>rfl)) (aa (bo bV (pv 6) ac (fun _ _=>rfl)) (aa (bo bV (pv 6) ac (fun _ _=>rfl)) ae)))) (aa (pv 7) ae)))))))
  (af (ja PassesOwn.never rfl (cA rfl T.n_range (aa ac ae)) (fE (i:=10) sc__law_case.nd rfl (Or.inl rfl))
   (af (aw (i:=11) sc__law_case.nd rfl (Or.inl rfl) (ap dX (ap aA (ap fR (pv 10) ac) (pv 1)) ac))
   (ag (aB (ar op_ne (aW (j2 hr.gd (by have:=hu64 hr; exact this)) rfl T.n_repr boot_repr (aa (av H__law_refusal (hr.mono (by omega)) rfl (aa (bo bK (pv 9) (pv 11) (fun _ _=>rfl)) ae)) ae)) (aW (j2 hr.gd (by have:=hu64 hr; exact this)) rfl T.n_repr boot_repr (aa (bo bK (pv 8) (pv 11) (fun _ _=>rfl)) ae)) (ax _))
    (ag (aq iB))
    au))))
  (ag (aq iB)))))))))))))))))),?_⟩
 refine⟨_,rfl,p,_,rfl,bx,by decide,by decide,fun part H1 q0 q1 b1 x1=>?_⟩
 refine⟨_,rfl,p,_,rfl,b1,by decide,by decide,fun w0 H2 w00 w01 b2 x2=>⟨_,_,rfl,rfl,?_⟩⟩
 refine⟨fun σ HZ=>∃ w':Int,σ=[some (.ref p),some (.int part),some (.int w'),none,none,none,none,none,none,none,none,none]/\4<=w'/\w'<=32/\(1<part->w'<=12)/\Bx HZ p/\SameX p H HZ,?_,?_⟩
 ·walk_at "o"
  walk_at "c" <;> intro c0
  ·refine⟨_,rfl,p,_,rfl,b2,by decide,by decide,fun w1 H3 w10 w11 b3 x3=>⟨_,_,rfl,rfl,4+w1,rfl,by omega,by omega,fun _=>by omega,b3,(x1.trans x2).trans x3⟩⟩
  ·exact⟨4+w0,rfl,by omega,by omega,fun z=>absurd z (by omega),b2,x1.trans x2⟩
 rintro σ H3 ⟨w',rfl,w1,w2,w12,b3,x3⟩
 clear x1 x2 b1 b2 w00 w01
 refine⟨_,rfl,_,rfl,p,w',rfl,b3,w1,w2,fun d H4 d1 d2 b4 x4=>?_⟩
 refine⟨_,rfl,d,rfl,d1,fun tw ht=>?_⟩
 have tl:=tw_lt (by omega) d1 d2 ht
 have t0:=ht.1
 have P70:=pow70
 have k2:2<=sizeLine:=by decide
 have P30:(1*2^(30:Int).toNat:Int)=1073741824:=by decide
 walk_at "o"
 intro e H5 e0 e1 b5 x5
 walk_at "o"
 intro f' H6 f0 f1 b6 x6
 walk_at "o"
 intro a H7 a0 a1 b7 x7
 walk_at "o"
 intro r hr7
 rw[P70] at f1
 rw[P30] at a1
 have rg:RG e f' a 130:=⟨e0,by omega,f0,by omega,a0,by omega,by decide,by decide⟩
 have x47:SameX p H H7:=((((x3.trans x4).trans x5).trans x6).trans x7)
 obtain⟨G8,e8,s8,r8⟩:=qz hr7 (.tup [.int e,.int f',.int a,.int 130])
 show lA 5 (.ref r) _ (upd H7 r (.tup [.int e,.int f',.int a,.int 130])) _
 rw[e8]
 have b8:=b7.same s8
 have x8:=x47.trans (SameX.of s8)
 walk_at "o"
 intro e2 H9 e20 e21 b9 x9
 walk_at "o"
 intro f2 H10 f20 f21 b10 x10
 walk_at "o"
 intro s2 H11 s20 s21 b11 x11
 walk_at "o"
 intro ta hta
 obtain⟨G12,e12,s12,ta12⟩:=qz hta (.tup [.str (Str.ofString "early"),.int e2,.int f2,.int s2])
 show lA 6 (.ref ta) _ (upd H11 ta (.tup [.str (Str.ofString "early"),.int e2,.int f2,.int s2])) _
 rw[e12]
 have b12:=b11.same s12
 have x8c:=((x9.trans x10).trans x11).trans (SameX.of s12)
 have x12:=x8.trans x8c
 have r12:=x8c _ _ (j3 b8 r8) r8
 have fm2:Fm 2 e2 f2 s2:=⟨by decide,e20,by omega,fun z=>absurd rfl z,f20,by omega,s20,by omega,fun z=>absurd z (by decide)⟩
 refine⟨_,rfl,p,rfl,b12,fun pa kvs H13 hpa hk g tbk b13 x13=>?_⟩
 have hpp:=dO b12 hpa
 refine⟨12,rfl,by decide,by decide,fun l hl=>?_⟩
 have lp:=dO b13 hl
 refine rm (Str.ofString "let by") .non hl (fun v HI Q' h=>⟨by show 2<=sizeLine; decide,h⟩) fun ts H14 hl14 tl14 al14 s14=>?_
 have b14:=b13.same s14
 have x14:SameX p H H14:=(x12.trans x13).trans (SameX.of s14)
 have r14:=s14 _ _ (x13 _ _ (j3 b12 r12) r12)
 have ta14:=s14 _ _ (x13 _ _ (j3 b12 ta12) ta12)
 have pp:pa≠p:=hpp
 have nb12:∀ {a:Addr} {xs:List V},H14 a=some (.tup xs)->a≠l:=fun h z=>by rw[z,hl14] at h; cases h
 have pa14:=s14 _ _ hk
 have pl14:pa≠l:=fun z=>by rw[z,hl14] at pa14; cases pa14
 have paG:dr2 H14 p l pa=some (.dK kvs):=jc pa14 pp pl14
 have hnl:H l=none:=sxn (x12.trans x13) lp hl
 have g14:Sg p l H H14 (oOf none none) (.ref pa) ta e2 f2 s2 (RA (.ref pa) none r e f' a):=⟨b14,x14,DueL.all (o:=none) hl14 tl14 al14 dt_non oOf_nn,hnl,lp,.dct paG,(DFl.of paG tbk).r,jc ta14 (j3 b14 ta14) (nb12 ta14),fm2,.good ⟨pa,kvs,rfl,paG,g⟩,jc r14 (j3 b14 r14) (nb12 r14)⟩
 clear x3 x4 x5 x6 x7 x47 x8 x9 x10 x11 x12 x13 x14 x8c b3 b4 b5 b6 b7 b8 b9 b10 b11 b12 b13 hl14 al14 s14 hk r8 r12 ta12 s12 s8 pa14 paG
 refine⟨fun σ HZ=>∃ (pr:V) (op:Option PyData),σ=[some (.ref p),some (.int part),some (.int w'),some (.int d),some (.int tw),some (.ref r),some (.ref ta),some pr,some (.ref l),none,none,none]/\Sg p l H HZ (oOf none op) pr ta e2 f2 s2 (RA pr op r e f' a),?_,?_⟩
 ·walk_at "o"
  walk_at "c" <;> intro c0
  ·refine⟨_,rfl,p,rfl,g14.bx,fun x H15 th dfl ng ⟨q',D⟩ b15 x15=>?_⟩
   obtain⟨⟨up,hup⟩,ts,hl,tl⟩:=g14.ex
   have m:=o9 (H':=H15) hup hl
   have g15:=g14.x b15 x15 RA.mv
   have g16:Sg p l H H15 (oOf none none) x ta e2 f2 s2 (RA x (some q') r e f' a):=g15.re (th.same m) (dfl.r.same th m) g15.tt g15.fm ⟨.bad (fun z=>ng (z.mv (Mv.of dr2_sub))) (D.same m),g15.r.2⟩
   refine⟨_,rfl,k2,fun t ht=>?_⟩
   obtain⟨G,eG,sG,hG⟩:=qz ht (.tup [.str (Str.ofString "prices"),x])
   rw[eG]
   have g17:=g16.x (b15.same sG) (SameX.of sG) RA.mv
   obtain⟨xs,hxs,ix,g18⟩:=g17.prices hG ((D.same m).same (kN (SameX.of sG)))
   exact⟨_,rfl,l,xs,11,11,rfl,rfl,hxs,ix,x,some q',rfl,g18⟩
  ·exact⟨_,none,rfl,g14⟩
 rintro σ H15 ⟨pr,op,rfl,g15⟩
 clear g14 hnl pp nb12 pl14 hpp tl14 r14 ta14
 refine⟨fun σ HZ=>∃ (pr:V) (op:Option PyData) (z:V) (ta:Addr) (e f s:Int) (of:Option (PyData×PyData)),σ=[some (.ref p),some (.int part),some (.int w'),some (.int d),some (.int tw),some z,some (.ref ta),some pr,some (.ref l),none,none,none]/\Sg p l H HZ (oOf of op) pr ta e f s (RB pr op z e f s d tw of),?_,?_⟩
 ·walk_at "o"
  walk_at "c" <;> intro c0
  ·refine⟨_,rfl,_,rfl,_,rfl,p,r,e,f',a,tw,rfl,g15.bx,dr2_sub _ _ g15.r.2,rg,t0,by omega,fun z H16 rk ⟨dz,D⟩ b16 x16=>?_⟩
   obtain⟨⟨up,hup⟩,ts,hl,tl⟩:=g15.ex
   have m:=o9 (H':=H16) hup hl
   have g16:=g15.x b16 x16 RA.mv
   have D:=D.same m
   have rk:=rk.mv (Mv.of m)
   walk_at "o"
   intro e3 H17 e30 e31 b17 x17
   have g17:=g16.x b17 x17 RA.mv
   have m17:=kN (l:=l) x17
   have ta17:=dr2_sub _ _ g17.tt
   refine⟨_,_,rfl,rfl,_,rfl,ta,tlv 2 e2 f2 s2,2,.int f2,rfl,rfl,SqT.of ta17,rfl,_,rfl,ta,tlv 2 e2 f2 s2,3,.int s2,rfl,rfl,SqT.of ta17,rfl,(by show 4<=sizeLine; decide),fun t ht'=>?_⟩
   obtain⟨G,eG,sG,hG⟩:=qz ht' (.tup [.str (Str.ofString "early"),.int (tw+1+e3),.int f2,.int s2])
   show lA 6 (.ref t) _ (upd H17 t (.tup [.str (Str.ofString "early"),.int (tw+1+e3),.int f2,.int s2])) _
   rw[eG]
   have mG:=kN (l:=l) (SameX.of (p:=p) sG)
   have tl':t≠l:=fun z=>by
    obtain⟨_,ts,h1,_⟩:=g17.ex
    rw[z,h1] at ht'; cases ht'
   have td:=tl_dt (e:=tw+1+e3) (f:=f2) (s:=s2) (by omega) (by omega) f20 (by omega) s20 (by omega)
   have tG:=jc hG (dO b17 ht') tl'
   have g18:=g17.x (b17.same sG) (SameX.of sG) RA.mv
   have g19:Sg p l H G (oOf none op) pr t (tw+1+e3) f2 s2 (RB pr op z (tw+1+e3) f2 s2 d tw (some (dz,_))):=g18.re g18.tp g18.dp tG ⟨by decide,by omega,by omega,fun z=>absurd rfl z,f20,by omega,s20,by omega,fun z=>absurd z (by decide)⟩ ⟨g18.r.1,.bad (rk.mv (Mv.of (m17.trans mG))) (D.same (m17.trans mG)) (by omega) td⟩
   refine⟨_,rfl,k2,fun t1 h1=>?_⟩
   obtain⟨G1,E1,S1,K1⟩:=qz h1 (.tup [.str (Str.ofString "form"),.ref t])
   rw[E1]
   refine⟨_,rfl,k2,fun t2 h2=>?_⟩
   obtain⟨G2,E2,S2,K2⟩:=qz h2 (.tup [.str (Str.ofString "form"),.ref t])
   rw[E2]
   refine⟨_,rfl,k2,fun t3 h3=>?_⟩
   obtain⟨G3,E3,S3,K3⟩:=qz h3 (.tup [.str (Str.ofString "form"),.ref t])
   rw[E3]
   refine⟨_,rfl,k2,fun t4 h4=>?_⟩
   obtain⟨G4,E4,S4,K4⟩:=qz h4 (.tup [.str (Str.ofString "form"),z])
   rw[E4]
   refine⟨_,rfl,k2,fun t5 h5=>?_⟩
   obtain⟨G5,E5,S5,K5⟩:=qz h5 (.tup [.str (Str.ofString "form"),z])
   rw[E5]
   have S15:=(((S1.trans S2).trans S3).trans S4).trans S5
   refine⟨(by show 5<=sizeLine; decide),fun b hb=>?_⟩
   obtain⟨G6,E6,S6,K6⟩:=qz hb (.lst [.ref t1,.ref t2,.ref t3,.ref t4,.ref t5])
   rw[E6]
   have S16:=S15.trans S6
   have g20:=g19.x ((b17.same sG).same S16) (SameX.of S16) RB.mv
   have mS:=kN (l:=l) (SameX.of (p:=p) S16)
   obtain⟨xs,hxs,lxs,g21⟩:=g20.form (z:=z) (zt:=.ref t) ((((S2.trans S3).trans S4).trans S5).trans S6 _ _ K1) (((S3.trans S4).trans S5).trans S6 _ _ K2) ((S4.trans S5).trans S6 _ _ K3) (S5.trans S6 _ _ K4) (S6 _ _ K5) (td _ _ g20.tt) (D.same ((m17.trans mG).trans mS))
   refine⟨_,rfl,6,rfl,11,rfl,l,b,xs,_,6,11,rfl,rfl,(fun z=>?_),rfl,rfl,hxs,K6,by decide,by decide,by omega,?_,pr,op,z,t,_,_,_,_,rfl,g21⟩
   ·obtain⟨_,ts,h1,_⟩:=g19.ex
    rw[<- z,S15 _ _ h1] at hb; cases hb
   ·rw[lxs]; show 17<=sizeLine; decide
  ·refine⟨pr,op,_,ta,e2,f2,s2,none,rfl,g15.re g15.tp g15.dp g15.tt g15.fm ⟨g15.r.1,.good rfl g15.r.2 rg (ht.dvd e0 (by omega)) (ht.dvd e20 (by omega))⟩⟩
 rintro σ H16 ⟨pr,op,z,ta,e,f,s',of,rfl,g16⟩
 clear g15 fm2 rg
 refine⟨fun σ HZ=>∃ (pr:V) (z:V) (ta:Addr) (e f s:Int) (y:V) (l:Addr) (os:Nat->fQ),σ=[some (.ref p),some (.int part),some (.int w'),some y,some (.int tw),some z,some (.ref ta),some pr,some (.ref l),none,none,none]/\Sg p l H HZ os pr ta e f s (RC (.int w') y z e f s pr os)/\(2<=part->y=.int d),?_,?_⟩
 ·walk_at "o"
  walk_at "c" <;> intro c0
  ·walk_at "o"
   refine⟨by have:=aE w1 w2; omega,g16.bx,fun y H17 ty yb ⟨dy,D⟩ b17 x17=>?_⟩
   obtain⟨⟨up,hup⟩,ts,hl,tl⟩:=g16.ex
   have m:=o9 (H':=H17) hup hl
   have g17:=g16.x b17 x17 RB.mv
   refine⟨12,rfl,by decide,by decide,fun l' hl'=>?_⟩
   refine rm (Str.ofString "divisor") y hl' (fun v HI Q' h=>⟨_,rfl,k2,h⟩) fun ts H18 hts tts als s18=>?_
   have m':=dr2_l (l:=l) (SameX.of (p:=p) s18) hl'
   have g18:Sg p l' H H18 (fun _=>some (1,dy)) pr ta e f s' (RC (.int w') y z e f s' pr (fun _=>some (1,dy))):=g17.new (b17.same s18) (SameX.of s18) hl' (DueL.all (o:=some (1,dy)) hts tts als ((D.same m).same m') fun _=>rfl) fun m2 _=>⟨.d rfl w1 w2 yb ((D.same m).same m2),.int w',(ty.same m).same m2⟩
   exact⟨pr,z,ta,e,f,s',y,l',_,rfl,g18,fun z=>by omega⟩
  ·exact⟨pr,z,ta,e,f,s',.int d,l,_,rfl,g16.re g16.tp g16.dp g16.tt g16.fm ⟨.ok rfl rfl w1 (w12 (by omega)) d1 d2 ht g16.r.2 g16.r.1,.int w',.int d⟩,fun _=>rfl⟩
 rintro σ H17 ⟨pr,z,ta,e,f,s',y,l,os,rfl,g17,hy⟩
 clear g16
 refine⟨fun σ HZ=>∃ (pr:V) (z:V) (ta:Addr) (e f s:Int) (x y:V) (l:Addr) (os:Nat->fQ),σ=[some (.ref p),some (.int part),some x,some y,some (.int tw),some z,some (.ref ta),some pr,some (.ref l),none,none,none]/\Sg p l H HZ os pr ta e f s (RC x y z e f s pr os)/\(2<=part->x=.int w'/\y=.int d),?_,?_⟩
 ·walk_at "o"
  walk_at "c" <;> intro c0
  ·refine⟨_,rfl,p,rfl,g17.bx,fun x H18 tx xb ⟨dx,D⟩ b18 x18=>?_⟩
   obtain⟨⟨up,hup⟩,ts,hl,tl⟩:=g17.ex
   have m:=o9 (H':=H18) hup hl
   have g18:=g17.x b18 x18 RC.mv
   refine⟨12,rfl,by decide,by decide,fun l' hl'=>?_⟩
   refine rm (Str.ofString "width") x hl' (fun v HI Q' h=>⟨_,rfl,k2,h⟩) fun ts H19 hts tts als s19=>?_
   have m':=dr2_l (l:=l) (SameX.of (p:=p) s19) hl'
   have g19:Sg p l' H H19 (fun _=>some (0,dx)) pr ta e f s' (RC x y z e f s' pr (fun _=>some (0,dx))):=g18.new (b18.same s19) (SameX.of s19) hl' (DueL.all (o:=some (0,dx)) hts tts als ((D.same m).same m') fun _=>rfl) fun m2 r=>⟨.w xb ((D.same m).same m2),(tx.same m).same m2,r.2.2.same m2⟩
   exact⟨pr,z,ta,e,f,s',x,y,l',_,rfl,g19,fun z=>by omega⟩
  ·exact⟨pr,z,ta,e,f,s',.int w',y,l,_,rfl,g17,fun z=>⟨rfl,hy z⟩⟩
 rintro σ H18 ⟨pr,z,ta,e,f,s',x,y,l,os,rfl,g18,hxy⟩
 clear g17 hy
 have tb18:=tb.x bx g18.sx
 walk_at "o"
 walk_at "c" <;> intro c0
 rotate_left
 refine cT ?_
 rotate_left
 obtain⟨ex,ey⟩:=hxy (by omega)
 refine⟨_,rfl,_,rfl,x,y,rfl,WD.good' ex ey w1 w2 d1 d2 ⟨rfl,false,rfl,cT ?_⟩⟩
 all_goals
  have t18:=dr2_sub _ _ g18.tt
  obtain⟨_,fm0,fm1,_,fm2,fm3,fm4,fm5,_⟩:=id g18.fm
  refine⟨_,rfl,_,rfl,_,rfl,_,rfl,ta,tlv 2 e f s',1,.int e,rfl,rfl,SqT.of t18,rfl,_,rfl,ta,tlv 2 e f s',2,.int f,rfl,rfl,SqT.of t18,rfl,_,rfl,ta,tlv 2 e f s',3,.int s',rfl,rfl,SqT.of t18,rfl,fun fx dfx hx1 hx2 hxx=>?_⟩
  refine⟨fx,dfx,e,f,s',rfl,ah,fm0,fm1,fm2,fm3,fm4,fm5,fun H19 sx fo=>⟨rfl,?_⟩⟩
  have s19:=cR hx1 hx2 sx
  have tb19:=tb18.same s19
  have m19:Same (dr2 H18 p l) H19:=dr2_sub.trans s19
  have du19:=g18.du.m.mv (Mv.of s19)
  have n01:PT0≠PT1:=fun z=>(List.nodup_cons.mp hne).1 (by rw[z]; exact mem_cons_self ..)
  have pf19:PtF c PT0 PT1 H19 x y z fx e f s' pr os:=⟨g18.r.2.1.same m19,g18.r.2.2.same m19,fo,g18.fm,g18.tp.same m19,g18.dp.same g18.tp m19,tb19.1,tb19.2.1,n01,g18.r.1.mv g18.tp (Mv.of m19)⟩
  have kx:KpX p H H19:=(KpX.of g18.sx).kp (Kp.of s19)
  refine⟨_,rfl,x,y,z,fx,pr,rfl,tb19,fun dl gs H20 hdl lgs hgs kp20 tb20=>?_⟩
  have kx20:=kx.kp kp20
  have pf20:=pf19.mv (Mv.kp kp20) tb20.1 tb20.2.1
  have du20:=du19.mv (Mv.kp kp20)
  refine⟨12,rfl,by decide,by decide,gt (fun i σ HZ=>∃ (v1 v2:Option V),σ=[some (.ref p),some (.int part),some x,some y,some (.int tw),some z,some (.ref ta),some pr,some (.ref l),some (.ref dl),v1,v2]/\Kp H20 HZ/\TB3 PT0 PT1 PT2 HZ) ⟨_,_,rfl,Kp.refl _,tb20⟩ ?_ ?_⟩
  ·rintro i σ HZ hi ⟨v1,v2,rfl,kpZ,tbZ⟩
   walk_at "o"
   obtain⟨j,hj,ej⟩:∃ j:Nat,j<12/\((0+(i:Int))*5+part)%12=(j:Int):=⟨(((0+(i:Int))*5+part)%12).toNat,by omega,by omega⟩
   have ix:∀ {as:List Addr} {a:Addr},as[j]?=some a->atI (as.map V.ref) (((0+(i:Int))*5+part)%12)=some (V.ref a):=fun h=>by
    rw[ej]
    exact mR (by rw[List.getElem?_map,h]; rfl)
   obtain⟨g,hg⟩:∃ g,gs[j]?=some g:=⟨_,List.getElem?_eq_getElem (by rw[lgs]; exact hj)⟩
   obtain⟨n,cs,at_⟩:=hgs j g hg
   have atZ:=at_.keep kpZ.ext (fun a o u e=>kpZ _ _ (fun _ z=>nomatch z) e)
   have pfZ:=pf20.mv (Mv.kp kpZ) tbZ.1 tbZ.2.1
   refine⟨dl,gs.map V.ref,_,.ref g,rfl,rfl,SqL.of (kpZ.ls hdl),ix hg,?_⟩
   refine⟨g,os j,rfl,tbZ.1,tbZ.2.1,⟨_,cs,GD j n x y z fx pr hj,atZ,told hj (pfZ.hid atZ.cf)⟩,fun t x' H21 ht' D' kq to' ta'=>?_⟩
   have kp21:=kq.kp tbZ.1 tbZ.2.1
   obtain⟨ts,hts,lts,hd⟩:=du20.mv (Mv.kp (kpZ.trans kp21))
   obtain⟨u,hu⟩:∃ u,ts[j]?=some u:=⟨_,List.getElem?_eq_getElem (by rw[lts]; exact hj)⟩
   obtain⟨x2,hx2',D2⟩:=hd j u hu
   refine⟨t,kn (os j),x',dat (os j),rfl,ht',(oG _).1,(oG _).2,D',?_⟩
   refine⟨_,rfl,_,rfl,l,ts.map V.ref,_,.ref u,rfl,rfl,SqL.of hts,ix hu,u,kn (os j),x2,dat (os j),rfl,hx2',(oG _).1,(oG _).2,D2,?_⟩
   refine⟨rfl,false,by simp,cT ?_⟩
   exact⟨_,_,rfl,kpZ.trans kp21,tbZ.kq hne kq to' ta'⟩
  ·rintro σ HZ ⟨v1,v2,rfl,kpZ,tbZ⟩
   exact q HZ (kx20.kp kpZ) tbZ
theorem ents_nd (t:Nat->Tok) (b:Nat->Addr):((ents t b).map (·.1)).Nodup:=by
 show (["shifted","scaled","early","more","wide"]:List Str).Nodup
 decide +kernel
theorem ok_law {f:Addr}{fd:FuncData}(F:Fun K "law" "law" ki f fd) (T:Txt K mg c) (H__law_case:Has P w K mg base 22 "_law_case" ["_law_state"] (km PT0 PT1 PT2)) (H__law_start:Has P w K mg base 1 "_law_start" ["_law_script","_law_k"] (mZ K)):FnOk P w K mg base CX0 23 f fd ["_law_script"] (spLaw K PT0 PT1 PT2):=by
 refine F.ok sc_law (fun vs H Q E h=>?_) (fun cdv A outer s H vs Q E hr h=>?_)
 ·obtain⟨a,ns,rfl,_⟩:=h
  rfl
 obtain⟨a,ns,rfl,hS,hlen,⟨to,ta,td⟩,q⟩:=h
 have hl:(ns.map V.int).length=ns.length:=length_map _
 refine⟨_,(af (ja PassesOwn.never rfl (cA rfl T.n_range (aa (aW (qx rfl) rfl T.n_max boot_max (aa ac (aa (aW (mr rfl) rfl T.n_min boot_min (aa (aW dR rfl T.n_len boot_len (aa (pv 0) ae)) (aa ac ae))) ae))) ae)) (fE (i:=1) sc_law.nd rfl (Or.inl rfl))
   (ag (aB (bt (aY (av H__law_case (hr.mono (by omega)) rfl (aa (av H__law_start (hr.mono (by omega)) rfl (aa (pv 0) (aa (pv 1) ae))) ae))))
    (ag (aq iB))
    au)))
  (ag (aq iB))),?_⟩
 refine⟨_,rfl,a,_,rfl,.inl hS,_,_,rfl,_,_,rfl,_,rfl,(by rw[hl]; split <;> (try split) <;> omega),(by rw[hl]; split <;> (try split) <;> omega),gt (fun i σ H2=>∃ x1:Option V,σ=[some (.ref a),x1]/\SqL K H2 a (ns.map V.int)/\TB3 PT0 PT1 PT2 H2) ⟨_,rfl,hS,to.tok,ta,td⟩ ?_ ?_⟩
 ·rintro i σ H2 hi ⟨x1,rfl,hS2,tb2⟩
  have hi':(i:Int)<100:=by
   rw[hl] at hi
   revert hi
   split <;> (try split) <;> omega
  refine⟨_,rfl,_,rfl,a,ns,_,rfl,hS2,by omega,by omega,fun p H3 hp b3 s3=>?_⟩
  refine⟨p,rfl,b3,tb2.same s3,fun H4 y4 tb4=>⟨_,rfl,cT ⟨_,rfl,?_,tb4⟩⟩⟩
  rcases hS2 with (e | ⟨o,e⟩) | z
  ·exact .inl (.inl (y4 a _ (az e hp) (fun _ z=>nomatch z) (s3 _ _ e)))
  ·exact .inl (.inr ⟨o,y4 a _ (az e hp) (fun _ z=>nomatch z) (s3 _ _ e)⟩)
  ·exact .inr z
 ·rintro σ H2 ⟨x1,rfl,s2⟩
  exact q H2
end
theorem all_mk {l:PySem.W.OpenLaw}{w:World}{K:Frag}{h:Heap}{mg:Str->Option Value}{fa f1 f2 f3 f4 f5 f6 f7 f8 f9 f10 f11 f12 f13 f14 f15 f16 f17 f18 f19 f20 f21 f22 f23 f24 f25 f26 f27 f28 f29 f30 f31 f32 f33 f34 f35 f36 f37 f38 f39 f40 f41 f42 f43 f44 f45 f46 f47 f48 f49 f50 f51 f52 f53 f54 f55 f56 f57 f58 f59 f60 f61 f62 f63 f64 f65 f66 f67 f68 f69 f70 f71 f72 f73 c_Shifted c_Scaled c_Early c_More c_Wide c_NoWidth c_NoDivisor c_NoForm c_NoPrices c_ROW_WORDS c_ROWS_AHEAD:Addr}(X:K.In h) (G:h.Ns mainGlobals mg) (hfa:mg "law"=some (.ref fa))
  {od73 an73 od41 an41 od56 an56 od70 an70:Option Addr} {sl73 sl41 sl56 sl70:Array (Option Value)} {oc73 kV73 dc73 pm73 cd73 ct73 oc41 kV41 dc41 pm41 cd41 ct41 oc56 kV56 dc56 pm56 cd56 ct56 oc70 kV70 dc70 pm70 cd70 ct70:Value}
  (a1:findIn K (.ref c_NoWidth) "__init__"=some (some (.ref f1))) (i1:isFn K (.ref f1)=true)
  (l1:FB K "__init__" "NoWidth.__init__" bD f1)
  (a2:findIn K (.ref c_NoDivisor) "__init__"=some (some (.ref f2))) (i2:isFn K (.ref f2)=true)
  (l2:FB K "__init__" "NoDivisor.__init__" bd f2)
  (a3:findIn K (.ref c_NoForm) "__init__"=some (some (.ref f3))) (i3:isFn K (.ref f3)=true)
  (l3:FB K "__init__" "NoForm.__init__" bM f3)
  (a4:findIn K (.ref c_NoPrices) "__init__"=some (some (.ref f4))) (i4:isFn K (.ref f4)=true)
  (l4:FB K "__init__" "NoPrices.__init__" bq f4)
  (a5:nsIn K mainGlobals "is_whole"=some (some (.ref f5)))
  (l5:FB K "is_whole" "is_whole" gX f5)
  (a6:nsIn K mainGlobals "is_between"=some (some (.ref f6)))
  (l6:FB K "is_between" "is_between" eg f6)
  (a7:nsIn K mainGlobals "need_width"=some (some (.ref f7)))
  (l7:FB K "need_width" "need_width" er f7)
  (a8:nsIn K mainGlobals "is_word"=some (some (.ref f8)))
  (l8:FB K "is_word" "is_word" jz f8)
  (a9:nsIn K mainGlobals "need_divisor"=some (some (.ref f9)))
  (l9:FB K "need_divisor" "need_divisor" cL f9)
  (a10:nsIn K mainGlobals "twos_in"=some (some (.ref f10)))
  (l10:FB K "twos_in" "twos_in" jb f10)
  (a11:nsIn K mainGlobals "brought"=some (some (.ref f11)))
  (l11:FB K "brought" "brought" jj f11)
  (a12:findIn K (.ref c_Shifted) "__init__"=some (some (.ref f12))) (i12:isFn K (.ref f12)=true)
  (l12:FB K "__init__" "Shifted.__init__" bw f12)
  (a13:findIn K (.ref c_Shifted) "word"=some (some (.ref f13))) (i13:isFn K (.ref f13)=true)
  (l13:FB K "word" "Shifted.word" cI f13)
  (a14:findIn K (.ref c_Shifted) "told"=some (some (.ref f14))) (i14:isFn K (.ref f14)=true)
  (l14:FB K "told" "Shifted.told" cK f14)
  (a15:findIn K (.ref c_Shifted) "numbers_in"=some (some (.ref f15))) (i15:isFn K (.ref f15)=true)
  (l15:FB K "numbers_in" "Shifted.numbers_in" bc f15)
  (a16:findIn K (.ref c_Scaled) "__init__"=some (some (.ref f16))) (i16:isFn K (.ref f16)=true)
  (l16:FB K "__init__" "Scaled.__init__" bN f16)
  (a17:findIn K (.ref c_Scaled) "word"=some (some (.ref f17))) (i17:isFn K (.ref f17)=true)
  (l17:FB K "word" "Scaled.word" da f17)
  (a18:findIn K (.ref c_Scaled) "told"=some (some (.ref f18))) (i18:isFn K (.ref f18)=true)
  (l18:FB K "told" "Scaled.told" de f18)
  (a19:findIn K (.ref c_Scaled) "numbers_in"=some (some (.ref f19))) (i19:isFn K (.ref f19)=true)
  (l19:FB K "numbers_in" "Scaled.numbers_in" br f19)
  (a20:findIn K (.ref c_Early) "__init__"=some (some (.ref f20))) (i20:isFn K (.ref f20)=true)
  (l20:FB K "__init__" "Early.__init__" ca f20)
  (a21:findIn K (.ref c_Early) "word"=some (some (.ref f21))) (i21:isFn K (.ref f21)=true)
  (l21:FB K "word" "Early.word" dS f21)
  (a22:findIn K (.ref c_Early) "told"=some (some (.ref f22))) (i22:isFn K (.ref f22)=true)
  (l22:FB K "told" "Early.told" eu f22)
  (a23:findIn K (.ref c_Early) "numbers_in"=some (some (.ref f23))) (i23:isFn K (.ref f23)=true)
  (l23:FB K "numbers_in" "Early.numbers_in" bC f23)
  (a24:findIn K (.ref c_More) "__init__"=some (some (.ref f24))) (i24:isFn K (.ref f24)=true)
  (l24:FB K "__init__" "More.__init__" cr f24)
  (a25:findIn K (.ref c_More) "word"=some (some (.ref f25))) (i25:isFn K (.ref f25)=true)
  (l25:FB K "word" "More.word" fO f25)
  (a26:findIn K (.ref c_More) "told"=some (some (.ref f26))) (i26:isFn K (.ref f26)=true)
  (l26:FB K "told" "More.told" fk f26)
  (a27:findIn K (.ref c_More) "numbers_in"=some (some (.ref f27))) (i27:isFn K (.ref f27)=true)
  (l27:FB K "numbers_in" "More.numbers_in" bT f27)
  (a28:findIn K (.ref c_Wide) "__init__"=some (some (.ref f28))) (i28:isFn K (.ref f28)=true)
  (l28:FB K "__init__" "Wide.__init__" cB f28)
  (a29:findIn K (.ref c_Wide) "word"=some (some (.ref f29))) (i29:isFn K (.ref f29)=true)
  (l29:FB K "word" "Wide.word" fu f29)
  (a30:findIn K (.ref c_Wide) "told"=some (some (.ref f30))) (i30:isFn K (.ref f30)=true)
  (l30:FB K "told" "Wide.told" fJ f30)
  (a31:findIn K (.ref c_Wide) "numbers_in"=some (some (.ref f31))) (i31:isFn K (.ref f31)=true)
  (l31:FB K "numbers_in" "Wide.numbers_in" bQ f31)
  (a32:nsIn K mainGlobals "is_factor"=some (some (.ref f32)))
  (l32:FB K "is_factor" "is_factor" fG f32)
  (a33:nsIn K mainGlobals "is_shift"=some (some (.ref f33)))
  (l33:FB K "is_shift" "is_shift" hZ f33)
  (a34:nsIn K mainGlobals "is_reckoning"=some (some (.ref f34)))
  (l34:FB K "is_reckoning" "is_reckoning" cH f34)
  (a35:nsIn K mainGlobals "need_reckoning"=some (some (.ref f35)))
  (l35:FB K "need_reckoning" "need_reckoning" ci f35)
  (a36:nsIn K mainGlobals "need_form"=some (some (.ref f36)))
  (l36:FB K "need_form" "need_form" fH f36)
  (a37:nsIn K mainGlobals "corners_to"=some (some (.ref f37)))
  (l37:FB K "corners_to" "corners_to" dU f37)
  (a38:nsIn K mainGlobals "corner_words"=some (some (.ref f38)))
  (l38:FB K "corner_words" "corner_words" cP f38)
  (a39:nsIn K mainGlobals "right_to"=some (some (.ref f39)))
  (l39:FB K "right_to" "right_to" hE f39)
  (a40:nsIn K mainGlobals "first_failing"=some (some (.ref f40)))
  (l40:FB K "first_failing" "first_failing" cz f40)
  (a41:nsIn K mainGlobals "least_wrong"=some (some (.ref f41)))
  (l41:K.lookup f41=some ⟨oc41,od41,.func (fnOf "least_wrong" "least_wrong" (cg aI) (aU aI) (aj aI) .none kV41 dc41 pm41 an41 cd41 ct41),sl41⟩) (c41:codeIn K cd41 "least_wrong"=true) (k41:keepIn K (.ref f41)=true)
  (a42:nsIn K mainGlobals "reckoning_is_right"=some (some (.ref f42)))
  (l42:FB K "reckoning_is_right" "reckoning_is_right" bf f42)
  (a43:nsIn K mainGlobals "is_right"=some (some (.ref f43)))
  (l43:FB K "is_right" "is_right" gQ f43)
  (a44:nsIn K mainGlobals "reckoning_wrong"=some (some (.ref f44)))
  (l44:FB K "reckoning_wrong" "reckoning_wrong" bP f44)
  (a45:nsIn K mainGlobals "wrong_word"=some (some (.ref f45)))
  (l45:FB K "wrong_word" "wrong_word" dW f45)
  (a46:nsIn K mainGlobals "is_wrong_word"=some (some (.ref f46)))
  (l46:FB K "is_wrong_word" "is_wrong_word" cy f46)
  (a47:nsIn K mainGlobals "need_prices"=some (some (.ref f47)))
  (l47:FB K "need_prices" "need_prices" dg f47)
  (a48:nsIn K mainGlobals "ceiling"=some (some (.ref f48)))
  (l48:FB K "ceiling" "ceiling" jx f48)
  (a49:nsIn K mainGlobals "candidates"=some (some (.ref f49)))
  (l49:FB K "candidates" "candidates" ee f49)
  (a50:nsIn K mainGlobals "scaled_candidates"=some (some (.ref f50)))
  (l50:FB K "scaled_candidates" "scaled_candidates" bp f50)
  (a51:nsIn K mainGlobals "early_candidates"=some (some (.ref f51)))
  (l51:FB K "early_candidates" "early_candidates" bF f51)
  (a52:nsIn K mainGlobals "more_candidates"=some (some (.ref f52)))
  (l52:FB K "more_candidates" "more_candidates" bL f52)
  (a53:nsIn K mainGlobals "form_words"=some (some (.ref f53)))
  (l53:FB K "form_words" "form_words" dM f53)
  (a54:nsIn K mainGlobals "price_of_form"=some (some (.ref f54)))
  (l54:FB K "price_of_form" "price_of_form" cu f54)
  (a55:nsIn K mainGlobals "first_right"=some (some (.ref f55)))
  (l55:FB K "first_right" "first_right" dm f55)
  (a56:nsIn K mainGlobals "choose"=some (some (.ref f56)))
  (l56:K.lookup f56=some ⟨oc56,od56,.func (fnOf "choose" "choose" (cg bB) (aU bB) (aj bB) .none kV56 dc56 pm56 an56 cd56 ct56),sl56⟩) (c56:codeIn K cd56 "choose"=true) (k56:keepIn K (.ref f56)=true)
  (a57:nsIn K mainGlobals "why_none"=some (some (.ref f57)))
  (l57:FB K "why_none" "why_none" hU f57)
  (a58:nsIn K mainGlobals "line_at"=some (some (.ref f58)))
  (l58:FB K "line_at" "line_at" ju f58)
  (a59:nsIn K mainGlobals "least_total"=some (some (.ref f59)))
  (l59:FB K "least_total" "least_total" dh f59)
  (a60:nsIn K mainGlobals "_law_start"=some (some (.ref f60)))
  (l60:FB K "_law_start" "_law_start" d8 f60)
  (a61:nsIn K mainGlobals "_law_draw"=some (some (.ref f61)))
  (l61:FB K "_law_draw" "_law_draw" fc f61)
  (a62:nsIn K mainGlobals "_law_twos"=some (some (.ref f62)))
  (l62:FB K "_law_twos" "_law_twos" fA f62)
  (a63:nsIn K mainGlobals "_law_divisor"=some (some (.ref f63)))
  (l63:FB K "_law_divisor" "_law_divisor" cG f63)
  (a64:nsIn K mainGlobals "_law_row_words"=some (some (.ref f64)))
  (l64:FB K "_law_row_words" "_law_row_words" bY f64)
  (a65:nsIn K mainGlobals "_law_prices"=some (some (.ref f65)))
  (l65:FB K "_law_prices" "_law_prices" di f65)
  (a66:nsIn K mainGlobals "_law_no_prices"=some (some (.ref f66)))
  (l66:FB K "_law_no_prices" "_law_no_prices" bh f66)
  (a67:nsIn K mainGlobals "_law_no_width"=some (some (.ref f67)))
  (l67:FB K "_law_no_width" "_law_no_width" cq f67)
  (a68:nsIn K mainGlobals "_law_no_divisor"=some (some (.ref f68)))
  (l68:FB K "_law_no_divisor" "_law_no_divisor" bO f68)
  (a69:nsIn K mainGlobals "_law_spoilt"=some (some (.ref f69)))
  (l69:FB K "_law_spoilt" "_law_spoilt" cX f69)
  (a70:nsIn K mainGlobals "_law_doors"=some (some (.ref f70)))
  (l70:K.lookup f70=some ⟨oc70,od70,.func (fnOf "_law_doors" "_law_doors" (cg aC) (aU aC) (aj aC) .none kV70 dc70 pm70 an70 cd70 ct70),sl70⟩) (c70:codeIn K cd70 "_law_doors"=true) (k70:keepIn K (.ref f70)=true)
  (a71:nsIn K mainGlobals "_law_refusal"=some (some (.ref f71)))
  (l71:FB K "_law_refusal" "_law_refusal" cO f71)
  (a72:nsIn K mainGlobals "_law_case"=some (some (.ref f72)))
  (l72:FB K "_law_case" "_law_case" fL f72)
  (a73:nsIn K mainGlobals "law"=some (some (.ref f73)))
  (l73:K.lookup f73=some ⟨oc73,od73,.func (fnOf "law" "law" (cg ki) (aU ki) (aj ki) .none kV73 dc73 pm73 an73 cd73 ct73),sl73⟩) (c73:codeIn K cd73 "law"=true) (k73:keepIn K (.ref f73)=true)
  (aC_Shifted:nsIn K mainGlobals "Shifted"=some (some (.ref c_Shifted))) (pg_Shifted:plainGet K c_Shifted Str.empty=true) (hd_Shifted:hasDictIn K c_Shifted=true) (po_Shifted:plainOver K c_Shifted=true) (sa_Shifted:findIn K (.ref c_Shifted) "__setattr__"=some (some (.builtin "object.__setattr__")))
  (mk_Shifted:makesIn K c_Shifted=true) (kc_Shifted:keepIn K (.ref c_Shifted)=true)
  (na_Shifted_shift:findIn K (.ref c_Shifted) "shift"=some none)
  (aC_Scaled:nsIn K mainGlobals "Scaled"=some (some (.ref c_Scaled))) (pg_Scaled:plainGet K c_Scaled Str.empty=true) (hd_Scaled:hasDictIn K c_Scaled=true) (po_Scaled:plainOver K c_Scaled=true) (sa_Scaled:findIn K (.ref c_Scaled) "__setattr__"=some (some (.builtin "object.__setattr__")))
  (mk_Scaled:makesIn K c_Scaled=true) (kc_Scaled:keepIn K (.ref c_Scaled)=true)
  (na_Scaled_factor:findIn K (.ref c_Scaled) "factor"=some none)
  (na_Scaled_shift:findIn K (.ref c_Scaled) "shift"=some none)
  (aC_Early:nsIn K mainGlobals "Early"=some (some (.ref c_Early))) (pg_Early:plainGet K c_Early Str.empty=true) (hd_Early:hasDictIn K c_Early=true) (po_Early:plainOver K c_Early=true) (sa_Early:findIn K (.ref c_Early) "__setattr__"=some (some (.builtin "object.__setattr__")))
  (mk_Early:makesIn K c_Early=true) (kc_Early:keepIn K (.ref c_Early)=true)
  (na_Early_early:findIn K (.ref c_Early) "early"=some none)
  (na_Early_factor:findIn K (.ref c_Early) "factor"=some none)
  (na_Early_shift:findIn K (.ref c_Early) "shift"=some none)
  (aC_More:nsIn K mainGlobals "More"=some (some (.ref c_More))) (pg_More:plainGet K c_More Str.empty=true) (hd_More:hasDictIn K c_More=true) (po_More:plainOver K c_More=true) (sa_More:findIn K (.ref c_More) "__setattr__"=some (some (.builtin "object.__setattr__")))
  (mk_More:makesIn K c_More=true) (kc_More:keepIn K (.ref c_More)=true)
  (na_More_factor:findIn K (.ref c_More) "factor"=some none)
  (na_More_shift:findIn K (.ref c_More) "shift"=some none)
  (aC_Wide:nsIn K mainGlobals "Wide"=some (some (.ref c_Wide))) (pg_Wide:plainGet K c_Wide Str.empty=true) (hd_Wide:hasDictIn K c_Wide=true) (po_Wide:plainOver K c_Wide=true) (sa_Wide:findIn K (.ref c_Wide) "__setattr__"=some (some (.builtin "object.__setattr__")))
  (mk_Wide:makesIn K c_Wide=true) (kc_Wide:keepIn K (.ref c_Wide)=true)
  (na_Wide_factor:findIn K (.ref c_Wide) "factor"=some none)
  (na_Wide_shift:findIn K (.ref c_Wide) "shift"=some none)
  (aC_NoWidth:nsIn K mainGlobals "NoWidth"=some (some (.ref c_NoWidth)))
  (aC_NoDivisor:nsIn K mainGlobals "NoDivisor"=some (some (.ref c_NoDivisor)))
  (aC_NoForm:nsIn K mainGlobals "NoForm"=some (some (.ref c_NoForm)))
  (aC_NoPrices:nsIn K mainGlobals "NoPrices"=some (some (.ref c_NoPrices)))
  (xe_NoWidth:og K c_NoWidth f1=true) (xs_NoWidth:findIn K (.ref c_NoWidth) "__setattr__"=some (some (.builtin "object.__setattr__"))) (xm_NoWidth:mroIn K c_NoWidth (.type "object")=some true) (xn_NoWidth:findIn K (.ref c_NoWidth) "found"=some none) (xf_NoWidth:typeIn K (.ref f1)=some (.type "function")) (xk_NoWidth:keepIn K (.ref c_NoWidth)=true)
  (xe_NoDivisor:og K c_NoDivisor f2=true) (xs_NoDivisor:findIn K (.ref c_NoDivisor) "__setattr__"=some (some (.builtin "object.__setattr__"))) (xm_NoDivisor:mroIn K c_NoDivisor (.type "object")=some true) (xn_NoDivisor:findIn K (.ref c_NoDivisor) "found"=some none) (xf_NoDivisor:typeIn K (.ref f2)=some (.type "function")) (xk_NoDivisor:keepIn K (.ref c_NoDivisor)=true)
  (xe_NoForm:og K c_NoForm f3=true) (xs_NoForm:findIn K (.ref c_NoForm) "__setattr__"=some (some (.builtin "object.__setattr__"))) (xm_NoForm:mroIn K c_NoForm (.type "object")=some true) (xn_NoForm:findIn K (.ref c_NoForm) "found"=some none) (xf_NoForm:typeIn K (.ref f3)=some (.type "function")) (xk_NoForm:keepIn K (.ref c_NoForm)=true)
  (xe_NoPrices:og K c_NoPrices f4=true) (xs_NoPrices:findIn K (.ref c_NoPrices) "__setattr__"=some (some (.builtin "object.__setattr__"))) (xm_NoPrices:mroIn K c_NoPrices (.type "object")=some true) (xn_NoPrices:findIn K (.ref c_NoPrices) "found"=some none) (xf_NoPrices:typeIn K (.ref f4)=some (.type "function")) (xk_NoPrices:keepIn K (.ref c_NoPrices)=true)
  {dW_ROW_WORDS:Option Addr} {nW_ROW_WORDS:Nat} {sW_ROW_WORDS:Array (Option Value)} {u0_ROW_WORDS u1_ROW_WORDS u2_ROW_WORDS u3_ROW_WORDS u4_ROW_WORDS u5_ROW_WORDS u6_ROW_WORDS u7_ROW_WORDS u8_ROW_WORDS u9_ROW_WORDS u10_ROW_WORDS u11_ROW_WORDS u12_ROW_WORDS u13_ROW_WORDS u14_ROW_WORDS u15_ROW_WORDS:Tok} (aW_ROW_WORDS:nsIn K mainGlobals "ROW_WORDS"=some (some (.ref c_ROW_WORDS))) (lW_ROW_WORDS:K.lookup c_ROW_WORDS=some ⟨.type "tuple",dW_ROW_WORDS,.seq #[.str "set" u0_ROW_WORDS,.str "copy" u1_ROW_WORDS,.str "sum" u2_ROW_WORDS,.str "gap" u3_ROW_WORDS,.str "low" u4_ROW_WORDS,.str "high" u5_ROW_WORDS,.str "left" u6_ROW_WORDS,.str "right" u7_ROW_WORDS,.str "slide" u8_ROW_WORDS,.str "and" u9_ROW_WORDS,.str "or" u10_ROW_WORDS,.str "unlike" u11_ROW_WORDS,.str "under" u12_ROW_WORDS,.str "pick" u13_ROW_WORDS,.str "mark" u14_ROW_WORDS,.str "turns" u15_ROW_WORDS] nW_ROW_WORDS,sW_ROW_WORDS⟩)
  {eD_ROWS_AHEAD:Nat} {kD0_ROWS_AHEAD kD1_ROWS_AHEAD kD2_ROWS_AHEAD kD3_ROWS_AHEAD kD4_ROWS_AHEAD:Tok} {vD0_ROWS_AHEAD vD1_ROWS_AHEAD vD2_ROWS_AHEAD vD3_ROWS_AHEAD vD4_ROWS_AHEAD:Addr} (aW_ROWS_AHEAD:nsIn K mainGlobals "ROWS_AHEAD"=some (some (.ref c_ROWS_AHEAD))) (lW_ROWS_AHEAD:K.lookup c_ROWS_AHEAD=some ⟨.type "dict",none,.dict #[⟨PyData.keyHash w.params "shifted",.str "shifted" kD0_ROWS_AHEAD,.ref vD0_ROWS_AHEAD⟩,⟨PyData.keyHash w.params "scaled",.str "scaled" kD1_ROWS_AHEAD,.ref vD1_ROWS_AHEAD⟩,⟨PyData.keyHash w.params "early",.str "early" kD2_ROWS_AHEAD,.ref vD2_ROWS_AHEAD⟩,⟨PyData.keyHash w.params "more",.str "more" kD3_ROWS_AHEAD,.ref vD3_ROWS_AHEAD⟩,⟨PyData.keyHash w.params "wide",.str "wide" kD4_ROWS_AHEAD,.ref vD4_ROWS_AHEAD⟩] eD_ROWS_AHEAD,#[]⟩)
  {dD0_ROWS_AHEAD:Option Addr} {nD0_ROWS_AHEAD:Nat} {tD0_ROWS_AHEAD:Array (Option Value)}  (lD0_ROWS_AHEAD:K.lookup vD0_ROWS_AHEAD=some ⟨.type "tuple",dD0_ROWS_AHEAD,.seq #[] nD0_ROWS_AHEAD,tD0_ROWS_AHEAD⟩)
  {dD1_ROWS_AHEAD:Option Addr} {nD1_ROWS_AHEAD:Nat} {tD1_ROWS_AHEAD:Array (Option Value)} {uD1_0_ROWS_AHEAD uD1_1_ROWS_AHEAD:Tok} (lD1_ROWS_AHEAD:K.lookup vD1_ROWS_AHEAD=some ⟨.type "tuple",dD1_ROWS_AHEAD,.seq #[.str "set" uD1_0_ROWS_AHEAD,.str "high" uD1_1_ROWS_AHEAD] nD1_ROWS_AHEAD,tD1_ROWS_AHEAD⟩)
  {dD2_ROWS_AHEAD:Option Addr} {nD2_ROWS_AHEAD:Nat} {tD2_ROWS_AHEAD:Array (Option Value)} {uD2_0_ROWS_AHEAD uD2_1_ROWS_AHEAD uD2_2_ROWS_AHEAD:Tok} (lD2_ROWS_AHEAD:K.lookup vD2_ROWS_AHEAD=some ⟨.type "tuple",dD2_ROWS_AHEAD,.seq #[.str "right" uD2_0_ROWS_AHEAD,.str "set" uD2_1_ROWS_AHEAD,.str "high" uD2_2_ROWS_AHEAD] nD2_ROWS_AHEAD,tD2_ROWS_AHEAD⟩)
  {dD3_ROWS_AHEAD:Option Addr} {nD3_ROWS_AHEAD:Nat} {tD3_ROWS_AHEAD:Array (Option Value)} {uD3_0_ROWS_AHEAD uD3_1_ROWS_AHEAD uD3_2_ROWS_AHEAD uD3_3_ROWS_AHEAD uD3_4_ROWS_AHEAD:Tok} (lD3_ROWS_AHEAD:K.lookup vD3_ROWS_AHEAD=some ⟨.type "tuple",dD3_ROWS_AHEAD,.seq #[.str "set" uD3_0_ROWS_AHEAD,.str "low" uD3_1_ROWS_AHEAD,.str "sum" uD3_2_ROWS_AHEAD,.str "high" uD3_3_ROWS_AHEAD,.str "sum" uD3_4_ROWS_AHEAD] nD3_ROWS_AHEAD,tD3_ROWS_AHEAD⟩)
  {dD4_ROWS_AHEAD:Option Addr} {nD4_ROWS_AHEAD:Nat} {tD4_ROWS_AHEAD:Array (Option Value)} {uD4_0_ROWS_AHEAD uD4_1_ROWS_AHEAD uD4_2_ROWS_AHEAD uD4_3_ROWS_AHEAD uD4_4_ROWS_AHEAD:Tok} (lD4_ROWS_AHEAD:K.lookup vD4_ROWS_AHEAD=some ⟨.type "tuple",dD4_ROWS_AHEAD,.seq #[.str "set" uD4_0_ROWS_AHEAD,.str "high" uD4_1_ROWS_AHEAD,.str "gap" uD4_2_ROWS_AHEAD,.str "right" uD4_3_ROWS_AHEAD,.str "sum" uD4_4_ROWS_AHEAD] nD4_ROWS_AHEAD,tD4_ROWS_AHEAD⟩)
  (kf_if__NoWidth:isClsIn K c_NoWidth=true)
  (kf_tf_NoWidth:typeIn K (.ref c_NoWidth)=some (.type "type"))
  (kf_mf_NoWidth:mroIn K c_NoWidth (.ref c_NoWidth)=some true)
  (kf_wb_NoWidth:mroIn K c_NoWidth (.type "BaseException")=some true)
  (kf_ga_NoWidth:findIn K (.ref c_NoWidth) "__getattribute__"=some (some (.builtin "BaseException.__getattribute__")))
  (kf_gn_NoWidth:findIn K (.ref c_NoWidth) "__getattr__"=some none)
  (kf_gc_NoWidth:findIn K (.ref c_NoWidth) "__class__"=some (some (.builtin "object.__class__")))
  (kf_mo_NoWidth:mroIn K c_NoWidth (.type "object")=some true)
  (kf_mb_NoWidth:mroIn K c_NoWidth (.type "BaseException")=some true)
  (kf_hd_NoWidth:hasDictIn K c_NoWidth=true)
  (kf_nf_NoWidth:findIn K (.ref c_NoWidth) "found"=some none)
  (kf_m_NoWidth_NoDivisor:mroIn K c_NoWidth (.ref c_NoDivisor)=some false)
  (kf_m_NoWidth_NoForm:mroIn K c_NoWidth (.ref c_NoForm)=some false)
  (kf_m_NoWidth_NoPrices:mroIn K c_NoWidth (.ref c_NoPrices)=some false)
  (kf_if__NoDivisor:isClsIn K c_NoDivisor=true)
  (kf_tf_NoDivisor:typeIn K (.ref c_NoDivisor)=some (.type "type"))
  (kf_mf_NoDivisor:mroIn K c_NoDivisor (.ref c_NoDivisor)=some true)
  (kf_wb_NoDivisor:mroIn K c_NoDivisor (.type "BaseException")=some true)
  (kf_ga_NoDivisor:findIn K (.ref c_NoDivisor) "__getattribute__"=some (some (.builtin "BaseException.__getattribute__")))
  (kf_gn_NoDivisor:findIn K (.ref c_NoDivisor) "__getattr__"=some none)
  (kf_gc_NoDivisor:findIn K (.ref c_NoDivisor) "__class__"=some (some (.builtin "object.__class__")))
  (kf_mo_NoDivisor:mroIn K c_NoDivisor (.type "object")=some true)
  (kf_mb_NoDivisor:mroIn K c_NoDivisor (.type "BaseException")=some true)
  (kf_hd_NoDivisor:hasDictIn K c_NoDivisor=true)
  (kf_nf_NoDivisor:findIn K (.ref c_NoDivisor) "found"=some none)
  (kf_m_NoDivisor_NoWidth:mroIn K c_NoDivisor (.ref c_NoWidth)=some false)
  (kf_m_NoDivisor_NoForm:mroIn K c_NoDivisor (.ref c_NoForm)=some false)
  (kf_m_NoDivisor_NoPrices:mroIn K c_NoDivisor (.ref c_NoPrices)=some false)
  (kf_if__NoForm:isClsIn K c_NoForm=true)
  (kf_tf_NoForm:typeIn K (.ref c_NoForm)=some (.type "type"))
  (kf_mf_NoForm:mroIn K c_NoForm (.ref c_NoForm)=some true)
  (kf_wb_NoForm:mroIn K c_NoForm (.type "BaseException")=some true)
  (kf_ga_NoForm:findIn K (.ref c_NoForm) "__getattribute__"=some (some (.builtin "BaseException.__getattribute__")))
  (kf_gn_NoForm:findIn K (.ref c_NoForm) "__getattr__"=some none)
  (kf_gc_NoForm:findIn K (.ref c_NoForm) "__class__"=some (some (.builtin "object.__class__")))
  (kf_mo_NoForm:mroIn K c_NoForm (.type "object")=some true)
  (kf_mb_NoForm:mroIn K c_NoForm (.type "BaseException")=some true)
  (kf_hd_NoForm:hasDictIn K c_NoForm=true)
  (kf_nf_NoForm:findIn K (.ref c_NoForm) "found"=some none)
  (kf_m_NoForm_NoWidth:mroIn K c_NoForm (.ref c_NoWidth)=some false)
  (kf_m_NoForm_NoDivisor:mroIn K c_NoForm (.ref c_NoDivisor)=some false)
  (kf_m_NoForm_NoPrices:mroIn K c_NoForm (.ref c_NoPrices)=some false)
  (kf_if__NoPrices:isClsIn K c_NoPrices=true)
  (kf_tf_NoPrices:typeIn K (.ref c_NoPrices)=some (.type "type"))
  (kf_mf_NoPrices:mroIn K c_NoPrices (.ref c_NoPrices)=some true)
  (kf_wb_NoPrices:mroIn K c_NoPrices (.type "BaseException")=some true)
  (kf_ga_NoPrices:findIn K (.ref c_NoPrices) "__getattribute__"=some (some (.builtin "BaseException.__getattribute__")))
  (kf_gn_NoPrices:findIn K (.ref c_NoPrices) "__getattr__"=some none)
  (kf_gc_NoPrices:findIn K (.ref c_NoPrices) "__class__"=some (some (.builtin "object.__class__")))
  (kf_mo_NoPrices:mroIn K c_NoPrices (.type "object")=some true)
  (kf_mb_NoPrices:mroIn K c_NoPrices (.type "BaseException")=some true)
  (kf_hd_NoPrices:hasDictIn K c_NoPrices=true)
  (kf_nf_NoPrices:findIn K (.ref c_NoPrices) "found"=some none)
  (kf_m_NoPrices_NoWidth:mroIn K c_NoPrices (.ref c_NoWidth)=some false)
  (kf_m_NoPrices_NoDivisor:mroIn K c_NoPrices (.ref c_NoDivisor)=some false)
  (kf_m_NoPrices_NoForm:mroIn K c_NoPrices (.ref c_NoForm)=some false)
  {cT0 PT0:Addr} (hcT0:cd41=.ref cT0)
  {cT1 PT1:Addr} (hcT1:cd56=.ref cT1)
  {cT2 PT2:Addr} (hcT2:cd70=.ref cT2)
  (hne:mJ [PT0,PT1,PT2])
  (z_isinstance:nsIn K mainGlobals "isinstance"=some none) (z_int:nsIn K mainGlobals "int"=some none) (z_bool:nsIn K mainGlobals "bool"=some none) (z_str:nsIn K mainGlobals "str"=some none) (z_list:nsIn K mainGlobals "list"=some none) (z_tuple:nsIn K mainGlobals "tuple"=some none) (z_dict:nsIn K mainGlobals "dict"=some none) (z_len:nsIn K mainGlobals "len"=some none) (z_max:nsIn K mainGlobals "max"=some none) (z_min:nsIn K mainGlobals "min"=some none) (z_range:nsIn K mainGlobals "range"=some none) (z_sorted:nsIn K mainGlobals "sorted"=some none) (z_set:nsIn K mainGlobals "set"=some none) (z_all:nsIn K mainGlobals "all"=some none) (z_sum:nsIn K mainGlobals "sum"=some none) (z_repr:nsIn K mainGlobals "repr"=some none) :
  ∃ fd:FuncData,(∀ (s:Shared) (v:Value),BindsTo s fd ⟨[v],[]⟩ [("_law_script",v)])/\∀ base:Heap,K.In base->base.Ns mainGlobals mg->(∀ t∈[(cT0,PT0),(cT1,PT1),(cT2,PT2)],LamBase mg base t.1 t.2)->FnOk l.prog w K mg base CX0 23 fa fd ["_law_script"] ((spLaw K PT0 PT1 PT2)):=by
 have e:=hfa.symm.trans (mg_of X G a73)
 cases e
 let cc:Ad:=⟨c_Shifted,c_Scaled,c_Early,c_More,c_Wide,c_NoWidth,c_NoDivisor,c_NoForm,c_NoPrices,c_ROW_WORDS,c_ROWS_AHEAD⟩
 have T:Txt K mg cc:=⟨mg_none_of X G z_isinstance,mg_none_of X G z_int,mg_none_of X G z_bool,mg_none_of X G z_str,mg_none_of X G z_list,mg_none_of X G z_tuple,mg_none_of X G z_dict,mg_none_of X G z_len,mg_none_of X G z_max,mg_none_of X G z_min,mg_none_of X G z_range,mg_none_of X G z_sorted,mg_none_of X G z_set,mg_none_of X G z_all,mg_none_of X G z_sum,mg_none_of X G z_repr,mg_of X G aC_Shifted,⟨pg_Shifted,hd_Shifted,po_Shifted,sa_Shifted⟩,na_Shifted_shift,mg_of X G aC_Scaled,⟨pg_Scaled,hd_Scaled,po_Scaled,sa_Scaled⟩,na_Scaled_factor,na_Scaled_shift,mg_of X G aC_Early,⟨pg_Early,hd_Early,po_Early,sa_Early⟩,na_Early_early,na_Early_factor,na_Early_shift,mg_of X G aC_More,⟨pg_More,hd_More,po_More,sa_More⟩,na_More_factor,na_More_shift,mg_of X G aC_Wide,⟨pg_Wide,hd_Wide,po_Wide,sa_Wide⟩,na_Wide_factor,na_Wide_shift,mg_of X G aC_NoWidth,mg_of X G aC_NoDivisor,mg_of X G aC_NoForm,mg_of X G aC_NoPrices,mg_of X G aW_ROW_WORDS,fun H=>.inr ⟨_,_,_,lW_ROW_WORDS,rfl,rfl,(by show 16<=sizeLine; decide),.cons ⟨_,rfl⟩ (.cons ⟨_,rfl⟩ (.cons ⟨_,rfl⟩ (.cons ⟨_,rfl⟩ (.cons ⟨_,rfl⟩ (.cons ⟨_,rfl⟩ (.cons ⟨_,rfl⟩ (.cons ⟨_,rfl⟩ (.cons ⟨_,rfl⟩ (.cons ⟨_,rfl⟩ (.cons ⟨_,rfl⟩ (.cons ⟨_,rfl⟩ (.cons ⟨_,rfl⟩ (.cons ⟨_,rfl⟩ (.cons ⟨_,rfl⟩ (.cons ⟨_,rfl⟩ (.nil))))))))))))))))⟩,mg_of X G aW_ROWS_AHEAD,kf_if__NoWidth,kf_tf_NoWidth,kf_mf_NoWidth,kf_wb_NoWidth,kf_ga_NoWidth,kf_gn_NoWidth,kf_gc_NoWidth,kf_mo_NoWidth,kf_mb_NoWidth,kf_hd_NoWidth,kf_nf_NoWidth,kf_m_NoWidth_NoDivisor,kf_m_NoWidth_NoForm,kf_m_NoWidth_NoPrices,kf_if__NoDivisor,kf_tf_NoDivisor,kf_mf_NoDivisor,kf_wb_NoDivisor,kf_ga_NoDivisor,kf_gn_NoDivisor,kf_gc_NoDivisor,kf_mo_NoDivisor,kf_mb_NoDivisor,kf_hd_NoDivisor,kf_nf_NoDivisor,kf_m_NoDivisor_NoWidth,kf_m_NoDivisor_NoForm,kf_m_NoDivisor_NoPrices,kf_if__NoForm,kf_tf_NoForm,kf_mf_NoForm,kf_wb_NoForm,kf_ga_NoForm,kf_gn_NoForm,kf_gc_NoForm,kf_mo_NoForm,kf_mb_NoForm,kf_hd_NoForm,kf_nf_NoForm,kf_m_NoForm_NoWidth,kf_m_NoForm_NoDivisor,kf_m_NoForm_NoPrices,kf_if__NoPrices,kf_tf_NoPrices,kf_mf_NoPrices,kf_wb_NoPrices,kf_ga_NoPrices,kf_gn_NoPrices,kf_gc_NoPrices,kf_mo_NoPrices,kf_mb_NoPrices,kf_hd_NoPrices,kf_nf_NoPrices,kf_m_NoPrices_NoWidth,kf_m_NoPrices_NoDivisor,kf_m_NoPrices_NoForm⟩
 obtain ⟨_,F1,k1,b1⟩:=l1.bs ["self","found"] fun _ _ _ _ _ _ _ _=>rfl
 obtain ⟨_,F2,k2,b2⟩:=l2.bs ["self","found"] fun _ _ _ _ _ _ _ _=>rfl
 obtain ⟨_,F3,k3,b3⟩:=l3.bs ["self","found"] fun _ _ _ _ _ _ _ _=>rfl
 obtain ⟨_,F4,k4,b4⟩:=l4.bs ["self","found"] fun _ _ _ _ _ _ _ _=>rfl
 obtain ⟨_,F5,k5,b5⟩:=l5.bs ["thing"] fun _ _ _ _ _ _ _=>rfl
 obtain ⟨_,F6,k6,b6⟩:=l6.bs ["thing","low","high"] fun _ _ _ _ _ _ _ _ _=>rfl
 obtain ⟨_,F7,k7,b7⟩:=l7.bs ["width"] fun _ _ _ _ _ _ _=>rfl
 obtain ⟨_,F8,k8,b8⟩:=l8.bs ["width","thing"] fun _ _ _ _ _ _ _ _=>rfl
 obtain ⟨_,F9,k9,b9⟩:=l9.bs ["width","d"] fun _ _ _ _ _ _ _ _=>rfl
 obtain ⟨_,F10,k10,b10⟩:=l10.bs ["d"] fun _ _ _ _ _ _ _=>rfl
 obtain ⟨_,F11,k11,b11⟩:=l11.bs ["reckoning","x"] fun _ _ _ _ _ _ _ _=>rfl
 obtain ⟨_,F12,k12,b12⟩:=l12.bs ["self","shift"] fun _ _ _ _ _ _ _ _=>rfl
 obtain ⟨_,F13,k13,b13⟩:=l13.bs ["self"] fun _ _ _ _ _ _ _=>rfl
 obtain ⟨_,F14,k14,b14⟩:=l14.bs ["self"] fun _ _ _ _ _ _ _=>rfl
 obtain ⟨_,F15,k15,b15⟩:=l15.bs ["self","width"] fun _ _ _ _ _ _ _ _=>rfl
 obtain ⟨_,F16,k16,b16⟩:=l16.bs ["self","factor","shift"] fun _ _ _ _ _ _ _ _ _=>rfl
 obtain ⟨_,F17,k17,b17⟩:=l17.bs ["self"] fun _ _ _ _ _ _ _=>rfl
 obtain ⟨_,F18,k18,b18⟩:=l18.bs ["self"] fun _ _ _ _ _ _ _=>rfl
 obtain ⟨_,F19,k19,b19⟩:=l19.bs ["self","width"] fun _ _ _ _ _ _ _ _=>rfl
 obtain ⟨_,F20,k20,b20⟩:=l20.bs ["self","early","factor","shift"] fun _ _ _ _ _ _ _ _ _ _=>rfl
 obtain ⟨_,F21,k21,b21⟩:=l21.bs ["self"] fun _ _ _ _ _ _ _=>rfl
 obtain ⟨_,F22,k22,b22⟩:=l22.bs ["self"] fun _ _ _ _ _ _ _=>rfl
 obtain ⟨_,F23,k23,b23⟩:=l23.bs ["self","width"] fun _ _ _ _ _ _ _ _=>rfl
 obtain ⟨_,F24,k24,b24⟩:=l24.bs ["self","factor","shift"] fun _ _ _ _ _ _ _ _ _=>rfl
 obtain ⟨_,F25,k25,b25⟩:=l25.bs ["self"] fun _ _ _ _ _ _ _=>rfl
 obtain ⟨_,F26,k26,b26⟩:=l26.bs ["self"] fun _ _ _ _ _ _ _=>rfl
 obtain ⟨_,F27,k27,b27⟩:=l27.bs ["self","width"] fun _ _ _ _ _ _ _ _=>rfl
 obtain ⟨_,F28,k28,b28⟩:=l28.bs ["self","factor","shift"] fun _ _ _ _ _ _ _ _ _=>rfl
 obtain ⟨_,F29,k29,b29⟩:=l29.bs ["self"] fun _ _ _ _ _ _ _=>rfl
 obtain ⟨_,F30,k30,b30⟩:=l30.bs ["self"] fun _ _ _ _ _ _ _=>rfl
 obtain ⟨_,F31,k31,b31⟩:=l31.bs ["self","width"] fun _ _ _ _ _ _ _ _=>rfl
 obtain ⟨_,F32,k32,b32⟩:=l32.bs ["thing"] fun _ _ _ _ _ _ _=>rfl
 obtain ⟨_,F33,k33,b33⟩:=l33.bs ["thing"] fun _ _ _ _ _ _ _=>rfl
 obtain ⟨_,F34,k34,b34⟩:=l34.bs ["thing"] fun _ _ _ _ _ _ _=>rfl
 obtain ⟨_,F35,k35,b35⟩:=l35.bs ["width","d","reckoning"] fun _ _ _ _ _ _ _ _ _=>rfl
 obtain ⟨_,F36,k36,b36⟩:=l36.bs ["width","d","form"] fun _ _ _ _ _ _ _ _ _=>rfl
 obtain ⟨_,F37,k37,b37⟩:=l37.bs ["last","d"] fun _ _ _ _ _ _ _ _=>rfl
 obtain ⟨_,F38,k38,b38⟩:=l38.bs ["width","d"] fun _ _ _ _ _ _ _ _=>rfl
 obtain ⟨_,F39,k39,b39⟩:=l39.bs ["last","d","reckoning"] fun _ _ _ _ _ _ _ _ _=>rfl
 obtain ⟨_,F40,k40,b40⟩:=l40.bs ["last","holds"] fun _ _ _ _ _ _ _ _=>rfl
 have F41:=mj (st:=aI) l41 c41 k41
 have b41:=F41.binds (ps:=["width","d","reckoning"]) fun _ _ _ _ _ _ us hl=>match us,hl with | [_,_,_],_=>rfl
 obtain ⟨_,F42,k42,b42⟩:=l42.bs ["width","d","reckoning"] fun _ _ _ _ _ _ _ _ _=>rfl
 obtain ⟨_,F43,k43,b43⟩:=l43.bs ["width","d","form"] fun _ _ _ _ _ _ _ _ _=>rfl
 obtain ⟨_,F44,k44,b44⟩:=l44.bs ["width","d","reckoning"] fun _ _ _ _ _ _ _ _ _=>rfl
 obtain ⟨_,F45,k45,b45⟩:=l45.bs ["width","d","form"] fun _ _ _ _ _ _ _ _ _=>rfl
 obtain ⟨_,F46,k46,b46⟩:=l46.bs ["width","d","form","thing"] fun _ _ _ _ _ _ _ _ _ _=>rfl
 obtain ⟨_,F47,k47,b47⟩:=l47.bs ["prices"] fun _ _ _ _ _ _ _=>rfl
 obtain ⟨_,F48,k48,b48⟩:=l48.bs ["top","bottom"] fun _ _ _ _ _ _ _ _=>rfl
 obtain ⟨_,F49,k49,b49⟩:=l49.bs ["width","d"] fun _ _ _ _ _ _ _ _=>rfl
 obtain ⟨_,F50,k50,b50⟩:=l50.bs ["width","d"] fun _ _ _ _ _ _ _ _=>rfl
 obtain ⟨_,F51,k51,b51⟩:=l51.bs ["width","d"] fun _ _ _ _ _ _ _ _=>rfl
 obtain ⟨_,F52,k52,b52⟩:=l52.bs ["width","d"] fun _ _ _ _ _ _ _ _=>rfl
 obtain ⟨_,F53,k53,b53⟩:=l53.bs ["form"] fun _ _ _ _ _ _ _=>rfl
 obtain ⟨_,F54,k54,b54⟩:=l54.bs ["form","prices"] fun _ _ _ _ _ _ _ _=>rfl
 obtain ⟨_,F55,k55,b55⟩:=l55.bs ["forms","wrong"] fun _ _ _ _ _ _ _ _=>rfl
 have F56:=mj (st:=bB) l56 c56 k56
 have b56:=F56.binds (ps:=["width","d","prices"]) fun _ _ _ _ _ _ us hl=>match us,hl with | [_,_,_],_=>rfl
 obtain ⟨_,F57,k57,b57⟩:=l57.bs ["width","d","k"] fun _ _ _ _ _ _ _ _ _=>rfl
 obtain ⟨_,F58,k58,b58⟩:=l58.bs ["width","d","total"] fun _ _ _ _ _ _ _ _ _=>rfl
 obtain ⟨_,F59,k59,b59⟩:=l59.bs ["width","d"] fun _ _ _ _ _ _ _ _=>rfl
 obtain ⟨_,F60,k60,b60⟩:=l60.bs ["_law_script","_law_k"] fun _ _ _ _ _ _ _ _=>rfl
 obtain ⟨_,F61,k61,b61⟩:=l61.bs ["_law_state","_law_size"] fun _ _ _ _ _ _ _ _=>rfl
 obtain ⟨_,F62,k62,b62⟩:=l62.bs ["_law_d"] fun _ _ _ _ _ _ _=>rfl
 obtain ⟨_,F63,k63,b63⟩:=l63.bs ["_law_state","_law_width"] fun _ _ _ _ _ _ _ _=>rfl
 obtain ⟨_,F64,k64,b64⟩:=l64.bs [] fun _ _ _ _ _ _=>rfl
 obtain ⟨_,F65,k65,b65⟩:=l65.bs ["_law_state"] fun _ _ _ _ _ _ _=>rfl
 obtain ⟨_,F66,k66,b66⟩:=l66.bs ["_law_state"] fun _ _ _ _ _ _ _=>rfl
 obtain ⟨_,F67,k67,b67⟩:=l67.bs ["_law_state"] fun _ _ _ _ _ _ _=>rfl
 obtain ⟨_,F68,k68,b68⟩:=l68.bs ["_law_state","_law_last"] fun _ _ _ _ _ _ _ _=>rfl
 obtain ⟨_,F69,k69,b69⟩:=l69.bs ["_law_state","_law_numbers","_law_twos_here"] fun _ _ _ _ _ _ _ _ _=>rfl
 have F70:=mj (st:=aC) l70 c70 k70
 have b70:=F70.binds (ps:=["_law_width","_law_d","_law_numbers","_law_form","_law_prices_here"]) fun _ _ _ _ _ _ us hl=>match us,hl with | [_,_,_,_,_],_=>rfl
 obtain ⟨_,F71,k71,b71⟩:=l71.bs ["_law_door"] fun _ _ _ _ _ _ _=>rfl
 obtain ⟨_,F72,k72,b72⟩:=l72.bs ["_law_state"] fun _ _ _ _ _ _ _=>rfl
 have F73:=mj (st:=ki) l73 c73 k73
 refine⟨fnOf "law" "law" (cg ki) (aU ki) (aj ki) .none kV73 dc73 pm73 an73 cd73 ct73,fun s v=>.of_eq rfl,fun base _ _ LB=>?_⟩
 have B0:LamBase mg base cT0 PT0:=LB (cT0,PT0) (List.mem_of_elem_eq_true (by simp))
 have B1:LamBase mg base cT1 PT1:=LB (cT1,PT1) (List.mem_of_elem_eq_true (by simp))
 have B2:LamBase mg base cT2 PT2:=LB (cT2,PT2) (List.mem_of_elem_eq_true (by simp))
 have Q_NoWidth:XCls K c_NoWidth f1 "found":=⟨xe_NoWidth,xs_NoWidth,xm_NoWidth,xn_NoWidth,xf_NoWidth,xk_NoWidth⟩
 have X_NoWidth:XHas l.prog w K mg base 1 "NoWidth" c_NoWidth "found":=⟨_,_,_,_,fN F1 T Q_NoWidth,b1,Q_NoWidth,mg_of X G aC_NoWidth⟩
 have Q_NoDivisor:XCls K c_NoDivisor f2 "found":=⟨xe_NoDivisor,xs_NoDivisor,xm_NoDivisor,xn_NoDivisor,xf_NoDivisor,xk_NoDivisor⟩
 have X_NoDivisor:XHas l.prog w K mg base 1 "NoDivisor" c_NoDivisor "found":=⟨_,_,_,_,dL F2 T Q_NoDivisor,b2,Q_NoDivisor,mg_of X G aC_NoDivisor⟩
 have Q_NoForm:XCls K c_NoForm f3 "found":=⟨xe_NoForm,xs_NoForm,xm_NoForm,xn_NoForm,xf_NoForm,xk_NoForm⟩
 have X_NoForm:XHas l.prog w K mg base 1 "NoForm" c_NoForm "found":=⟨_,_,_,_,fT F3 T Q_NoForm,b3,Q_NoForm,mg_of X G aC_NoForm⟩
 have Q_NoPrices:XCls K c_NoPrices f4 "found":=⟨xe_NoPrices,xs_NoPrices,xm_NoPrices,xn_NoPrices,xf_NoPrices,xk_NoPrices⟩
 have X_NoPrices:XHas l.prog w K mg base 1 "NoPrices" c_NoPrices "found":=⟨_,_,_,_,eR F4 T Q_NoPrices,b4,Q_NoPrices,mg_of X G aC_NoPrices⟩
 have H_is_whole:Has l.prog w K mg base 1 "is_whole" ["thing"] iP:=⟨_,_,nV F5 T ,b5,k5,mg_of X G a5⟩
 have W_is_whole:Has l.prog w K mg base 1 "is_whole" ["thing"] qH:=H_is_whole.imp rB
 have H_is_between:Has l.prog w K mg base 2 "is_between" ["thing","low","high"] ii:=⟨_,_,kR F6 T H_is_whole,b6,k6,mg_of X G a6⟩
 have W_is_between:Has l.prog w K mg base 2 "is_between" ["thing","low","high"] dY:=H_is_between.imp nH
 have H_is_shift:Has l.prog w K mg base 3 "is_shift" ["thing"] pS:=⟨_,_,oy F33 T W_is_between,b33,k33,mg_of X G a33⟩
 have C_Shifted:CHas l.prog w K mg base 4 c_Shifted "Shifted" ["self","shift"] (spI0 cc):=⟨_,_,⟨mk_Shifted,a12,i12,kc_Shifted⟩,e9 F12 T H_is_shift,b12,mg_of X G aC_Shifted⟩
 have M_Shifted_word:MHas l.prog w K mg base 1 c_Shifted "word" ["self"] (lY 0):=⟨T.cl_Shifted,_,_,⟨a13,i13,k13⟩,iS F13 T ,b13⟩
 have M_Shifted_told:MHas l.prog w K mg base 2 c_Shifted "told" ["self"] (dA cc 0):=⟨T.cl_Shifted,_,_,⟨a14,i14,k14⟩,iX F14 T  M_Shifted_word,b14⟩
 have H_need_width:HasY l.prog w K mg base 3 "need_width" ["width"] (spNWY cc):=⟨_,_,kX F7 T H_is_between X_NoWidth,b7,k7,mg_of X G a7⟩
 have W_need_width:Has l.prog w K mg base 3 "need_width" ["width"] fh:=H_need_width.calm qJ
 have M_Shifted_numbers_in:MHas l.prog w K mg base 4 c_Shifted "numbers_in" ["self","width"] (cm cc 0):=⟨T.cl_Shifted,_,_,⟨a15,i15,k15⟩,dI F15 T W_need_width,b15⟩
 have H_is_factor:Has l.prog w K mg base 3 "is_factor" ["thing"] qg:=⟨_,_,mh F32 T W_is_between,b32,k32,mg_of X G a32⟩
 have C_Scaled:CHas l.prog w K mg base 4 c_Scaled "Scaled" ["self","factor","shift"] (spI2 cc 1 0):=⟨_,_,⟨mk_Scaled,a16,i16,kc_Scaled⟩,gj F16 T H_is_factor H_is_shift,b16,mg_of X G aC_Scaled⟩
 have M_Scaled_word:MHas l.prog w K mg base 1 c_Scaled "word" ["self"] (lY 1):=⟨T.cl_Scaled,_,_,⟨a17,i17,k17⟩,jL F17 T ,b17⟩
 have M_Scaled_told:MHas l.prog w K mg base 2 c_Scaled "told" ["self"] (dA cc 1):=⟨T.cl_Scaled,_,_,⟨a18,i18,k18⟩,jK F18 T  M_Scaled_word,b18⟩
 have M_Scaled_numbers_in:MHas l.prog w K mg base 4 c_Scaled "numbers_in" ["self","width"] (cm cc 1):=⟨T.cl_Scaled,_,_,⟨a19,i19,k19⟩,eO F19 T W_need_width,b19⟩
 have C_Early:CHas l.prog w K mg base 4 c_Early "Early" ["self","early","factor","shift"] (spI3 cc):=⟨_,_,⟨mk_Early,a20,i20,kc_Early⟩,gH F20 T H_is_shift H_is_factor,b20,mg_of X G aC_Early⟩
 have M_Early_word:MHas l.prog w K mg base 1 c_Early "word" ["self"] (lY 2):=⟨T.cl_Early,_,_,⟨a21,i21,k21⟩,kj F21 T ,b21⟩
 have M_Early_told:MHas l.prog w K mg base 2 c_Early "told" ["self"] (dA cc 2):=⟨T.cl_Early,_,_,⟨a22,i22,k22⟩,kT F22 T  M_Early_word,b22⟩
 have M_Early_numbers_in:MHas l.prog w K mg base 4 c_Early "numbers_in" ["self","width"] (cm cc 2):=⟨T.cl_Early,_,_,⟨a23,i23,k23⟩,fB F23 T W_need_width,b23⟩
 have C_More:CHas l.prog w K mg base 4 c_More "More" ["self","factor","shift"] (spI2 cc 3 0):=⟨_,_,⟨mk_More,a24,i24,kc_More⟩,iJ F24 T H_is_factor H_is_shift,b24,mg_of X G aC_More⟩
 have M_More_word:MHas l.prog w K mg base 1 c_More "word" ["self"] (lY 3):=⟨T.cl_More,_,_,⟨a25,i25,k25⟩,ly F25 T ,b25⟩
 have M_More_told:MHas l.prog w K mg base 2 c_More "told" ["self"] (dA cc 3):=⟨T.cl_More,_,_,⟨a26,i26,k26⟩,lC F26 T  M_More_word,b26⟩
 have M_More_numbers_in:MHas l.prog w K mg base 4 c_More "numbers_in" ["self","width"] (cm cc 3):=⟨T.cl_More,_,_,⟨a27,i27,k27⟩,gy F27 T W_need_width,b27⟩
 have C_Wide:CHas l.prog w K mg base 4 c_Wide "Wide" ["self","factor","shift"] (spI2 cc 4 1):=⟨_,_,⟨mk_Wide,a28,i28,kc_Wide⟩,iG F28 T H_is_factor W_is_between,b28,mg_of X G aC_Wide⟩
 have M_Wide_word:MHas l.prog w K mg base 1 c_Wide "word" ["self"] (lY 4):=⟨T.cl_Wide,_,_,⟨a29,i29,k29⟩,lu F29 T ,b29⟩
 have M_Wide_told:MHas l.prog w K mg base 2 c_Wide "told" ["self"] (dA cc 4):=⟨T.cl_Wide,_,_,⟨a30,i30,k30⟩,lP F30 T  M_Wide_word,b30⟩
 have M_Wide_numbers_in:MHas l.prog w K mg base 4 c_Wide "numbers_in" ["self","width"] (cm cc 4):=⟨T.cl_Wide,_,_,⟨a31,i31,k31⟩,gu F31 T W_need_width,b31⟩
 have MN:∀ i,i<5->MHas l.prog w K mg base 4 (fOf cc i) "numbers_in" ["self","width"] (cm cc i):=fun i hi=>by
  rcases(by omega:i=0\/i=1\/i=2\/i=3\/i=4) with rfl | rfl | rfl | rfl | rfl
  ·exact M_Shifted_numbers_in
  ·exact M_Scaled_numbers_in
  ·exact M_Early_numbers_in
  ·exact M_More_numbers_in
  ·exact M_Wide_numbers_in
 have MW:∀ i,i<5->MHas l.prog w K mg base 1 (fOf cc i) "word" ["self"] (lY i):=fun i hi=>by
  rcases(by omega:i=0\/i=1\/i=2\/i=3\/i=4) with rfl | rfl | rfl | rfl | rfl
  ·exact M_Shifted_word
  ·exact M_Scaled_word
  ·exact M_Early_word
  ·exact M_More_word
  ·exact M_Wide_word
 have MT:∀ i,i<5->MHas l.prog w K mg base 2 (fOf cc i) "told" ["self"] (dA cc i):=fun i hi=>by
  rcases(by omega:i=0\/i=1\/i=2\/i=3\/i=4) with rfl | rfl | rfl | rfl | rfl
  ·exact M_Shifted_told
  ·exact M_Scaled_told
  ·exact M_Early_told
  ·exact M_More_told
  ·exact M_Wide_told
 have RA:RowsA K l.prog w c_ROWS_AHEAD:=by
  refine⟨fun i=>match i with | 0=>kD0_ROWS_AHEAD | 1=>kD1_ROWS_AHEAD | 2=>kD2_ROWS_AHEAD | 3=>kD3_ROWS_AHEAD | _=>kD4_ROWS_AHEAD,fun i=>match i with | 0=>vD0_ROWS_AHEAD | 1=>vD1_ROWS_AHEAD | 2=>vD2_ROWS_AHEAD | 3=>vD3_ROWS_AHEAD | _=>vD4_ROWS_AHEAD,gd_mk lW_ROWS_AHEAD (ents_nd _ _) ⟨rfl,rfl,rfl⟩,fun i hi H=>?_⟩
  rcases(by omega:i=0\/i=1\/i=2\/i=3\/i=4) with rfl | rfl | rfl | rfl | rfl
  ·exact .inr ⟨_,_,_,lD0_ROWS_AHEAD,rfl,rfl,(by show 0<=sizeLine; decide),.nil⟩
  ·exact .inr ⟨_,_,_,lD1_ROWS_AHEAD,rfl,rfl,(by show 2<=sizeLine; decide),.cons ⟨_,rfl⟩ (.cons ⟨_,rfl⟩ (.nil))⟩
  ·exact .inr ⟨_,_,_,lD2_ROWS_AHEAD,rfl,rfl,(by show 3<=sizeLine; decide),.cons ⟨_,rfl⟩ (.cons ⟨_,rfl⟩ (.cons ⟨_,rfl⟩ (.nil)))⟩
  ·exact .inr ⟨_,_,_,lD3_ROWS_AHEAD,rfl,rfl,(by show 5<=sizeLine; decide),.cons ⟨_,rfl⟩ (.cons ⟨_,rfl⟩ (.cons ⟨_,rfl⟩ (.cons ⟨_,rfl⟩ (.cons ⟨_,rfl⟩ (.nil)))))⟩
  ·exact .inr ⟨_,_,_,lD4_ROWS_AHEAD,rfl,rfl,(by show 5<=sizeLine; decide),.cons ⟨_,rfl⟩ (.cons ⟨_,rfl⟩ (.cons ⟨_,rfl⟩ (.cons ⟨_,rfl⟩ (.cons ⟨_,rfl⟩ (.nil)))))⟩
 have H__law_draw:Has l.prog w K mg base 1 "_law_draw" ["_law_state","_law_size"] gE:=⟨_,_,lO F61 T ,b61,k61,mg_of X G a61⟩
 have H__law_divisor:Has l.prog w K mg base 2 "_law_divisor" ["_law_state","_law_width"] spDiv:=⟨_,_,i7 F63 T H__law_draw,b63,k63,mg_of X G a63⟩
 have H__law_twos:Has l.prog w K mg base 1 "_law_twos" ["_law_d"] ij:=⟨_,_,lV F62 T ,b62,k62,mg_of X G a62⟩
 have H__law_row_words:Has l.prog w K mg base 1 "_law_row_words" [] spRW:=⟨_,_,ic F64 T ,b64,k64,mg_of X G a64⟩
 have H__law_prices:Has l.prog w K mg base 2 "_law_prices" ["_law_state"] spPr:=⟨_,_,jJ F65 T H__law_draw H__law_row_words,b65,k65,mg_of X G a65⟩
 have H_need_divisor:HasY l.prog w K mg base 4 "need_divisor" ["width","d"] (pV cc):=⟨_,_,iQ F9 T H_need_width H_is_between X_NoDivisor,b9,k9,mg_of X G a9⟩
 have H_corners_to:Has l.prog w K mg base 1 "corners_to" ["last","d"] fY:=⟨_,_,kF F37 T ,b37,k37,mg_of X G a37⟩
 have H_corner_words:HasY l.prog w K mg base 5 "corner_words" ["width","d"] (spCW cc):=⟨_,_,jg F38 T H_need_divisor H_corners_to,b38,k38,mg_of X G a38⟩
 have H_ceiling:Has l.prog w K mg base 1 "ceiling" ["top","bottom"] hV:=⟨_,_,pK F48 T ,b48,k48,mg_of X G a48⟩
 have H_scaled_candidates:Has l.prog w K mg base 6 "scaled_candidates" ["width","d"] (spScC cc):=⟨_,_,eM F50 T H_ceiling C_Scaled,b50,k50,mg_of X G a50⟩
 have H_twos_in:Has l.prog w K mg base 1 "twos_in" ["d"] ij:=⟨_,_,pI F10 T ,b10,k10,mg_of X G a10⟩
 have H_early_candidates:Has l.prog w K mg base 7 "early_candidates" ["width","d"] (spEaC cc):=⟨_,_,eZ F51 T H_twos_in H_scaled_candidates C_Early,b51,k51,mg_of X G a51⟩
 have H_more_candidates:Has l.prog w K mg base 6 "more_candidates" ["width","d"] (spMoC cc):=⟨_,_,gx F52 T C_More,b52,k52,mg_of X G a52⟩
 have H_candidates:HasY l.prog w K mg base 8 "candidates" ["width","d"] (spCd cc):=⟨_,_,kb F49 T H_need_divisor H_scaled_candidates H_early_candidates H_more_candidates H_ceiling C_Shifted C_Wide,b49,k49,mg_of X G a49⟩
 have H_brought:Has l.prog w K mg base 1 "brought" ["reckoning","x"] ll:=⟨_,_,p7 F11 T ,b11,k11,mg_of X G a11⟩
 have H_right_to:Has l.prog w K mg base 2 "right_to" ["last","d","reckoning"] cF:=⟨_,_,mU F39 T H_brought H_corners_to,b39,k39,mg_of X G a39⟩
 have H_first_failing:HasS l.prog w K mg base 4 "first_failing" ["last","holds"] (spFF K):=⟨_,_,iF F40 T  H_right_to,b40,k40,mg_of X G a40⟩
 have H_least_wrong:Has l.prog w K mg base 5 "least_wrong" ["width","d","reckoning"] (iU PT0):=⟨_,_,jF F41 T H_right_to H_first_failing B0 hcT0,b41,k41,mg_of X G a41⟩
 have H_why_none:HasY l.prog w K mg base 6 "why_none" ["width","d","k"] (spWN cc PT0):=⟨_,_,mP F57 T H_need_divisor H_ceiling H_least_wrong,b57,k57,mg_of X G a57⟩
 have H_line_at:HasY l.prog w K mg base 5 "line_at" ["width","d","total"] (spLA cc):=⟨_,_,qa F58 T H_need_divisor H_ceiling H_right_to,b58,k58,mg_of X G a58⟩
 have H_least_total:HasY l.prog w K mg base 6 "least_total" ["width","d"] (spLT cc):=⟨_,_,jG F59 T H_line_at,b59,k59,mg_of X G a59⟩
 have H_need_form:HasY l.prog w K mg base 5 "need_form" ["width","d","form"] (spNF cc):=⟨_,_,mC F36 T H_need_divisor H_twos_in X_NoForm MN MT,b36,k36,mg_of X G a36⟩
 have H_is_right:HasY l.prog w K mg base 6 "is_right" ["width","d","form"] (ou cc):=⟨_,_,nZ F43 T H_need_form H_right_to MN,b43,k43,mg_of X G a43⟩
 have H_wrong_word:HasY l.prog w K mg base 6 "wrong_word" ["width","d","form"] (pY cc PT0):=⟨_,_,kC F45 T H_need_form H_least_wrong MN,b45,k45,mg_of X G a45⟩
 have W_wrong_word:Has l.prog w K mg base 6 "wrong_word" ["width","d","form"] (spWW cc PT0):=H_wrong_word.calm imp_ww
 have H_is_word:Has l.prog w K mg base 3 "is_word" ["width","thing"] mT:=⟨_,_,pT F8 T H_is_between,b8,k8,mg_of X G a8⟩
 have H_is_wrong_word:HasY l.prog w K mg base 7 "is_wrong_word" ["width","d","form","thing"] (spIW cc):=⟨_,_,iC F46 T H_need_form H_is_right H_is_word H_brought H_right_to MN,b46,k46,mg_of X G a46⟩
 have H_is_reckoning:Has l.prog w K mg base 3 "is_reckoning" ["thing"] qI:=⟨_,_,jm F34 T H_is_between,b34,k34,mg_of X G a34⟩
 have H_need_reckoning:HasY l.prog w K mg base 5 "need_reckoning" ["width","d","reckoning"] (spNR cc):=⟨_,_,gM F35 T H_need_divisor H_is_reckoning H_twos_in X_NoForm,b35,k35,mg_of X G a35⟩
 have H_reckoning_is_right:HasY l.prog w K mg base 6 "reckoning_is_right" ["width","d","reckoning"] (qj cc):=⟨_,_,dZ F42 T H_need_reckoning H_right_to,b42,k42,mg_of X G a42⟩
 have H_reckoning_wrong:HasY l.prog w K mg base 6 "reckoning_wrong" ["width","d","reckoning"] (pQ cc PT0):=⟨_,_,gm F44 T H_need_reckoning H_least_wrong,b44,k44,mg_of X G a44⟩
 have H_need_prices:HasY l.prog w K mg base 3 "need_prices" ["prices"] (spNP cc):=⟨_,_,jO F47 T H_is_between X_NoPrices,b47,k47,mg_of X G a47⟩
 have W_need_prices:Has l.prog w K mg base 3 "need_prices" ["prices"] (spNP0 cc):=H_need_prices.calm imp_np
 have H_first_right:HasS l.prog w K mg base 9 "first_right" ["forms","wrong"] (spFR cc PT0):=⟨_,_,jI F55 T  W_wrong_word,b55,k55,mg_of X G a55⟩
 have H_form_words:Has l.prog w K mg base 2 "form_words" ["form"] (spFW cc):=⟨_,_,kZ F53 T  MW RA,b53,k53,mg_of X G a53⟩
 have H_price_of_form:Has l.prog w K mg base 4 "price_of_form" ["form","prices"] (spPF0 cc):=⟨_,_,iy F54 T W_need_prices H_form_words,b54,k54,mg_of X G a54⟩
 have H_choose:HasY l.prog w K mg base 10 "choose" ["width","d","prices"] (qp cc PT0 PT1):=⟨_,_,rD F56 T H_candidates H_need_prices H_first_right W_wrong_word H_price_of_form B1 hcT1 (apart01 hne),b56,k56,mg_of X G a56⟩
 have H__law_doors:Has l.prog w K mg base 11 "_law_doors" ["_law_width","_law_d","_law_numbers","_law_form","_law_prices_here"] (spDo cc PT0 PT1 PT2):=⟨_,_,kL F70 T H_need_divisor H_corner_words H_candidates H_why_none H_line_at H_least_total H_is_right W_wrong_word H_is_wrong_word H_reckoning_is_right H_reckoning_wrong H_choose B2 hcT2 hne,b70,k70,mg_of X G a70⟩
 have H__law_no_prices:Has l.prog w K mg base 3 "_law_no_prices" ["_law_state"] tm:=⟨_,_,ia F66 T H__law_prices H__law_draw H__law_row_words,b66,k66,mg_of X G a66⟩
 have H__law_spoilt:Has l.prog w K mg base 2 "_law_spoilt" ["_law_state","_law_numbers","_law_twos_here"] spSpo:=⟨_,_,jN F69 T H__law_draw,b69,k69,mg_of X G a69⟩
 have H__law_no_divisor:Has l.prog w K mg base 2 "_law_no_divisor" ["_law_state","_law_last"] spNoD:=⟨_,_,fU F68 T H__law_draw,b68,k68,mg_of X G a68⟩
 have H__law_no_width:Has l.prog w K mg base 2 "_law_no_width" ["_law_state"] spNoW:=⟨_,_,iI F67 T H__law_draw,b67,k67,mg_of X G a67⟩
 have H__law_refusal:Has l.prog w K mg base 21 "_law_refusal" ["_law_door"] (spRef cc l.prog w K mg base PT0 PT1):=⟨_,_,jk F71 T ,b71,k71,mg_of X G a71⟩
 have H__law_case:Has l.prog w K mg base 22 "_law_case" ["_law_state"] (km PT0 PT1 PT2):=⟨_,_,lM F72 T H__law_draw H__law_divisor H__law_twos H__law_prices H__law_doors H__law_no_prices H__law_spoilt H__law_no_divisor H__law_no_width H_need_divisor H__law_refusal C_Early hne (goods H_need_divisor H_corner_words H_candidates H_why_none H_line_at H_least_total H_is_right H_wrong_word H_is_wrong_word H_reckoning_is_right H_reckoning_wrong H_choose),b72,k72,mg_of X G a72⟩
 have H__law_start:Has l.prog w K mg base 1 "_law_start" ["_law_script","_law_k"] (mZ K):=⟨_,_,kW F60 T ,b60,k60,mg_of X G a60⟩
 exact ok_law F73 T H__law_case H__law_start
theorem walk {l:PySem.W.OpenLaw}{q:Program}{loose:List Str}{XP:(Str->Option Value)->Heap->Prop}{YP:World->Heap->Prop}{d:DefRec}{K:Params->Frag}{cT0 PT0 cT1 PT1 cT2 PT2:Addr}(hn:l.most=some 63) (hdf:d.params.defaults=[])
  (hY:∀ (w:World) (h:Heap),YP w h->(K w.params).In h)
  (hT0:∀ (w:World) (lo:List Str) (mean:ExcName->Option Value) (mg mb:Str->Option Value) (h:Heap),Top q lo mean mg mb h->(K w.params).In h->PySem.W.CodeHd h cT0 PT0/\h.get? PT0=some (PySem.W.tabObj #[])) (hTK0:∀ w:World,(K w.params).lookup PT0=none)
  (hT1:∀ (w:World) (lo:List Str) (mean:ExcName->Option Value) (mg mb:Str->Option Value) (h:Heap),Top q lo mean mg mb h->(K w.params).In h->PySem.W.CodeHd h cT1 PT1/\h.get? PT1=some (PySem.W.tabObj #[])) (hTK1:∀ w:World,(K w.params).lookup PT1=none)
  (hT2:∀ (w:World) (lo:List Str) (mean:ExcName->Option Value) (mg mb:Str->Option Value) (h:Heap),Top q lo mean mg mb h->(K w.params).In h->PySem.W.CodeHd h cT2 PT2/\h.get? PT2=some (PySem.W.tabObj #[])) (hTK2:∀ w:World,(K w.params).lookup PT2=none)
  (F:∀ (w:World) (mg:Str->Option Value) (fa:Addr) (h:Heap),(K w.params).In h->h.Ns mainGlobals mg->mg d.name=some (.ref fa) ->
   ∃ fd:FuncData,(∀ (s:Shared) (u:Value),BindsTo s fd ⟨[u],[]⟩ [("_law_script",u)])/\∀ base:Heap,(K w.params).In base->base.Ns mainGlobals mg->(∀ t∈[(cT0,PT0),(cT1,PT1),(cT2,PT2)],LamBase mg base t.1 t.2)->FnOk l.prog w (K w.params) mg base CX0 23 fa fd ["_law_script"] (spLaw (K w.params) PT0 PT1 PT2)) :
  PySem.W.WalkO q loose XP YP l.row.toRowW d [] (fun f vs=>PySem.call f vs) :=
 L2.walk_ofT (n:=63) (k:=23) (x:="_law_script") (CX:=fun _=>CX0) (sp:=fun w=>spLaw (K w.params) PT0 PT1 PT2) [(cT0,PT0),(cT1,PT1),(cT2,PT2)] hn (by decide) hdf ⟨rfl,by decide,by decide,rfl⟩ hY (fun w lo mean mg mb h T X=>List.forall_mem_cons.mpr ⟨hT0 w lo mean mg mb h T X,List.forall_mem_cons.mpr ⟨hT1 w lo mean mg mb h T X,List.forall_mem_cons.mpr ⟨hT2 w lo mean mg mb h T X,fun _ z=>nomatch z⟩⟩⟩) (fun w=>List.forall_mem_cons.mpr ⟨hTK0 w,List.forall_mem_cons.mpr ⟨hTK1 w,List.forall_mem_cons.mpr ⟨hTK2 w,fun _ z=>nomatch z⟩⟩⟩) F (fun _ _ a ns hl hT hS=>⟨a,ns,rfl,hS,hl,⟨j5 (hT (cT0,PT0) (by simp)),j5 (hT (cT1,PT1) (by simp)),j5 (hT (cT2,PT2) (by simp))⟩,fun _=>rfl⟩) fun _ _ _ _ _ z=>z
end Ow
open PySem PySem.W PyProof.Rows
namespace PySem.W.Fast
theorem tw17524601302788978503:True:=⟨⟩
theorem tw10782392435135955415:True:=⟨⟩
theorem tw3727546912341150114:True:=⟨⟩
theorem tw13170207238904516940:True:=⟨⟩
theorem tw14708286318151674506:True:=⟨⟩
theorem tw1200656879973561622:True:=⟨⟩
theorem tw10909533814856490800:True:=⟨⟩
theorem tw17838114434056651277:True:=⟨⟩
theorem tw11079402602252247546:True:=⟨⟩
theorem tw16934378864703821477:True:=⟨⟩
theorem tw1104711695884655428:True:=⟨⟩
theorem tw18073490045901086617:True:=⟨⟩
theorem tw1652639062562919795:True:=⟨⟩
theorem tw58454824698312756:True:=⟨⟩
theorem tw14909028869321977051:True:=⟨⟩
theorem tw16985390620863018446:True:=⟨⟩
theorem tw13562285418219954295:True:=⟨⟩
theorem tw13946278765050641101:True:=⟨⟩
theorem tw12821410443680942485:True:=⟨⟩
theorem tw7158751180434083352:True:=⟨⟩
theorem tw17467109125334786440:True:=⟨⟩
theorem tw17027634003469652108:True:=⟨⟩
theorem tw13072426882665460317:True:=⟨⟩
theorem tw15202031295949679793:True:=⟨⟩
theorem tw14127432036463349520:True:=⟨⟩
theorem tw14157505332142131341:True:=⟨⟩
theorem tw14259487919474056764:True:=⟨⟩
theorem tw9501453964797274434:True:=⟨⟩
theorem tw10688827428482074629:True:=⟨⟩
theorem tw6200906490543653060:True:=⟨⟩
theorem tw13677839616679069352:True:=⟨⟩
theorem tw2655977993253439837:True:=⟨⟩
theorem tw4324981785543421900:True:=⟨⟩
theorem tw15266344946472401817:True:=⟨⟩
theorem tw18026287000089048840:True:=⟨⟩
theorem tw14388891486034010541:True:=⟨⟩
theorem tw2477394080272642388:True:=⟨⟩
theorem tw440959379143758300:True:=⟨⟩
theorem tw9668102525395963064:True:=⟨⟩
theorem tw2758756964347531128:True:=⟨⟩
theorem tw13701517388855254442:True:=⟨⟩
theorem tw8752295750999158727:True:=⟨⟩
theorem tw17814254130616519065:True:=⟨⟩
theorem tw8103584398428356352:True:=⟨⟩
theorem tw10340514379497951967:True:=⟨⟩
theorem tw3401128656846886446:True:=⟨⟩
theorem tw8794435563431212021:True:=⟨⟩
theorem tw16909398875485903205:True:=⟨⟩
theorem tw1297415345117646687:True:=⟨⟩
theorem tw5633807036473606194:True:=⟨⟩
theorem tw7143801099485584271:True:=⟨⟩
theorem tw1598647199708416824:True:=⟨⟩
theorem tw8715960272762970077:True:=⟨⟩
theorem tw9482560216747715530:True:=⟨⟩
theorem tw10784736797123593285:True:=⟨⟩
theorem tw11404080030578456321:True:=⟨⟩
theorem tw17367474747108658540:True:=⟨⟩
theorem tw6686508495134411693:True:=⟨⟩
theorem tw17155162687279671775:True:=⟨⟩
theorem tw2645364298602380253:True:=⟨⟩
theorem tw9583242881070072423:True:=⟨⟩
theorem tw9760199514619229231:True:=⟨⟩
theorem tw9830584501332233549:True:=⟨⟩
theorem tw1656776867921470472:True:=⟨⟩
theorem tw7960056726488674700:True:=⟨⟩
theorem tw8131421651588079983:True:=⟨⟩
theorem tw323051237688977614:True:=⟨⟩
theorem tw13851575526704740059:True:=⟨⟩
theorem tw15048547130872171800:True:=⟨⟩
theorem tw3682535618219783670:True:=⟨⟩
theorem tw1144614093964560450:True:=⟨⟩
theorem tw4781757686524960100:True:=⟨⟩
theorem tw16996295610459814483:True:=⟨⟩
theorem tw13530180697086807940:True:=⟨⟩
theorem tw9010961481108283169:True:=⟨⟩
theorem tw7162367185144133345:True:=⟨⟩
theorem tw18363613827848049713:True:=⟨⟩
theorem tw3786379718161569047:True:=⟨⟩
theorem tw9922632004308817757:True:=⟨⟩
theorem tw7634256623891423809:True:=⟨⟩
theorem tw3892355499684246771:True:=⟨⟩
theorem tw11185325410793832124:True:=⟨⟩
theorem tw8330123115886861565:True:=⟨⟩
theorem tw809281478992578078:True:=⟨⟩
theorem tw1302302964906957479:True:=⟨⟩
theorem tw14057280303072776005:True:=⟨⟩
theorem tw13227112500285239782:True:=⟨⟩
theorem tw17903351908629331296:True:=⟨⟩
theorem tw6121007399034916706:True:=⟨⟩
theorem tw17273951357497220401:True:=⟨⟩
theorem tw13998180236166225508:True:=⟨⟩
theorem tw2632590965665831858:True:=⟨⟩
theorem tw1605319689849399217:True:=⟨⟩
theorem tw12763211925340773630:True:=⟨⟩
theorem tw16987429528186831106:True:=⟨⟩
theorem tw13364209799170899869:True:=⟨⟩
theorem tw10953904658539023462:True:=⟨⟩
theorem tw15799477430793028128:True:=⟨⟩
theorem tw8954070955807800521:True:=⟨⟩
theorem tw7828771482612041156:True:=⟨⟩
theorem tw14486527334550773262:True:=⟨⟩
theorem tw14789261036619179938:True:=⟨⟩
theorem tw6647814087470564440:True:=⟨⟩
theorem tw10995734396352612251:True:=⟨⟩
theorem tw15834720652749082605:True:=⟨⟩
theorem tw15172287095053338663:True:=⟨⟩
theorem tw5930774704706193613:True:=⟨⟩
theorem tw1562753301643798314:True:=⟨⟩
theorem tw18380457745654821286:True:=⟨⟩
theorem tw14733315965434492925:True:=⟨⟩
theorem tw13920640033128855810:True:=⟨⟩
theorem tw12997044982905029416:True:=⟨⟩
theorem tw11567357875688418101:True:=⟨⟩
theorem tw2695797535978479713:True:=⟨⟩
theorem tw7390803541000410649:True:=⟨⟩
theorem tw1864238628338620973:True:=⟨⟩
theorem tw18267214339650623811:True:=⟨⟩
theorem tw15691466081187569943:True:=⟨⟩
theorem tw13808666371628869485:True:=⟨⟩
theorem tw15444445544374539174:True:=⟨⟩
theorem tw1536803055788422176:True:=⟨⟩
theorem tw7559467584658953866:True:=⟨⟩
theorem tw9069645445637650380:True:=⟨⟩
theorem tw11331585041209235878:True:=⟨⟩
theorem tw16380444037258106949:True:=⟨⟩
theorem tw8181360178613857551:True:=⟨⟩
theorem tw17863262213584260814:True:=⟨⟩
theorem tw7461089844749624145:True:=⟨⟩
theorem tw2856583193051666335:True:=⟨⟩
theorem tw5835156727243063577:True:=⟨⟩
theorem tw11546675987055731366:True:=⟨⟩
theorem tw3465462035827667664:True:=⟨⟩
theorem tw7955739395162638531:True:=⟨⟩
theorem tw4719159983665347133:True:=⟨⟩
theorem tw18432832183623713695:True:=⟨⟩
theorem tw16857829562286444661:True:=⟨⟩
theorem tw7594419473681190199:True:=⟨⟩
theorem tw14360609737107840889:True:=⟨⟩
theorem tw4382401140773004821:True:=⟨⟩
theorem tw15996557147530518248:True:=⟨⟩
theorem tw18432251236033342797:True:=⟨⟩
theorem tw3638989567935991736:True:=⟨⟩
theorem tw13456359523222030262:True:=⟨⟩
theorem tw16469426033337112336:True:=⟨⟩
theorem tw4348655054869481048:True:=⟨⟩
theorem tw5552608456422656605:True:=⟨⟩
theorem tw10084777889025615927:True:=⟨⟩
theorem tw9896837343954997575:True:=⟨⟩
theorem tw8679633460297395956:True:=⟨⟩
theorem tw15190118600805739030:True:=⟨⟩
theorem tw18002549000871448699:True:=⟨⟩
theorem tw7049756579152803389:True:=⟨⟩
theorem tw16708190677569844628:True:=⟨⟩
theorem tw9559990745434670519:True:=⟨⟩
theorem tw1712116139315230808:True:=⟨⟩
theorem tw13326700048650420799:True:=⟨⟩
theorem tw12025777900408442335:True:=⟨⟩
theorem tw10583057246349743155:True:=⟨⟩
theorem tw9560165007409886309:True:=⟨⟩
theorem tw11547982940149974794:True:=⟨⟩
theorem tw9521312108777469975:True:=⟨⟩
theorem tw17129290518494524689:True:=⟨⟩
theorem tw17990159851909451605:True:=⟨⟩
theorem tw11520075837911851524:True:=⟨⟩
theorem tw6443262806742220134:True:=⟨⟩
theorem tw8342516803292551309:True:=⟨⟩
theorem tw15632288807308544559:True:=⟨⟩
theorem tw18211639254269997868:True:=⟨⟩
theorem tw4463944054201458851:True:=⟨⟩
theorem tw14698578771405914476:True:=⟨⟩
theorem tw3684334865239400379:True:=⟨⟩
theorem tw12389556908441402674:True:=⟨⟩
theorem tw4495913460638619848:True:=⟨⟩
theorem tw3974900019732038459:True:=⟨⟩
theorem tw10627728805299545797:True:=⟨⟩
theorem tw16927483899828803040:True:=⟨⟩
theorem tw8444851101213805538:True:=⟨⟩
theorem tw10613626183653655330:True:=⟨⟩
theorem tw3443929259211815208:True:=⟨⟩
theorem tw2832142283309241468:True:=⟨⟩
theorem tw5064933946238367679:True:=⟨⟩
theorem tw8328315837664666809:True:=⟨⟩
theorem tw10843251613334163865:True:=⟨⟩
theorem tw7455966162273371333:True:=⟨⟩
theorem tw4288302653161712192:True:=⟨⟩
theorem tw5446084682075462163:True:=⟨⟩
theorem tw4558829392041617337:True:=⟨⟩
theorem tw17801875703160805661:True:=⟨⟩
theorem tw17278135592763210529:True:=⟨⟩
theorem tw8634866238189226155:True:=⟨⟩
theorem tw882782363852459165:True:=⟨⟩
theorem tw6490822475487518212:True:=⟨⟩
theorem tw6011472322705433051:True:=⟨⟩
theorem tw12638932753128002719:True:=⟨⟩
theorem tw13279528599625402127:True:=⟨⟩
theorem tw11767638515573511763:True:=⟨⟩
theorem tw12458643071835158736:True:=⟨⟩
theorem tw15269795798205705324:True:=⟨⟩
theorem tw9592014561705233057:True:=⟨⟩
theorem tw16890111528692724127:True:=⟨⟩
theorem tw18337656586511966246:True:=⟨⟩
theorem tw10004199741399576662:True:=⟨⟩
theorem tw11273138354578780457:True:=⟨⟩
theorem tw8793479725420611812:True:=⟨⟩
theorem tw12215666280712497119:True:=⟨⟩
theorem tw11390038476128266011:True:=⟨⟩
theorem tw17161212367638695937:True:=⟨⟩
theorem tw2935748927861095118:True:=⟨⟩
theorem tw3940951123036775577:True:=⟨⟩
theorem tw9527016687492688172:True:=⟨⟩
theorem tw16356275352117164787:True:=⟨⟩
theorem tw15237725195077426089:True:=⟨⟩
theorem tw11892216857595885164:True:=⟨⟩
theorem tw794110368516261979:True:=⟨⟩
theorem tw10496228875739941920:True:=⟨⟩
theorem tw8564657666025589194:True:=⟨⟩
theorem tw12510335841347152717:True:=⟨⟩
theorem tw9323443663165142141:True:=⟨⟩
theorem tw1657932389516418281:True:=⟨⟩
theorem tw16574173128211293944:True:=⟨⟩
theorem tw16865548789038735125:True:=⟨⟩
theorem tw9067444299681463014:True:=⟨⟩
theorem tw9001304543851579368:True:=⟨⟩
theorem tw15865075683469503963:True:=⟨⟩
theorem tw3123830935410534440:True:=⟨⟩
theorem tw10832303934909217910:True:=⟨⟩
theorem tw14480780222434109520:True:=⟨⟩
theorem tw2193498553732405965:True:=⟨⟩
theorem tw8962780968264242625:True:=⟨⟩
theorem tw8555867616467778074:True:=⟨⟩
theorem tw936910924744795157:True:=⟨⟩
theorem tw6789368080175895419:True:=⟨⟩
theorem tw6682921283527436521:True:=⟨⟩
theorem tw18083179035215076641:True:=⟨⟩
theorem tw18435771677561256268:True:=⟨⟩
theorem tw2005929338473980153:True:=⟨⟩
theorem tw15246033206222538657:True:=⟨⟩
theorem tw11779554336273189056:True:=⟨⟩
theorem tw10865525385550787411:True:=⟨⟩
theorem tw16742063624932480267:True:=⟨⟩
theorem tw4857561493891508323:True:=⟨⟩
theorem tw13425037493149069900:True:=⟨⟩
theorem tw16773913438803638941:True:=⟨⟩
theorem tw1812449641012100655:True:=⟨⟩
theorem tw14489815466120230859:True:=⟨⟩
theorem tw3056400860119611942:True:=⟨⟩
theorem tw2366410311770146449:True:=⟨⟩
theorem tw15670377965949118104:True:=⟨⟩
theorem tw4237235512004318553:True:=⟨⟩
theorem tw17352011048325863190:True:=⟨⟩
theorem tw1344728862105950518:True:=⟨⟩
theorem tw13773933315520964143:True:=⟨⟩
theorem tw1438666522708511627:True:=⟨⟩
theorem tw13070428893821605063:True:=⟨⟩
theorem tw7797390832513459885:True:=⟨⟩
theorem tw9689874479108716345:True:=⟨⟩
theorem tw722346304439513218:True:=⟨⟩
theorem tw7942644549416815564:True:=⟨⟩
theorem tw7757677145404896639:True:=⟨⟩
theorem tw6770167829868714283:True:=⟨⟩
theorem tw322159548990709805:True:=⟨⟩
theorem tw10557183966704617639:True:=⟨⟩
theorem tw4481878959026140563:True:=⟨⟩
theorem tw11351612830586539626:True:=⟨⟩
theorem tw12750220661932262586:True:=⟨⟩
theorem tw9054236592242877131:True:=⟨⟩
theorem tw1458947311293912798:True:=⟨⟩
theorem tw3211907278095166334:True:=⟨⟩
theorem tw4306753663065157965:True:=⟨⟩
theorem tw11143333817311034911:True:=⟨⟩
theorem tw12597263500137388924:True:=⟨⟩
theorem tw18286260172915405846:True:=⟨⟩
theorem tw6300127999458742017:True:=⟨⟩
theorem tw16169273606419232001:True:=⟨⟩
theorem tw11422988293304240659:True:=⟨⟩
theorem tw17519354767287508973:True:=⟨⟩
theorem tw12668696742095839849:True:=⟨⟩
theorem tw13653720751294511108:True:=⟨⟩
theorem tw1707952736836588876:True:=⟨⟩
theorem tw12798930442572470414:True:=⟨⟩
theorem tw11665403348748961482:True:=⟨⟩
theorem tw10103712904528382254:True:=⟨⟩
theorem tw2533440490042667378:True:=⟨⟩
theorem tw5504223550026967152:True:=⟨⟩
theorem tw4314249749142190100:True:=⟨⟩
theorem tw9769933685502885735:True:=⟨⟩
theorem tw1775398453243662839:True:=⟨⟩
theorem tw9220272194751964608:True:=⟨⟩
theorem tw16030315767327571077:True:=⟨⟩
theorem tw232367340757608849:True:=⟨⟩
theorem tw935617564809388220:True:=⟨⟩
theorem tw392996413751363768:True:=⟨⟩
theorem tw8676458509722601413:True:=⟨⟩
theorem tw1794461087027972288:True:=⟨⟩
theorem tw5116575774307434542:True:=⟨⟩
theorem tw3692068439351941430:True:=⟨⟩
theorem tw8635790482804532102:True:=⟨⟩
theorem tw11615221800419219980:True:=⟨⟩
theorem tw40948343056286856:True:=⟨⟩
theorem tw8423986276122262643:True:=⟨⟩
theorem tw8008761758506343390:True:=⟨⟩
theorem tw13002348318554380138:True:=⟨⟩
theorem tw7852128811247642596:True:=⟨⟩
theorem tw8800766781050803571:True:=⟨⟩
theorem tw3876220580953062207:True:=⟨⟩
theorem tw10458773407418010148:True:=⟨⟩
theorem tw2347889639308607060:True:=⟨⟩
theorem tw8074303309624258669:True:=⟨⟩
theorem tw10732649362212347549:True:=⟨⟩
theorem tw11456235797119549248:True:=⟨⟩
theorem tw17206587720262688687:True:=⟨⟩
theorem tw1165629702172161621:True:=⟨⟩
theorem tw12852175203931644591:True:=⟨⟩
theorem tw14105641425775517629:True:=⟨⟩
theorem tw11044934431654054075:True:=⟨⟩
theorem tw9431680670800389915:True:=⟨⟩
theorem tw11106841022034036809:True:=⟨⟩
theorem tw2800345834965430280:True:=⟨⟩
theorem tw8605429139384758234:True:=⟨⟩
theorem tw5066208903707211952:True:=⟨⟩
theorem tw16041431243294689968:True:=⟨⟩
theorem tw1154345616734206209:True:=⟨⟩
theorem tw9413259108416137766:True:=⟨⟩
theorem tw10695812697684052525:True:=⟨⟩
theorem tw16215501743229285972:True:=⟨⟩
theorem tw9439257075291105961:True:=⟨⟩
theorem tw112996946724027274:True:=⟨⟩
theorem tw13172041813346997664:True:=⟨⟩
theorem tw7441435375772428304:True:=⟨⟩
theorem tw2727003889895249951:True:=⟨⟩
theorem tw17277421995570823050:True:=⟨⟩
theorem tw7135491593557615002:True:=⟨⟩
theorem tw10028470645788319204:True:=⟨⟩
theorem tw12366527187403355473:True:=⟨⟩
theorem tw5257509205115251707:True:=⟨⟩
theorem tw16202026678477530047:True:=⟨⟩
theorem tw13314339727940448615:True:=⟨⟩
theorem tw11218210295000900938:True:=⟨⟩
theorem tw8781191175367528848:True:=⟨⟩
theorem tw13131193610180056649:True:=⟨⟩
theorem tw10737611422329281724:True:=⟨⟩
theorem tw5645308083295023769:True:=⟨⟩
theorem tw12990826221117334976:True:=⟨⟩
theorem tw5755998787060475262:True:=⟨⟩
theorem tw14624686912019481681:True:=⟨⟩
theorem tw7003605667750854894:True:=⟨⟩
theorem tw14052539538176279019:True:=⟨⟩
theorem tw15645248861907292984:True:=⟨⟩
theorem tw3456324845154137223:True:=⟨⟩
theorem tw14660504853236217193:True:=⟨⟩
theorem tw3866488197142405452:True:=⟨⟩
theorem tw3442574560954056989:True:=⟨⟩
theorem tw1599016477642324022:True:=⟨⟩
theorem tw7589789890548967210:True:=⟨⟩
theorem tw3271215852556562475:True:=⟨⟩
theorem tw14174029456057158929:True:=⟨⟩
theorem tw14623385354558775995:True:=⟨⟩
theorem tw9970146069406019014:True:=⟨⟩
theorem tw9737372450290826547:True:=⟨⟩
theorem tw1885418808805860352:True:=⟨⟩
theorem tw4264989783773286871:True:=⟨⟩
theorem tw995931715794821140:True:=⟨⟩
theorem tw2943383400912367923:True:=⟨⟩
theorem tw18271751454788203193:True:=⟨⟩
theorem tw15506142978163228416:True:=⟨⟩
theorem tw15261430760973560733:True:=⟨⟩
theorem tw9806213540078739270:True:=⟨⟩
theorem tw14572315033809462176:True:=⟨⟩
theorem tw2395022692589062055:True:=⟨⟩
theorem tw2881305934524465534:True:=⟨⟩
theorem tw8003140007300703173:True:=⟨⟩
theorem tw7567332246299417130:True:=⟨⟩
end PySem.W.Fast
set_option maxRecDepth 100000 in
set_option maxHeartbeats 0 in
theorem PySem.Challenge.cw_overwise_k20_refused_holds : PySem.Challenge.rw_overwise_k20_refused.Holds := by
 w_on; o_law; k_head; (case hw=>w_witness2)
 k_fill
 refine Ow.walk (l:=PySem.Challenge.rw_overwise_k20_refused) (cT0:=440) (PT0:=436) (cT1:=548) (PT1:=544) (cT2:=644) (PT2:=640) rfl rfl (fun w h Y=>PySem.W.km_in_of Y) (fun w lo mean mg mb h T X=>PySem.W.tab_of (x:=PySem.Str.ofString "least_wrong") T X rfl (by kernel_rfl)) (fun w=>by kernel_rfl) (fun w lo mean mg mb h T X=>PySem.W.tab_of (x:=PySem.Str.ofString "choose") T X rfl (by kernel_rfl)) (fun w=>by kernel_rfl) (fun w lo mean mg mb h T X=>PySem.W.tab_of (x:=PySem.Str.ofString "_law_doors") T X rfl (by kernel_rfl)) (fun w=>by kernel_rfl) ?F
 case F =>
  intro w mg fa h KX G hmg
  refine' Ow.all_mk KX G hmg ?_ ?_ ?_ ?_ ?_ ?_ ?_ ?_ ?_ ?_ ?_ ?_ ?_ ?_ ?_ ?_ ?_ ?_ ?_ ?_ ?_ ?_ ?_ ?_ ?_ ?_ ?_ ?_ ?_ ?_ ?_ ?_ ?_ ?_ ?_ ?_ ?_ ?_ ?_ ?_ ?_ ?_ ?_ ?_ ?_ ?_ ?_ ?_ ?_ ?_ ?_ ?_ ?_ ?_ ?_ ?_ ?_ ?_ ?_ ?_ ?_ ?_ ?_ ?_ ?_ ?_ ?_ ?_ ?_ ?_ ?_ ?_ ?_ ?_ ?_ ?_ ?_ ?_ ?_ ?_ ?_ ?_ ?_ ?_ ?_ ?_ ?_ ?_ ?_ ?_ ?_ ?_ ?_ ?_ ?_ ?_ ?_ ?_ ?_ ?_ ?_ ?_ ?_ ?_ ?_ ?_ ?_ ?_ ?_ ?_ ?_ ?_ ?_ ?_ ?_ ?_ ?_ ?_ ?_ ?_ ?_ ?_ ?_ ?_ ?_ ?_ ?_ ?_ ?_ ?_ ?_ ?_ ?_ ?_ ?_ ?_ ?_ ?_ ?_ ?_ ?_ ?_ ?_ ?_ ?_ ?_ ?_ ?_ ?_ ?_ ?_ ?_ ?_ ?_ ?_ ?_ ?_ ?_ ?_ ?_ ?_ ?_ ?_ ?_ ?_ ?_ ?_ ?_ ?_ ?_ ?_ ?_ ?_ ?_ ?_ ?_ ?_ ?_ ?_ ?_ ?_ ?_ ?_ ?_ ?_ ?_ ?_ ?_ ?_ ?_ ?_ ?_ ?_ ?_ ?_ ?_ ?_ ?_ ?_ ?_ ?_ ?_ ?_ ?_ ?_ ?_ ?_ ?_ ?_ ?_ ?_ ?_ ?_ ?_ ?_ ?_ ?_ ?_ ?_ ?_ ?_ ?_ ?_ ?_ ?_ ?_ ?_ ?_ ?_ ?_ ?_ ?_ ?_ ?_ ?_ ?_ ?_ ?_ ?_ ?_ ?_ ?_ ?_ ?_ ?_ ?_ ?_ ?_ ?_ ?_ ?_ ?_ ?_ ?_ ?_ ?_ ?_ ?_ ?_ ?_ ?_ ?_ ?_ ?_ ?_ ?_ ?_ ?_ ?_ ?_ ?_ ?_ ?_ ?_ ?_ ?_ ?_ ?_ ?_ ?_ ?_ ?_ ?_ ?_ ?_ ?_ ?_ ?_ ?_ ?_ ?_ ?_ ?_ ?_ ?_ ?_ ?_ ?_ ?_ ?_ ?_ ?_ ?_ ?_ ?_ ?_ ?_ ?_ ?_ ?_ ?_ ?_ ?_ ?_ ?_ ?_ ?_ ?_ ?_ ?_ ?_ ?_ ?_ ?_ ?_ ?_ ?_ ?_ ?_ ?_ ?_ ?_ ?_ ?_ ?_ ?_
  any_goals first | (apply Ow.FB.of <;> k_is) | k_is | rfl | decide
  any_goals first | (apply Ow.FB.of <;> k_is) | k_is | rfl | decide
  any_goals kernel_rfl
