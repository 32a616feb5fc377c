import PyProof.Rows.All
import Wide.All
import OpenK.AllK
import Wide.FinOn
import Lean
import PyProof.EqAt
import PyProof.EqKinds
import PyProof.TupleCall
import KE.BitLaws
import KE.IntBitsLaws
import KE.KLam
import KE.KIntText
import KE.KMinKey
import KE.KSortKey
import KE.KSortTup
import PySem.Challenge.RW_overwise_k37_whole_cheapest_signed_row
set_option Elab.async false
set_option linter.all false
set_option maxRecDepth 100000
open Nat (le_succ lt_irrefl lt_succ_of_lt lt_succ_self lt_trans zero_le)
open List (append_assoc append_nil extract_eq_take_drop filterMap_cons filterMap_nil filter_append filter_cons filter_cons_of_pos getD_eq_getElem?_getD getElem_mem length_append length_cons length_map length_range length_reverse length_take map_append map_cons map_map mem_append mem_append_left mem_append_right mem_cons mem_cons_of_mem mem_cons_self mem_of_getElem? mem_singleton nodup_nil not_mem_nil reverse_append size_toArray take_add_one take_append_drop take_length)
open Int (ediv_mul_le ediv_nonneg mul_le_mul mul_le_mul_of_nonneg_left mul_left_comm mul_nonneg mul_one mul_sub neg_neg one_mul pow_add pow_pos pow_succ pow_zero sub_mul)
open PySem.W (findIn keepIn Frag fnOf codeIn mg_of nsIn isFn kitOne mroIn hasDictIn plainGet plainOver makesIn typeIn mg_none_of isClsIn instObj exmOne)
set_option genSizeOf false
set_option genInjectivity false
set_option compiler.extract_closed false
namespace Internal
noncomputable section
namespace L2
open PySem PySem.Spec PyProof.Rows
abbrev Key:=Sum Int Str
def qC:Key->Value->Bool
 | .inl k,v=>Value.isInt k v
 | .inr x,v=>Value.isStrOf x v
def keyH (w:World):Key->Int
 | .inl k=>hashInt k
 | .inr x=>hashStr w x
theorem bq:∀ {k:Key}{v:Value},qC k v=true->(∃ i t,k=Sum.inl i/\v=Value.int i t)\/(∃ x t,k=Sum.inr x/\v=Value.str x t)
 | .inl i,v,h=>by
  obtain⟨t,e⟩:=Value.isInt_shape (k:=i) (v:=v) h
  exact .inl ⟨i,t,rfl,e⟩
 | .inr x,v,h=>by
  obtain⟨t,e⟩:=Value.isStrOf_shape (x:=x) (v:=v) h
  exact .inr ⟨x,t,rfl,e⟩
theorem rE (i:Int) (t:Tok):qC (.inl i) (.int i t)=true:=by simp[qC,Value.isInt]
theorem sP (x:Str) (t:Tok):qC (.inr x) (.str x t)=true:=by simp[qC,Value.isStrOf]
theorem key_ll (a b:Int):decide ((Sum.inl a:Key)=Sum.inl b)=(a == b):=by
 by_cases e:a=b
 ·subst e; simp
 ·have h:¬ (Sum.inl a:Key)=Sum.inl b:=fun q=>e (Sum.inl.inj q)
  rw[decide_eq_false h]
  exact(beq_eq_false_iff_ne.mpr e).symm
theorem key_rr (a b:Str):decide ((Sum.inr a:Key)=Sum.inr b)=decide (a=b):=by
 by_cases e:a=b
 ·subst e; simp
 ·have h:¬ (Sum.inr a:Key)=Sum.inr b:=fun q=>e (Sum.inr.inj q)
  rw[decide_eq_false h,decide_eq_false e]
theorem key_lr (a:Int) (b:Str):decide ((Sum.inl a:Key)=Sum.inr b)=false:=decide_eq_false (fun q=>nomatch q)
theorem key_rl (a:Str) (b:Int):decide ((Sum.inr a:Key)=Sum.inl b)=false:=decide_eq_false (fun q=>nomatch q)
noncomputable def ba (prog:Program) (w:World):PySem.KeyKind prog w Key where
 is:=qC
 hash:=keyH w
 inj:=fun v a b ha hb=>by
  rcases bq ha with ⟨i,t,rfl,rfl⟩ | ⟨x,t,rfl,rfl⟩
  ·rcases bq hb with ⟨j,u,rfl,e⟩ | ⟨y,u,rfl,e⟩
   ·injection e with e1 _; rw[e1]
   ·exact nomatch e
  ·rcases bq hb with ⟨j,u,rfl,e⟩ | ⟨y,u,rfl,e⟩
   ·exact nomatch e
   ·injection e with e1 _; rw[e1]
 byValue:=fun k v h=>by
  rcases bq h with ⟨i,t,rfl,rfl⟩ | ⟨x,t,rfl,rfl⟩ <;> rfl
 pyHash:=fun hv h=>by
  rcases bq hv with ⟨i,t,rfl,rfl⟩ | ⟨x,t,rfl,rfl⟩
  ·exact wpAny_pyHash_int h
  ·exact wpAny_pyHash_str h
 eqBool:=fun hu hv h=>by
  rcases bq hu with ⟨i,t,rfl,rfl⟩ | ⟨x,t,rfl,rfl⟩
  ·rcases bq hv with ⟨j,u,rfl,rfl⟩ | ⟨y,u,rfl,rfl⟩
   ·rw[key_ll] at h; exact wpAny_eqBool_int h
   ·rw[key_lr] at h; exact SeqAt.EqAt.int_str i t y u _ _ _ _ h
  ·rcases bq hv with ⟨j,u,rfl,rfl⟩ | ⟨y,u,rfl,rfl⟩
   ·rw[key_rl] at h; exact SeqAt.EqAt.str_int x t j u _ _ _ _ h
   ·rw[key_rr] at h; exact wpAny_eqBool_str h
 «strs»:=fun k x t v h=>by
  rcases bq h with ⟨i,u,rfl,e⟩ | ⟨y,u,rfl,e⟩
  ·exact nomatch e
  ·injection e with e1 _
   subst e1
   cases v <;> rfl
theorem oU (prog:Program) (w:World) (i:Int) (t:Tok):(ba prog w).is (.inl i) (.int i t)=true:=rE i t
theorem ou (prog:Program) (w:World) (x:Str) (t:Tok):(ba prog w).is (.inr x) (.str x t)=true:=sP x t
end L2
namespace L2
open PySem PySem.Spec PyProof.Rows
set_option genInjectivity true in
inductive V where
 | non | bl (b:Bool) | int (i:Int) | str (x:Str) | byt (b:Array UInt8) | flt (b:UInt64) | ref (a:Addr) | ty (n:String)
 deriving DecidableEq
def RelV:V->Value->Prop
 | .non,u=>u=Value.none
 | .bl b,u=>u=Value.bool b
 | .int i,u=>∃ t,u=Value.int i t
 | .str x,u=>∃ t,u=Value.str x t
 | .byt b,u=>∃ t,u=Value.bytes b t
 | .flt b,u=>∃ t,u=Value.float b t
 | .ref a,u=>u=Value.ref a
 | .ty n,u=>u=Value.type n
abbrev Vals:List V->List Value->Prop:=Paired RelV
theorem Vals.length {xs:List V}{us:List Value}(r:Vals xs us):xs.length=us.length:=Paired.length r
theorem Vals.get:∀ {xs:List V}{us:List Value}{i:Nat}{x:V},Vals xs us->xs[i]?=some x->∃ u,us[i]?=some u/\RelV x u
 | _,_,_,_,.nil,e=>by simp at e
 | _,_,0,_,.cons r _,e=>by simp at e; subst e; exact⟨_,rfl,r⟩
 | _,_,i+1,x,.cons _ t,e=>by
  obtain⟨u,h1,h2⟩:=Vals.get (i:=i) (x:=x) t (by simpa using e)
  exact⟨u,by simpa using h1,h2⟩
theorem Vals.set {x:V}{u:Value}(r:RelV x u):∀ {xs:List V}{us:List Value}(i:Nat),Vals xs us->Vals (xs.set i x) (us.set i u)
 | _,_,_,.nil=>.nil
 | _,_,0,.cons _ t=>.cons r t
 | _,_,i+1,.cons q t=>.cons q (Vals.set r i t)
theorem Vals.append:∀ {xs ys:List V}{us ws:List Value},Vals xs us->Vals ys ws->Vals (xs++ys) (us++ws)
 | _,_,_,_,.nil,s=>s
 | _,_,_,_,.cons r t,s=>.cons r (Vals.append t s)
def RelO:Option V->Option Value->Prop
 | some v,some u=>RelV v u
 | none,none=>True
 | _,_=>False
def KV {κ:Type}:List (κ×V)->List (κ×Value)->Prop:=Paired fun (p:κ×V) (q:κ×Value)=>p.1=q.1/\RelV p.2 q.2
def kV:Key->V
 | .inl i=>.int i
 | .inr x=>.str x
inductive HO where
 /-- a list -/
 | lst (xs:List V)
 /-- a tuple (never changes) -/
 | tup (xs:List V)
 /-- a dict whose keys are ints and texts; one whose keys are tuples of ints and texts (the empty one is both) -/
 | dK (kvs:List (Key×V)) | dT (kvs:List (List Key×V))
 /-- a set of ints: its members,its size -/
 | set (S:Int->Bool) (n:Nat)
 /-- an instance of the class at C,its dict at dx,its attributes -/
 | ins (C dx:Addr) (fs:List (Str×V))
 /-- the dict of the instance at x -/
 | own (x:Addr)
 /-- the dict of an exception -/
 | xd (fs:List (Str×V))
 /-- a bound method,f of x -/
 | met (f x:Addr)
 /-- a range object lo,lo+1,.. below hi -/
 | rng (lo hi:Int)
 /-- a thing that is known to the object (the script; a dict while a loop walks it): read,never written while it is so -/
 | frz (o:Obj) (u:HO)
 /-- a code object's table -/
 | tbl (ps:Array Value)
 /-- any other thing,by what is true of its one object (a def of one's own: SetO a S n:=HO.ext fun h=>..) -/
 | ext (φ:Heap->Prop)
abbrev Hp:=Addr->Option HO
def upd (H:Hp) (a:Addr) (o:HO):Hp:=fun b=>if b=a then some o else H b
theorem ae {H:Hp}{a:Addr}{o:HO}:upd H a o a=some o:=by unfold upd; rw[if_pos rfl]
theorem au {H:Hp}{a b:Addr}{o:HO}(h:b≠a):upd H a o b=H b:=by unfold upd; rw[if_neg h]
theorem ne_of {H:Hp}{a b:Addr}{o u:HO}(h:H a=some o) (h':H b=some u) (d:o≠u):a≠b:=by
 intro e; subst e; rw[h] at h'; exact d (Option.some.inj h')
theorem aE {H:Hp}{a b:Addr}{o:HO}(h:H a=some o) (h':H b=none):a≠b:=by
 intro e; subst e; rw[h] at h'; cases h'
section
variable (P:Program) (w:World)
def ObjOk (H:Hp) (h:Heap) (a:Addr):HO->Prop
 | .lst xs=>xs.length<=sizeLine/\∃ (its:List Value) (n:Nat),Vals xs its/\h.get? a=some { cls:=.type "list",data:=.seq its.toArray n }
 | .tup xs=>xs.length<=sizeLine/\∃ its:List Value,Vals xs its/\IsTup h a its.toArray
 | .dK kvs=>kvs.length<=sizeLine/\(a == sysModules)=false/\∃ vs,KV kvs vs/\h.DictOf (ba P w) a vs
 | .dT kvs=>kvs.length<=sizeLine/\(a == sysModules)=false/\∃ xs:List (List Key×Addr×Value),
   Paired (fun (p:List Key×V) (q:List Key×Addr×Value)=>p.1=q.1/\H q.2.1=some (.tup (p.1.map kV))/\RelV p.2 q.2.2) kvs xs /\
   ∃ o es ep,h.get? a=some o/\o.ExactDict/\o.data=.dict es ep/\es.toList=xs.map (entryOfKey (tupleKind (ba P w)))/\(xs.map (·.1)).Nodup
 | .set S n=>h.SetOf (intKind P w) a S n
 | .ins C dx fs=>H dx=some (.own a)/\fs.length<=1000/\dx≠a/\h.get? a=some (instObj C dx) /\
   ∃ mA,h.Ns1 dx mA/\(∀ f,RelO (fs.lookup f) (mA f))/\PySem.Within mA (fs.map (·.1))
 | .own _=>∃ o,h.get? a=some o
 | .xd fs=>∃ mA,h.Ns1 a mA/\∀ f,RelO (fs.lookup f) (mA f)
 | .rng lo hi=>∃ t u v,h.get? a=some { cls:=.type "range",data:=.fields #[.int lo t,.int hi u,.int 1 v] }
 | .frz o u=>h.get? a=some o/\ObjOk H h a u
 | .tbl ps=>h.get? a=some { cls:=.none,data:=.fields ps }
 | .met f x=>h.get? a=some (PySem.W.methodObj (.ref f) (.ref x))
 | .ext φ=>φ h/\(∃ o,h.get? a=some o)/\∀ h1 h2:Heap,φ h1->(∀ o,h1.get? a=some o->h2.get? a=some o)->φ h2
def HOk (H:Hp) (h:Heap):Prop:=∀ a o,H a=some o->ObjOk P w H h a o
end
section
variable {P:Program}{w:World}{H H':Hp}{h h':Heap}{a:Addr}{o:HO}
theorem ObjOk.lt (x:ObjOk P w H h a o):a<h.objs.size:=by
 cases o with
 | lst xs=>obtain⟨_,_,_,_,e⟩:=x; exact Heap.lt_size e
 | tup xs=>obtain⟨_,_,_,p⟩:=x; exact p.lt
 | dK kvs=>obtain⟨_,_,_,_,o,_,_,e,_⟩:=x; exact Heap.lt_size e
 | dT kvs=>obtain⟨_,_,_,_,o,_,_,e,_⟩:=x; exact Heap.lt_size e
 | set S n=>obtain⟨o,_,_,_,e,_⟩:=x; exact Heap.lt_size e
 | ins C dx fs=>obtain⟨_,_,_,e,_⟩:=x; exact Heap.lt_size e
 | own y=>obtain⟨_,e⟩:=x; exact Heap.lt_size e
 | xd fs=>obtain⟨_,⟨_,_,_,e,_⟩,_⟩:=x; exact Heap.lt_size e
 | rng lo hi=>obtain⟨_,_,_,e⟩:=x; exact Heap.lt_size e
 | frz ob u=>obtain⟨e,_⟩:=x; exact Heap.lt_size e
 | tbl ps=>exact Heap.lt_size (show h.get? a=some _ from x)
 | met f y=>exact Heap.lt_size (show h.get? a=some _ from x)
 | ext φ=>obtain⟨_,⟨_,e⟩,_⟩:=x; exact Heap.lt_size e
theorem Paired.mapP {α β:Type}{F G:α->β->Prop}:∀ {l₁:List α}{l₂:List β},Paired F l₁ l₂->(∀ a b,F a b->G a b)->Paired G l₁ l₂
 | _,_,.nil,_=>.nil
 | _,_,.cons r t,f=>.cons (f _ _ r) (Paired.mapP t f)
theorem ObjOk.stay (x:ObjOk P w H h a o) (k:∀ b u,(b=a\/H b=some (.own a))->h.get? b=some u->h'.get? b=some u)
  (ho:∀ b,H b=some (.own a)->H' b=some (.own a)) (ht:∀ b xs,H b=some (.tup xs)->H' b=some (.tup xs)):ObjOk P w H' h' a o:=by
 induction o with
 | lst xs=>obtain⟨z,its,n,r,e⟩:=x; exact⟨z,its,n,r,k _ _ (.inl rfl) e⟩
 | tup xs=>obtain⟨z,its,r,ob,e,c⟩:=x; exact⟨z,its,r,ob,k _ _ (.inl rfl) e,c⟩
 | dK kvs=>obtain⟨z,y,vs,r,ob,es,ep,e,c⟩:=x; exact⟨z,y,vs,r,ob,es,ep,k _ _ (.inl rfl) e,c⟩
 | dT kvs =>
  obtain⟨z,y,xs,r,ob,es,ep,e,c⟩:=x
  exact⟨z,y,xs,Paired.mapP r fun p q z=>⟨z.1,ht _ _ z.2.1,z.2.2⟩,ob,es,ep,k _ _ (.inl rfl) e,c⟩
 | set S n=>obtain⟨ob,es,ep,t,e,c⟩:=x; exact⟨ob,es,ep,t,k _ _ (.inl rfl) e,c⟩
 | ins C dx fs =>
  obtain⟨d,z,ne,e,mA,⟨od,es,ep,e2,c⟩,r⟩:=x
  exact⟨ho _ d,z,ne,k _ _ (.inl rfl) e,mA,⟨od,es,ep,k _ _ (.inr d) e2,c⟩,r⟩
 | own y=>obtain⟨ob,e⟩:=x; exact⟨ob,k _ _ (.inl rfl) e⟩
 | xd fs=>obtain⟨mA,⟨od,es,ep,e,c⟩,r⟩:=x; exact⟨mA,⟨od,es,ep,k _ _ (.inl rfl) e,c⟩,r⟩
 | rng lo hi=>obtain⟨t,u,v,e⟩:=x; exact⟨t,u,v,k _ _ (.inl rfl) e⟩
 | frz ob u ih=>obtain⟨e,q⟩:=x; exact⟨k _ _ (.inl rfl) e,ih q⟩
 | tbl ps =>
  have e:h.get? a=some { cls:=.none,data:=.fields ps }:=x
  show h'.get? a=some { cls:=.none,data:=.fields ps }
  exact k a _ (.inl rfl) e
 | met f y =>
  have e:h.get? a=some (PySem.W.methodObj (.ref f) (.ref y)):=x
  show h'.get? a=some (PySem.W.methodObj (.ref f) (.ref y))
  exact k a _ (.inl rfl) e
 | ext φ=>obtain⟨p,⟨o,e⟩,st⟩:=x; exact⟨st _ _ p fun o q=>k _ _ (.inl rfl) q,⟨o,k _ _ (.inl rfl) e⟩,st⟩
theorem HOk.lt (x:HOk P w H h) (e:H a=some o):a<h.objs.size:=(x a o e).lt
theorem HOk.fresh (x:HOk P w H h) (e:h.objs.size<=a):H a=none:=by
 cases q:H a with
 | none=>rfl
 | some u=>exact absurd (Nat.lt_of_lt_of_le (x.lt q) e) (lt_irrefl _)
theorem HOk.kept (x:HOk P w H h) (k:∀ b u,h.get? b=some u->h'.get? b=some u):HOk P w H h':=fun a o e =>
 (x a o e).stay (fun b u _ q=>k b u q) (fun _ q=>q) fun _ _ q=>q
theorem HOk.laid (x:HOk P w H h) (k:∀ b u,h.get? b=some u->h'.get? b=some u) (hp:h.objs.size<=a) (new:ObjOk P w (upd H a o) h' a o):HOk P w (upd H a o) h':=fun b u e=>by
 have hn:=x.fresh hp
 by_cases hb:b=a
 ·subst hb; rw[ae] at e; cases e; exact new
 ·rw[au hb] at e
  exact(x b u e).stay (fun c v _ q=>k c v q) (fun c q=>by rw[au (aE q hn)]; exact q) fun c xs q=>by rw[au (aE q hn)]; exact q
end
def Rd (H:Hp) (a:Addr) (u:HO):Prop:=H a=some u\/∃ o,H a=some (.frz o u)
theorem Rd.ok {P:Program}{w:World}{H:Hp}{h:Heap}{a:Addr}{u:HO}(r:Rd H a u) (x:HOk P w H h):ObjOk P w H h a u:=by
 rcases r with r | ⟨o,r⟩
 ·exact x a u r
 ·obtain⟨_,q⟩:=x a _ r
  exact q
def Mut:Option HO->Prop
 | some (.lst _)=>True
 | some (.dK _)=>True
 | some (.dT _)=>True
 | some (.set _ _)=>True
 | some (.ins _ _ _)=>True
 | some (.ext _)=>True
 | _=>False
section
variable {P:Program}{w:World}{H:Hp}{h h':Heap}{x e:Addr}{o':HO}
theorem HOk.write (ok:HOk P w H h) (mu:Mut (H x)) (he:e=x\/H e=some (.own x)) (k:∀ b u,b≠e->h.get? b=some u->h'.get? b=some u) (heo:∃ u,h'.get? e=some u)
  (new:ObjOk P w (upd H x o') h' x o'):HOk P w (upd H x o') h':=fun b u q=>by
 have nown:∀ c y,H c=some (.own y)->c≠x:=fun c y r z=>by subst z; rw[r] at mu; exact mu
 have ntup:∀ c xs,H c=some (.tup xs)->c≠x:=fun c xs r z=>by subst z; rw[r] at mu; exact mu
 by_cases hb:b=x
 ·subst hb; rw[ae] at q; cases q; exact new
 ·rw[au hb] at q
  by_cases hbe:b=e
  ·have q':H b=some (.own x):=by
    rcases he with z | z
    ·exact absurd (hbe.trans z) hb
    ·rw[hbe]; exact z
   rw[q] at q'; cases q'
   obtain⟨v,hv⟩:=heo
   exact⟨v,by rw[hbe]; exact hv⟩
  ·refine(ok b u q).stay (fun c v hc r=>k c v ?_ r) (fun c r=>by rw[au (nown c b r)]; exact r) fun c xs r=>by rw[au (ntup c xs r)]; exact r
   rcases hc with rfl | hc
   ·exact hbe
   ·rintro rfl
    rcases he with z | z
    ·exact nown c b hc z
    ·rw[hc] at z; cases z; exact hb rfl
end
structure Un (fs ex:List Addr) (H H':Hp) (h h':Heap):Prop where
 keep:∀ b o,h.get? b=some o->H b=none->b∉fs->b∉ex->h'.get? b=some o
 slot:∀ b o,h.get? b=some o->H b=none->b∈fs->b∉ex->∃ sl,h'.get? b=some { o with slots:=sl }
 free:∀ b o,h.get? b=some o->H b=none->b∉ex->H' b=none
 there:∀ b o,h.get? b=some o->b∉ex->∃ o',h'.get? b=some o'
 tups:∀ b xs,H b=some (.tup xs)->H' b=some (.tup xs)
 frzs:∀ b o u,H b=some (.frz o u)->H' b=some (.frz o u)
 tbls:∀ b ps,H b=some (.tbl ps)->∃ more,H' b=some (.tbl (ps++more))
section
variable {fs fs' ex ex':List Addr}{H H1 H2:Hp}{h h1 h2 h':Heap}{a x e:Addr}{o:HO}
theorem Un.any (u:Un fs ex H H1 h h1) {b:Addr}{ob:Obj}(q:h.get? b=some ob) (n:H b=none) (hx:b∉ex):∃ sl,h1.get? b=some { ob with slots:=sl }:=by
 by_cases hb:b∈fs
 ·exact u.slot b ob q n hb hx
 ·exact⟨ob.slots,u.keep b ob q n hb hx⟩
theorem Un.kept (k:∀ b u,h.get? b=some u->h'.get? b=some u):Un fs ex H H h h' :=
 ⟨fun b ob q _ _ _=>k b ob q,fun b ob q _ _ _=>⟨ob.slots,k b ob q⟩,fun _ _ _ n _=>n,fun b ob q _=>⟨ob,k b ob q⟩,fun _ _ q=>q,fun _ _ _ q=>q,fun _ ps q=>⟨#[],by rw[q]; simp⟩⟩
theorem Un.refl:Un fs ex H H h h:=Un.kept fun _ _ q=>q
theorem Un.laid (k:∀ b u,h.get? b=some u->h'.get? b=some u) (hp:h.objs.size<=a) (hn:H a=none):Un fs ex H (upd H a o) h h' where
 keep:=fun b u q _ _ _=>k b u q
 slot:=fun b u q _ _ _=>⟨u.slots,k b u q⟩
 free:=fun b u q n _=>by rw[au (Nat.ne_of_lt (Nat.lt_of_lt_of_le (Heap.lt_size q) hp))]; exact n
 there:=fun b u q _=>⟨u,k b u q⟩
 tups:=fun b xs q=>by rw[au (aE q hn)]; exact q
 frzs:=fun b u xs q=>by rw[au (aE q hn)]; exact q
 tbls:=fun b ps q=>⟨#[],by rw[au (aE q hn),q]; simp⟩
theorem Un.write (mu:Mut (H x)) (he:e=x\/H e=some (.own x)) (k:∀ b u,b≠e->h.get? b=some u->h'.get? b=some u) (heo:∃ u,h'.get? e=some u):Un fs ex H (upd H x o) h h':=by
 have hx:∀ b,H b=none->b≠x:=fun b n z=>by subst z; rw[n] at mu; exact mu
 have hb:∀ b,H b=none->b≠e:=fun b n z=>by
  subst z
  rcases he with r | r
  ·exact hx b n r
  ·rw[n] at r; cases r
 have hm:∀ b u,H b=some u->¬ Mut (some u)->b≠x:=fun b u q nm z=>by subst z; rw[q] at mu; exact nm mu
 refine⟨fun b u q n _ _=>k b u (hb b n) q,fun b u q n _ _=>⟨u.slots,k b u (hb b n) q⟩,fun b u q n _=>by rw[au (hx b n)]; exact n,fun b u q _=>?_,
  fun b xs q=>by rw[au (hm b _ q fun z=>z)]; exact q,fun b u xs q=>by rw[au (hm b _ q fun z=>z)]; exact q,fun b ps q=>⟨#[],by rw[au (hm b _ q fun z=>z),q]; simp⟩⟩
 by_cases hbe:b=e
 ·subst hbe; exact heo
 ·exact⟨u,k b u hbe q⟩
end
def trk (h:Heap) (H:Hp):List Addr:=(List.range h.objs.size).filter fun a=>(H a).isSome
def hidT (h:Heap) (H:Hp):Heap:=PySem.W.hideAll h (trk h H)
theorem tF (h:Heap) (H:Hp):(hidT h H).objs.size=h.objs.size:=PySem.W.hideAll_size _ _
theorem hidT_get {h:Heap}{H:Hp}{b:Addr}{o:Obj}(e:h.get? b=some o) (n:H b=none):(hidT h H).get? b=some o :=
 PySem.W.hideAll_get _ e fun hm=>by
  have q:(H b).isSome=true:=(List.mem_filter.mp hm).2
  rw[n] at q; simp at q
theorem of_hidT {h:Heap}{H:Hp}{b:Addr}{o:Obj}(e:(hidT h H).get? b=some o):h.get? b=some o/\H b=none:=by
 have e':h.get? b=some o:=PySem.W.of_hideAll (trk h H) e
 refine⟨e',?_⟩
 cases q:H b with
 | none=>rfl
 | some x =>
  have hm:b∈trk h H:=List.mem_filter.mpr ⟨List.mem_range.mpr (Heap.lt_size e'),by simp[q]⟩
  have z:(hidT h H).get? b=none:=PySem.W.hideAll_none (trk h H) hm
  rw[z] at e; cases e
end L2
namespace L2
open PySem PySem.Spec PyProof.Rows
structure Mod (K:Frag) (mg:Str->Option Value) (base:Heap):Prop where
 kin:K.In base
 glob:base.Ns mainGlobals mg
 blt:∃ mb,base.Ns builtinsNs mb/\∀ x:Str,x≠"__name__"->mb x=bootBuiltins x
 nolimit:base.NoLimit
structure Cx where
 prog:Program
 w:World
 K:Frag
 mg:Str->Option Value
 base:Heap
 A:Around
 N:List Str
 s₀:Shared
 H₀:Hp
 env:Env
 outer:List Env
 stack:List Env
 ex:List Addr
 fn:Str->Bool
 calm:Bool
 pn:List (Addr×Obj)
 xe:Value->Shared->Prop
def frs (l:List Env):List Addr:=l.filterMap (·.frame)
noncomputable abbrev Cx.fs (X:Cx):List Addr:=frs X.outer
def Vis (sc:Scope) (x:Str):Prop:=sc.names.lookup x=some .local\/sc.names.lookup x=some .cell\/sc.names.lookup x=some .free
def Loc (sc:Scope) (x:Str):Prop:=sc.names.lookup x=some .local\/sc.names.lookup x=some .cell
def Look (env:Env) (h:Heap) (m:Str->Option Value) (x:Str) (u:Value):Prop :=
 (env.kindOf x=some .local/\m x=some u)\/((env.kindOf x=some .cell\/env.kindOf x=some .free)/\∃ c,env.cells.lookup x=some c/\h.IsCell c (some u))
structure Cx.Ok (X:Cx):Prop where
 mod:Mod X.K X.mg X.base
 kind:X.env.scope.kind=.function
 glob:X.env.globals=mainGlobals
 blt:X.env.builtins=builtinsNs
 above:X.s₀.heap.objs.size<=X.env.locals
 inj:∀ x y c,X.env.cells.lookup x=some c->X.env.cells.lookup y=some c->x=y
 has:∀ x,(X.env.kindOf x=some .cell\/X.env.kindOf x=some .free)->∃ c,X.env.cells.lookup x=some c
 cab:∀ x c,X.fn x=true->X.env.cells.lookup x=some c->X.s₀.heap.objs.size<=c
 hd:X.calm=true->X.A.handled=none
 frames:X.A.frames=some X.stack
 stk:X.stack=X.outer\/(X.stack=X.env::X.outer/\X.env.frame=some X.env.locals)
 exf:∀ b∈X.ex,b≠X.env.locals/\∀ x c,X.env.cells.lookup x=some c->c≠b
 bs:∀ b o,X.base.get? b=some o->X.s₀.heap.get? b=some o/\X.H₀ b=none
 bsz:X.base.objs.size<=X.s₀.heap.objs.size
 noex:∀ b o,X.base.get? b=some o->b∉X.ex
 exfs:∀ b∈X.ex,b∉X.fs
 funs:X.s₀.heap.FunFrames X.base X.outer
 frf:∀ b∈X.fs,X.H₀ b=none
structure Inv (X:Cx) (pins:List (Addr×Obj)) (σ:List (Option V)) (H:Hp) (s:Shared):Prop where
 ok:X.Ok
 os:s.os=X.s₀.os
 bare:AllBare s.gens
 base:Un X.fs X.ex X.H₀ H X.s₀.heap s.heap
 loc:∃ m,s.heap.Ns X.env.locals m/\∀ (i:Nat) (x:Str) (v:V),X.N[i]?=some x->σ[i]?=some (some v)->Vis X.env.scope x->∃ u,RelV v u/\Look X.env s.heap m x u
 cell:∀ x c,X.env.cells.lookup x=some c->∃ v,s.heap.IsCell c v
 free:H X.env.locals=none
 freeC:∀ x c,X.env.cells.lookup x=some c->H c=none
 pin:∀ p∈X.pn++pins,s.heap.get? p.1=some p.2/\H p.1=none/\p.1≠X.env.locals/\p.1∉X.fs/\∀ v,p.2.data≠.cell v
 hok:HOk X.prog X.w H s.heap
 len:σ.length=X.N.length
section
variable {X:Cx}{pins:List (Addr×Obj)}{σ:List (Option V)}{H H':Hp}{s:Shared}{h':Heap}
theorem Cx.Ok.nofr (ok:X.Ok) {b:Addr}{o:Obj}(e:X.base.get? b=some o):b∉X.fs:=fun hb=>by
 have:=(ok.funs.mem hb).1
 rw[e] at this; cases this
theorem Inv.bs (I:Inv X pins σ H s):∀ b o,X.base.get? b=some o->s.heap.get? b=some o/\H b=none:=fun b o e =>
 ⟨I.base.keep b o (I.ok.bs b o e).1 (I.ok.bs b o e).2 (I.ok.nofr e) (I.ok.noex b o e),I.base.free b o (I.ok.bs b o e).1 (I.ok.bs b o e).2 (I.ok.noex b o e)⟩
theorem Inv.bk (I:Inv X pins σ H s):∀ b o,X.base.get? b=some o->s.heap.get? b=some o:=fun b o e=>(I.bs b o e).1
theorem Inv.mod (I:Inv X pins σ H s):Mod X.K X.mg X.base:=I.ok.mod
theorem Inv.kIn (I:Inv X pins σ H s):X.K.In s.heap:=I.ok.mod.kin.keeps I.bk
theorem Inv.nolimit (I:Inv X pins σ H s):s.heap.NoLimit:=I.ok.mod.nolimit.keeps I.bk
theorem Inv.lt (I:Inv X pins σ H s):X.env.locals<s.heap.objs.size:=let ⟨_,hn,_⟩:=I.loc; hn.lt
theorem Inv.sz (I:Inv X pins σ H s):X.s₀.heap.objs.size<=s.heap.objs.size:=Nat.le_trans I.ok.above (Nat.le_of_lt I.lt)
theorem Inv.nofs (I:Inv X pins σ H s) {a:Addr}(h:s.heap.objs.size<=a):a∉X.fs:=fun hb=>by
 obtain⟨_,o,ho,_⟩:=I.ok.funs.mem hb
 exact absurd (Nat.lt_of_lt_of_le (Heap.lt_size ho) (Nat.le_trans I.sz h)) (lt_irrefl _)
theorem Inv.cne (I:Inv X pins σ H s):∀ x c,X.env.cells.lookup x=some c->c≠X.env.locals:=fun x c e z=>by
 obtain⟨v,o,ho,hd⟩:=I.cell x c e
 obtain⟨m,⟨o',es,ep,ho',hd',_⟩,_⟩:=I.loc
 rw[z,ho'] at ho; cases ho; rw[hd'] at hd; cases hd
theorem Inv.funs (I:Inv X pins σ H s):s.heap.FunFrames X.base X.outer:=by
 have all:∀ (l:List Env),(∀ b∈frs l,b∈X.fs)->X.s₀.heap.FunFrames X.base l->s.heap.FunFrames X.base l:=by
  intro l
  induction l with
  | nil=>intro _ _; trivial
  | cons env r ih =>
   intro hs hl
   obtain⟨hk,⟨L,o,hf,hn,ho,hd⟩,hr⟩:=hl
   have hL:L∈X.fs:=hs L (by unfold frs; rw[filterMap_cons,hf]; exact mem_cons_self)
   obtain⟨sl,e⟩:=I.base.slot L o ho (I.ok.frf L hL) hL fun z=>I.ok.exfs L z hL
   exact⟨hk,⟨L,_,hf,hn,e,hd⟩,ih (fun b hb=>hs b (by unfold frs; rw[filterMap_cons,hf]; exact mem_cons_of_mem _ hb)) hr⟩
 exact all X.outer (fun _ hb=>hb) I.ok.funs
theorem Inv.stack (I:Inv X pins σ H s):s.heap.FunFrames X.base X.stack:=by
 rcases I.ok.stk with e | ⟨e,hf⟩
 ·rw[e]; exact I.funs
 ·rw[e]
  obtain⟨m,hn,_⟩:=I.loc
  refine .cons (by rw[I.ok.kind]; decide) hf hn ?_ I.funs
  exact Heap.get?_none_of_le (Nat.le_trans I.ok.bsz I.ok.above)
theorem Inv.stkSub (I:Inv X pins σ H s):∀ b∈frs X.stack,b∈X.env.locals::X.fs:=fun b hb=>by
 rcases I.ok.stk with e | ⟨e,hf⟩
 ·rw[e] at hb; exact mem_cons_of_mem _ hb
 ·rw[e] at hb
  unfold frs at hb
  rw[filterMap_cons,hf] at hb
  exact hb
theorem Inv.stkFree (I:Inv X pins σ H s):∀ b∈frs X.stack,H b=none:=fun b hb=>by
 rcases List.mem_cons.mp (I.stkSub b hb) with e | hb
 ·rw[e]; exact I.free
 ·obtain⟨_,o,ho,_⟩:=I.ok.funs.mem hb
  exact I.base.free b o ho (I.ok.frf b hb) fun z=>I.ok.exfs b z hb
theorem Inv.step {g':Array GenState}{t':Nat}{d':Drawn}{ch:List Addr}(I:Inv X pins σ H s)
  (hch:∀ b∈ch,(b∈X.ex\/X.s₀.heap.objs.size<=b)/\b≠X.env.locals/\(∀ x c,X.env.cells.lookup x=some c->c≠b)/\∀ p∈X.pn++pins,p.1≠b)
  (keep:∀ b o,b≠X.env.locals->b∉X.fs->b∉ch->s.heap.get? b=some o->H b=none->h'.get? b=some o)
  (slot:∀ b o,b≠X.env.locals->b∈X.fs->b∉ch->s.heap.get? b=some o->H b=none->∃ sl,h'.get? b=some { o with slots:=sl }) (free:∀ b o,b∉ch->s.heap.get? b=some o->H b=none->H' b=none)
  (there:∀ b o,b∉ch->s.heap.get? b=some o->∃ o',h'.get? b=some o')
  (tups:∀ b xs,H b=some (.tup xs)->H' b=some (.tup xs)) (frzs:∀ b o u,H b=some (.frz o u)->H' b=some (.frz o u)) (tbls:∀ b ps,H b=some (.tbl ps)->∃ more,H' b=some (.tbl (ps++more)))
  (ns:∀ m,s.heap.Ns X.env.locals m->h'.Ns X.env.locals m) (hok:HOk X.prog X.w H' h') (hg:AllBare g') :
  Inv X pins σ H' { s with heap:=h',gens:=g',drawn:=d',toks:=t' }:=by
 have neL:∀ b o,X.s₀.heap.get? b=some o->b≠X.env.locals:=fun b o e=>Nat.ne_of_lt (Nat.lt_of_lt_of_le (Heap.lt_size e) I.ok.above)
 have neC:∀ b o,X.s₀.heap.get? b=some o->b∉X.ex->b∉ch:=fun b o e hx hb=>by
  rcases(hch b hb).1 with z | z
  ·exact hx z
  ·exact absurd (Nat.lt_of_lt_of_le (Heap.lt_size e) z) (lt_irrefl _)
 have cellK:∀ x c,X.env.cells.lookup x=some c->∀ v,s.heap.IsCell c v->h'.IsCell c v:=fun x c e v ⟨o,ho,hd⟩=>by
  have nch:c∉ch:=fun z=>(hch c z).2.2.1 x c e rfl
  by_cases hc:c∈X.fs
  ·obtain⟨sl,q⟩:=slot c o (I.cne x c e) hc nch ho (I.freeC x c e)
   exact⟨_,q,hd⟩
  ·exact⟨o,keep c o (I.cne x c e) hc nch ho (I.freeC x c e),hd⟩
 refine⟨I.ok,I.os,hg,⟨fun b o e n hb hx=>?_,fun b o e n hb hx=>?_,fun b o e n hx=>?_,fun b o e hx=>?_,fun b xs e=>tups b xs (I.base.tups b xs e),fun b o xs e=>frzs b o xs (I.base.frzs b o xs e),fun b ps e=>?_⟩,?_,fun x c e=>?_,?_,fun x c e=>?_,fun p hp=>?_,hok,I.len⟩
 ·exact keep b o (neL b o e) hb (neC b o e hx) (I.base.keep b o e n hb hx) (I.base.free b o e n hx)
 ·obtain⟨sl,e1⟩:=I.base.slot b o e n hb hx
  obtain⟨sl',e2⟩:=slot b _ (neL b o e) hb (neC b o e hx) e1 (I.base.free b o e n hx)
  exact⟨sl',e2⟩
 ·obtain⟨o',e1⟩:=I.base.there b o e hx
  exact free b o' (neC b o e hx) e1 (I.base.free b o e n hx)
 ·obtain⟨o',e1⟩:=I.base.there b o e hx
  exact there b o' (neC b o e hx) e1
 ·obtain⟨m1,e1⟩:=I.base.tbls b ps e
  obtain⟨m2,e2⟩:=tbls b _ e1
  exact⟨m1++m2,by rw[e2,Array.append_assoc]⟩
 ·obtain⟨m,hn,hl⟩:=I.loc
  refine⟨m,ns m hn,fun i x v e1 e2 e3=>?_⟩
  obtain⟨u,r,l⟩:=hl i x v e1 e2 e3
  refine⟨u,r,?_⟩
  rcases l with l | ⟨k,c,e,z⟩
  ·exact .inl l
  ·exact .inr ⟨k,c,e,cellK x c e _ z⟩
 ·obtain⟨v,z⟩:=I.cell x c e
  exact⟨v,cellK x c e v z⟩
 ·obtain⟨m,⟨o,_,_,ho,_⟩,_⟩:=I.loc
  exact free _ o (fun z=>(hch _ z).2.1 rfl) ho I.free
 ·obtain⟨v,o,ho,hd⟩:=I.cell x c e
  exact free c o (fun z=>(hch c z).2.2.1 x c e rfl) ho (I.freeC x c e)
 ·obtain⟨e,n,ne,nf,d⟩:=I.pin p hp
  have nch:p.1∉ch:=fun z=>(hch p.1 z).2.2.2 p hp rfl
  exact⟨keep p.1 p.2 ne nf nch e n,free p.1 p.2 nch e n,ne,nf,d⟩
theorem Inv.un {t':Nat}(I:Inv X pins σ H s) (u:Un X.fs [] H H' s.heap h') (hok:HOk X.prog X.w H' h'):Inv X pins σ H' { s with heap:=h',toks:=t' }:=by
 obtain⟨m,⟨o,es,ep,ho,r⟩,_⟩:=id I.loc
 obtain⟨sl,hL⟩:=u.any ho I.free (by simp)
 exact I.step (g':=s.gens) (d':=s.drawn) (ch:=[]) (fun _ z=>nomatch z) (fun b o _ hb _ e n=>u.keep b o e n hb (by simp)) (fun b o _ hb _ e n=>u.slot b o e n hb (by simp)) (fun b o _ e n=>u.free b o e n (by simp)) (fun b o _ e=>u.there b o e (by simp)) u.tups u.frzs u.tbls (fun m' hm=>by
  obtain⟨o',es',ep',ho',r'⟩:=hm
  rw[ho] at ho'; cases ho'
  exact⟨_,es',ep',hL,r'⟩) hok I.bare
theorem Inv.call {g':Array GenState}{t':Nat}{d':Drawn}{ch:List Addr}(I:Inv X pins σ H s) (u:Un (frs X.stack) ch H H' s.heap h') (hok:HOk X.prog X.w H' h') (hg:AllBare g')
  (hch:∀ b∈ch,(b∈X.ex\/X.s₀.heap.objs.size<=b)/\b≠X.env.locals/\(∀ x c,X.env.cells.lookup x=some c->c≠b)/\∀ p∈X.pn++pins,p.1≠b) :
  Inv X pins σ H' { s with heap:=h',gens:=g',drawn:=d',toks:=t' }:=by
 obtain⟨m,⟨o,es,ep,ho,r⟩,_⟩:=id I.loc
 obtain⟨sl,hL⟩:=u.any ho I.free fun z=>(hch _ z).2.1 rfl
 exact I.step (ch:=ch) hch (fun b o hL hb hc e n=>u.keep b o e n (fun z=>(List.mem_cons.mp (I.stkSub b z)).elim hL hb) hc) (fun b o _ _ hc e n=>u.any e n hc) (fun b o hc e n=>u.free b o e n hc) (fun b o hc e=>u.there b o e hc) u.tups u.frzs u.tbls (fun m' hm=>by
  obtain⟨o',es',ep',ho',r'⟩:=hm
  rw[ho] at ho'; cases ho'
  exact⟨_,es',ep',hL,r'⟩) hok hg
theorem Inv.turned {t':Nat}{it:Addr}(I:Inv X pins σ H s) (k:∀ b o,b≠it->s.heap.get? b=some o->h'.get? b=some o) (hn:H it=none) (hL:it≠X.env.locals)
  (h1:it∈X.ex\/X.s₀.heap.objs.size<=it) (h2:∀ x c,X.env.cells.lookup x=some c->c≠it) (h3:∀ p∈X.pn++pins,p.1≠it):Inv X pins σ H { s with heap:=h',toks:=t' }:=by
 have nit:∀ b u,H b=some u->b≠it:=fun b u e z=>by rw[z,hn] at e; cases e
 refine I.step (g':=s.gens) (d':=s.drawn) (ch:=[it]) (fun b hb=>?_) (fun b o _ _ hc e _=>k b o (fun z=>hc (by simp[z])) e) (fun b o _ _ hc e _=>⟨o.slots,k b o (fun z=>hc (by simp[z])) e⟩) (fun _ _ _ _ n=>n)
  (fun b o hc e=>⟨o,k b o (fun z=>hc (by simp[z])) e⟩) (fun _ _ e=>e) (fun _ _ _ e=>e) (fun b ps e=>⟨#[],by rw[e]; simp⟩) (fun m hm=>?_) (fun b u e=>?_) I.bare
 ·have e:b=it:=by simpa using hb
  subst e
  exact⟨h1,hL,h2,h3⟩
 ·obtain⟨o,es,ep,ho,r⟩:=hm
  exact⟨o,es,ep,k _ o (Ne.symm hL) ho,r⟩
 ·refine(I.hok b u e).stay (fun c v hc q=>k c v ?_ q) (fun _ q=>q) fun _ _ q=>q
  rcases hc with z | z
  ·rw[z]; exact nit b u e
  ·exact nit c _ z
theorem Inv.tok (I:Inv X pins σ H s) (t:Nat):Inv X pins σ H { s with toks:=t }:=I.un (h':=s.heap) (t':=t) Un.refl I.hok
theorem Inv.kept {t':Nat}(I:Inv X pins σ H s) (k:∀ b u,s.heap.get? b=some u->h'.get? b=some u):Inv X pins σ H { s with heap:=h',toks:=t' }:=I.un (Un.kept k) (I.hok.kept k)
theorem Inv.laid {a:Addr}{o:HO}{t':Nat}(I:Inv X pins σ H s) (k:∀ b u,s.heap.get? b=some u->h'.get? b=some u) (hp:s.heap.objs.size<=a) (new:ObjOk X.prog X.w (upd H a o) h' a o) :
  Inv X pins σ (upd H a o) { s with heap:=h',toks:=t' }:=I.un (Un.laid k hp (I.hok.fresh hp)) (I.hok.laid k hp new)
theorem Inv.write {x e:Addr}{o:HO}{t':Nat}(I:Inv X pins σ H s) (mu:Mut (H x)) (he:e=x\/H e=some (.own x)) (k:∀ b u,b≠e->s.heap.get? b=some u->h'.get? b=some u) (heo:∃ u,h'.get? e=some u)
  (new:ObjOk X.prog X.w (upd H x o) h' x o):Inv X pins σ (upd H x o) { s with heap:=h',toks:=t' }:=I.un (Un.write mu he k heo) (I.hok.write mu he k heo new)
theorem Inv.pins_of {pins':List (Addr×Obj)}(I:Inv X pins σ H s) (h:∀ p∈pins',s.heap.get? p.1=some p.2/\H p.1=none/\p.1≠X.env.locals/\p.1∉X.fs/\∀ v,p.2.data≠.cell v):Inv X pins' σ H s :=
 ⟨I.ok,I.os,I.bare,I.base,I.loc,I.cell,I.free,I.freeC,fun p hp=>(List.mem_append.mp hp).elim (fun z=>I.pin p (mem_append_left _ z)) (h p),I.hok,I.len⟩
theorem p6 {N:List Str}(hN:N.Nodup) {i j:Nat}{x:Str}(a:N[i]?=some x) (b:N[j]?=some x):i=j:=by
 obtain⟨h1,e1⟩:=List.getElem?_eq_some_iff.mp a
 obtain⟨h2,e2⟩:=List.getElem?_eq_some_iff.mp b
 exact(List.getElem_inj hN).mp (e1.trans e2.symm)
theorem nV {M:Model}{A:Around}{E:Value->Shared->Prop}{i:Nat}{x:Str}{v:V}{u:Value}{Q:Unit->Shared->Prop}(I:Inv X pins σ H s) (hN:X.N.Nodup) (hi:X.N[i]?=some x) (hx:Loc X.env.scope x) (r:RelV v u)
  (h:∀ s',Inv X pins (σ.set i (some v)) H s'->(∃ a,Heap.SameBut a s.heap s'.heap/\(a=X.env.locals\/X.env.cells.lookup x=some a))->Q () s') (hf:X.fn x=true\/X.env.scope.names.lookup x=some .local:=by first | exact .inl rfl | exact .inr rfl | assumption):wpAny M A (storeName X.env x u) Q E s:=by
 obtain⟨m,hn,hl⟩:=id I.loc
 have hcls:(X.env.scope.kind == .class || (X.env.scope.kind == .module&&X.env.locals != X.env.globals))=false:=by rw[I.ok.kind]; rfl
 have hiσ:i<σ.length:=by rw[I.len]; exact(List.getElem?_eq_some_iff.mp hi).1
 have cne:=I.cne
 have tracked:∀ {a:Addr} {h':Heap},(∃ o,s.heap.get? a=some o/\H a=none)->Heap.SameBut a s.heap h'->HOk X.prog X.w H h':=fun {a h'} ha hs b ob e=>by
  obtain⟨_,_,hfree⟩:=ha
  refine(I.hok b ob e).stay (fun c w' hc q=>(hs.2 c ?_).trans q) (fun _ q=>q) fun _ _ q=>q
  rintro rfl
  rcases hc with rfl | hc
  ·rw[hfree] at e; cases e
  ·rw[hfree] at hc; cases hc
 rcases hx with hk | hk
 ·refine wpAny_storeName_local hk hn (fun h' hn' hs=>?_) hcls
  obtain⟨oL,_,_,hoL,_⟩:=id hn
  refine h _ ⟨I.ok,I.os,I.bare,⟨fun b o e n hb hx=>?_,fun b o e n hb hx=>?_,I.base.free,fun b o e hx=>?_,I.base.tups,I.base.frzs,I.base.tbls⟩,⟨_,hn',fun j y v' e1 e2 e3=>?_⟩,fun y c e=>?_,I.free,I.freeC,fun p hp=>?_,tracked ⟨oL,hoL,I.free⟩ hs,by simpa using I.len⟩ ⟨_,hs,.inl rfl⟩
  ·exact(hs.2 b (Nat.ne_of_lt (Nat.lt_of_lt_of_le (Heap.lt_size e) I.ok.above))).trans (I.base.keep b o e n hb hx)
  ·obtain⟨sl,e1⟩:=I.base.slot b o e n hb hx
   exact⟨sl,(hs.2 b (Nat.ne_of_lt (Nat.lt_of_lt_of_le (Heap.lt_size e) I.ok.above))).trans e1⟩
  ·obtain⟨o',e1⟩:=I.base.there b o e hx
   exact⟨o',(hs.2 b (Nat.ne_of_lt (Nat.lt_of_lt_of_le (Heap.lt_size e) I.ok.above))).trans e1⟩
  ·by_cases hj:j=i
   ·subst hj
    rw[hi] at e1; cases e1
    rw[List.getElem?_set_self hiσ] at e2
    cases e2
    exact⟨u,r,.inl ⟨hk,by simp⟩⟩
   ·rw[List.getElem?_set_ne (Ne.symm hj)] at e2
    obtain⟨u',r',q⟩:=hl j y v' e1 e2 e3
    refine⟨u',r',?_⟩
    rcases q with ⟨k,e⟩ | ⟨k,c,e,z⟩
    ·refine .inl ⟨k,?_⟩
     have:y≠x:=fun e=>hj (p6 hN e1 (e ▸ hi))
     simp[this,e]
    ·exact .inr ⟨k,c,e,z.sameBut hs (cne y c e)⟩
  ·obtain⟨w',z⟩:=I.cell y c e
   exact⟨w',z.sameBut hs (cne y c e)⟩
  ·obtain⟨e,n,ne,nf,d⟩:=I.pin p hp
   exact⟨(hs.2 p.1 ne).trans e,n,ne,nf,d⟩
 ·have hfn:X.fn x=true:=by
   rcases hf with z | z
   ·exact z
   ·rw[z] at hk; cases hk
  obtain⟨c,hc⟩:=I.ok.has x (.inl hk)
  obtain⟨w',z⟩:=I.cell x c hc
  refine wpAny_storeName_cell I.ok.kind hk hc z (fun h' hc' hs=>?_)
  obtain⟨oc,hoc,hocd⟩:=id z
  refine h { s with heap:=h' } ⟨I.ok,I.os,I.bare,⟨fun b o e n hb hx=>?_,fun b o e n hb hx=>?_,I.base.free,fun b o e hx=>?_,I.base.tups,I.base.frzs,I.base.tbls⟩,⟨m,hn.sameBut hs (Ne.symm (cne x c hc)),fun j y v' e1 e2 e3=>?_⟩,fun y c' e=>?_,I.free,I.freeC,fun p hp=>?_,tracked ⟨oc,hoc,I.freeC x c hc⟩ hs,by simpa using I.len⟩ ⟨c,hs,.inr hc⟩
  ·exact(hs.2 b (Nat.ne_of_lt (Nat.lt_of_lt_of_le (Heap.lt_size e) (I.ok.cab x c hfn hc)))).trans (I.base.keep b o e n hb hx)
  ·obtain⟨sl,e1⟩:=I.base.slot b o e n hb hx
   exact⟨sl,(hs.2 b (Nat.ne_of_lt (Nat.lt_of_lt_of_le (Heap.lt_size e) (I.ok.cab x c hfn hc)))).trans e1⟩
  ·obtain⟨o',e1⟩:=I.base.there b o e hx
   exact⟨o',(hs.2 b (Nat.ne_of_lt (Nat.lt_of_lt_of_le (Heap.lt_size e) (I.ok.cab x c hfn hc)))).trans e1⟩
  ·by_cases hj:j=i
   ·subst hj
    rw[hi] at e1; cases e1
    rw[List.getElem?_set_self hiσ] at e2
    cases e2
    exact⟨u,r,.inr ⟨.inl hk,c,hc,hc'⟩⟩
   ·rw[List.getElem?_set_ne (Ne.symm hj)] at e2
    obtain⟨u',r',q⟩:=hl j y v' e1 e2 e3
    refine⟨u',r',?_⟩
    rcases q with q | ⟨k,c',e,z'⟩
    ·exact .inl q
    ·refine .inr ⟨k,c',e,z'.sameBut hs ?_⟩
     rintro rfl
     exact hj (p6 hN e1 (I.ok.inj _ _ _ e hc ▸ hi))
  ·by_cases hcc:c'=c
   ·subst hcc; exact⟨_,hc'⟩
   ·obtain⟨w2,z2⟩:=I.cell y c' e
    exact⟨w2,z2.sameBut hs hcc⟩
  ·obtain⟨e,n,ne,nf,d⟩:=I.pin p hp
   refine⟨(hs.2 p.1 ?_).trans e,n,ne,nf,d⟩
   intro q
   rw[q,hoc] at e
   have q':oc=p.2:=Option.some.inj e
   exact d w' (by rw[<- q']; exact hocd)
theorem io {M:Model}{A:Around}{E:Value->Shared->Prop}{i:Nat}{x:Str}{v:V}{u:Value}{Q:Unit->Shared->Prop}(I:Inv X pins σ H s) (hN:X.N.Nodup) (hi:X.N[i]?=some x) (hx:Loc X.env.scope x) (r:RelV v u)
  (h:∀ s',Inv X pins (σ.set i (some v)) H s'->Q () s') (hf:X.fn x=true\/X.env.scope.names.lookup x=some .local:=by first | exact .inl rfl | exact .inr rfl | assumption):wpAny M A (storeName X.env x u) Q E s :=
 nV I hN hi hx r (fun s' I' _=>h s' I') hf
theorem Inv.call' {s':Shared}{ch:List Addr}(I:Inv X pins σ H s) (ho:s'.os=s.os) (u:Un (frs X.stack) ch H H' s.heap s'.heap) (hok:HOk X.prog X.w H' s'.heap) (hg:AllBare s'.gens)
  (hch:∀ b∈ch,(b∈X.ex\/X.s₀.heap.objs.size<=b)/\b≠X.env.locals/\(∀ x c,X.env.cells.lookup x=some c->c≠b)/\∀ p∈X.pn++pins,p.1≠b):Inv X pins σ H' s':=by
 obtain⟨h',g',d',t',o'⟩:=s'
 have e:o'=s.os:=ho
 subst e
 exact I.call (g':=g') (t':=t') (d':=d') u hok hg hch
end
abbrev XK:=Value->Option Addr->Hp->Prop
abbrev St:=List (Option V)
abbrev VK:=V->Hp->Prop
abbrev TE:=St->Hp->VK->Prop
abbrev TT:=St->Hp->(Bool->Hp->Prop)->Prop
abbrev TA:=St->Hp->(List V->Hp->Prop)->Prop
structure Ends where
 nx:St->Hp->Prop
 rt:VK
 bk:St->Hp->Prop:=fun _ _=>False
 ct:St->Hp->Prop:=fun _ _=>False
abbrev TS:=Ends->St->Hp->Prop
def EP (X:Cx) (pins:List (Addr×Obj)) (σ:St) (Q:VK) (u:Value) (s':Shared):Prop:=∃ v H',Inv X pins σ H' s'/\RelV v u/\Q v H'
def TP (X:Cx) (pins:List (Addr×Obj)) (σ:St) (Q:Bool->Hp->Prop) (b:Bool) (s':Shared):Prop:=∃ H',Inv X pins σ H' s'/\Q b H'
def AP (X:Cx) (pins:List (Addr×Obj)) (σ:St) (Q:List V->Hp->Prop) (us:List Value) (s':Shared):Prop:=∃ vs H',Inv X pins σ H' s'/\Vals vs us/\Q vs H'
def SP (X:Cx) (pins:List (Addr×Obj)) (D:Ends) (f:Flow) (s':Shared):Prop :=
 match f with
 | .next=>∃ σ' H',Inv X pins σ' H' s'/\D.nx σ' H'
 | .brk=>∃ σ' H',Inv X pins σ' H' s'/\D.bk σ' H'
 | .cont=>∃ σ' H',Inv X pins σ' H' s'/\D.ct σ' H'
 | .ret u=>∃ v σ' H',Inv X pins σ' H' s'/\RelV v u/\D.rt v H'
def PE (X:Cx) (e:Expr) (t:TE):Prop :=
 ∀ (pins:List (Addr×Obj)) (s:Shared) (σ:St) (H:Hp) (Q:VK),Inv X pins σ H s->t σ H Q->wpAny (model X.prog X.w) X.A (eval e X.env) (EP X pins σ Q) X.xe s
def PT (X:Cx) (e:Expr) (t:TT):Prop :=
 ∀ (pins:List (Addr×Obj)) (s:Shared) (σ:St) (H:Hp) (Q:Bool->Hp->Prop),Inv X pins σ H s->t σ H Q->wpAny (model X.prog X.w) X.A (isTrue e X.env (eval e X.env)) (TP X pins σ Q) X.xe s
def PW (X:Cx) (e:Expr) (t:TT):Prop :=
 ∀ (whole:Sem Value) (pins:List (Addr×Obj)) (s:Shared) (σ:St) (H:Hp) (Q:Bool->Hp->Prop),Inv X pins σ H s->t σ H Q->wpAny (model X.prog X.w) X.A (isTrue e X.env whole) (TP X pins σ Q) X.xe s
theorem PW.pt {X:Cx}{e:Expr}{t:TT}(h:PW X e t):PT X e t:=h _
def PA (X:Cx) (es:List Expr) (t:TA):Prop :=
 ∀ (pos:Pos) (pins:List (Addr×Obj)) (s:Shared) (σ:St) (H:Hp) (Q:List V->Hp->Prop),Inv X pins σ H s->t σ H Q->wpAny (model X.prog X.w) X.A (spliced (backTo pos (starEach es X.env))) (AP X pins σ Q) X.xe s
def PS (X:Cx) (st:Stmt) (t:TS):Prop :=
 ∀ (pins:List (Addr×Obj)) (s:Shared) (σ:St) (H:Hp) (D:Ends),Inv X pins σ H s->t D σ H->wpAny (model X.prog X.w) X.A (exec st X.env) (SP X pins D) X.xe s
def PSs (X:Cx) (st:List Stmt) (t:TS):Prop :=
 ∀ (pins:List (Addr×Obj)) (s:Shared) (σ:St) (H:Hp) (D:Ends),Inv X pins σ H s->t D σ H->wpAny (model X.prog X.w) X.A (execs st X.env) (SP X pins D) X.xe s
theorem thn {α:Type}{t:Sem α}{Q Q':α->Shared->Prop}{M:Model}{A:Around}{E:Value->Shared->Prop}{s:Shared}(h:wpAny M A t Q E s) (hQ:∀ a s,Q a s->Q' a s):wpAny M A t Q' E s:=wpAny_mono h hQ fun _ _ x=>x
end L2
namespace L2
open PySem PySem.Spec PyProof.Rows
section
variable {X:Cx}
def tVar (i:Nat):TE:=fun σ H Q=>∃ v,σ[i]?=some (some v)/\Q v H
def tC (v:V):TE:=fun _ H Q=>Q v H
theorem pe_var {i:Nat}{x:Str}{pos:Pos}(hN:X.N[i]?=some x) (hv:Vis X.env.scope x) (hd:(x == ("__debug__":Str))=false:=by decide) (hcd:(x == ("__classdict__":Str))=false:=by decide):PE X (.Name x pos) (tVar i):=by
 intro pins s σ H Q I h
 obtain⟨v,e,h⟩:=h
 obtain⟨m,hn,hl⟩:=I.loc
 obtain⟨u,r,l⟩:=hl i x v hN e hv
 have fin:EP X pins σ Q u s:=⟨v,H,I,r,h⟩
 rcases l with ⟨hk,hm⟩ | ⟨hk,c,hc,hcell⟩
 ·exact wpAny_Name (wpAny_loadName_local I.ok.kind hk hn hm fin) hd
 ·rcases hk with hk | hk
  ·exact wpAny_Name (wpAny_loadName_cell I.ok.kind hk hc hcell fin) hd
  ·exact wpAny_Name (wpAny_loadName_free I.ok.kind hk hc hcell fin hcd) hd
theorem ag {i j pos}:PE X (.Constant (.int i) j pos) (tC (.int i)):=fun _ _ _ H _ I h=>wpAny_Constant_int ⟨.int i,H,I.tok _,⟨_,rfl⟩,h⟩
theorem iq {b j pos}:PE X (.Constant (.bool b) j pos) (tC (.bl b)):=fun _ _ _ H _ I h=>Constant_bool ⟨.bl b,H,I,rfl,h⟩
theorem lu {j pos}:PE X (.Constant .none j pos) (tC .non):=fun _ _ _ H _ I h=>Constant_none ⟨.non,H,I,rfl,h⟩
theorem aD {x j pos}:PE X (.Constant (.str x) j pos) (tC (.str x)):=fun _ _ _ H _ I h=>Calls.Constant_str ⟨.str x,H,I.tok _,⟨_,rfl⟩,h⟩
def Gl (X:Cx) (x:Str):Prop:=X.env.kindOf x=some .globalImplicit
theorem j9 {E:Value->Shared->Prop}{pins:List (Addr×Obj)}{s:Shared}{σ:St}{H:Hp}{x:Str}{u:Value}{pos:Pos}{Q:Value->Shared->Prop}(I:Inv X pins σ H s) (hg:Gl X x) (hm:X.mg x=some u) (h:Q u s)
  (hd:(x == ("__debug__":Str))=false:=by decide):wpAny (model X.prog X.w) X.A (eval (.Name x pos) X.env) Q E s :=
 Calls.Name_function_global I.ok.kind hg (Calls.loadGlobal_global (by rw[I.ok.glob]; exact I.mod.glob.keeps I.bk) hm h) hd
theorem lF {E:Value->Shared->Prop}{pins:List (Addr×Obj)}{s:Shared}{σ:St}{H:Hp}{x:Str}{u:Value}{pos:Pos}{Q:Value->Shared->Prop}(I:Inv X pins σ H s) (hg:Gl X x) (hm:X.mg x=none) (hv:bootBuiltins x=some u) (h:Q u s)
  (hn:x≠"__name__":=by decide) (hd:(x == ("__debug__":Str))=false:=by decide):wpAny (model X.prog X.w) X.A (eval (.Name x pos) X.env) Q E s:=by
 obtain⟨mb,h1,h2⟩:=I.mod.blt
 exact Calls.Name_function_global I.ok.kind hg (Calls.loadGlobal_builtin (by rw[I.ok.glob]; exact I.mod.glob.keeps I.bk) hm (by rw[I.ok.blt]; exact h1.keeps I.bk) ((h2 x hn).trans hv) h) hd
theorem pe_glob {x:Str}{v:V}{u:Value}{pos:Pos}(hg:Gl X x) (hm:X.mg x=some u) (r:RelV v u) (hd:(x == ("__debug__":Str))=false:=by decide):PE X (.Name x pos) (tC v) :=
 fun _ _ _ H _ I h=>j9 I hg hm ⟨v,H,I,r,h⟩ hd
theorem pe_bltn {x:Str}{v:V}{u:Value}{pos:Pos}(hg:Gl X x) (hm:X.mg x=none) (hv:bootBuiltins x=some u) (r:RelV v u) (hn:x≠"__name__":=by decide) (hd:(x == ("__debug__":Str))=false:=by decide):PE X (.Name x pos) (tC v) :=
 fun _ _ _ H _ I h=>lF I hg hm hv ⟨v,H,I,r,h⟩ hn hd
variable {a b:Expr}{ta tb:TE}{pos:Pos}
def tB (t:TE):TT:=fun σ H Q=>t σ H fun x H1=>∃ c,x=.bl c/\Q c H1
theorem bh {e:Expr}{t:TE}(h:PE X e t) (he:∀ whole,isTrue e X.env whole=(do let v <- whole; standAt e.pos; holding [v] (truthy v)):=by intro _; rfl):PT X e (tB t):=by
 intro pins s σ H Q I hw
 refine isTrue_plain (thn (h pins s σ H _ I hw) fun v s1 ⟨x,H1,I1,r1,q1⟩=>?_) (he _)
 obtain⟨d,rfl,q⟩:=q1
 cases r1
 exact wpAny_truthy_bool ⟨H1,I1,q⟩
variable {tA tB':TT}{rest:List Expr}
def tAnd (t u:TT):TT:=fun σ H Q=>t σ H fun c H1=>if c=true then u σ H1 Q else Q false H1
def tOr (t u:TT):TT:=fun σ H Q=>t σ H fun c H1=>if c=true then Q true H1 else u σ H1 Q
def tNot (t:TT):TT:=fun σ H Q=>t σ H fun c H1=>Q (!c) H1
theorem lT (ha:PT X a tA):PW X (.BoolOp .And [a] pos) tA:=by
 intro wh pins s σ H Q I h
 refine isTrue_and (thn (ha pins s σ H Q I h) fun c s1 e=>?_)
 cases c with
 | true=>exact isTrue_and_nil e
 | false=>exact e
theorem eS (ha:PT X a tA):PW X (.BoolOp .Or [a] pos) tA:=by
 intro wh pins s σ H Q I h
 refine isTrue_or (thn (ha pins s σ H Q I h) fun c s1 e=>?_)
 cases c with
 | false=>exact isTrue_or_nil e
 | true=>exact e
theorem pL (ha:PT X a tA) (hb:PW X (.BoolOp .And (b::rest) pos) tB'):PW X (.BoolOp .And (a::b::rest) pos) (tAnd tA tB'):=by
 intro wh pins s σ H Q I h
 refine isTrue_and (thn (ha pins s σ H _ I h) fun c s1 ⟨H1,I1,q1⟩=>?_)
 cases c with
 | true=>exact hb wh pins s1 σ H1 Q I1 q1
 | false=>exact⟨H1,I1,q1⟩
theorem eQ (ha:PT X a tA) (hb:PW X (.BoolOp .Or (b::rest) pos) tB'):PW X (.BoolOp .Or (a::b::rest) pos) (tOr tA tB'):=by
 intro wh pins s σ H Q I h
 refine isTrue_or (thn (ha pins s σ H _ I h) fun c s1 ⟨H1,I1,q1⟩=>?_)
 cases c with
 | true=>exact⟨H1,I1,q1⟩
 | false=>exact hb wh pins s1 σ H1 Q I1 q1
theorem bj (ha:PT X a tA):PT X (.UnaryOp .Not a pos) (tNot tA):=by
 intro pins s σ H Q I h
 exact isTrue_not (ha pins s σ H (fun c H1=>Q (!c) H1) I h)
def tAndV (ta tb:TE):TE:=fun σ H Q=>ta σ H fun x H1=>∃ c,x=.bl c/\if c=true then tb σ H1 Q else Q (.bl false) H1
def tNotV (ta:TE):TE:=fun σ H Q=>ta σ H fun x H1=>∃ c,x=.bl c/\Q (.bl (!c)) H1
theorem tV {op}{t:TE}(h:PE X a t):PE X (.BoolOp op [a] pos) t:=fun pins s σ H Q I hw=>BoolOp_one (h pins s σ H Q I hw)
theorem rB (ha:PE X a ta) (hb:PE X (.BoolOp .And (b::rest) pos) tb):PE X (.BoolOp .And (a::b::rest) pos) (tAndV ta tb):=by
 intro pins s σ H Q I h
 refine BoolOp_and (thn (ha pins s σ H _ I h) fun v s1 ⟨x,H1,I1,r1,q1⟩=>?_)
 obtain⟨c,rfl,q1⟩:=q1
 cases r1
 refine wpAny_truthy_bool ?_
 cases c with
 | true=>exact hb pins s1 σ H1 Q I1 q1
 | false=>exact⟨.bl false,H1,I1,rfl,q1⟩
theorem pe_not (ha:PE X a ta):PE X (.UnaryOp .Not a pos) (tNotV ta):=by
 intro pins s σ H Q I h
 refine UnaryOp_ (thn (ha pins s σ H _ I h) fun v s1 ⟨x,H1,I1,r1,q1⟩=>?_)
 obtain⟨c,rfl,q1⟩:=q1
 cases r1
 exact not_of (wpAny_truthy_bool ⟨.bl (!c),H1,I1,rfl,q1⟩)
def tIf (t:TT) (ta tb:TE):TE:=fun σ H Q=>t σ H fun c H1=>if c=true then ta σ H1 Q else tb σ H1 Q
theorem ie {c:Expr}(hc:PT X c tA) (ha:PE X a ta) (hb:PE X b tb):PE X (.IfExp c a b pos) (tIf tA ta tb):=by
 intro pins s σ H Q I h
 refine wpAny_IfExp (thn (hc pins s σ H _ I h) fun d s1 ⟨H1,I1,q1⟩=>?_)
 cases d with
 | true=>exact ha pins s1 σ H1 Q I1 q1
 | false=>exact hb pins s1 σ H1 Q I1 q1
end
end L2
namespace L2
open PySem PySem.Spec PyProof.Rows
def SqL (K:Frag) (H:Hp) (a:Addr) (xs:List V):Prop :=
 Rd H a (.lst xs) \/
  ∃ (o:Obj) (its:Array Value) (n:Nat),K.lookup a=some o/\o.cls=.type "list"/\o.dict=none/\o.data=.seq its n/\its.size<=sizeLine/\Vals xs its.toList
def SqT (K:Frag) (H:Hp) (a:Addr) (xs:List V):Prop :=
 Rd H a (.tup xs) \/
  ∃ (o:Obj) (its:Array Value) (n:Nat),K.lookup a=some o/\o.cls=.type "tuple"/\o.data=.seq its n/\its.size<=sizeLine/\Vals xs its.toList
noncomputable def absV:Value->Option V
 | .none=>some .non
 | .bool b=>some (.bl b)
 | .int i _=>some (.int i)
 | .str x _=>some (.str x)
 | .bytes b _=>some (.byt b)
 | .float b _=>some (.flt b)
 | .ref a=>some (.ref a)
 | .type n=>some (.ty n)
 | _=>none
theorem RelV.abs {x:V}{u:Value}(r:RelV x u):absV u=some x:=by
 cases x with
 | non=>cases r; rfl
 | bl _=>cases r; rfl
 | int _=>obtain⟨t,rfl⟩:=r; rfl
 | str _=>obtain⟨t,rfl⟩:=r; rfl
 | byt _=>obtain⟨t,rfl⟩:=r; rfl
 | flt _=>obtain⟨t,rfl⟩:=r; rfl
 | ref _=>cases r; rfl
 | ty _=>cases r; rfl
theorem RelV.inj {x y:V}{u:Value}(r:RelV x u) (q:RelV y u):x=y:=Option.some.inj (r.abs.symm.trans q.abs)
theorem Vals.inj:∀ {xs ys:List V}{us:List Value},Vals xs us->Vals ys us->xs=ys
 | _,_,_,.nil,.nil=>rfl
 | _,_,_,.cons r t,.cons r' t'=>by rw[r.inj r',Vals.inj t t']
section
variable {X:Cx}{pins:List (Addr×Obj)}{σ:St}{H:Hp}{s:Shared}{a:Addr}{xs ys:List V}
theorem SqL.of {K:Frag}(h:H a=some (.lst xs)):SqL K H a xs:=.inl (.inl h)
theorem SqT.of {K:Frag}(h:H a=some (.tup xs)):SqT K H a xs:=.inl (.inl h)
theorem Inv.list (I:Inv X pins σ H s) (h:SqL X.K H a xs):∃ its:List Value,Vals xs its/\PlainL s.heap a its.toArray/\xs.length<=sizeLine:=by
 rcases h with h | ⟨o,its,n,hk,hc,hd,hs,hz,r⟩
 ·obtain⟨z,its,n,r,e⟩:=h.ok I.hok
  exact⟨its,r,⟨_,n,e,rfl,rfl,rfl⟩,z⟩
 ·refine⟨its.toList,r,⟨o,n,I.kIn a o hk,hc,hd,by simpa using hs⟩,?_⟩
  have e:=r.length
  simp only[Array.length_toList] at e
  lia
theorem Inv.tuple (I:Inv X pins σ H s) (h:SqT X.K H a xs):∃ its:List Value,Vals xs its/\IsTup s.heap a its.toArray/\xs.length<=sizeLine:=by
 rcases h with h | ⟨o,its,n,hk,hc,hs,hz,r⟩
 ·obtain⟨z,its,r,p⟩:=h.ok I.hok
  exact⟨its,r,p,z⟩
 ·refine⟨its.toList,r,⟨o,I.kIn a o hk,hc,n,by simpa using hs⟩,?_⟩
  have e:=r.length
  simp only[Array.length_toList] at e
  lia
theorem Inv.list_inj (I:Inv X pins σ H s) (h:SqL X.K H a xs) (h':SqL X.K H a ys):xs=ys:=by
 obtain⟨its,r,⟨o,n,e,_,_,d⟩,_⟩:=I.list h
 obtain⟨its',r',⟨o',n',e',_,_,d'⟩,_⟩:=I.list h'
 rw[e] at e'; cases e'
 rw[d] at d'
 injection d' with d1 _
 have:its=its':=by simpa using congrArg Array.toList d1
 subst this
 exact r.inj r'
theorem Inv.tuple_inj (I:Inv X pins σ H s) (h:SqT X.K H a xs) (h':SqT X.K H a ys):xs=ys:=by
 obtain⟨its,r,⟨o,e,_,n,d⟩,_⟩:=I.tuple h
 obtain⟨its',r',⟨o',e',_,n',d'⟩,_⟩:=I.tuple h'
 rw[e] at e'; cases e'
 rw[d] at d'
 injection d' with d1 _
 have:its=its':=by simpa using congrArg Array.toList d1
 subst this
 exact r.inj r'
end
noncomputable abbrev Cx.wish (X:Cx) (E:Value->Shared->Prop):Cx:={ X with xe:=E }
noncomputable abbrev Cx.nox (X:Cx):Cx:=X.wish fun _ _=>False
theorem Cx.Ok.wish {X:Cx}(ok:X.Ok) (E:Value->Shared->Prop):(X.wish E).Ok :=
 ⟨ok.mod,ok.kind,ok.glob,ok.blt,ok.above,ok.inj,ok.has,ok.cab,ok.hd,ok.frames,ok.stk,ok.exf,ok.bs,ok.bsz,ok.noex,ok.exfs,ok.funs,ok.frf⟩
theorem Cx.Ok.unwish {X:Cx}{E:Value->Shared->Prop}(ok:(X.wish E).Ok):X.Ok :=
 ⟨ok.mod,ok.kind,ok.glob,ok.blt,ok.above,ok.inj,ok.has,ok.cab,ok.hd,ok.frames,ok.stk,ok.exf,ok.bs,ok.bsz,ok.noex,ok.exfs,ok.funs,ok.frf⟩
section
variable {X:Cx}{pins:List (Addr×Obj)}{σ:St}{H:Hp}{s:Shared}{E:Value->Shared->Prop}
theorem Inv.wish (I:Inv X pins σ H s) (E:Value->Shared->Prop):Inv (X.wish E) pins σ H s:=⟨I.ok.wish E,I.os,I.bare,I.base,I.loc,I.cell,I.free,I.freeC,I.pin,I.hok,I.len⟩
theorem Inv.unwish (I:Inv (X.wish E) pins σ H s):Inv X pins σ H s:=⟨I.ok.unwish,I.os,I.bare,I.base,I.loc,I.cell,I.free,I.freeC,I.pin,I.hok,I.len⟩
theorem SP.unwish {D:Ends}{f:Flow}{s':Shared}(h:SP (X.wish E) pins D f s'):SP X pins D f s':=by
 cases f with
 | next=>obtain⟨σ',H',I,q⟩:=h; exact⟨σ',H',I.unwish,q⟩
 | brk=>obtain⟨σ',H',I,q⟩:=h; exact⟨σ',H',I.unwish,q⟩
 | cont=>obtain⟨σ',H',I,q⟩:=h; exact⟨σ',H',I.unwish,q⟩
 | ret u=>obtain⟨v,σ',H',I,r,q⟩:=h; exact⟨v,σ',H',I.unwish,r,q⟩
theorem PSs.nox {st:List Stmt}{t:TS}(h:PSs X.nox st t):PSs X st t:=fun pins s σ H D I hw =>
 wpAny_mono (h pins s σ H D (I.wish _) hw) (fun _ _ q=>q.unwish) fun _ _ z=>False.elim z
end
section
variable {X:Cx}{st:Stmt}{rest:List Stmt}{t u:TS}{e:Expr}{te:TE}{pos:Pos}
def tNext:TS:=fun D σ H=>D.nx σ H
def tSeq (t u:TS):TS:=fun D σ H=>t { D with nx:=u D } σ H
theorem aw:PSs X [] tNext:=fun _ _ σ H _ I h=>wpAny_execs_nil ⟨σ,H,I,h⟩
theorem af (h1:PS X st t) (h2:PSs X rest u):PSs X (st::rest) (tSeq t u):=by
 intro pins s σ H D I h
 refine wpAny_execs_cons (thn (h1 pins s σ H { D with nx:=u D } I h) fun f s1 q=>?_)
 cases f with
 | next =>
  obtain⟨σ',H',I',q⟩:=q
  exact h2 pins s1 σ' H' D I' q
 | ret v=>exact q
 | brk=>exact q
 | cont=>exact q
theorem aj (h1:PS X st t):PSs X [st] t:=by
 intro pins s σ H D I h
 refine wpAny_execs_cons (thn (h1 pins s σ H D I h) fun f s1 q=>?_)
 cases f with
 | next=>exact wpAny_execs_nil q
 | ret v=>exact q
 | brk=>exact q
 | cont=>exact q
theorem Inv.quiet {pins:List (Addr×Obj)}{σ:St}{H:Hp}{s:Shared}(I:Inv X pins σ H s):interactive X.env=false:=by simp[interactive,I.ok.kind]
def tDrop (te:TE):TS:=fun D σ H=>te σ H fun _ H1=>D.nx σ H1
theorem aK (he:PE X e te) (hs:swapsWith e none pos.line X.env=pure false:=by rfl):PS X (.Expr e pos) (tDrop te):=by
 intro pins s σ H D I h
 exact wpAny_Expr_any (thn (he pins s σ H _ I h) fun v s1 ⟨x,H1,I1,r1,q1⟩=>⟨σ,H1,I1,q1⟩) I.quiet hs
def tRet (te:TE):TS:=fun D σ H=>te σ H D.rt
theorem av (he:PE X e te):PS X (.Return (some e) pos) (tRet te):=by
 intro pins s σ H D I h
 exact wpAny_Return_some (thn (he pins s σ H _ I h) fun v s1 ⟨x,H1,I1,r1,q1⟩=>⟨x,σ,H1,I1,r1,q1⟩)
def tIfS (c:TT) (t u:TS):TS:=fun D σ H=>c σ H fun b H1=>if b=true then t D σ H1 else u D σ H1
theorem aN {c:Expr}{a b:List Stmt}{tc:TT}(hc:PT X c tc) (ha:PSs X a t) (hb:PSs X b u):PS X (.If c a b pos) (tIfS tc t u):=by
 intro pins s σ H D I h
 refine wpAny_If (thn (hc pins s σ H _ I h) fun d s1 ⟨H1,I1,q1⟩=>?_)
 cases d with
 | true=>exact ha pins s1 σ H1 D I1 q1
 | false=>exact hb pins s1 σ H1 D I1 q1
def tNever:TS:=fun _ _ _=>False
theorem bG:PS X st tNever:=fun _ _ _ _ _ _ h=>h.elim
end
abbrev TG:=V->St->Hp->(St->Hp->Prop)->Prop
abbrev TGs:=List V->St->Hp->(St->Hp->Prop)->Prop
def PG (X:Cx) (target:Expr) (t:TG):Prop :=
 ∀ (pins:List (Addr×Obj)) (s:Shared) (σ:St) (H:Hp) (v:V) (u:Value) (Q:St->Hp->Prop),Inv X pins σ H s->RelV v u->t v σ H Q ->
  wpAny (model X.prog X.w) X.A (assign target X.env u) (fun _ s'=>∃ σ' H',Inv X pins σ' H' s'/\Q σ' H') X.xe s
def PGs (X:Cx) (ts:List Expr) (t:TGs):Prop :=
 ∀ (pins:List (Addr×Obj)) (s:Shared) (σ:St) (H:Hp) (vs:List V) (us:List Value) (Q:St->Hp->Prop),Inv X pins σ H s->Vals vs us->t vs σ H Q ->
  wpAny (model X.prog X.w) X.A (assignInOrder ((assignEach ts X.env).map (·.2)) us) (fun _ s'=>∃ σ' H',Inv X pins σ' H' s'/\Q σ' H') X.xe s
abbrev TSet:=V->V->V->Hp->(Hp->Prop)->Prop
def PSet (X:Cx) (t:TSet):Prop :=
 ∀ (pins:List (Addr×Obj)) (s:Shared) (σ:St) (H:Hp) (o i v:V) (ov iv u:Value) (Q:Hp->Prop),Inv X pins σ H s->RelV o ov->RelV i iv->RelV v u->t o i v H Q ->
  wpAny (model X.prog X.w) X.A (setItem ov iv u) (fun _ s'=>∃ H',Inv X pins σ H' s'/\Q H') X.xe s
section
variable {X:Cx}{pos:Pos}
def sU (i:Nat):TG:=fun v σ H Q=>Q (σ.set i (some v)) H
theorem be {i:Nat}{x:Str}(hN:X.N.Nodup) (hi:X.N[i]?=some x) (hx:Loc X.env.scope x) (hf:X.fn x=true\/X.env.scope.names.lookup x=some .local:=by first | exact .inl rfl | exact .inr rfl | assumption):PG X (.Name x pos) (sU i):=by
 intro pins s σ H v u Q I r h
 exact wpAny_assign_Name (io I hN hi hx r (fun s' I'=>⟨_,H,I',h⟩) hf)
def gNil:TGs:=fun vs σ H Q=>vs=[]/\Q σ H
def gCons (t:TG) (u:TGs):TGs:=fun vs σ H Q=>∃ v r,vs=v::r/\t v σ H fun σ' H'=>u r σ' H' Q
theorem tu:PGs X [] gNil:=by
 intro pins s σ H vs us Q I r h
 obtain⟨e,h⟩:=h
 subst e
 cases r
 exact assignInOrder_nil ⟨σ,H,I,h⟩
theorem fc {e:Expr}{es:List Expr}{t:TG}{u:TGs}(h1:PG X e t) (h2:PGs X es u)
  (hs:(assignEach (e::es) X.env).map (·.2)=assign e X.env::(assignEach es X.env).map (·.2):=by rfl):PGs X (e::es) (gCons t u):=by
 intro pins s σ H vs us Q I r h
 obtain⟨v,vr,e1,h⟩:=h
 subst e1
 cases r with
 | cons r rr =>
  rw[hs]
  refine assignInOrder_cons (thn (h1 pins s σ H _ _ _ I r h) fun _ s1 ⟨σ1,H1,I1,q1⟩=>?_)
  exact h2 pins s1 σ1 H1 _ _ Q I1 rr q1
def gTup (K:Frag) (n:Nat) (t:TGs):TG:=fun v σ H Q=>∃ a xs,v=.ref a/\SqT K H a xs/\xs.length=n/\t xs σ H Q
theorem pg_tup {es:List Expr}{k:Nat}{t:TGs}{n:Nat}(hc:X.calm=true) (h:PGs X es t)
  (hn:(assignEach es X.env).length=n:=by rfl) (hst:(assignEach es X.env).findIdx? (·.1)=none:=by rfl):PG X (.Tuple es k pos) (gTup X.K n t):=by
 intro pins s σ H v u Q I r hw
 obtain⟨a,xs,e1,hq,hl,hw⟩:=hw
 subst e1
 cases r
 obtain⟨its,rv,ht,hz⟩:=I.tuple hq
 refine assign_Tuple_tuple (I.ok.hd hc) ht (by simp[hn,<- hl,rv.length]) hst fun h' hx=>?_
 have I1:Inv X pins σ H { s with heap:=h' }:=I.kept (t':=s.toks) fun b o e=>hx b o (Nat.ne_of_lt (Heap.lt_size e)) e
 exact h pins _ σ H xs _ Q I1 (by simpa using rv) hw
def gSub (to ti:TE) (t:TSet):TG:=fun v σ H Q=>to σ H fun o H1=>ti σ H1 fun i H2=>t o i v H2 fun H3=>Q σ H3
theorem pg_sub {o i:Expr}{to ti:TE}{t:TSet}(ho:PE X o to) (hi:PE X i ti) (hs:PSet X t)
  (ha:∀ v,assign (.Subscript o i pos) X.env v=(do
   let ov <- holding [v] (eval o X.env)
   let iv <- holding [v,ov] (eval i X.env)
   standAt pos
   holding [v,ov,iv] (setItem ov iv v)
   release [v,ov,iv] []):=by intro _; rfl):PG X (.Subscript o i pos) (gSub to ti t):=by
 intro pins s σ H v u Q I r h
 rw[ha]
 refine wpAny_bind (wpAny_holding (thn (ho pins s σ H _ I h) fun ov s1 ⟨x,H1,I1,r1,q1⟩=>?_))
 refine wpAny_bind (wpAny_holding (thn (hi pins s1 σ H1 _ I1 q1) fun iv s2 ⟨y,H2,I2,r2,q2⟩=>?_))
 refine wpAny_bind (wpAny_standAt (wpAny_bind (wpAny_holding (thn (hs pins s2 σ H2 x y v ov iv u _ I2 r1 r2 r q2) fun _ s3 ⟨H3,I3,q3⟩=>?_))))
 exact wpAny_release ⟨σ,H3,I3,q3⟩
def tAsg (te:TE) (g:TG):TS:=fun D σ H=>te σ H fun x H1=>g x σ H1 D.nx
theorem rZ {tg e:Expr}{te:TE}{g:TG}(he:PE X e te) (hg:PG X tg g) (hs:swapsWithSole [tg] e pos.line X.env=pure false:=by rfl) (hw:swappedStores [tg] e X.env=pure none:=by rfl)
  (h1:(assignEach [tg] X.env).map (·.2)=[assign tg X.env]:=by rfl):PS X (.Assign [tg] e pos) (tAsg te g):=by
 intro pins s σ H D I h
 refine wpAny_Assign_stores (thn (he pins s σ H _ I h) fun v s1 ⟨x,H1,I1,r1,q1⟩=>?_) hs hw
 rw[h1]
 exact thn (hg pins s1 σ H1 x v _ I1 r1 q1) fun _ s2 q=>q
theorem ax {i:Nat}{x:Str}{e:Expr}{te:TE}{pos':Pos}(hN:X.N.Nodup) (hi:X.N[i]?=some x) (hx:Loc X.env.scope x) (he:PE X e te) (hs:swapsWith e (some (.Name x pos')) pos.line X.env=pure false:=by rfl) (hf:X.fn x=true\/X.env.scope.names.lookup x=some .local:=by first | exact .inl rfl | exact .inr rfl | assumption) :
  PS X (.Assign [.Name x pos'] e pos) (tAsg te (sU i)):=by
 intro pins s σ H D I h
 refine wpAny_Assign_Name (thn (he pins s σ H _ I h) fun v s1 ⟨y,H1,I1,r1,q1⟩=>?_) hs
 exact io I1 hN hi hx r1 (fun s2 I2=>⟨_,H1,I2,q1⟩) hf
end
section
variable {X:Cx}{pos:Pos}
def tWhile (c:TT) (tb:TS):TS:=fun D σ H=>∃ W:Nat->St->Hp->Prop,(∃ m,W m σ H)/\∀ m σ H,W m σ H ->
 c σ H fun b H1=>if b=true then ∃ N:St->Hp->Prop,(∀ σ' H',N σ' H'->∃ m',m'<m/\W m' σ' H')/\tb { D with nx:=N,ct:=N,bk:=D.nx } σ H1 else D.nx σ H1
theorem my {c:Expr}{body:List Stmt}{tc:TT}{tb:TS}(hp:PassesOwn (model X.prog X.w) X.A X.env X.xe) (hc:PT X c tc) (hb:PSs X body tb):PS X (.While c body [] pos) (tWhile tc tb):=by
 intro pins s σ H D I h
 obtain⟨W,⟨m0,w0⟩,turn⟩:=h
 refine wpAny_While (codeAny_whileLoop (fun n s'=>∃ σ' H',Inv X pins σ' H' s'/\W n σ' H') ?_ m0 ⟨σ,H,I,w0⟩)
 rintro n s1 ⟨σ1,H1,I1,w1⟩
 refine wpAny_passesOwn hp (thn (hc pins s1 σ1 H1 _ I1 (turn n σ1 H1 w1)) fun b s2 ⟨H2,I2,q2⟩=>?_)
 cases b with
 | true =>
  obtain⟨N,hN,q2⟩:=q2
  rw[if_pos rfl]
  refine wpAny_passesOwn hp (thn (hb pins s2 σ1 H2 _ I2 q2) fun f s3 q3=>?_)
  cases f with
  | next =>
   obtain⟨σ3,H3,I3,n3⟩:=q3
   obtain⟨m',hm,w3⟩:=hN σ3 H3 n3
   exact⟨m',hm,σ3,H3,I3,w3⟩
  | cont =>
   obtain⟨σ3,H3,I3,n3⟩:=q3
   obtain⟨m',hm,w3⟩:=hN σ3 H3 n3
   exact⟨m',hm,σ3,H3,I3,w3⟩
  | brk=>exact q3
  | ret v=>exact q3
 | false =>
  rw[if_neg Bool.false_ne_true]
  exact wpAny_execs_nil ⟨σ1,H2,I2,q2⟩
end
structure It where
 go:Nat->Hp->Prop
 yld:Nat->Hp->V->Hp->Prop
 stop:Nat->Hp->Prop
def kF (X:Cx) (pins:List (Addr×Obj)) (H:Hp) (b:Addr):Prop :=
 H b=none/\b≠X.env.locals/\b∉X.fs/\(b∈X.ex\/X.s₀.heap.objs.size<=b)/\(∀ x c,X.env.cells.lookup x=some c->c≠b)/\∀ p∈X.pn++pins,p.1≠b
theorem Inv.fpOk {X:Cx}{pins:List (Addr×Obj)}{σ:St}{H H':Hp}{s:Shared}{b:Addr}(I:Inv X pins σ H s) (hb:s.heap.objs.size<=b) (hn:H' b=none):kF X pins H' b:=by
 refine⟨hn,Nat.ne_of_gt (Nat.lt_of_lt_of_le I.lt hb),I.nofs hb,.inr (Nat.le_trans I.sz hb),fun x c e z=>?_,fun p hp z=>?_⟩
 ·obtain⟨v,q⟩:=I.cell x c e
  exact absurd (Nat.lt_of_lt_of_le q.lt (by rw[z]; exact hb)) (lt_irrefl _)
 ·exact absurd (Nat.lt_of_lt_of_le (Heap.lt_size (I.pin p hp).1) (by rw[z]; exact hb)) (lt_irrefl _)
structure Turn (P:Program) (w:World) (K:Frag) (tg:Expr) (J:It) (fp:List Addr) (it:Addr) (tn:Nat->Heap->Prop):Prop where
 mem:it∈fp
 obj:∀ i h,tn i h->∀ b∈fp,∃ o,h.get? b=some o/\∀ v,o.data≠.cell v
 keep:∀ i h h',tn i h->(∀ b∈fp,∀ o,h.get? b=some o->h'.get? b=some o)->tn i h'
 item:∀ (X:Cx),X.prog=P->X.w=w->X.K=K->X.calm=true->∀ (i:Nat) (pins:List (Addr×Obj)) (s:Shared) (σ:St) (H:Hp) (E:Value->Shared->Prop),Inv X pins σ H s->(∀ b∈fp,kF X pins H b)->tn i s.heap->J.go i H ->
  wpAny (model P w) X.A (pyNext (.ref it)) (fun r s1=>∃ u,r=some u /\
   wpAny (model P w) X.A (letOwnedTupleGo tg (.ref it) u) (fun _ s2=>∃ x H',Inv X pins σ H' s2/\RelV x u/\J.yld i H x H'/\tn (i+1) s2.heap/\∀ b∈fp,H' b=none) E s1) E s
 done:∀ (X:Cx),X.prog=P->X.w=w->X.K=K->X.calm=true->∀ (i:Nat) (pins:List (Addr×Obj)) (s:Shared) (σ:St) (H:Hp) (E:Value->Shared->Prop),Inv X pins σ H s->(∀ b∈fp,kF X pins H b)->tn i s.heap->J.stop i H ->
  wpAny (model P w) X.A (pyNext (.ref it)) (fun r s1=>r=none/\Inv X pins σ H s1) E s
 self:∀ (A:Around) (i:Nat) (s:Shared) (Q:Value->Shared->Prop) (E:Value->Shared->Prop),tn i s.heap->Q (.ref it) s->wpAny (model P w) A (pyIter (.ref it)) Q E s
abbrev TI:=St->Hp->(It->Hp->Prop)->Prop
def PIE (X:Cx) (pins:List (Addr×Obj)) (σ:St) (tg:Expr) (R:It->Hp->Prop) (itv:Value) (s2:Shared):Prop :=
 ∃ (it:Addr) (fp:List Addr) (tn:Nat->Heap->Prop) (J:It) (H':Hp),itv=.ref it/\Inv X pins σ H' s2/\Turn X.prog X.w X.K tg J fp it tn/\tn 0 s2.heap/\(∀ b∈fp,kF X pins H' b)/\R J H'
def PI (X:Cx) (tg iter:Expr) (wi:TI):Prop :=
 ∀ (pins:List (Addr×Obj)) (s:Shared) (σ:St) (H:Hp) (R:It->Hp->Prop),Inv X pins σ H s->wi σ H R ->
  wpAny (model X.prog X.w) X.A (eval iter X.env) (fun v s1=>wpAny (model X.prog X.w) X.A (pyIter v) (PIE X pins σ tg R) X.xe s1) X.xe s
theorem go_of {M:Model}{A:Around}{E:Value->Shared->Prop}{s:Shared}{tg:Expr}{it:Addr}{u:Value}{o:Obj}{n:String}{vs:Array Value}{Q:Unit->Shared->Prop}(ho:s.heap.get? it=some o) (hc:o.cls=.type n) (hd:o.data=.fields vs)
  (hn:["enumerate","zip","dict_itemiterator","dict_reverseitemiterator","odict_iterator","itertools.zip_longest","itertools.pairwise"].contains n=false) (hQ:Q () s):wpAny M A (letOwnedTupleGo tg (.ref it) u) Q E s:=by
 unfold letOwnedTupleGo
 cases tg <;> first
  | exact wpAny_pure hQ
  | (cases u <;> first
    | exact wpAny_pure hQ
    | (refine wpAny_bind (wpAny_load ho ?_)
       rw[hc,hd]
       show wpAny M A (if (["enumerate","zip","dict_itemiterator","dict_reverseitemiterator","odict_iterator","itertools.zip_longest","itertools.pairwise"].contains n&&vs[0]? == some (rawInt _))=true then _ else _) Q E s
       rw[if_neg (by intro h; rw[hn,Bool.false_and] at h; cases h)]
       exact wpAny_pure hQ))
def Itl (K:Frag) (a:Addr):It :=
 ⟨fun i H=>∃ xs x,SqL K H a xs/\xs[i]?=some x,fun i H x H'=>H'=H/\∀ xs,SqL K H a xs->xs[i]?=some x,fun i H=>∃ xs,SqL K H a xs/\xs.length<=i⟩
def Itt (K:Frag) (a:Addr):It :=
 ⟨fun i H=>∃ xs x,SqT K H a xs/\xs[i]?=some x,fun i H x H'=>H'=H/\∀ xs,SqT K H a xs->xs[i]?=some x,fun i H=>∃ xs,SqT K H a xs/\xs.length<=i⟩
def Itr (lo:Int) (n:Nat):It:=⟨fun i _=>i<n,fun i H x H'=>H'=H/\x=.int (lo+i),fun i _=>n<=i⟩
theorem rp {P:Program}{w:World}{K:Frag}{tg:Expr}(a it:Addr):Turn P w K tg (Itl K a) [it] it (fun i h=>h.IsListIter it a i) where
 mem:=by simp
 obj:=fun i h st b hb=>by
  have e:b=it:=by simpa using hb
  subst e
  obtain⟨o,e,c,d⟩:=st
  exact⟨o,e,fun v z=>by rw[d] at z; cases z⟩
 keep:=fun i h h' st k=>st.at fun o e=>k it (by simp) o e
 item:=by
  intro X hP hw hK hc i pins s σ H E I hf st hg
  subst hP hw hK
  obtain⟨xs,x,hq,hx⟩:=hg
  obtain⟨its,rv,p,hz⟩:=I.list hq
  obtain⟨u,hu,ru⟩:=rv.get hx
  obtain⟨f0,f1,f2,f3,f4,f5⟩:=hf it (by simp)
  refine wpAny_pyNext_list_item st p.isList (x:=u) (by simpa using hu) fun h' st' sb=>?_
  have I1:Inv X pins σ H { s with heap:=h' }:=I.turned (t':=s.toks) (fun b o hb e=>(sb.2 b hb).trans e) f0 f1 f3 f4 f5
  obtain⟨o,e,c,d⟩:=id st'
  exact⟨u,rfl,go_of (s:={ s with heap:=h' }) e c d (by decide) ⟨x,H,I1,ru,⟨rfl,fun ys hy=>by rw[I.list_inj hy hq]; exact hx⟩,st',fun b hb=>(hf b hb).1⟩⟩
 done:=by
  intro X hP hw hK hc i pins s σ H E I hf st hg
  subst hP hw hK
  obtain⟨xs,hq,hx⟩:=hg
  obtain⟨its,rv,p,hz⟩:=I.list hq
  obtain⟨f0,f1,f2,f3,f4,f5⟩:=hf it (by simp)
  have hl:=rv.length
  exact wpAny_pyNext_list_end (I.ok.hd hc) st p.isList (by simp; lia) fun h' eb=>⟨rfl,I.turned (t':=s.toks) (fun b o hb e=>eb b o hb e) f0 f1 f3 f4 f5⟩
 self:=fun _ _ _ _ _ st h=>wpAny_pyIter_listiter st h
theorem qw {P:Program}{w:World}{K:Frag}{tg:Expr}(a it:Addr):Turn P w K tg (Itt K a) [it] it (fun i h=>h.IsTupleIter it a i) where
 mem:=by simp
 obj:=fun i h st b hb=>by
  have e:b=it:=by simpa using hb
  subst e
  obtain⟨o,e,c,d⟩:=st
  exact⟨o,e,fun v z=>by rw[d] at z; cases z⟩
 keep:=fun i h h' st k=>st.at fun o e=>k it (by simp) o e
 item:=by
  intro X hP hw hK hc i pins s σ H E I hf st hg
  subst hP hw hK
  obtain⟨xs,x,hq,hx⟩:=hg
  obtain⟨its,rv,p,hz⟩:=I.tuple hq
  obtain⟨u,hu,ru⟩:=rv.get hx
  obtain⟨f0,f1,f2,f3,f4,f5⟩:=hf it (by simp)
  refine wpAny_pyNext_tuple_item st (show s.heap.IsTuple a its.toArray from p) (x:=u) (by simpa using hu) fun h' st' sb=>?_
  have I1:Inv X pins σ H { s with heap:=h' }:=I.turned (t':=s.toks) (fun b o hb e=>(sb.2 b hb).trans e) f0 f1 f3 f4 f5
  obtain⟨o,e,c,d⟩:=id st'
  exact⟨u,rfl,go_of (s:={ s with heap:=h' }) e c d (by decide) ⟨x,H,I1,ru,⟨rfl,fun ys hy=>by rw[I.tuple_inj hy hq]; exact hx⟩,st',fun b hb=>(hf b hb).1⟩⟩
 done:=by
  intro X hP hw hK hc i pins s σ H E I hf st hg
  subst hP hw hK
  obtain⟨xs,hq,hx⟩:=hg
  obtain⟨its,rv,p,hz⟩:=I.tuple hq
  obtain⟨f0,f1,f2,f3,f4,f5⟩:=hf it (by simp)
  have hl:=rv.length
  exact wpAny_pyNext_tuple_end (I.ok.hd hc) st (show s.heap.IsTuple a its.toArray from p) (by simp; lia) fun h' eb=>⟨rfl,I.turned (t':=s.toks) (fun b o hb e=>eb b o hb e) f0 f1 f3 f4 f5⟩
 self:=fun _ _ _ _ _ st h=>wpAny_pyIter_tupleiter st h
theorem qQ {P:Program}{w:World}{K:Frag}{tg:Expr}(it:Addr) (lo:Int) (n:Nat):Turn P w K tg (Itr lo n) [it] it (fun i h=>IsRangeIter h it (lo+(i:Nat)*1) ((n:Int)-(i:Nat)) 1) where
 mem:=by simp
 obj:=fun i h st b hb=>by
  have e:b=it:=by simpa using hb
  subst e
  exact⟨_,st,fun v z=>by
   have z':Data.fields _=Data.cell v:=z
   cases z'⟩
 keep:=fun i h h' st k=>k it (by simp) _ st
 item:=by
  intro X hP hw hK hc i pins s σ H E I hf st hg
  subst hP hw hK
  obtain⟨f0,f1,f2,f3,f4,f5⟩:=hf it (by simp)
  have W:=Walks.range (prog:=X.prog) (w:=X.w) (I.ok.hd hc) it lo 1 n
  refine W.item i s _ _ hg st fun v h' tk hv st' kk=>?_
  obtain⟨t,rfl⟩:=hv
  have I1:Inv X pins σ H { s with heap:=h',toks:=tk }:=I.turned (fun b o hb e=>kk b o (by simpa using hb) e) f0 f1 f3 f4 f5
  refine⟨_,rfl,go_of (s:={ s with heap:=h',toks:=tk }) (n:="range_iterator") st' rfl rfl (by decide) ⟨.int (lo+i),H,I1,⟨t,?_⟩,⟨rfl,rfl⟩,st',fun b hb=>(hf b hb).1⟩⟩
  rw[mul_one]
 done:=by
  intro X hP hw hK hc i pins s σ H E I hf st hg
  subst hP hw hK
  obtain⟨f0,f1,f2,f3,f4,f5⟩:=hf it (by simp)
  exact wpAny_pyNext_range_end (I.ok.hd hc) st (by have:n<=i:=hg; lia) fun h' eb=>⟨rfl,I.turned (t':=s.toks) (fun b o hb e=>eb b o hb e) f0 f1 f3 f4 f5⟩
 self:=fun _ _ _ _ _ st h=>wpAny_pyIter_rangeiter st h
end L2
namespace L2
open PySem PySem.Spec PyProof.Rows
section
variable {X:Cx}{tg:Expr}
def iList (K:Frag) (tl:TE):TI:=fun σ H R=>tl σ H fun x H1=>∃ a,x=.ref a/\(∃ xs,SqL K H1 a xs)/\R (Itl K a) H1
def iTup (K:Frag) (tl:TE):TI:=fun σ H R=>tl σ H fun x H1=>∃ a,x=.ref a/\(∃ xs,SqT K H1 a xs)/\R (Itt K a) H1
theorem cr {l:Expr}{tl:TE}(hl:PE X l tl):PI X tg l (iList X.K tl):=by
 intro pins s σ H R I h
 refine thn (hl pins s σ H _ I h) fun v s1 ⟨x,H1,I1,r1,q1⟩=>?_
 obtain⟨a,e,⟨xs,hq⟩,q⟩:=q1
 subst e
 cases r1
 obtain⟨its,rv,p,hz⟩:=I1.list hq
 refine wpAny_pyIter_list p.isList ?_
 refine⟨s1.heap.objs.size,[s1.heap.objs.size],_,_,H1,rfl,I1.kept (t':=s1.toks) fun b o e=>Heap.get?_push_of_some _ e,rp a _,⟨_,Heap.get?_push_size _ rfl,rfl,rfl⟩,fun b hb=>?_,q⟩
 have e:b=s1.heap.objs.size:=by simpa using hb
 subst e
 exact I1.fpOk (Nat.le_refl _) (I1.hok.fresh (Nat.le_refl _))
theorem pi_tup {l:Expr}{tl:TE}(hl:PE X l tl):PI X tg l (iTup X.K tl):=by
 intro pins s σ H R I h
 refine thn (hl pins s σ H _ I h) fun v s1 ⟨x,H1,I1,r1,q1⟩=>?_
 obtain⟨a,e,⟨xs,hq⟩,q⟩:=q1
 subst e
 cases r1
 obtain⟨its,rv,p,hz⟩:=I1.tuple hq
 refine wpAny_pyIter_tuple (show s1.heap.IsTuple a its.toArray from p) ?_
 refine⟨s1.heap.objs.size,[s1.heap.objs.size],_,_,H1,rfl,I1.kept (t':=s1.toks) fun b o e=>Heap.get?_push_of_some _ e,qw a _,⟨_,Heap.get?_push_size _ rfl,rfl,rfl⟩,fun b hb=>?_,q⟩
 have e:b=s1.heap.objs.size:=by simpa using hb
 subst e
 exact I1.fpOk (Nat.le_refl _) (I1.hok.fresh (Nat.le_refl _))
theorem range_it {pins:List (Addr×Obj)}{σ:St}{H:Hp}{s:Shared}{R:It->Hp->Prop}{E:Value->Shared->Prop}{lo hi:Int}{t u v:Tok}{tk:Nat}(I:Inv X pins σ H s) (h1:-(2^62)<=lo) (h2:lo<2^62) (h3:-(2^62)<=hi) (h4:hi<2^62)
  (q:R (Itr lo (hi-lo).toNat) H):wpAny (model X.prog X.w) X.A (pyIter (.ref s.heap.objs.size)) (PIE X pins σ tg R) E { s with heap:=s.heap.push { cls:=.type "range",data:=.fields #[.int lo t,.int hi u,.int 1 v] },toks:=tk }:=by
 refine wpAny_pyIter_range (IsRange.new ..) (small_one h1 h2 h3 h4) ?_
 have I1:Inv X pins σ H { s with heap:=s.heap.push { cls:=.type "range",data:=.fields #[.int lo t,.int hi u,.int 1 v] },toks:=tk }:=I.kept fun b o e=>Heap.get?_push_of_some _ e
 refine⟨(s.heap.push { cls:=.type "range",data:=.fields #[.int lo t,.int hi u,.int 1 v] }).objs.size,[(s.heap.push { cls:=.type "range",data:=.fields #[.int lo t,.int hi u,.int 1 v] }).objs.size],_,_,H,rfl,
  I1.kept (t':=tk) fun b o e=>Heap.get?_push_of_some _ e,qQ _ lo (hi-lo).toNat,?_,fun b hb=>?_,q⟩
 ·have e1:lo+((0:Nat):Int)*1=lo:=by simp
  have e2:(((hi-lo).toNat:Nat):Int)-((0:Nat):Int)=Builtin.Range.rangeSize lo hi 1:=by rw[rangeSize_one]; split <;> lia
  show IsRangeIter _ _ (lo+((0:Nat):Int)*1) ((((hi-lo).toNat:Nat):Int)-((0:Nat):Int)) 1
  rw[e1,e2]
  exact Heap.get?_push_size _ rfl
 ·have e:b=(s.heap.push { cls:=.type "range",data:=.fields #[.int lo t,.int hi u,.int 1 v] }).objs.size:=by simpa using hb
  subst e
  exact I1.fpOk (Nat.le_refl _) (I1.hok.fresh (Nat.le_refl _))
def iRng1 (ta:TA):TI:=fun σ H R=>ta σ H fun vs H1=>∃ j:Int,vs=[.int j]/\-(2^62)<=j/\j<2^62/\R (Itr 0 j.toNat) H1
theorem cK {a:Expr}{ta:TA}{p pos:Pos}(hg:Gl X "range") (hm:X.mg "range"=none) (ha:PA X [a] ta) (hs:starEach [a] X.env=[(false,eval a X.env)]:=by rfl):PI X tg (.Call (.Name "range" p) [a] [] pos) (iRng1 ta):=by
 intro pins s σ H R I h
 refine Call_ (lF I hg hm boot_range (PyProof.Rows.callWith_type1 (thn (ha pos pins s σ H _ I h) fun us s1 ⟨vs,H1,I1,r1,q1⟩=>?_) hs rfl))
 obtain⟨j,e,q1,q2,q⟩:=q1
 subst e
 cases r1 with
 | cons r rr =>
  cases rr
  obtain⟨t,rfl⟩:=r
  exact call_range_1 (range_it I1 (by lia) (by lia) q1 q2 (by simpa using q))
def tFor (wi:TI) (g:TG) (tb:TS):TS:=fun D σ H=>wi σ H fun J H1=>∃ W:Nat->Nat->St->Hp->Prop,(∃ m,W 0 m σ H1)/\∀ i m σ H,W i m σ H ->
 (J.stop i H/\D.nx σ H)\/(J.go i H/\∃ N:St->Hp->Prop,(∀ σ' H',N σ' H'->∃ m',m'<m/\W (i+1) m' σ' H')/\∀ x H',J.yld i H x H'->g x σ H' fun σ2 H2=>tb { D with nx:=N,ct:=N,bk:=D.nx } σ2 H2)
def nh (fp:List Addr) (h:Heap):List (Addr×Obj):=fp.filterMap fun b=>(h.get? b).map fun o=>(b,o)
theorem bR {fp:List Addr}{h:Heap}{b:Addr}{o:Obj}(hb:b∈fp) (e:h.get? b=some o):(b,o)∈nh fp h:=List.mem_filterMap.mpr ⟨b,hb,by rw[e]; rfl⟩
theorem rQ {fp:List Addr}{h:Heap}{p:Addr×Obj}(hp:p∈nh fp h):p.1∈fp/\h.get? p.1=some p.2:=by
 obtain⟨b,hb,e⟩:=List.mem_filterMap.mp hp
 cases q:h.get? b with
 | none=>rw[q] at e; cases e
 | some o =>
  rw[q] at e
  have e':(b,o)=p:=Option.some.inj e
  subst e'
  exact⟨hb,q⟩
theorem Inv.pinned {pins:List (Addr×Obj)}{σ:St}{H:Hp}{s:Shared}{fp:List Addr}(I:Inv X pins σ H s) (hf:∀ b∈fp,kF X pins H b) (ho:∀ b∈fp,∃ o,s.heap.get? b=some o/\∀ v,o.data≠.cell v):Inv X (pins++nh fp s.heap) σ H s :=
 I.pins_of fun p hp=>(List.mem_append.mp hp).elim (fun z=>I.pin p (mem_append_right _ z)) fun z=>by
  obtain⟨hb,e⟩:=rQ z
  obtain⟨f0,f1,f2,_⟩:=hf p.1 hb
  obtain⟨o,e',d⟩:=ho p.1 hb
  rw[e] at e'; cases e'
  exact⟨e,f0,f1,f2,d⟩
theorem Inv.unpinned {pins pl:List (Addr×Obj)}{σ:St}{H:Hp}{s:Shared}(I:Inv X (pins++pl) σ H s):Inv X pins σ H s:=I.pins_of fun p hp=>I.pin p (mem_append_right _ (mem_append_left _ hp))
theorem cu {iter:Expr}{body:List Stmt}{wi:TI}{g:TG}{tb:TS}{pos:Pos}(hp:PassesOwn (model X.prog X.w) X.A X.env X.xe) (hc:X.calm=true) (hi:PI X tg iter wi) (hg:PG X tg g) (hb:PSs X body tb)
  (hs:∀ x,foldedSetIterable iter X.env x=pure x:=by intro _; rfl):PS X (.For tg iter body [] pos) (tFor wi g tb):=by
 intro pins s σ H D I h
 refine wpAny_For (thn (hi pins s σ H _ I h) fun v s1 h1=>thn h1 fun itv s2 h2=>?_) hs
 obtain⟨it,fp,tn,J,H2,e,I2,T,st2,f2,W,⟨m0,w0⟩,turn⟩:=h2
 subst e
 have stat:∀ {H':Hp},(∀ b∈fp,H' b=none)->∀ b∈fp,kF X pins H' b:=fun hn b hb=>⟨hn b hb,(f2 b hb).2⟩
 refine codeAny_forLoop_any (fun n s'=>∃ i σ' H',Inv X pins σ' H' s'/\tn i s'.heap/\(∀ b∈fp,H' b=none)/\W i n σ' H') ?_ m0 ⟨0,σ,H2,I2,st2,fun b hb=>(f2 b hb).1,w0⟩
 rintro n s3 ⟨i,σ3,H3,I3,st3,fr3,w3⟩
 rcases turn i n σ3 H3 w3 with ⟨stop,qn⟩ | ⟨go,N,hN,step⟩
 ·refine wpAny_passesOwn hp (thn (T.done X rfl rfl rfl hc i pins s3 σ3 H3 X.xe I3 (stat fr3) st3 stop) fun r s4 ⟨hr,I4⟩=>?_)
  subst hr
  exact wpAny_execs_nil ⟨σ3,H3,I4,qn⟩
 ·refine wpAny_passesOwn hp (thn (T.item X rfl rfl rfl hc i pins s3 σ3 H3 X.xe I3 (stat fr3) st3 go) fun r s4 ⟨u,hr,h4⟩=>?_)
  subst hr
  refine wpAny_passesOwn hp (thn h4 fun _ s5 ⟨x,H5,I5,r5,y5,st5,fr5⟩=>?_)
  have I5':=I5.pinned (stat fr5) (T.obj _ _ st5)
  refine wpAny_passesOwn hp (thn (hg _ s5 σ3 H5 x u _ I5' r5 (step x H5 y5)) fun _ s6 ⟨σ6,H6,I6,q6⟩=>?_)
  refine wpAny_passesOwn hp (thn (hb _ s6 σ6 H6 _ I6 q6) fun f s7 q7=>?_)
  have again:∀ {σ7:St} {H7:Hp},Inv X (pins++nh fp s5.heap) σ7 H7 s7->N σ7 H7->∃ m,m<n/\∃ i σ' H',Inv X pins σ' H' s7/\tn i s7.heap/\(∀ b∈fp,H' b=none)/\W i m σ' H':=fun {σ7 H7} I7 n7=>by
   obtain⟨m',hm,w7⟩:=hN σ7 H7 n7
   refine⟨m',hm,i+1,σ7,H7,I7.unpinned,T.keep _ _ _ st5 fun b hb o e=>(I7.pin (b,o) (mem_append_right _ (mem_append_right _ (bR hb e)))).1,fun b hb=>?_,w7⟩
   obtain⟨o,e,d⟩:=T.obj _ _ st5 b hb
   exact(I7.pin (b,o) (mem_append_right _ (mem_append_right _ (bR hb e)))).2.1
  cases f with
  | next=>obtain⟨σ7,H7,I7,n7⟩:=q7; exact again I7 n7
  | cont=>obtain⟨σ7,H7,I7,n7⟩:=q7; exact again I7 n7
  | brk=>obtain⟨σ7,H7,I7,q7⟩:=q7; exact⟨σ7,H7,I7.unpinned,q7⟩
  | ret v=>obtain⟨x7,σ7,H7,I7,r7,q7⟩:=q7; exact⟨x7,σ7,H7,I7.unpinned,r7,q7⟩
end
theorem df {K:Frag}{a:Addr}{xs:List V}{g:TG}{tb:TS}{D:Ends}{σ:St}{H:Hp}(Pv:Nat->St->Hp->Prop) (h0:Pv 0 σ H) (hl:∀ i σ H,i<=xs.length->Pv i σ H->SqL K H a xs)
  (hs:∀ i x σ H,xs[i]?=some x->Pv i σ H->g x σ H fun σ2 H2=>tb { D with nx:=Pv (i+1),ct:=Pv (i+1),bk:=D.nx } σ2 H2) (hd:∀ σ H,Pv xs.length σ H->D.nx σ H) :
  ∃ W:Nat->Nat->St->Hp->Prop,(∃ m,W 0 m σ H)/\∀ i m σ H,W i m σ H ->
   ((Itl K a).stop i H/\D.nx σ H)\/((Itl K a).go i H/\∃ N:St->Hp->Prop,(∀ σ' H',N σ' H'->∃ m',m'<m/\W (i+1) m' σ' H')/\∀ x H',(Itl K a).yld i H x H'->g x σ H' fun σ2 H2=>tb { D with nx:=N,ct:=N,bk:=D.nx } σ2 H2):=by
 refine⟨fun i m σ H=>m=xs.length-i/\i<=xs.length/\Pv i σ H,⟨xs.length,by simp,zero_le _,h0⟩,?_⟩
 rintro i m σ H ⟨rfl,hi,p⟩
 have q:=hl i σ H hi p
 by_cases hlt:i<xs.length
 ·refine .inr ⟨⟨xs,xs[i],q,by simp[hlt]⟩,Pv (i+1),fun σ' H' p'=>⟨xs.length-(i+1),by lia,rfl,hlt,p'⟩,fun x H' y=>?_⟩
  obtain⟨e,y⟩:=y
  subst e
  exact hs i x σ _ (y xs q) p
 ·have e:i=xs.length:=by lia
  subst e
  exact .inl ⟨⟨xs,q,Nat.le_refl _⟩,hd σ H p⟩
theorem for_tup {K:Frag}{a:Addr}{xs:List V}{g:TG}{tb:TS}{D:Ends}{σ:St}{H:Hp}(Pv:Nat->St->Hp->Prop) (h0:Pv 0 σ H) (hl:∀ i σ H,i<=xs.length->Pv i σ H->SqT K H a xs)
  (hs:∀ i x σ H,xs[i]?=some x->Pv i σ H->g x σ H fun σ2 H2=>tb { D with nx:=Pv (i+1),ct:=Pv (i+1),bk:=D.nx } σ2 H2) (hd:∀ σ H,Pv xs.length σ H->D.nx σ H) :
  ∃ W:Nat->Nat->St->Hp->Prop,(∃ m,W 0 m σ H)/\∀ i m σ H,W i m σ H ->
   ((Itt K a).stop i H/\D.nx σ H)\/((Itt K a).go i H/\∃ N:St->Hp->Prop,(∀ σ' H',N σ' H'->∃ m',m'<m/\W (i+1) m' σ' H')/\∀ x H',(Itt K a).yld i H x H'->g x σ H' fun σ2 H2=>tb { D with nx:=N,ct:=N,bk:=D.nx } σ2 H2):=by
 refine⟨fun i m σ H=>m=xs.length-i/\i<=xs.length/\Pv i σ H,⟨xs.length,by simp,zero_le _,h0⟩,?_⟩
 rintro i m σ H ⟨rfl,hi,p⟩
 have q:=hl i σ H hi p
 by_cases hlt:i<xs.length
 ·refine .inr ⟨⟨xs,xs[i],q,by simp[hlt]⟩,Pv (i+1),fun σ' H' p'=>⟨xs.length-(i+1),by lia,rfl,hlt,p'⟩,fun x H' y=>?_⟩
  obtain⟨e,y⟩:=y
  subst e
  exact hs i x σ _ (y xs q) p
 ·have e:i=xs.length:=by lia
  subst e
  exact .inl ⟨⟨xs,q,Nat.le_refl _⟩,hd σ H p⟩
theorem cL {lo:Int}{n:Nat}{g:TG}{tb:TS}{D:Ends}{σ:St}{H:Hp}(Pv:Nat->St->Hp->Prop) (h0:Pv 0 σ H)
  (hs:∀ i σ H,i<n->Pv i σ H->g (.int (lo+i)) σ H fun σ2 H2=>tb { D with nx:=Pv (i+1),ct:=Pv (i+1),bk:=D.nx } σ2 H2) (hd:∀ σ H,Pv n σ H->D.nx σ H) :
  ∃ W:Nat->Nat->St->Hp->Prop,(∃ m,W 0 m σ H)/\∀ i m σ H,W i m σ H ->
   ((Itr lo n).stop i H/\D.nx σ H)\/((Itr lo n).go i H/\∃ N:St->Hp->Prop,(∀ σ' H',N σ' H'->∃ m',m'<m/\W (i+1) m' σ' H')/\∀ x H',(Itr lo n).yld i H x H'->g x σ H' fun σ2 H2=>tb { D with nx:=N,ct:=N,bk:=D.nx } σ2 H2):=by
 refine⟨fun i m σ H=>m=n-i/\i<=n/\Pv i σ H,⟨n,by simp,zero_le _,h0⟩,?_⟩
 rintro i m σ H ⟨rfl,hi,p⟩
 by_cases hlt:i<n
 ·refine .inr ⟨hlt,Pv (i+1),fun σ' H' p'=>⟨n-(i+1),by lia,rfl,hlt,p'⟩,fun x H' y=>?_⟩
  obtain⟨e,y⟩:=y
  subst e y
  exact hs i σ _ hlt p
 ·have e:i=n:=by lia
  subst e
  exact .inl ⟨Nat.le_refl _,hd σ H p⟩
theorem md {c:TT}{tb:TS}{D:Ends}{σ:St}{H:Hp}(Pv:St->Hp->Prop) (μ:St->Hp->Nat) (h0:Pv σ H)
  (hs:∀ σ H,Pv σ H->c σ H fun b H1=>if b=true then tb { D with nx:=fun σ' H'=>Pv σ' H'/\μ σ' H'<μ σ H,ct:=fun σ' H'=>Pv σ' H'/\μ σ' H'<μ σ H,bk:=D.nx } σ H1 else D.nx σ H1)
  (mono:∀ σ H Q Q',(∀ b H1,Q b H1->Q' b H1)->c σ H Q->c σ H Q'):tWhile c tb D σ H:=by
 refine⟨fun m σ H=>m=μ σ H/\Pv σ H,⟨_,rfl,h0⟩,?_⟩
 rintro m σ H ⟨rfl,p⟩
 refine mono σ H _ _ (fun b H1 q=>?_) (hs σ H p)
 cases b with
 | true=>exact⟨_,fun σ' H' ⟨p',l⟩=>⟨_,l,rfl,p'⟩,q⟩
 | false=>exact q
end L2
namespace L2
open PySem PySem.Spec PyProof.Rows
abbrev R2:=V->V->Hp->VK->Prop
def OpR (X:Cx) (f:Value->Value->Sem Value) (r:R2):Prop :=
 ∀ (pins:List (Addr×Obj)) (s:Shared) (σ:St) (H:Hp) (x y:V) (v u:Value) (Q:VK),Inv X pins σ H s->RelV x v->RelV y u->r x y H Q ->
  wpAny (model X.prog X.w) X.A (f v u) (EP X pins σ Q) X.xe s
def UnR (X:Cx) (f:Value->Sem Value) (r:V->Hp->VK->Prop):Prop :=
 ∀ (pins:List (Addr×Obj)) (s:Shared) (σ:St) (H:Hp) (x:V) (v:Value) (Q:VK),Inv X pins σ H s->RelV x v->r x H Q ->
  wpAny (model X.prog X.w) X.A (f v) (EP X pins σ Q) X.xe s
def fP (X:Cx) (f:Value) (r:List V->Hp->VK->Prop):Prop :=
 ∀ (pins:List (Addr×Obj)) (s:Shared) (σ:St) (H:Hp) (xs:List V) (us:List Value) (Q:VK),Inv X pins σ H s->Vals xs us->r xs H Q ->
  wpAny (model X.prog X.w) X.A (call f us) (EP X pins σ Q) X.xe s
def tOp (r:R2) (ta tb:TE):TE:=fun σ H Q=>ta σ H fun x H1=>tb σ H1 fun y H2=>r x y H2 Q
def tUn (r:V->Hp->VK->Prop) (ta:TE):TE:=fun σ H Q=>ta σ H fun x H1=>r x H1 Q
def rI (C:Int->Int->Prop) (g:Int->Int->V):R2:=fun x y H Q=>∃ i j,x=.int i/\y=.int j/\C i j/\Q (g i j) H
def rI0 (g:Int->Int->V):R2:=fun x y H Q=>∃ i j,x=.int i/\y=.int j/\Q (g i j) H
def rU (g:Int->V):V->Hp->VK->Prop:=fun x H Q=>∃ i,x=.int i/\Q (g i) H
section
variable {X:Cx}{a b c:Expr}{ta tb tc:TE}{pos:Pos}
theorem binT (ha:PE X a ta) (hb:PE X b tb) {pins:List (Addr×Obj)}{s:Shared}{σ:St}{H:Hp}{R:V->V->Hp->Prop}(I:Inv X pins σ H s)
  (h:ta σ H fun x H1=>tb σ H1 fun y H2=>R x y H2) {Q:Value->Shared->Prop} {f:Value->Value->Sem Value}
  (hf:∀ v u s2 x y H2,Inv X pins σ H2 s2->RelV x v->RelV y u->R x y H2->wpAny (model X.prog X.w) X.A (f v u) Q X.xe s2) :
  wpAny (model X.prog X.w) X.A (eval a X.env) (fun v s₁=>wpAny (model X.prog X.w) X.A (eval b X.env) (fun u s₂=>wpAny (model X.prog X.w) X.A (f v u) Q X.xe s₂) X.xe s₁) X.xe s:=by
 refine thn (ha pins s σ H _ I h) fun v s1 ⟨x,H1,I1,r1,q1⟩=>?_
 refine thn (hb pins s1 σ H1 _ I1 q1) fun u s2 ⟨y,H2,I2,r2,q2⟩=>?_
 exact hf v u s2 x y H2 I2 r1 r2 q2
theorem aq {op:Operator}{r:R2}(ho:OpR X (binaryOp op) r) (ha:PE X a ta) (hb:PE X b tb):PE X (.BinOp a op b pos) (tOp r ta tb):=by
 intro pins s σ H Q I h
 exact wpAny_BinOp (binT ha hb I h fun v u s2 x y H2 I2 rx ry q=>ho pins s2 σ H2 x y v u Q I2 rx ry q)
theorem jF {op:UnaryOp}{r:V->Hp->VK->Prop}(ho:UnR X (unaryOp op) r) (ha:PE X a ta):PE X (.UnaryOp op a pos) (tUn r ta):=by
 intro pins s σ H Q I h
 exact UnaryOp_ (thn (ha pins s σ H _ I h) fun v s1 ⟨x,H1,I1,r1,q1⟩=>ho pins s1 σ H1 x v Q I1 r1 q1)
theorem opI {f:Value->Value->Sem Value}{C:Int->Int->Prop}{g:Int->Int->Int}
  (rule:∀ (i j:Int) (t u:Tok) (s:Shared) (Q:Value->Shared->Prop) (E:Value->Shared->Prop),C i j->Q (.int (g i j) s.toks) { s with toks:=s.toks+1 }->wpAny (model X.prog X.w) X.A (f (.int i t) (.int j u)) Q E s) :
  OpR X f (rI C fun i j=>.int (g i j)):=by
 intro pins s σ H x y v u Q I rx ry h
 obtain⟨i,j,rfl,rfl,hc,q⟩:=h
 obtain⟨t,rfl⟩:=rx
 obtain⟨t',rfl⟩:=ry
 exact rule i j t t' s _ _ hc ⟨.int (g i j),H,I.tok _,⟨_,rfl⟩,q⟩
theorem opI0 {f:Value->Value->Sem Value}{g:Int->Int->Int}
  (rule:∀ (i j:Int) (t u:Tok) (s:Shared) (Q:Value->Shared->Prop) (E:Value->Shared->Prop),Q (.int (g i j) s.toks) { s with toks:=s.toks+1 }->wpAny (model X.prog X.w) X.A (f (.int i t) (.int j u)) Q E s) :
  OpR X f (rI0 fun i j=>.int (g i j)):=by
 intro pins s σ H x y v u Q I rx ry h
 obtain⟨i,j,rfl,rfl,q⟩:=h
 obtain⟨t,rfl⟩:=rx
 obtain⟨t',rfl⟩:=ry
 exact rule i j t t' s _ _ ⟨.int (g i j),H,I.tok _,⟨_,rfl⟩,q⟩
theorem opB0 {f:Value->Value->Sem Value}{g:Int->Int->Bool}
  (rule:∀ (i j:Int) (t u:Tok) (s:Shared) (Q:Value->Shared->Prop) (E:Value->Shared->Prop),Q (.bool (g i j)) s->wpAny (model X.prog X.w) X.A (f (.int i t) (.int j u)) Q E s) :
  OpR X f (rI0 fun i j=>.bl (g i j)):=by
 intro pins s σ H x y v u Q I rx ry h
 obtain⟨i,j,rfl,rfl,q⟩:=h
 obtain⟨t,rfl⟩:=rx
 obtain⟨t',rfl⟩:=ry
 exact rule i j t t' s _ _ ⟨.bl (g i j),H,I,rfl,q⟩
def CDiv (i j:Int):Prop:=0<j/\j<1073741824
def CPow (i j:Int):Prop:=0<=j/\j<=1000000/\i.natAbs<2^64
def CMul (i j:Int):Prop:=(-(2^64)<i/\i<2^64)\/(-(2^64)<j/\j<2^64)
theorem CMul.ok {i j:Int}(h:CMul i j):IntMulOk i j:=by
 rcases h with ⟨h1,h2⟩ | ⟨h1,h2⟩
 ·exact .of_left (intBits_le_64 h1 h2)
 ·exact .of_right (intBits_le_64 h1 h2)
theorem q9 (k:Nat):(0:Int)<=2^k:=by
 rw[two_pow_cast]
 exact Int.natCast_nonneg _
theorem aQ:OpR X (binaryOp .Add) (rI0 fun i j=>.int (i+j)):=opI0 fun _ _ _ _ _ _ _ q=>add_int q
theorem aL:OpR X (binaryOp .Sub) (rI0 fun i j=>.int (i-j)):=opI0 fun _ _ _ _ _ _ _ q=>sub_int q
theorem lf:OpR X (binaryOp .Mult) (rI CMul fun i j=>.int (i*j)):=opI fun _ _ _ _ _ _ _ hc q=>mul_int q hc.ok
theorem mG:OpR X (binaryOp .FloorDiv) (rI CDiv fun i j=>.int (i/j)):=opI fun i j _ _ _ _ _ hc q=>by
 have h1:(0:Int)<j:=hc.1
 have h2:j<1073741824:=hc.2
 exact floordiv_int (by lia) (by rw[Int.fdiv_eq_ediv_of_nonneg i (by lia)]; exact q) (.inl (PyProof.noPylong_small (by lia)))
theorem gR:OpR X (binaryOp .Mod) (rI (fun _ j=>0<j) fun i j=>.int (i%j)):=opI fun i j _ _ _ _ _ hc q=>by
 have h1:(0:Int)<j:=hc
 exact mod_int' (by lia) (by rw[Int.fmod_eq_emod_of_nonneg i (by lia)]; exact q)
theorem op_pow:OpR X (binaryOp .Pow) (rI CPow fun i j=>.int (i^j.toNat)):=opI fun _ _ _ _ _ _ _ hc q=>pow_int_small hc.1 hc.2.1 hc.2.2 q
theorem br:OpR X (binaryOp .LShift) (rI CPow fun i j=>.int (i*2^j.toNat)):=opI fun _ _ _ _ _ _ _ hc q=>lshift_int_small hc.1 hc.2.1 hc.2.2 q
theorem iA:OpR X (binaryOp .RShift) (rI (fun _ j=>0<=j) fun i j=>.int (i/2^j.toNat)):=opI fun i j _ _ _ _ _ hc q =>
 rshift_int hc (by rw[Int.fdiv_eq_ediv_of_nonneg i (q9 _)]; exact q)
theorem unI {f:Value->Sem Value}{g:Int->Int}
  (rule:∀ (i:Int) (t:Tok) (s:Shared) (Q:Value->Shared->Prop) (E:Value->Shared->Prop),Q (.int (g i) s.toks) { s with toks:=s.toks+1 }->wpAny (model X.prog X.w) X.A (f (.int i t)) Q E s) :
  UnR X f (rU fun i=>.int (g i)):=by
 intro pins s σ H x v Q I rx h
 obtain⟨i,rfl,q⟩:=h
 obtain⟨t,rfl⟩:=rx
 exact rule i t s _ _ ⟨.int (g i),H,I.tok _,⟨_,rfl⟩,q⟩
theorem eN:UnR X (unaryOp .USub) (rU fun i=>.int (-i)):=unI fun _ _ _ _ _ q=>neg_int q
end
noncomputable def scal:V->V->Bool
 | .non,.non=>true | .non,.int _=>true | .int _,.non=>true | .non,.bl _=>true | .bl _,.non=>true | .non,.str _=>true | .str _,.non=>true
 | .int _,.int _=>true | .bl _,.bl _=>true | .str _,.str _=>true | .byt _,.byt _=>true
 | .int _,.str _=>true | .str _,.int _=>true | .bl _,.str _=>true | .str _,.bl _=>true
 | _,_=>false
def rEq:R2:=fun x y H Q=>scal x y=true/\Q (.bl (decide (x=y))) H
def rNe:R2:=fun x y H Q=>scal x y=true/\Q (.bl (!decide (x=y))) H
theorem uw {i j:Int}:decide (V.int i=V.int j)=(i == j):=by
 rw[Bool.eq_iff_iff]
 simp
theorem dec_bl {i j:Bool}:decide (V.bl i=V.bl j)=(i == j):=by
 rw[Bool.eq_iff_iff]
 simp
theorem rT {i j:Str}:decide (V.str i=V.str j)=(i == j):=by
 rw[Bool.eq_iff_iff]
 simp
theorem uo {i j:Array UInt8}:decide (V.byt i=V.byt j)=(i.toList == j.toList):=by
 rw[Bool.eq_iff_iff]
 cases i
 cases j
 simp
section
variable {X:Cx}{a b c:Expr}{ta tb tc:TE}{pos:Pos}
theorem bg {pins:List (Addr×Obj)}{σ:St}{H:Hp}{s:Shared}{Q:VK}{k k':Bool}(I:Inv X pins σ H s) (q:Q (.bl k) H) (e:k=k'):EP X pins σ Q (.bool k') s:=by
 subst e
 exact⟨.bl k,H,I,rfl,q⟩
theorem dA:OpR X (compareOp .Eq) rEq:=by
 intro pins s σ H x y v u Q I rx ry h
 obtain⟨hs,q⟩:=h
 cases x with
 | non =>
  cases rx
  cases y with
  | non=>cases ry; exact PySem.EqNone.eq_none_none (bg I q (by simp))
  | bl j=>cases ry; exact PySem.EqNone.eq_none_bool (bg I q (by simp))
  | int j=>obtain⟨t',rfl⟩:=ry; exact PySem.EqNone.eq_none_int (bg I q (by simp))
  | str j=>obtain⟨t',rfl⟩:=ry; exact PySem.EqNone.eq_none_str (bg I q (by simp))
  | _=>exact absurd (show false=true from hs) Bool.false_ne_true
 | bl i =>
  cases rx
  cases y with
  | non=>cases ry; exact PySem.EqNone.eq_bool_none (bg I q (by simp))
  | bl j=>cases ry; exact eq_bool (bg I q dec_bl)
  | str j=>obtain⟨t',rfl⟩:=ry; exact PySem.EqMixed.eq_bool_str (bg I q (by simp))
  | _=>exact absurd (show false=true from hs) Bool.false_ne_true
 | int i =>
  obtain⟨t,rfl⟩:=rx
  cases y with
  | non=>cases ry; exact PySem.EqNone.eq_int_none (bg I q (by simp))
  | int j=>obtain⟨t',rfl⟩:=ry; exact eq_int (bg I q uw)
  | str j=>obtain⟨t',rfl⟩:=ry; exact PySem.EqMixed.eq_int_str (bg I q (by simp))
  | _=>exact absurd (show false=true from hs) Bool.false_ne_true
 | str i =>
  obtain⟨t,rfl⟩:=rx
  cases y with
  | non=>cases ry; exact PySem.EqNone.eq_str_none (bg I q (by simp))
  | bl j=>cases ry; exact PySem.EqMixed.eq_str_bool (bg I q (by simp))
  | int j=>obtain⟨t',rfl⟩:=ry; exact PySem.EqMixed.eq_str_int (bg I q (by simp))
  | str j=>obtain⟨t',rfl⟩:=ry; exact eq_str (bg I q rT)
  | _=>exact absurd (show false=true from hs) Bool.false_ne_true
 | byt i =>
  obtain⟨t,rfl⟩:=rx
  cases y with
  | byt j=>obtain⟨t',rfl⟩:=ry; exact PySem.W.eq_bytes (bg I q uo)
  | _=>exact absurd (show false=true from hs) Bool.false_ne_true
 | _=>cases y <;> exact absurd (show false=true from hs) Bool.false_ne_true
theorem o9:OpR X (compareOp .NotEq) rNe:=by
 intro pins s σ H x y v u Q I rx ry h
 obtain⟨hs,q⟩:=h
 cases x with
 | non =>
  cases rx
  cases y with
  | non=>cases ry; exact PySem.EqNone.ne_none_none (bg I q (by simp))
  | bl j=>cases ry; exact PySem.EqNone.ne_none_bool (bg I q (by simp))
  | int j=>obtain⟨t',rfl⟩:=ry; exact PySem.EqNone.ne_none_int (bg I q (by simp))
  | str j=>obtain⟨t',rfl⟩:=ry; exact PySem.EqNone.ne_none_str (bg I q (by simp))
  | _=>exact absurd (show false=true from hs) Bool.false_ne_true
 | bl i =>
  cases rx
  cases y with
  | non=>cases ry; exact PySem.EqNone.ne_bool_none (bg I q (by simp))
  | bl j=>cases ry; exact ne_bool (bg I q (congrArg not dec_bl))
  | str j=>obtain⟨t',rfl⟩:=ry; exact PySem.EqMixed.ne_bool_str (bg I q (by simp))
  | _=>exact absurd (show false=true from hs) Bool.false_ne_true
 | int i =>
  obtain⟨t,rfl⟩:=rx
  cases y with
  | non=>cases ry; exact PySem.EqNone.ne_int_none (bg I q (by simp))
  | int j=>obtain⟨t',rfl⟩:=ry; exact ne_int (bg I q (congrArg not uw))
  | str j=>obtain⟨t',rfl⟩:=ry; exact PySem.EqMixed.ne_int_str (bg I q (by simp))
  | _=>exact absurd (show false=true from hs) Bool.false_ne_true
 | str i =>
  obtain⟨t,rfl⟩:=rx
  cases y with
  | non=>cases ry; exact PySem.EqNone.ne_str_none (bg I q (by simp))
  | bl j=>cases ry; exact PySem.EqMixed.ne_str_bool (bg I q (by simp))
  | int j=>obtain⟨t',rfl⟩:=ry; exact PySem.EqMixed.ne_str_int (bg I q (by simp))
  | str j=>obtain⟨t',rfl⟩:=ry; exact ne_str (bg I q (congrArg not rT))
  | _=>exact absurd (show false=true from hs) Bool.false_ne_true
 | byt i =>
  obtain⟨t,rfl⟩:=rx
  cases y with
  | byt j=>obtain⟨t',rfl⟩:=ry; exact PySem.W.ne_bytes (bg I q (congrArg not uo))
  | _=>exact absurd (show false=true from hs) Bool.false_ne_true
 | _=>cases y <;> exact absurd (show false=true from hs) Bool.false_ne_true
theorem eD:OpR X (compareOp .Lt) (rI0 fun i j=>.bl (decide (i<j))):=opB0 fun _ _ _ _ _ _ _ q=>lt_int q
theorem qu:OpR X (compareOp .LtE) (rI0 fun i j=>.bl (decide (i<=j))):=opB0 fun _ _ _ _ _ _ _ q=>le_int q
theorem kK:OpR X (compareOp .Gt) (rI0 fun i j=>.bl (decide (j<i))):=opB0 fun _ _ _ _ _ _ _ q=>gt_int q
theorem oh:OpR X (compareOp .GtE) (rI0 fun i j=>.bl (decide (j<=i))):=opB0 fun _ _ _ _ _ _ _ q=>ge_int q
theorem si:OpR X (compareOp .Is) (fun x y H Q=>y=.non/\Q (.bl (decide (x=.non))) H):=by
 intro pins s σ H x y v u Q I rx ry h
 obtain⟨rfl,q⟩:=h
 cases ry
 refine is_none_gen (bg I q ?_)
 cases x <;> first
  | (cases rx; rfl)
  | (obtain⟨t,rfl⟩:=rx; rfl)
theorem aI (b:Expr) {op:CmpOp}(h:op≠.In:=by decide) (h2:op≠.NotIn:=by decide):behindInMarks op b=false:=by
 have e1:(op == CmpOp.In)=false:=by cases op <;> first | rfl | exact absurd rfl h
 have e2:(op == CmpOp.NotIn)=false:=by cases op <;> first | rfl | exact absurd rfl h2
 cases b <;> simp[behindInMarks,e1,e2]
theorem uu {op:CmpOp}{r:R2}(ho:OpR X (compareOp op) r) (ha:PE X a ta) (hb:PE X b tb) (hm:behindInMarks op b=false):PE X (.Compare a [op] [b] pos) (tOp r ta tb):=by
 intro pins s σ H Q I h
 exact wpAny_Compare1 (binT ha hb I h fun v u s2 x y H2 I2 rx ry q=>ho pins s2 σ H2 x y v u Q I2 rx ry q) hm
def tTest (t:TE):TT:=fun σ H Q=>t σ H fun x H'=>∃ k,x=.bl k/\Q k H'
theorem aA {op:CmpOp}{r:R2}(ho:OpR X (compareOp op) r) (ha:PE X a ta) (hb:PE X b tb) (hm:behindInMarks op b=false):PT X (.Compare a [op] [b] pos) (tTest (tOp r ta tb)):=by
 intro pins s σ H Q I h
 refine wpAny_isTrue_Compare1 (thn (ha pins s σ H _ I h) fun v s1 ⟨x,H1,I1,r1,q1⟩=>thn (hb pins s1 σ H1 _ I1 q1) fun u s2 ⟨y,H2,I2,r2,q2⟩ =>
  thn (ho pins s2 σ H2 x y v u _ I2 r1 r2 q2) fun c s3 ⟨z,H3,I3,r3,k,e,q3⟩=>?_) hm
 subst e
 cases r3
 exact wpAny_truthy_bool ⟨H3,I3,q3⟩
def tChain (r r':R2) (ta tb tc:TE):TE:=fun σ H Q=>ta σ H fun x H1=>tb σ H1 fun y H2=>r x y H2 fun z H3=>∃ k,z=.bl k /\
 (if k=true then tc σ H3 fun w' H4=>r' y w' H4 Q else Q (.bl false) H3)
theorem pe_chain {op op':CmpOp}{r r':R2}(ho:OpR X (compareOp op) r) (ho':OpR X (compareOp op') r') (ha:PE X a ta) (hb:PE X b tb) (hc:PE X c tc)
  (hm:lastMarks [op,op'] [b,c]=false:=by with_unfolding_all rfl):PE X (.Compare a [op,op'] [b,c] pos) (tChain r r' ta tb tc):=by
 intro pins s σ H Q I h
 refine Compare_chain (thn (ha pins s σ H _ I h) fun v s1 ⟨x,H1,I1,r1,q1⟩=>chain_link (thn (hb pins s1 σ H1 _ I1 q1) fun u s2 ⟨y,H2,I2,r2,q2⟩ =>
  thn (ho pins s2 σ H2 x y v u _ I2 r1 r2 q2) fun d s3 ⟨z,H3,I3,r3,k,e,q3⟩=>?_)) hm
 subst e
 cases r3
 refine wpAny_truthy_bool ?_
 cases k with
 | false=>exact ite_ff ⟨.bl false,H3,I3,rfl,q3⟩
 | true=>exact ite_tt (chain_last (thn (hc pins s3 σ H3 _ I3 q3) fun w' s4 ⟨z',H4,I4,r4,q4⟩=>ho' pins s4 σ H4 y z' u w' Q I4 r2 r4 q4))
theorem jf {op op':CmpOp}{r r':R2}(ho:OpR X (compareOp op) r) (ho':OpR X (compareOp op') r') (ha:PE X a ta) (hb:PE X b tb) (hc:PE X c tc)
  (hm:lastMarks [op,op'] [b,c]=false:=by with_unfolding_all rfl):PT X (.Compare a [op,op'] [b,c] pos) (tTest (tChain r r' ta tb tc)):=by
 intro pins s σ H Q I h
 refine isTrue_chain (thn (ha pins s σ H _ I h) fun v s1 ⟨x,H1,I1,r1,q1⟩=>test_link (thn (hb pins s1 σ H1 _ I1 q1) fun u s2 ⟨y,H2,I2,r2,q2⟩ =>
  thn (ho pins s2 σ H2 x y v u _ I2 r1 r2 q2) fun d s3 ⟨z,H3,I3,r3,k,e,q3⟩=>?_)) hm
 subst e
 cases r3
 refine wpAny_truthy_bool ?_
 cases k with
 | false =>
  obtain⟨k',e',q'⟩:=q3
  cases e'
  exact ite_ff ⟨H3,I3,q'⟩
 | true =>
  refine ite_tt (test_last (thn (hc pins s3 σ H3 _ I3 q3) fun w' s4 ⟨z',H4,I4,r4,q4⟩=>thn (ho' pins s4 σ H4 y z' u w' _ I4 r2 r4 q4) fun d' s5 ⟨z2,H5,I5,r5,k2,e2,q5⟩=>?_))
  subst e2
  cases r5
  exact wpAny_truthy_bool ⟨H5,I5,q5⟩
theorem pT:(sizeLine:Nat)<2^63:=by rw[sizeLine_eq]; decide
theorem pf {x:V}{us:List Value}(r:Vals [x] us):∃ u,us=[u]/\RelV x u:=by
 cases r with
 | cons r1 r2=>cases r2; exact⟨_,rfl,r1⟩
theorem vals2 {x y:V}{us:List Value}(r:Vals [x,y] us):∃ u w',us=[u,w']/\RelV x u/\RelV y w':=by
 cases r with
 | cons r1 r2 =>
  cases r2 with
  | cons r3 r4=>cases r4; exact⟨_,_,rfl,r1,r3⟩
theorem call_abs:fP X (.builtin "abs") (fun xs H Q=>∃ i,xs=[.int i]/\Q (.int (if i<0 then -i else i)) H):=by
 intro pins s σ H xs us Q I r h
 obtain⟨i,rfl,q⟩:=h
 obtain⟨u,rfl,t,rfl⟩:=pf r
 exact call_abs_int fun u tk=>⟨.int (if i<0 then -i else i),H,I.tok _,⟨_,rfl⟩,q⟩
theorem rm (hc:X.calm=true):fP X (.builtin "max") (fun xs H Q=>∃ i j,xs=[.int i,.int j]/\Q (.int (if j > i then j else i)) H):=by
 intro pins s σ H xs us Q I r h
 obtain⟨i,j,rfl,q⟩:=h
 obtain⟨u,w',rfl,⟨t,rfl⟩,⟨t',rfl⟩⟩:=vals2 r
 refine max_two_ints (I.ok.hd hc) fun h' tk k=>⟨_,H,I.kept k,?_,q⟩
 by_cases hj:j > i
 ·rw[if_pos hj,if_pos hj]; exact⟨_,rfl⟩
 ·rw[if_neg hj,if_neg hj]; exact⟨_,rfl⟩
theorem eE (hc:X.calm=true):fP X (.builtin "min") (fun xs H Q=>∃ i j,xs=[.int i,.int j]/\Q (.int (if j<i then j else i)) H):=by
 intro pins s σ H xs us Q I r h
 obtain⟨i,j,rfl,q⟩:=h
 obtain⟨u,w',rfl,⟨t,rfl⟩,⟨t',rfl⟩⟩:=vals2 r
 refine min_two_ints (I.ok.hd hc) fun h' tk k=>⟨_,H,I.kept k,?_,q⟩
 by_cases hj:j<i
 ·rw[if_pos hj,if_pos hj]; exact⟨_,rfl⟩
 ·rw[if_neg hj,if_neg hj]; exact⟨_,rfl⟩
theorem sT:fP X (.type "int") (fun xs H Q=>(∃ i,xs=[.int i]/\Q (.int i) H)\/∃ k,xs=[.bl k]/\Q (.int (if k then 1 else 0)) H):=by
 intro pins s σ H xs us Q I r h
 rcases h with ⟨i,rfl,q⟩ | ⟨k,rfl,q⟩
 ·obtain⟨u,rfl,t,rfl⟩:=pf r
  exact call_int_int ⟨.int i,H,I,⟨_,rfl⟩,q⟩
 ·obtain⟨u,rfl,r1⟩:=pf r
  cases r1
  exact call_int_bool ⟨.int (if k then 1 else 0),H,I.tok _,⟨_,rfl⟩,q⟩
end
end L2
namespace L2
open PySem PySem.Spec PyProof.Rows
structure ObjM (h:Heap) (x dx C:Addr) (mA:Str->Option Value):Prop where
 obj:h.get? x=some (instObj C dx)
 ns:h.Ns1 dx mA
 ne:dx≠x
theorem rj {h:Heap}{dx:Addr}{mA:Str->Option Value}(n:h.Ns1 dx mA):∃ od,h.get? dx=some od/\∀ name,PySem.W.lookIn name od=some (mA name):=by
 obtain⟨o,es,ep,ho,hd,hk,_,hm⟩:=n
 refine⟨o,ho,fun name=>?_⟩
 have e:=hm name
 unfold nsFind findBy at e
 rw[<- Array.find?_toList] at e
 unfold PySem.W.lookIn
 rw[hd]
 dsimp only
 split
 ·rename_i y q
  rw[q] at e
  exact congrArg some e
 ·rename_i q
  rw[q] at e
  have a:es.toList.any (·.refKey)=false:=by
   rw[List.any_eq_false]
   intro y hy
   obtain⟨z,t,hkey⟩:=hk y (Array.mem_toList_iff.mp hy)
   simp[DictEntry.refKey,hkey]
  have a':¬ es.toList.any (·.refKey)=true:=by rw[a]; exact Bool.false_ne_true
  rw[if_neg a']
  exact congrArg some e
theorem ObjM.look {h:Heap}{x dx C:Addr}{mA:Str->Option Value}(I:ObjM h x dx C mA):∃ od,PySem.W.InstAt h x (instObj C dx) C (some od)/\∀ name,PySem.W.lookIn name od=some (mA name) :=
 let ⟨od,ho,hl⟩:=rj I.ns
 ⟨od,⟨I.obj,rfl,rfl,ho⟩,hl⟩
section
variable {prog:Program}{w:World}{A:Around}{E:Value->Shared->Prop}{s:Shared}{K:Frag}{x dx C f:Addr}{mA:Str->Option Value}{name:Str}{v:Value}
theorem get_map {expr:Bool}{Q:Value->Shared->Prop}(X:K.In s.heap) (I:ObjM s.heap x dx C mA) (hg:plainGet K C name=true) (hh:hasDictIn K C=true)
  (ha:findIn K (.ref C) name=some none) (hv:mA name=some v) (hv':PySem.W.handedIn v=true) (h:Q v { s with toks:=s.toks+1 }) :
  wpAny (model prog w) A (getAttr (.ref x) name expr) Q E s:=by
 obtain⟨od,J,hl⟩:=I.look
 exact PySem.W.get_value X J (PySem.W.plainGet_of hg).1 (PySem.W.findObj_own hh ha rfl (by rw[hl,hv])) hv' h
theorem get_meth {pl:Sem Bool}{Q:Value×List Value->Shared->Prop}(X:K.In s.heap) (I:ObjM s.heap x dx C mA) (hg:plainGet K C name=true)
  (hf:findIn K (.ref C) name=some (some (.ref f))) (ht:isFn K (.ref f)=true) (hv:mA name=none) (h:Q (.ref f,[.ref x]) s) :
  wpAny (model prog w) A (getMethod (.ref x) name pl) Q E s:=by
 obtain⟨od,J,hl⟩:=I.look
 exact PySem.W.method_fn X J (PySem.W.plainGet_of hg).1 (PySem.W.plainGet_of hg).2 hf (beq_iff_eq.mp ht) (by show (PySem.W.lookIn name od).map (·.isSome)=some false; rw[hl,hv]; rfl) h
theorem set_map {ns:List Str}{Q:Unit->Shared->Prop}(X:K.In s.heap) (I:ObjM s.heap x dx C mA)
  (hs:findIn K (.ref C) "__setattr__"=some (some (.builtin "object.__setattr__"))) (hp:plainOver K C=true) (ht:PySem.W.takerIn K C name=some none) (hh:hasDictIn K C=true)
  (hw:PySem.Within mA ns) (hsz:ns.length<=sizeLine)
  (h:∀ h',ObjM h' x dx C (fun y=>if y=name then some v else mA y)->Heap.SameBut dx s.heap h'->Q () { s with heap:=h',toks:=s.toks+2 }) :
  wpAny (model prog w) A (setAttr (.ref x) name v) Q E s:=by
 obtain⟨od,J,hl⟩:=I.look
 refine PySem.W.set_plain X J hs (PySem.W.osa_open (s:={ s with toks:=s.toks+1 }) (r:=none) X J hp ht fun b=>?_)
 obtain⟨cd,hc,hd'⟩:=PySem.W.any_some hh
 have hx:s.heap.get? x=some ⟨.ref C,some dx,.plain,#[]⟩:=I.obj
 refine wpAny_bind (wpAny_pure (wpAny_bind (wpAny_bind (wpAny_loadPart hx (wpAny_bind (PySem.W.Looks.here (s:={ s with toks:=s.toks+1 }) (PySem.W.looks_clsIn X hc) ?_))))))
 rw[hd']
 refine wpAny_pure (a:=some dx) (wpAny_bind (wpAny_pure (wpAny_bind ?_)))
 refine wpAny_nsSet1 (s:={ s with toks:=s.toks+1 }) I.ns fun h' hn2 hs2=>?_
 obtain⟨oD,esD,epD,hoD,hdD,hcD⟩:=hn2.count (PySem.Within.cons name v hw)
 refine wpAny_bind (wpAny_lookBehind hoD (by rw[hdD]; exact pastItsLine_dict (Nat.le_trans hcD (by rw[length_cons]; lia))) ?_)
 exact wpAny_pure (h _ ⟨(hs2.2 _ (Ne.symm I.ne)).trans I.obj,hn2,I.ne⟩ hs2)
theorem make_map {R:Result->Shared->Prop}{vs:List Value}{kw:List (Str×Value)}(X:K.In s.heap) (hm:makesIn K C=true)
  (hi:findIn K (.ref C) "__init__"=some (some (.ref f))) (hf:typeIn K (.ref f)=some (.type "function"))
  (h:codeAny (model prog w) (A.under (.builtin "type.__call__" ⟨.ref C::vs,kw⟩)) (.call (.ref f) ⟨.ref (s.heap.objs.size+1)::vs,kw⟩) (PySem.W.InitBack (s.heap.objs.size+1) R)
   { s with heap:=(s.heap.push PySem.W.emptyDict).push (instObj C s.heap.objs.size) }) :
  codeAny (model prog w) A (.call (.ref C) ⟨vs,kw⟩) R s:=by
 obtain⟨hh,g,d,t,os⟩:=s
 exact PySem.W.make_core (PySem.W.makes_of X hm) (PySem.W.looks_findIn X hi) (fun self=>PySem.W.bind_fn X self hf) (.inl rfl) h
end
noncomputable def oq (f:Str) (v:V):List (Str×V)->List (Str×V)
 | []=>[(f,v)]
 | (g,x)::r=>if g=f then (g,v)::r else (g,x)::oq f v r
theorem km (f g:Str) (v:V):∀ fs:List (Str×V),(oq f v fs).lookup g=if g=f then some v else fs.lookup g
 | []=>by
  show List.lookup g [(f,v)]=_
  by_cases h:g=f
  ·have hb:(g == f)=true:=beq_iff_eq.mpr h
   simp only[List.lookup,hb,if_pos h]
  ·have hb:(g == f)=false:=beq_eq_false_iff_ne.mpr h
   simp only[List.lookup,hb,if_neg h]
 | (k,x)::r=>by
  have ih:=km f g v r
  rw[show oq f v ((k,x)::r)=(if k=f then (k,v)::r else (k,x)::oq f v r) from rfl]
  by_cases hk:k=f
  ·rw[if_pos hk]
   by_cases h:g=k
   ·have hb:(g == k)=true:=beq_iff_eq.mpr h
    simp only[List.lookup,hb,if_pos (h.trans hk)]
   ·have hb:(g == k)=false:=beq_eq_false_iff_ne.mpr h
    simp only[List.lookup,hb,if_neg (fun e:g=f=>h (e.trans hk.symm))]
  ·rw[if_neg hk]
   by_cases h:g=k
   ·have hb:(g == k)=true:=beq_iff_eq.mpr h
    simp only[List.lookup,hb,if_neg (fun e:g=f=>hk (h.symm.trans e))]
   ·have hb:(g == k)=false:=beq_eq_false_iff_ne.mpr h
    simp only[List.lookup,hb]
    exact ih
theorem jX (f:Str) (v:V):∀ fs:List (Str×V),f∈(oq f v fs).map (·.1)/\∀ g,g∈fs.map (·.1)->g∈(oq f v fs).map (·.1)
 | []=>⟨by simp[oq],fun g h=>by simp at h⟩
 | (k,x)::r=>by
  obtain⟨i1,i2⟩:=jX f v r
  rw[show oq f v ((k,x)::r)=(if k=f then (k,v)::r else (k,x)::oq f v r) from rfl]
  by_cases hk:k=f
  ·rw[if_pos hk]
   subst hk
   exact⟨by simp,fun g h=>by simpa using h⟩
  ·rw[if_neg hk]
   refine⟨?_,fun g h=>?_⟩
   ·rw[map_cons]
    exact mem_cons_of_mem _ i1
   ·rw[map_cons] at h ⊢
    rcases List.mem_cons.mp h with e | e
    ·exact List.mem_cons.mpr (.inl e)
    ·exact mem_cons_of_mem _ (i2 g e)
theorem ji (f:Str) (v:V):∀ fs:List (Str×V),(oq f v fs).length<=fs.length+1
 | []=>by simp[oq]
 | (k,x)::r=>by
  have ih:=ji f v r
  rw[show oq f v ((k,x)::r)=(if k=f then (k,v)::r else (k,x)::oq f v r) from rfl]
  by_cases hk:k=f
  ·rw[if_pos hk,length_cons,length_cons]; lia
  ·rw[if_neg hk,length_cons,length_cons]; lia
theorem RelO.some_of {v:V}{o:Option Value}(r:RelO (some v) o):∃ u,o=some u/\RelV v u:=by
 cases o with
 | none=>exact(show False from r).elim
 | some u=>exact⟨u,rfl,r⟩
theorem RelO.none_of {o:Option Value}(r:RelO none o):o=none:=by
 cases o with
 | none=>rfl
 | some u=>exact(show False from r).elim
theorem se {v:V}{u:Value}(r:RelV v u):PySem.W.handedIn u=true:=by
 cases v with
 | non=>cases (show u=Value.none from r); rfl
 | bl b=>cases (show u=Value.bool b from r); rfl
 | int i=>obtain⟨t,e⟩:=(show ∃ t,u=Value.int i t from r); cases e; rfl
 | str x=>obtain⟨t,e⟩:=(show ∃ t,u=Value.str x t from r); cases e; rfl
 | byt b=>obtain⟨t,e⟩:=(show ∃ t,u=Value.bytes b t from r); cases e; rfl
 | flt b=>obtain⟨t,e⟩:=(show ∃ t,u=Value.float b t from r); cases e; rfl
 | ref a=>cases (show u=Value.ref a from r); rfl
 | ty n=>cases (show u=Value.type n from r); rfl
section
variable {P:Program}{w:World}{H H':Hp}{h h':Heap}{a C dx:Addr}{fs fs':List (Str×V)}
theorem lX (hok:HOk P w H h) (e:H a=some (.ins C dx fs)):∃ mA,ObjM h a dx C mA/\(∀ f,RelO (fs.lookup f) (mA f))/\PySem.Within mA (fs.map (·.1))/\fs.length<=1000/\H dx=some (.own a):=by
 obtain⟨d,z,ne,ob,mA,n,r,q⟩:=(show ObjOk P w H h a (.ins C dx fs) from hok a _ e)
 exact⟨mA,⟨ob,n,ne⟩,r,q,z,d⟩
end
structure Cls (K:Frag) (C:Addr):Prop where
 pg:plainGet K C Str.empty=true
 hd:hasDictIn K C=true
 po:plainOver K C=true
 sa:findIn K (.ref C) "__setattr__"=some (some (.builtin "object.__setattr__"))
theorem Cls.get {K:Frag}{C:Addr}(c:Cls K C) (f:Str):plainGet K C f=true:=c.pg
def NoAttr (K:Frag) (C:Addr) (f:Str):Prop:=findIn K (.ref C) f=some none
theorem NoAttr.taker {K:Frag}{C:Addr}{f:Str}(n:NoAttr K C f):PySem.W.takerIn K C f=some none:=by
 unfold PySem.W.takerIn
 rw[show findIn K (.ref C) f=some none from n]
 rfl
structure Meth (K:Frag) (C:Addr) (m:Str) (f:Addr):Prop where
 at_:findIn K (.ref C) m=some (some (.ref f))
 fn:isFn K (.ref f)=true
 kp:keepIn K (.ref f)=true
section
variable {X:Cx}{pins:List (Addr×Obj)}{σ:St}{H:Hp}{s:Shared}{a C dx:Addr}{fs:List (Str×V)}{f:Str}{v:V}{A:Around}{E:Value->Shared->Prop}
theorem qR {b:Bool}{Q:Value->Shared->Prop}(I:Inv X pins σ H s) (e:H a=some (.ins C dx fs)) (c:Cls X.K C) (n:NoAttr X.K C f) (l:fs.lookup f=some v)
  (h:∀ u s',Inv X pins σ H s'->RelV v u->Q u s'):wpAny (model X.prog X.w) A (getAttr (.ref a) f b) Q E s:=by
 obtain⟨mA,O,r,_,_,_⟩:=lX I.hok e
 obtain⟨u,hu,ru⟩:=RelO.some_of (v:=v) (o:=mA f) (by rw[<- l]; exact r f)
 exact get_map I.kIn O (c.get f) c.hd n hu (se ru) (h u _ (I.tok _) ru)
theorem lC {m:Str}{g:Addr}{pl:Sem Bool}{Q:Value×List Value->Shared->Prop}(I:Inv X pins σ H s) (e:H a=some (.ins C dx fs)) (c:Cls X.K C) (k:Meth X.K C m g) (l:fs.lookup m=none)
  (h:Q (.ref g,[.ref a]) s):wpAny (model X.prog X.w) A (getMethod (.ref a) m pl) Q E s:=by
 obtain⟨mA,O,r,_,_,_⟩:=lX I.hok e
 have hn:mA m=none:=RelO.none_of (by rw[<- l]; exact r m)
 exact get_meth I.kIn O (c.get m) k.at_ k.fn hn h
theorem qy {y:V}{u:Value}{Q:Unit->Shared->Prop}(I:Inv X pins σ H s) (e:H a=some (.ins C dx fs)) (c:Cls X.K C) (n:NoAttr X.K C f) (hl:fs.length<1000) (ry:RelV y u)
  (h:∀ s',Inv X pins σ (upd H a (.ins C dx (oq f y fs))) s'->Q () s'):wpAny (model X.prog X.w) A (setAttr (.ref a) f u) Q E s:=by
 obtain⟨mA,O,r,wi,_,ho⟩:=lX I.hok e
 have hz:(fs.map (·.1)).length<=sizeLine:=by rw[length_map,sizeLine_eq]; lia
 refine set_map I.kIn O c.sa c.po n.taker c.hd wi hz fun h' O' sb=>h _ ?_
 have hd:∃ o,h'.get? dx=some o:=let ⟨o,_,_,e',_⟩:=O'.ns; ⟨o,e'⟩
 refine I.write (x:=a) (e:=dx) (by rw[e]; exact True.intro) (.inr ho) (fun b q hb z=>(sb.2 b hb).trans z) hd ?_
 refine⟨by rw[au O.ne]; exact ho,?_,O.ne,O'.obj,_,O'.ns,fun g=>?_,fun g hg=>?_⟩
 ·have:=ji f y fs; lia
 ·show RelO ((oq f y fs).lookup g) (if g=f then some u else mA g)
  rw[km]
  by_cases q:g=f
  ·rw[if_pos q,if_pos q]; exact ry
  ·rw[if_neg q,if_neg q]; exact r g
 ·by_cases q:g=f
  ·rw[q]; exact(jX f y fs).1
  ·refine(jX f y fs).2 g (wi g fun z=>hg ?_)
   show (if g=f then some u else mA g)=none
   rw[if_neg q]; exact z
theorem Inv.made (I:Inv X pins σ H s):Inv X pins σ (upd (upd H s.heap.objs.size (.own (s.heap.objs.size+1))) (s.heap.objs.size+1) (.ins C s.heap.objs.size []))
  { s with heap:=(s.heap.push PySem.W.emptyDict).push (instObj C s.heap.objs.size) }:=by
 have e1:(s.heap.push PySem.W.emptyDict).get? s.heap.objs.size=some PySem.W.emptyDict:=Heap.get?_push_size s.heap rfl
 have e2:((s.heap.push PySem.W.emptyDict).push (instObj C s.heap.objs.size)).get? (s.heap.objs.size+1)=some (instObj C s.heap.objs.size):=by
  have:=Heap.get?_push_size (s.heap.push PySem.W.emptyDict) (o:=instObj C s.heap.objs.size) rfl
  rwa [Heap.size_push] at this
 have e3:(s.heap.push PySem.W.emptyDict).Ns s.heap.objs.size (fun _=>none):=⟨PySem.W.emptyDict,#[],_,e1,rfl,(fun e he=>absurd he (by simp)),fun _=>rfl⟩
 have I1:=I.laid (a:=s.heap.objs.size) (o:=.own (s.heap.objs.size+1)) (h':=s.heap.push PySem.W.emptyDict) (t':=s.toks) (fun b u q=>Heap.get?_push_of_some _ q) (Nat.le_refl _) ⟨_,e1⟩
 refine I1.laid (a:=s.heap.objs.size+1) (o:=.ins C s.heap.objs.size []) (t':=s.toks) (fun b u q=>Heap.get?_push_of_some _ q) (Nat.le_of_eq (Heap.size_push _ _)) ?_
 have ne:s.heap.objs.size≠s.heap.objs.size+1:=Nat.ne_of_lt (lt_succ_self _)
 refine⟨by rw[au ne,ae],zero_le _,ne,e2,fun _=>none,(Heap.Ns1.of_empty e3).at fun o q=>Heap.get?_push_of_some _ q,fun _=>True.intro,fun y hy=>absurd rfl hy⟩
theorem attr_of {prog:Program}{w:World}{env:Env}{e:Expr}{f:Str}{pos:Pos}{s:Shared}{Q:Value->Shared->Prop}(hb:attributeBase e f env (eval e env)=eval e env)
  (h:wpAny (model prog w) A (eval e env) (fun o s₁=>wpAny (model prog w) A (getAttr o f true) Q E s₁) E s):wpAny (model prog w) A (eval (.Attribute e f pos) env) Q E s :=
 Attribute_any_ h (by rw[arm_eval_Attribute,hb])
end
def tFld (K:Frag) (ta:TE) (f:Str):TE:=fun σ H Q=>ta σ H fun x H1=>∃ a C dx fs v,x=.ref a/\H1 a=some (.ins C dx fs)/\Cls K C/\NoAttr K C f/\fs.lookup f=some v/\Q v H1
def sFld (K:Frag) (ta tv:TE) (f:Str):TS:=fun D σ H=>tv σ H fun y H1=>ta σ H1 fun x H2=>∃ a C dx fs,x=.ref a/\H2 a=some (.ins C dx fs)/\Cls K C/\NoAttr K C f/\fs.length<1000 /\
 D.nx σ (upd H2 a (.ins C dx (oq f y fs)))
section
variable {X:Cx}{o e value:Expr}{f:Str}{pos pos' tpos:Pos}{ta tv:TE}
theorem aZ (he:PE X e ta) (hb:attributeBase e f X.env (eval e X.env)=eval e X.env):PE X (.Attribute e f pos) (tFld X.K ta f):=by
 intro pins s σ H Q I h
 refine attr_of hb (thn (he pins s σ H _ I h) fun u s1 ⟨x,H1,I1,rx,a,C,dx,fs,v,ex,ea,c,n,l,q⟩=>?_)
 subst ex
 obtain rfl:u=Value.ref a:=rx
 exact qR I1 ea c n l fun u' s2 I2 ru=>⟨v,H1,I2,ru,q⟩
theorem dL (ha:PE X o ta) (hv:PE X value tv) (hs:swapsWith value (some (.Attribute o f pos')) pos.line X.env=pure false):PS X (.Assign [.Attribute o f pos'] value pos) (sFld X.K ta tv f):=by
 intro pins s σ H D I h
 refine plainObj_wpAny_Assign_Attribute (thn (hv pins s σ H _ I h) fun u s1 ⟨y,H1,I1,ry,q⟩=>thn (ha pins s1 σ H1 _ I1 q) fun ov s2 ⟨x,H2,I2,rx,a,C,dx,fs,ex,ea,c,n,l,q2⟩=>?_) hs
 subst ex
 obtain rfl:ov=Value.ref a:=rx
 exact qy I2 ea c n l ry fun s3 I3=>⟨σ,_,I3,q2⟩
end
section
variable {X:Cx}{pins:List (Addr×Obj)}{σ:St}{H:Hp}{s:Shared}{A:Around}{E:Value->Shared->Prop}{Q:Value->Shared->Prop}{c:Value}{b:Bool}
inductive TyOf (K:Frag) (H:Hp):V->Value->Prop where
 | non:TyOf K H .non (.type "NoneType")
 | bl (x:Bool):TyOf K H (.bl x) (.type "bool")
 | int (i:Int):TyOf K H (.int i) (.type "int")
 | str (x:Str):TyOf K H (.str x) (.type "str")
 | flt (x:UInt64):TyOf K H (.flt x) (.type "float")
 | lst {a:Addr} {xs:List V} (e:H a=some (.lst xs)):TyOf K H (.ref a) (.type "list")
 | frz {a:Addr} {o:Obj} {xs:List V} (e:H a=some (.frz o (.lst xs))):TyOf K H (.ref a) (.type "list")
 | tup {a:Addr} {xs:List V} (e:H a=some (.tup xs)):TyOf K H (.ref a) (.type "tuple")
 | dK {a:Addr} {kvs:List (Key×V)} (e:H a=some (.dK kvs)):TyOf K H (.ref a) (.type "dict")
 | dT {a:Addr} {kvs:List (List Key×V)} (e:H a=some (.dT kvs)):TyOf K H (.ref a) (.type "dict")
 | ins {a C dx:Addr} {fs:List (Str×V)} (e:H a=some (.ins C dx fs)) (cl:Cls K C) (ha:findIn K (.ref C) "__class__"=some (some (.builtin "object.__class__")))
   (hn:PySem.W.specialIn K (.builtin "object.__class__") "__get__"=some (some (.builtin "getset_descriptor.__get__"))) (htk:PySem.W.takesIn K (.builtin "object.__class__")=some true)
   (hm:mroIn K C (.type "object")=some true):TyOf K H (.ref a) (.ref C)
theorem sf {x:V}{u t:Value}(I:Inv X pins σ H s) (rx:RelV x u) (ty:TyOf X.K H x t) (e:kitOne X.K t c=some b) (h:∀ tk,Q (.bool b) { s with toks:=tk }) :
  wpAny (model X.prog X.w) A (call (.builtin "isinstance") [u,c]) Q E s:=by
 cases ty with
 | non=>cases (show u=Value.none from rx); exact PySem.W.kia_one PySem.W.kitx_none I.kIn True.intro e (fun z=>nomatch z) h
 | bl y=>cases (show u=Value.bool y from rx); exact PySem.W.kia_one PySem.W.kitx_bool I.kIn True.intro e (fun z=>nomatch z) h
 | int i=>obtain⟨t,q⟩:=(show ∃ t,u=Value.int i t from rx); cases q; exact PySem.W.kia_one PySem.W.kitx_int I.kIn True.intro e (fun z=>nomatch z) h
 | str y=>obtain⟨t,q⟩:=(show ∃ t,u=Value.str y t from rx); cases q; exact PySem.W.kia_one PySem.W.kitx_str I.kIn True.intro e (fun z=>nomatch z) h
 | flt y=>obtain⟨t,q⟩:=(show ∃ t,u=Value.float y t from rx); cases q; exact PySem.W.kia_one PySem.W.kitx_float I.kIn True.intro e (fun z=>nomatch z) h
 | @lst a xs ea =>
  cases (show u=Value.ref a from rx)
  obtain⟨_,_,n,_,h1⟩:=(show ObjOk X.prog X.w H s.heap a (.lst xs) from I.hok a _ ea)
  exact PySem.W.kia_one PySem.W.kitx_list I.kIn ⟨_,h1,rfl⟩ e (fun z=>nomatch z) h
 | @frz a ob xs ea =>
  cases (show u=Value.ref a from rx)
  obtain⟨_,_,_,n,_,h1⟩:=(show ObjOk X.prog X.w H s.heap a (.frz ob (.lst xs)) from I.hok a _ ea)
  exact PySem.W.kia_one PySem.W.kitx_list I.kIn ⟨_,h1,rfl⟩ e (fun z=>nomatch z) h
 | @tup a xs ea =>
  cases (show u=Value.ref a from rx)
  obtain⟨_,_,_,p⟩:=(show ObjOk X.prog X.w H s.heap a (.tup xs) from I.hok a _ ea)
  obtain⟨o,h1,h2,_⟩:=p
  exact PySem.W.kia_one PySem.W.kitx_tuple I.kIn ⟨o,h1,h2⟩ e (fun z=>nomatch z) h
 | @dK a kvs ea =>
  cases (show u=Value.ref a from rx)
  obtain⟨_,_,vs,_,p⟩:=(show ObjOk X.prog X.w H s.heap a (.dK kvs) from I.hok a _ ea)
  obtain⟨o,es,ep,h1,h2,_⟩:=p
  exact PySem.W.kia_one PySem.W.kitx_dict I.kIn ⟨o,h1,h2.1⟩ e (fun z=>nomatch z) h
 | @dT a kvs ea =>
  cases (show u=Value.ref a from rx)
  obtain⟨_,_,xs,_,o,es,ep,h1,h2,_⟩:=(show ObjOk X.prog X.w H s.heap a (.dT kvs) from I.hok a _ ea)
  exact PySem.W.kia_one PySem.W.kitx_dict I.kIn ⟨o,h1,h2.1⟩ e (fun z=>nomatch z) h
 | @ins a C dx fs ea cl ha hn htk hm =>
  cases (show u=Value.ref a from rx)
  obtain⟨mA,O,_⟩:=lX I.hok ea
  obtain⟨od,J,_⟩:=O.look
  exact PySem.W.kia_one (PySem.W.kitx_own (cl.get _) cl.hd ha hn htk hm) I.kIn J e (fun z=>nomatch z) h
end
end L2
namespace L2
open PySem PySem.Spec PyProof.Rows
structure Room (k:Nat) (A:Around):Prop where
 hd:A.handled=none
 dp:A.depth+3*k+5<recursionLimit
 un:A.units+16*k+200<cLine
 gd:A.guards=some []
theorem Room.mono {j k:Nat}{A:Around}(r:Room k A) (h:j<=k):Room j A:=⟨r.hd,by have:=r.dp; lia,by have:=r.un; lia,r.gd⟩
theorem Room.deeper {k:Nat}{A:Around}(r:Room (k+1) A) (env:Env):Room k (A.deeper env) :=
 ⟨r.hd,by have:=r.dp; show A.depth+1+3*k+5<_; lia,by have:=r.un; show A.units+3+16*k+200<_; lia,r.gd⟩
theorem Room.in1 {k:Nat}{A:Around}(r:Room (k+1) A):Room k A.in1 :=
 ⟨r.hd,by have:=r.dp; show A.depth+3*k+5<_; lia,by have:=r.un; show A.units+1+16*k+200<_; lia,r.gd⟩
theorem qJ {A:Around}{C:Addr}{us:List Value}{kw:List (Str×Value)}:(A.under (.builtin "type.__call__" ⟨.ref C::us,kw⟩)).depth=A.depth+1:=by
 first | rfl | simp[Around.under,Code.weight,Code.isCreation,Code.isGuard,Code.isCaller,Code.frames,Code.isFrame,guardIds]
theorem q8 {A:Around}{C:Addr}{us:List Value}{kw:List (Str×Value)}:(A.under (.builtin "type.__call__" ⟨.ref C::us,kw⟩)).units=A.units+1:=by
 first | rfl | simp[Around.under,Code.cUnits,Code.frames,Code.isFrame]
theorem Room.make {k:Nat}{A:Around}(r:Room (k+1) A) (C:Addr) (us:List Value) (kw:List (Str×Value)):Room k (A.under (.builtin "type.__call__" ⟨.ref C::us,kw⟩)) :=
 ⟨r.hd,by have:=r.dp; rw[qJ]; lia,by have:=r.un; rw[q8]; lia,r.gd⟩
theorem Room.depth {k:Nat}{A:Around}(r:Room k A):A.depth<recursionLimit:=by have:=r.dp; lia
theorem Room.units {k:Nat}{A:Around}(r:Room k A):A.units+64<cLine:=by have:=r.un; lia
def tNil:TA:=fun _ H Q=>Q [] H
def tCons (ta:TE) (tr:TA):TA:=fun σ H Q=>ta σ H fun x H1=>tr σ H1 fun xs H2=>Q (x::xs) H2
section
variable {X:Cx}{e:Expr}{es:List Expr}{te:TE}{t:TA}{pos:Pos}
theorem ah:PA X [] tNil:=fun _ _ _ _ H Q I h=>Calls.spliced_nil ⟨[],H,I,.nil,h⟩
theorem aa (ha:PE X e te) (hr:PA X es t) (hs:starEach (e::es) X.env=(false,eval e X.env)::starEach es X.env:=by rfl):PA X (e::es) (tCons te t):=by
 intro pos pins s σ H Q I h
 rw[hs]
 show wpAny _ _ (spliced ((false,eval e X.env)::backTo pos (starEach es X.env))) _ _ s
 refine Calls.spliced_cons (thn (ha pins s σ H _ I h) fun u s1 ⟨x,H1,I1,r1,q1⟩=>?_)
 exact thn (hr pos pins s1 σ H1 _ I1 q1) fun us s2 ⟨xs,H2,I2,r2,q2⟩=>⟨x::xs,H2,I2,.cons r1 r2,q2⟩
def tTup (t:TA):TE:=fun σ H Q=>t σ H fun xs H1=>xs.length<=sizeLine/\∀ p,H1 p=none->Q (.ref p) (upd H1 p (.tup xs))
def tLst (t:TA):TE:=fun σ H Q=>t σ H fun xs H1=>xs.length<=sizeLine/\∀ p,H1 p=none->Q (.ref p) (upd H1 p (.lst xs))
theorem bp {x1}(h:PA X es t):PE X (.Tuple es x1 pos) (tTup t):=by
 intro pins s σ H Q I hq
 refine wpAny_Tuple_spliced (thn (h pos pins s σ H _ I hq) fun us s1 ⟨xs,H1,I1,r,z,q⟩=>⟨by rw[<- r.length]; exact z,?_⟩)
 have hf:H1 s1.heap.objs.size=none:=I1.hok.fresh (Nat.le_refl _)
 refine⟨.ref s1.heap.objs.size,upd H1 s1.heap.objs.size (.tup xs),I1.laid (t':=s1.toks) (fun b u e=>Heap.get?_push_of_some _ e) (Nat.le_refl _) ?_,rfl,q _ hf⟩
 exact⟨z,us,r,⟨_,Heap.get?_push_size _ rfl,rfl,_,rfl⟩⟩
theorem bu (h:PA X es t):PE X (.List es pos) (tLst t):=by
 intro pins s σ H Q I hq
 refine wpAny_List_spliced (thn (h pos pins s σ H _ I hq) fun us s1 ⟨xs,H1,I1,r,z,q⟩=>⟨by rw[<- r.length]; exact z,?_⟩)
 have hf:H1 s1.heap.objs.size=none:=I1.hok.fresh (Nat.le_refl _)
 refine⟨.ref s1.heap.objs.size,upd H1 s1.heap.objs.size (.lst xs),I1.laid (t':=s1.toks) (fun b u e=>Heap.get?_push_of_some _ e) (Nat.le_refl _) ?_,rfl,q _ hf⟩
 exact⟨z,us,0,r,Heap.get?_push_size _ rfl⟩
end
abbrev Sp:=List V->Hp->VK->XK->Prop
abbrev CXT:=List Env->Hp->Shared->XK->Value->Shared->Prop
structure Env0 (P:Program) (w:World) (K:Frag) (mg:Str->Option Value) (base:Heap) (A:Around) (outer:List Env) (s:Shared) (H:Hp):Prop where
 frames:A.frames=some outer
 mod:Mod K mg base
 bs:∀ b o,base.get? b=some o->s.heap.get? b=some o/\H b=none
 bsz:base.objs.size<=s.heap.objs.size
 funs:s.heap.FunFrames base outer
 frf:∀ b∈frs outer,H b=none
 hok:HOk P w H s.heap
 bare:AllBare s.gens
def CE (outer:List Env) (P:Program) (w:World) (H:Hp) (s:Shared) (Q:VK) (u:Value) (s':Shared):Prop :=
 ∃ v H',s'.os=s.os/\AllBare s'.gens/\Un (frs outer) [] H H' s.heap s'.heap/\HOk P w H' s'.heap/\RelV v u/\Q v H'
def CR (CX:CXT) (outer:List Env) (P:Program) (w:World) (H:Hp) (s:Shared) (Q:VK) (E:XK) (r:Result) (s':Shared):Prop :=
 match r with
 | .ok (.ret u)=>CE outer P w H s Q u s'
 | .ok _=>False
 | .error e=>CX outer H s E e s'
structure FnOk (P:Program) (w:World) (K:Frag) (mg:Str->Option Value) (base:Heap) (CX:CXT) (k:Nat) (f:Addr) (fd:FuncData) (ps:List Str) (sp:Sp):Prop where
 len:∀ vs H Q E,sp vs H Q E->vs.length=ps.length
 run:∀ (A:Around) (outer:List Env) (s:Shared) (H:Hp) (args:Args) (us:List Value) (vs:List V) (Q:VK) (E:XK),Room k A->Env0 P w K mg base A outer s H->BindsTo s fd args (ps.zip us)->Vals vs us->sp vs H Q E ->
  codeAny (model P w) A (.call (.ref f) args) (CR CX outer P w H s Q E) s
theorem Env0.make {P:Program}{w:World}{K:Frag}{mg:Str->Option Value}{base:Heap}{A:Around}{outer:List Env}{s:Shared}{H:Hp}(e:Env0 P w K mg base A outer s H) (C:Addr) (us:List Value) (kw:List (Str×Value)) :
  Env0 P w K mg base (A.under (.builtin "type.__call__" ⟨.ref C::us,kw⟩)) outer s H:=⟨by first | exact e.frames | (simpa [Around.under,Code.envs,Code.isFrame,pushEnvs] using e.frames),e.mod,e.bs,e.bsz,e.funs,e.frf,e.hok,e.bare⟩
section
variable {X:Cx}{pins:List (Addr×Obj)}{σ:St}{H:Hp}{s s':Shared}
theorem Inv.env0 (I:Inv X pins σ H s):Env0 X.prog X.w X.K X.mg X.base X.A X.stack s H :=
 ⟨I.ok.frames,I.ok.mod,I.bs,Nat.le_trans I.ok.bsz I.sz,I.stack,I.stkFree,I.hok,I.bare⟩
theorem Inv.after {Q:VK}{u:Value}(I:Inv X pins σ H s) (h:CE X.stack X.prog X.w H s Q u s'):EP X pins σ Q u s':=by
 obtain⟨v,H',os,bare,un,hok,r,q⟩:=h
 obtain⟨hh,g,d,t,os'⟩:=s'
 obtain rfl:os'=s.os:=os
 exact⟨v,H',I.call (h':=hh) (g':=g) (d':=d) (t':=t) (ch:=[]) un hok bare (fun b z=>absurd z (by simp)),r,q⟩
end
def tCall (sp:Sp) (dvs:List V) (E:XK) (t:TA):TE:=fun σ H Q=>t σ H fun vs H1=>sp (vs++dvs) H1 Q E
def tMake (C:Addr) (sp:Sp) (dvs:List V) (E:XK) (t:TA):TE:=fun σ H Q=>t σ H fun vs H1=>∀ x dx,H1 x=none->H1 dx=none->dx≠x ->
 sp (.ref x::(vs++dvs)) (upd (upd H1 dx (.own x)) x (.ins C dx [])) (fun v H2=>v=.non/\Q (.ref x) H2) E
def Binds (K:Frag) (fd:FuncData) (ps:List Str) (ds:List Value):Prop :=
 ∀ (s:Shared) (us:List Value),K.In s.heap->(us++ds).length=ps.length->BindsTo s fd ⟨us,[]⟩ (ps.zip (us++ds))
theorem Binds.all {K:Frag}{fd:FuncData}{ps:List Str}(h:∀ us:List Value,us.length=ps.length->bindArgs fd ⟨us,[]⟩=pure (ps.zip us)):Binds K fd ps []:=fun s us _ hl=>by
 rw[append_nil] at hl ⊢
 exact .of_eq (h us hl)
def lh (CX:CXT) (X:Cx) (E:XK):Prop:=∀ (pins:List (Addr×Obj)) (σ:St) (H:Hp) (s:Shared) (e:Value) (s':Shared),Inv X pins σ H s->CX X.stack H s E e s'->X.xe e s'
section
variable {X:Cx}{CX:CXT}{k:Nat}{f C:Addr}{fd:FuncData}{ps:List Str}{sp:Sp}{dvs:List V}{ds:List Value}{E:XK}{x m:Str}{p pos apos:Pos}{e o:Expr}{es:List Expr}{ta:TE}{t:TA}
theorem qc {pins:List (Addr×Obj)}{σ:St}{H:Hp}{s:Shared}{Q:VK}{us:List Value}{vs:List V}(F:FnOk X.prog X.w X.K X.mg X.base CX k f fd ps sp) (hr:Room k X.A) (hb:Binds X.K fd ps ds) (hd:Vals dvs ds) (hx:lh CX X E)
  (I:Inv X pins σ H s) (r:Vals vs us) (h:sp (vs++dvs) H Q E):wpAny (model X.prog X.w) X.A (call (.ref f) us) (EP X pins σ Q) X.xe s:=by
 have r2:Vals (vs++dvs) (us++ds):=r.append hd
 have hl:(us++ds).length=ps.length:=by rw[<- r2.length]; exact F.len _ _ _ _ h
 refine wpAny_call (codeAny_mono (F.run X.A X.stack s H ⟨us,[]⟩ (us++ds) (vs++dvs) Q E hr I.env0 (hb s us I.kIn hl) r2 h) fun r s' hq=>?_)
 cases r with
 | error e=>exact hx pins σ H s e s' I hq
 | ok fl =>
  cases fl with
  | ret u=>exact I.after hq
  | next=>exact False.elim hq
  | brk=>exact False.elim hq
  | cont=>exact False.elim hq
theorem pe_call (F:FnOk X.prog X.w X.K X.mg X.base CX k f fd ps sp) (hr:Room k X.A) (hg:Gl X x) (hm:X.mg x=some (.ref f)) (hk:keepIn X.K (.ref f)=true) (hb:Binds X.K fd ps ds) (hd:Vals dvs ds) (hx:lh CX X E)
  (ha:PA X (e::es) t) (hdb:(x == ("__debug__":Str))=false:=by decide) (he:starEach (e::es) X.env=(false,eval e X.env)::starEach es X.env:=by rfl) (hpl:(backTo pos (starEach es X.env)).any (·.1)=false:=by rfl) :
  PE X (.Call (.Name x p) (e::es) [] pos) (tCall sp dvs E t):=by
 intro pins s σ H Q I h
 refine wpAny_Call_Name_kw (j9 I hg hm ?_ hdb)
 refine PySem.W.callWith_K (h₀:=X.base) I.ok.mod.kin hk (thn (ha pos pins s σ H _ I h) fun us s1 ⟨vs,H1,I1,r,q⟩=>⟨I1.kIn,?_⟩) he hpl
 exact qc F hr hb hd hx I1 r q
theorem pe_call0 (F:FnOk X.prog X.w X.K X.mg X.base CX k f fd ps sp) (hr:Room k X.A) (hg:Gl X x) (hm:X.mg x=some (.ref f)) (hk:keepIn X.K (.ref f)=true) (hb:Binds X.K fd ps ds) (hd:Vals dvs ds) (hx:lh CX X E)
  (hdb:(x == ("__debug__":Str))=false:=by decide):PE X (.Call (.Name x p) [] [] pos) (tCall sp dvs E tNil):=by
 intro pins s σ H Q I h
 refine wpAny_Call_Name_kw (j9 I hg hm ?_ hdb)
 exact PySem.W.callWith_K0 I.kIn hk (qc (us:=[]) F hr hb hd hx I .nil h)
structure Mk (K:Frag) (C f:Addr):Prop where
 makes:makesIn K C=true
 init:findIn K (.ref C) "__init__"=some (some (.ref f))
 fn:isFn K (.ref f)=true
 kp:keepIn K (.ref C)=true
theorem run_make {pins:List (Addr×Obj)}{σ:St}{H:Hp}{s:Shared}{Q:VK}{us:List Value}{vs:List V}(M:Mk X.K C f) (F:FnOk X.prog X.w X.K X.mg X.base CX k f fd ps sp) (hr:Room (k+1) X.A) (hb:Binds X.K fd ps ds) (hd:Vals dvs ds)
  (hx:lh CX X E) (I:Inv X pins σ H s) (r:Vals vs us)
  (h:∀ x dx,H x=none->H dx=none->dx≠x->sp (.ref x::(vs++dvs)) (upd (upd H dx (.own x)) x (.ins C dx [])) (fun v H2=>v=.non/\Q (.ref x) H2) E) :
  wpAny (model X.prog X.w) X.A (call (.ref C) us) (EP X pins σ Q) X.xe s:=by
 have hq:=h (s.heap.objs.size+1) s.heap.objs.size (I.hok.fresh (le_succ _)) (I.hok.fresh (Nat.le_refl _)) (Nat.ne_of_lt (lt_succ_self _))
 have I2:=Inv.made (C:=C) I
 have r2:Vals (V.ref (s.heap.objs.size+1)::(vs++dvs)) (Value.ref (s.heap.objs.size+1)::(us++ds)):=.cons rfl (r.append hd)
 have hl:(Value.ref (s.heap.objs.size+1)::us++ds).length=ps.length:=by
  have e:=r2.length
  rw[F.len _ _ _ _ hq] at e
  exact e.symm
 refine wpAny_call (make_map (f:=f) I.kIn M.makes M.init (beq_iff_eq.mp M.fn) (codeAny_mono (F.run _ X.stack _ _ ⟨Value.ref (s.heap.objs.size+1)::us,[]⟩ (Value.ref (s.heap.objs.size+1)::(us++ds)) _ _ E (hr.make C us [])
  (I2.env0.make C us []) (hb _ (Value.ref (s.heap.objs.size+1)::us) I2.kIn hl) r2 hq) fun r s' hq'=>?_))
 cases r with
 | error e=>exact hx pins σ _ _ e s' I2 hq'
 | ok fl =>
  cases fl with
  | ret u =>
   obtain⟨v,H',I3,rv,ev,q3⟩:=I2.after hq'
   subst ev
   exact⟨rv,⟨V.ref (s.heap.objs.size+1),H',I3,rfl,q3⟩⟩
  | next=>exact False.elim hq'
  | brk=>exact False.elim hq'
  | cont=>exact False.elim hq'
theorem pe_make (M:Mk X.K C f) (F:FnOk X.prog X.w X.K X.mg X.base CX k f fd ps sp) (hr:Room (k+1) X.A) (hg:Gl X x) (hm:X.mg x=some (.ref C)) (hb:Binds X.K fd ps ds) (hd:Vals dvs ds) (hx:lh CX X E)
  (ha:PA X (e::es) t) (hdb:(x == ("__debug__":Str))=false:=by decide) (he:starEach (e::es) X.env=(false,eval e X.env)::starEach es X.env:=by rfl) (hpl:(backTo pos (starEach es X.env)).any (·.1)=false:=by rfl) :
  PE X (.Call (.Name x p) (e::es) [] pos) (tMake C sp dvs E t):=by
 intro pins s σ H Q I h
 refine wpAny_Call_Name_kw (j9 I hg hm ?_ hdb)
 refine PySem.W.callWith_K (h₀:=X.base) I.ok.mod.kin M.kp (thn (ha pos pins s σ H _ I h) fun us s1 ⟨vs,H1,I1,r,q⟩=>⟨I1.kIn,?_⟩) he hpl
 exact run_make M F hr hb hd hx I1 r q
end
section
variable {X:Cx}{CX:CXT}{k:Nat}{f C:Addr}{fd:FuncData}{ps ks:List Str}{sp:Sp}{E:XK}{x m:Str}{p pos apos kpos:Pos}{e o:Expr}{es:List Expr}{kws:List Keyword}{te ta:TE}{t tk:TA}{nm:Option Str}
variable {g:List Value->List Value->List Value}{gV:List V->List V->List V}
end
structure FnScope (N P:List Str) (sc:Scope):Prop where
 kind:sc.kind=.function
 co:sc.isCoroutine=false
 gen:sc.isGenerator=false
 nd:N.Nodup
 pre:N.take P.length=P
 par:∀ x∈P,sc.names.lookup x=some .local\/sc.names.lookup x=some .cell
 nofree:∀ y∈sc.names,y.2≠.free
theorem mY {kindOf:Str->Option NameKind}{x:Str}:∀ {binds:List (Str×Value)}{m:Str->Option Value},(∀ v,(x,v)∉binds)->bindL kindOf binds m x=m x
 | [],_,_=>rfl
 | (n,v)::r,m,h=>by
  unfold bindL
  rw[mY fun w hw=>h w (mem_cons_of_mem _ hw)]
  split
  ·have:x≠n:=by rintro rfl; exact h v mem_cons_self
   simp[this]
  ·rfl
theorem m9 {kindOf:Str->Option NameKind}{x:Str}:∀ {binds:List (Str×Value)}{m:Str->Option Value},(∀ v,(x,v)∉binds)->bindC kindOf binds m x=m x
 | [],_,_=>rfl
 | (n,v)::r,m,h=>by
  unfold bindC
  rw[m9 fun w hw=>h w (mem_cons_of_mem _ hw)]
  split
  ·rfl
  ·have:x≠n:=by rintro rfl; exact h v mem_cons_self
   simp[this]
theorem oi {kindOf:Str->Option NameKind}{x:Str}{v:Value}:∀ {P:List Str}{vs:List Value}{i:Nat}{m:Str->Option Value},P.Nodup->P[i]?=some x->vs[i]?=some v->kindOf x=some .local ->
  bindL kindOf (P.zip vs) m x=some v
 | [],_,_,_,_,h,_,_=>by simp at h
 | _::_,[],_,_,_,_,h,_=>by simp at h
 | p::P,w::vs,0,m,nd,h1,h2,hk=>by
  simp at h1 h2; subst h1; subst h2
  show bindL kindOf ((p,w)::P.zip vs) m p=_
  unfold bindL
  rw[mY fun v hv=>(List.nodup_cons.mp nd).1 (List.of_mem_zip hv).1,if_pos hk]
  simp
 | p::P,w::vs,i+1,m,nd,h1,h2,hk=>by
  show bindL kindOf ((p,w)::P.zip vs) m x=_
  unfold bindL
  exact oi (i:=i) (List.nodup_cons.mp nd).2 (by simpa using h1) (by simpa using h2) hk
theorem nG {kindOf:Str->Option NameKind}{x:Str}{v:Value}:∀ {P:List Str}{vs:List Value}{i:Nat}{m:Str->Option Value},P.Nodup->P[i]?=some x->vs[i]?=some v->kindOf x≠some .local ->
  bindC kindOf (P.zip vs) m x=some v
 | [],_,_,_,_,h,_,_=>by simp at h
 | _::_,[],_,_,_,_,h,_=>by simp at h
 | p::P,w::vs,0,m,nd,h1,h2,hk=>by
  simp at h1 h2; subst h1; subst h2
  show bindC kindOf ((p,w)::P.zip vs) m p=_
  unfold bindC
  rw[m9 fun v hv=>(List.nodup_cons.mp nd).1 (List.of_mem_zip hv).1,if_neg hk]
  simp
 | p::P,w::vs,i+1,m,nd,h1,h2,hk=>by
  show bindC kindOf ((p,w)::P.zip vs) m x=_
  unfold bindC
  exact nG (i:=i) (List.nodup_cons.mp nd).2 (by simpa using h1) (by simpa using h2) hk
def iY (N:List Str) (vs:List V):St:=vs.map some++List.replicate (N.length-vs.length) none
noncomputable def mS (CX:CXT) (P:Program) (w:World) (K:Frag) (mg:Str->Option Value) (base:Heap) (N:List Str) (qual:Str) (scope:Scope) (f:Addr) (cd:Value) (A:Around) (outer:List Env) (s:Shared) (H:Hp) (E:XK):Cx where
 prog:=P
 w:=w
 K:=K
 mg:=mg
 base:=base
 A:=A.deeper (envOfC qual scope s.heap.objs.size f cd)
 N:=N
 s₀:=s
 H₀:=H
 env:=envOfC qual scope s.heap.objs.size f cd
 outer:=outer
 stack:=envOfC qual scope s.heap.objs.size f cd::outer
 ex:=[]
 calm:=true
 fn:=fun _=>true
 pn:=[]
 xe:=fun e s'=>wpAny (model P w) (A.deeper (envOfC qual scope s.heap.objs.size f cd)) (leaving (envOfC qual scope s.heap.objs.size f cd) e) (fun _ s''=>CX outer H s E e s'') (fun e' s''=>CX outer H s E e' s'') s'
theorem pR {sc:Scope}{n:Nat}{x:Str}(h:sc.names.lookup x=some .cell):∃ c,(cellsFrom n sc.names []).lookup x=some c:=by
 have q:=PySem.W.cellsFrom_some sc.names n [] (.inl h)
 exact Option.isSome_iff_exists.mp q
theorem nO {CX:CXT}{P:Program}{w:World}{K:Frag}{mg:Str->Option Value}{base:Heap}{N ps:List Str}{qual:Str}{scope:Scope}{f:Addr}{cd:Value}{A:Around}{outer:List Env}{s s1:Shared}{H:Hp}{E:XK}{us:List Value}{vs:List V}
  (S:FnScope N ps scope) (hd:A.handled=none) (e0:Env0 P w K mg base A outer s H) (hl:vs.length=ps.length) (r:Vals vs us)
  (x:InCallC s s.heap.objs.size (bindL (envOfC qual scope s.heap.objs.size f cd).kindOf (ps.zip us) fun _=>none) (cellsFrom (s.heap.objs.size+1) scope.names []) (bindC (envOfC qual scope s.heap.objs.size f cd).kindOf (ps.zip us) fun _=>none) s1) :
  Inv (mS CX P w K mg base N qual scope f cd A outer s H E) [] (iY N vs) H s1:=by
 have hpl:ps.length<=N.length:=by have:=congrArg List.length S.pre; rw[length_take] at this; lia
 obtain⟨h1,tk,rfl,hk⟩:=x.done
 have noA:∀ b:Addr,b∉(mS CX P w K mg base N qual scope f cd A outer s H E).ex:=fun b z=>absurd (show b∈([]:List Addr) from z) (by simp)
 refine⟨⟨e0.mod,S.kind,rfl,rfl,Nat.le_refl _,fun y z c h1 h2=>?_,fun y hy=>?_,fun y c _ h=>?_,fun _=>hd,Around.frames_deeper e0.frames,.inr ⟨rfl,rfl⟩,fun b z=>absurd z (noA b),e0.bs,e0.bsz,fun b _ _=>noA b,fun b z=>absurd z (noA b),e0.funs,e0.frf⟩,
  rfl,e0.bare,Un.kept hk,⟨_,x.toInCall.ns,fun i y v h1 h2 h3=>?_⟩,fun y c h=>⟨_,x.cell y c h⟩,e0.hok.fresh (Nat.le_refl _),fun y c h=>?_,fun p hp=>absurd (show p∈([]:List (Addr×Obj)) from hp) (by simp),e0.hok.kept hk,?_⟩
 ·exact name_of_addr x.apart (PySem.mem_of_lookup h1) (PySem.mem_of_lookup h2)
 ·have hy:scope.names.lookup y=some .cell\/scope.names.lookup y=some .free:=hy
  rcases hy with hy | hy
  ·exact pR hy
  ·exact absurd rfl (S.nofree _ (PySem.mem_of_lookup hy))
 ·exact Nat.le_of_lt (x.above y c (PySem.mem_of_lookup h))
 ·have hi:i<vs.length:=by
   unfold iY at h2
   by_cases hi:i<vs.length
   ·exact hi
   ·rw[List.getElem?_append_right (by simpa using hi)] at h2
    rw[List.getElem?_replicate] at h2
    split at h2 <;> cases h2
  have ha:vs[i]?=some v:=by
   unfold iY at h2
   rw[List.getElem?_append_left (by simpa using hi),List.getElem?_map] at h2
   cases e:vs[i]? with
   | none=>rw[e] at h2; cases h2
   | some a=>rw[e] at h2; cases h2; rfl
  obtain⟨u,hu,rv⟩:=r.get ha
  have hp:ps[i]?=some y:=by
   rw[<- S.pre,List.getElem?_take_of_lt (by lia)]; exact h1
  have ndP:ps.Nodup:=by rw[<- S.pre]; exact S.nd.sublist (List.take_sublist _ _)
  refine⟨u,rv,?_⟩
  rcases S.par y (mem_of_getElem? hp) with k | k
  ·exact .inl ⟨k,oi ndP hp hu k⟩
  ·obtain⟨c,e⟩:=pR (n:=s.heap.objs.size+1) k
   refine .inr ⟨.inl k,c,e,?_⟩
   have q:=x.cell y c e
   rw[nG ndP hp hu (by show scope.names.lookup y≠_; rw[k]; decide)] at q
   exact q
 ·exact e0.hok.fresh (Nat.le_of_lt (x.above y c (PySem.mem_of_lookup h)))
 ·unfold iY
  show _=N.length
  rw[length_append,length_map,List.length_replicate]
  lia
theorem fn_of {CX:CXT}{P:Program}{w:World}{K:Frag}{mg:Str->Option Value}{base:Heap}{k:Nat}{f:Addr}{name qual:Str}{params:Arguments}{body:List Stmt}{scope:Scope}{dV kV doc pm cdv ct oc:Value}{an od:Option Addr}
  {osl:Array (Option Value)} {N ps:List Str} {sp:Sp} (lk:K.lookup f=some ⟨oc,od,.func (fnOf name qual params body scope dV kV doc pm an cdv ct),osl⟩) (hcd:codeIn K cdv qual=true) (S:FnScope N ps scope)
  (len:∀ vs H Q E,sp vs H Q E->vs.length=ps.length)
  (hbody:∀ (A:Around) (outer:List Env) (s:Shared) (H:Hp) (vs:List V) (Q:VK) (E:XK),Room k (A.deeper (envOfC qual scope s.heap.objs.size f cdv))->sp vs H Q E ->
   ∃ t,PSs (mS CX P w K mg base N qual scope f cdv A outer s H E) body t/\t { nx:=fun _ H'=>Q .non H',rt:=Q } (iY N vs) H) :
  FnOk P w K mg base CX (k+1) f (fnOf name qual params body scope dV kV doc pm an cdv ct) ps sp:=by
 refine⟨len,fun A outer s H args us vs Q E hr e0 hb r hsp=>?_⟩
 have hl:=len _ _ _ _ hsp
 have KX:K.In s.heap:=e0.mod.kin.keeps fun b o e=>(e0.bs b o e).1
 have lim:s.heap.NoLimit:=e0.mod.nolimit.keeps fun b o e=>(e0.bs b o e).1
 have hkind:∀ y∈ps.zip us,scope.names.lookup y.1=some .local\/(scope.names.lookup y.1=some .cell/\((cellsFrom (s.heap.objs.size+1) scope.names []).lookup y.1).isSome=true):=fun ⟨n,v⟩ hy=>by
  rcases S.par n (List.of_mem_zip hy).1 with q | q
  ·exact .inl q
  ·exact .inr ⟨q,PySem.W.cellsFrom_some _ _ _ (.inl q)⟩
 refine codeAny_call_function hr.depth (KX _ _ lk) rfl S.co S.gen rfl (PySem.W.codeRec_of KX hcd) (hb _ _ _ _ ?_)
 refine wpAny_newFunctionEnv_cells S.kind hkind fun env he s1 x=>?_
 subst he
 refine⟨lim.keeps x.toInCall.keep,codeAny_func ?_⟩
 obtain⟨t,ht,hq⟩:=hbody A outer s H vs Q E (hr.deeper _) hsp
 have I:Inv (mS CX P w K mg base N qual scope f cdv A outer s H E) [] (iY N vs) H s1:=nO S hr.hd e0 hl r x
 refine wpAny_mono (ht [] s1 (iY N vs) H _ I hq) (fun fl s' hs=>?_) fun e s' hs=>hs
 have fin:∀ {σ':St} {H':Hp} {v:V} {u:Value},Inv (mS CX P w K mg base N qual scope f cdv A outer s H E) [] σ' H' s'->RelV v u->Q v H'->CE outer P w H s Q u s' :=
  fun {σ' H' v u} J rv q=>⟨v,H',J.os,J.bare,J.base,J.hok,rv,q⟩
 cases fl with
 | ret u =>
  obtain⟨v,σ',H',J,rv,q⟩:=hs
  exact fin J rv q
 | next =>
  obtain⟨σ',H',J,q⟩:=hs
  exact fin (v:=V.non) (u:=Value.none) J rfl q
 | brk =>
  obtain⟨_,_,_,q⟩:=hs
  exact False.elim q
 | cont =>
  obtain⟨_,_,_,q⟩:=hs
  exact False.elim q
end L2
namespace L2
open PySem PySem.Spec PyProof.Rows
section
variable {X:Cx}{x:Str}{p pos:Pos}{e:Expr}{es:List Expr}{t:TA}{id T:String}{r:List V->Hp->VK->Prop}
def tCB (r:List V->Hp->VK->Prop) (t:TA):TE:=fun σ H Q=>t σ H fun vs H1=>r vs H1 Q
theorem aJ (hc:fP X (.builtin id) r) (hg:Gl X x) (hm:X.mg x=none) (hv:bootBuiltins x=some (.builtin id)) (ha:PA X (e::es) t) (hn:x≠"__name__":=by decide) (hdb:(x == ("__debug__":Str))=false:=by decide)
  (he:starEach (e::es) X.env=(false,eval e X.env)::starEach es X.env:=by rfl) (hpl:(backTo pos (starEach es X.env)).any (·.1)=false:=by rfl):PE X (.Call (.Name x p) (e::es) [] pos) (tCB r t):=by
 intro pins s σ H Q I h
 refine wpAny_Call_Name_kw (lF I hg hm hv ?_ hn hdb)
 exact PyProof.Rows.callWith_builtin1 (thn (ha pos pins s σ H _ I h) fun us s1 ⟨vs,H1,I1,r1,q1⟩=>hc pins s1 σ H1 vs us Q I1 r1 q1) he hpl
theorem hE (hc:fP X (.type T) r) (hg:Gl X x) (hm:X.mg x=none) (hv:bootBuiltins x=some (.type T)) (ha:PA X (e::es) t) (hn:x≠"__name__":=by decide) (hdb:(x == ("__debug__":Str))=false:=by decide)
  (he:starEach (e::es) X.env=(false,eval e X.env)::starEach es X.env:=by rfl) (hpl:(backTo pos (starEach es X.env)).any (·.1)=false:=by rfl):PE X (.Call (.Name x p) (e::es) [] pos) (tCB r t):=by
 intro pins s σ H Q I h
 refine wpAny_Call_Name_kw (lF I hg hm hv ?_ hn hdb)
 exact PyProof.Rows.callWith_type1 (thn (ha pos pins s σ H _ I h) fun us s1 ⟨vs,H1,I1,r1,q1⟩=>hc pins s1 σ H1 vs us Q I1 r1 q1) he hpl
end
end L2
namespace HT
open PySem PyProof.Rows
section
open PySem.SeqAt
open PySem.AutoSeq1 (wpAny_loadPart')
open PySem.MeetsSeq PySem.MeetsSeq2 PySem.MeetsSeq3
end
section
variable {prog:Program}{w:World}{A:Around}{E:Value->Shared->Prop}{s:Shared}
end
end HT
namespace L2
open PySem PySem.Spec PyProof.Rows
section
variable {X:Cx}{e:Expr}{te:TE}{lo hi:Option Expr}{tl th:TO}{pos p2:Pos}
end
end L2
namespace L2
open PySem PySem.Spec PyProof.Rows
noncomputable def ixN (n:Nat) (i:Int):Option Nat:=if 0<=i then (if i<n then some i.toNat else none) else if -(n:Int)<=i then some (i+n).toNat else none
def atI {α:Type}(xs:List α) (i:Int):Option α:=(ixN xs.length i).bind fun j=>xs[j]?
theorem sg {n:Nat}{i:Int}{j:Nat}(h:ixN n i=some j):seqIndex? i n=some j/\j<n/\-(n:Int)<=i/\i<n:=by
 unfold ixN at h
 by_cases h0:0<=i
 ·rw[if_pos h0] at h
  by_cases h1:i<n
  ·rw[if_pos h1] at h
   have e:i.toNat=j:=Option.some.inj h
   exact⟨by rw[seqIndex_of h0 h1,e],by lia,by lia,h1⟩
  ·rw[if_neg h1] at h; cases h
 ·rw[if_neg h0] at h
  by_cases h1:-(n:Int)<=i
  ·rw[if_pos h1] at h
   have e:(i+n).toNat=j:=Option.some.inj h
   exact⟨by rw[seqIndex_neg (by lia) h1,e],by lia,h1,by lia⟩
  ·rw[if_neg h1] at h; cases h
theorem sX {α:Type}{xs:List α}{i:Int}{v:α}(h:atI xs i=some v):∃ j,seqIndex? i xs.length=some j/\xs[j]?=some v/\j<xs.length/\-(xs.length:Int)<=i/\i<xs.length:=by
 unfold atI at h
 cases e:ixN xs.length i with
 | none=>rw[e] at h; cases h
 | some j =>
  rw[e] at h
  obtain⟨h1,h2,h3,h4⟩:=sg e
  exact⟨j,h1,h,h2,h3,h4⟩
theorem sN {α:Type}{xs:List α}{j:Nat}{v:α}(h:xs[j]?=some v):atI xs (j:Int)=some v:=by
 have hj:j<xs.length:=(List.getElem?_eq_some_iff.mp h).1
 have e:ixN xs.length (j:Int)=some j:=by
  unfold ixN
  rw[if_pos (by lia),if_pos (by lia)]; simp
 unfold atI; rw[e]; exact h
def PlainIx (b:Expr):Prop:=∀ o i,subscripted b false o i=operate [o,i] (getItem o i)
def IxR (X:Cx) (r:R2):Prop :=
 ∀ (value slice:Expr) (pins:List (Addr×Obj)) (s:Shared) (σ:St) (H:Hp) (x y:V) (v u:Value) (Q:VK),Inv X pins σ H s->RelV x v->RelV y u->r x y H Q ->
  subscripted slice false v u=operate [v,u] (getItem v u)->wpAny (model X.prog X.w) X.A (subscriptTail value slice v u) (EP X pins σ Q) X.xe s
def MtR (X:Cx) (id:String) (r:V->List V->Hp->VK->Prop):Prop :=
 ∀ (pins:List (Addr×Obj)) (s:Shared) (σ:St) (H:Hp) (x:V) (xs:List V) (v:Value) (us:List Value) (Q:VK),Inv X pins σ H s->RelV x v->Vals xs us->r x xs H Q ->
  wpAny (model X.prog X.w) X.A (call (.builtin id) (v::us)) (EP X pins σ Q) X.xe s
section
variable {X:Cx}{a b:Expr}{ta tb:TE}{pos:Pos}
theorem aY {r:R2}(hr:IxR X r) (ha:PE X a ta) (hb:PE X b tb) (hs:PlainIx b):PE X (.Subscript a b pos) (tOp r ta tb):=by
 intro pins s σ H Q I h
 exact Subscript_ (binT ha hb I h fun v u s2 x y H2 I2 rx ry q=>hr a b pins s2 σ H2 x y v u Q I2 rx ry q (hs _ _))
def rIxL (K:Frag):R2:=fun x y H Q=>∃ p xs i v,x=.ref p/\y=.int i/\SqL K H p xs/\atI xs i=some v/\Q v H
def rIxT (K:Frag):R2:=fun x y H Q=>∃ p xs i v,x=.ref p/\y=.int i/\SqT K H p xs/\atI xs i=some v/\Q v H
theorem c9:IxR X (rIxL X.K):=by
 intro value slice pins s σ H x y v u Q I rx ry h hs
 obtain⟨p,xs,i,z,rfl,rfl,hq,he,q⟩:=h
 cases rx
 obtain⟨t,rfl⟩:=ry
 obtain⟨its,r,pl,hz⟩:=I.list hq
 obtain⟨j,h1,h2,h3,h4,h5⟩:=sX he
 obtain⟨w,ew,rw'⟩:=r.get h2
 have hl:=r.length
 have hn:=pT
 have fin:EP X pins σ Q w s:=⟨z,H,I,rw',q⟩
 by_cases h0:0<=i
 ·have hj:i.toNat=j:=by
   rw[seqIndex_of h0 h5] at h1
   exact Option.some.inj h1
  exact item_listR pl.isList h0 (by lia) (by rw[hj]; simpa using ew) fin hs
 ·have hj:(i+(its.toArray.size:Int)).toNat=j:=by
   rw[seqIndex_neg (by lia) h4] at h1
   rw[size_toArray,<- hl]
   exact Option.some.inj h1
  exact subscriptTail_builtinR (x:=w) pl.isList.typeIs slot_list_getitem.lookup
   (wpAny_getItem_list_neg (Q:=fun r s'=>r=w/\EP X pins σ Q r s') pl.isList (by lia) (by rw[size_toArray] <;> lia) (by lia) (by rw[hj]; simpa using ew) ⟨rfl,fin⟩) hs
theorem aU:IxR X (rIxT X.K):=by
 intro value slice pins s σ H x y v u Q I rx ry h hs
 obtain⟨p,xs,i,z,rfl,rfl,hq,he,q⟩:=h
 cases rx
 obtain⟨t,rfl⟩:=ry
 obtain⟨its,r,pl,hz⟩:=I.tuple hq
 obtain⟨j,h1,h2,h3,h4,h5⟩:=sX he
 obtain⟨w,ew,rw'⟩:=r.get h2
 have hl:=r.length
 have hn:=pT
 have fin:EP X pins σ Q w s:=⟨z,H,I,rw',q⟩
 exact subscriptTail_builtinR (x:=w) pl.typeIs slot_tuple_getitem.lookup
  (getItem_tuple (j:=j) (Q:=fun r s'=>r=w/\EP X pins σ Q r s') pl (by lia) (by lia) (by rw[size_toArray,<- hl]; exact h1) (by simpa using ew) ⟨rfl,fin⟩) hs
theorem qV (its:List Value) (n j:Nat) (u:Value):Obj.mapSeq (·.setIfInBounds j u) { cls:=.type "list",data:=.seq its.toArray n }={ cls:=.type "list",data:=.seq (its.set j u).toArray n }:=by
 simp[Obj.mapSeq]
theorem Inv.lst {pins:List (Addr×Obj)}{σ:St}{H:Hp}{s:Shared}{p:Addr}{xs:List V}(I:Inv X pins σ H s) (h:H p=some (.lst xs)) :
  ∃ (its:List Value) (n:Nat),Vals xs its/\s.heap.get? p=some { cls:=.type "list",data:=.seq its.toArray n }/\xs.length<=sizeLine:=by
 obtain⟨z,its,n,r,e⟩:=I.hok p _ h
 exact⟨its,n,r,e,z⟩
theorem Inv.lstUpd {pins:List (Addr×Obj)}{σ:St}{H:Hp}{s:Shared}{p:Addr}{xs ys:List V}{its its':List Value}{n n':Nat}{f:Obj->Obj}(I:Inv X pins σ H s) (h:H p=some (.lst xs))
  (ho:s.heap.get? p=some { cls:=.type "list",data:=.seq its.toArray n }) (hf:f { cls:=.type "list",data:=.seq its.toArray n }={ cls:=.type "list",data:=.seq its'.toArray n' }) (r:Vals ys its') (hz:ys.length<=sizeLine) (t:Nat) :
  Inv X pins σ (upd H p (.lst ys)) { s with heap:=s.heap.update p f,toks:=t }:=by
 have e:(s.heap.update p f).get? p=some { cls:=.type "list",data:=.seq its'.toArray n' }:=by
  rw[Heap.get?_update_self f ho (by rw[hf] <;> rfl),hf]
 refine I.write (x:=p) (e:=p) (by rw[h]; trivial) (.inl rfl) (fun b u hb q=>(Heap.get?_update_other _ _ (Ne.symm hb)).trans q) ⟨_,e⟩ ?_
 exact⟨hz,its',n',r,e⟩
def rSetL:V->V->V->Hp->(Hp->Prop)->Prop:=fun o i v H Q=>∃ p xs k j,o=.ref p/\i=.int k/\H p=some (.lst xs)/\ixN xs.length k=some j/\Q (upd H p (.lst (xs.set j v)))
theorem pZ:PSet X rSetL:=by
 intro pins s σ H o i v ov iv u Q I ro ri rv h
 obtain⟨p,xs,k,j,rfl,rfl,hp,hj,q⟩:=h
 cases ro
 obtain⟨t,rfl⟩:=ri
 obtain⟨its,n,r,ho,hz⟩:=I.lst hp
 obtain⟨h1,h2,h3,h4⟩:=sg hj
 have hl:=r.length
 have hn:=pT
 have I':Inv X pins σ (upd H p (.lst (xs.set j v))) { s with heap:=s.heap.update p (Obj.mapSeq (·.setIfInBounds j u)) } :=
  I.lstUpd hp ho (qV its n j u) (r.set rv j) (by rw[List.length_set]; exact hz) s.toks
 by_cases h0:0<=k
 ·have hk:k.toNat=j:=by
   rw[seqIndex_of h0 h4] at h1
   exact Option.some.inj h1
  exact PySem.W.ki_setAt ho h0 (by lia) (by rw[size_toArray,<- hl]; exact h4) (by rw[hk]; exact⟨_,I',q⟩)
 ·have hk:(k+(its.toArray.size:Int)).toNat=j:=by
   rw[seqIndex_neg (by lia) h3] at h1
   rw[size_toArray,<- hl]
   exact Option.some.inj h1
  exact PySem.W.ki_setBack ho (by lia) (by rw[size_toArray,<- hl]; exact h3) (by lia) (by rw[hk]; exact⟨_,I',q⟩)
def dG:V->Bool
 | .non=>true
 | .bl _=>true
 | .int _=>true
 | .str _=>true
 | _=>false
noncomputable def eqV:V->V->Bool
 | .non,.non=>true
 | .bl a,.bl b=>a == b
 | .bl a,.int b=>(if a then 1 else 0) == b
 | .int a,.bl b=>a == (if b then 1 else 0)
 | .int a,.int b=>a == b
 | .str a,.str b=>a == b
 | _,_=>false
theorem eqAt_V {A:Around}{s:Shared}{y x:V}{u v:Value}(ry:RelV y u) (rx:RelV x v) (fy:dG y=true) (fx:dG x=true):SeqAt.EqAt A s u v (eqV y x):=by
 cases y with
 | non =>
  cases ry
  cases x with
  | non=>cases rx; exact SeqAt.EqAt.same _
  | bl b=>cases rx; exact SeqAt.EqAt.none_bool b
  | int b=>obtain⟨t,rfl⟩:=rx; exact SeqAt.EqAt.none_int b t
  | str b=>obtain⟨t,rfl⟩:=rx; exact SeqAt.EqAt.none_str b t
  | _=>exact absurd (show false=true from fx) Bool.false_ne_true
 | bl a =>
  cases ry
  cases x with
  | non=>cases rx; exact SeqAt.EqAt.bool_none a
  | bl b=>cases rx; exact SeqAt.EqAt.bool_bool a b
  | int b=>obtain⟨t,rfl⟩:=rx; exact SeqAt.EqAt.bool_int a b t
  | str b=>obtain⟨t,rfl⟩:=rx; exact SeqAt.EqAt.bool_str a b t
  | _=>exact absurd (show false=true from fx) Bool.false_ne_true
 | int a =>
  obtain⟨t',rfl⟩:=ry
  cases x with
  | non=>cases rx; exact SeqAt.EqAt.int_none a t'
  | bl b=>cases rx; exact SeqAt.EqAt.int_bool a t' b
  | int b=>obtain⟨t,rfl⟩:=rx; exact SeqAt.EqAt.int_int a t' b t
  | str b=>obtain⟨t,rfl⟩:=rx; exact SeqAt.EqAt.int_str a t' b t
  | _=>exact absurd (show false=true from fx) Bool.false_ne_true
 | str a =>
  obtain⟨t',rfl⟩:=ry
  cases x with
  | non=>cases rx; exact SeqAt.EqAt.str_none a t'
  | bl b=>cases rx; exact SeqAt.EqAt.str_bool a t' b
  | int b=>obtain⟨t,rfl⟩:=rx; exact SeqAt.EqAt.str_int a t' b t
  | str b=>obtain⟨t,rfl⟩:=rx; exact SeqAt.EqAt.str_str a t' b t
  | _=>exact absurd (show false=true from fx) Bool.false_ne_true
 | _=>exact absurd (show false=true from fy) Bool.false_ne_true
noncomputable def eqU (x:V) (u:Value):Bool:=match u with
 | .none=>eqV .non x
 | .bool b=>eqV (.bl b) x
 | .int i _=>eqV (.int i) x
 | .str z _=>eqV (.str z) x
 | _=>false
theorem eqU_of {x y:V}{u:Value}(r:RelV y u) (f:dG y=true):eqU x u=eqV y x:=by
 cases y with
 | non=>cases r; rfl
 | bl b=>cases r; rfl
 | int i=>obtain⟨t,rfl⟩:=r; rfl
 | str z=>obtain⟨t,rfl⟩:=r; rfl
 | _=>exact absurd (show false=true from f) Bool.false_ne_true
theorem jy {x:V}:∀ {xs:List V}{us:List Value},Vals xs us->xs.all dG=true->us.any (eqU x)=xs.any fun y=>eqV y x
 | _,_,.nil,_=>rfl
 | y::xs,u::us,.cons r t,f=>by
  rw[List.all_cons,Bool.and_eq_true] at f
  rw[List.any_cons,List.any_cons,eqU_of r f.1,jy t f.2]
theorem gX {A:Around}{s:Shared}{x:V}{v:Value}(rx:RelV x v) (fx:dG x=true):∀ {xs:List V}{us:List Value},Vals xs us->xs.all dG=true->∀ u∈us,SeqAt.EqAt A s u v (eqU x u)
 | _,_,.nil,_=>fun u hu=>by cases hu
 | y::xs,u::us,.cons r t,f=>fun u' hu=>by
  rw[List.all_cons,Bool.and_eq_true] at f
  rcases List.mem_cons.mp hu with rfl | hu
  ·rw[eqU_of r f.1]; exact eqAt_V r rx f.1 fx
  ·exact gX rx fx t f.2 u' hu
def inV (x:V) (xs:List V):Bool:=xs.any fun y=>eqV y x
def rIn (K:Frag) (neg:Bool):R2:=fun x y H Q=>∃ p xs,y=.ref p/\(SqL K H p xs\/SqT K H p xs)/\dG x=true/\xs.all dG=true/\Q (.bl (if neg then !inV x xs else inV x xs)) H
theorem sO:OpR X (compareOp .In) (rIn X.K false):=by
 intro pins s σ H x y v u Q I rx ry h
 obtain⟨p,xs,rfl,hq,fx,fs,q⟩:=h
 cases ry
 rcases hq with hq | hq
 ·obtain⟨its,r,pl,hz⟩:=I.list hq
  refine SeqAt.in_listAt (eqU x) pl.isList (fun w hw=>gX rx fx r fs w (by simpa using hw)) ⟨.bl _,H,I,rfl,?_⟩
  rw[show its.toArray.any (eqU x)=its.any (eqU x) by simp,jy r fs]
  exact q
 ·obtain⟨its,r,pl,hz⟩:=I.tuple hq
  refine SeqAt.in_tupleAt (eqU x) pl (fun w hw=>gX rx fx r fs w (by simpa using hw)) ⟨.bl _,H,I,rfl,?_⟩
  rw[show its.toArray.any (eqU x)=its.any (eqU x) by simp,jy r fs]
  exact q
theorem iS:OpR X (compareOp .NotIn) (rIn X.K true):=by
 intro pins s σ H x y v u Q I rx ry h
 obtain⟨p,xs,rfl,hq,fx,fs,q⟩:=h
 cases ry
 rcases hq with hq | hq
 ·obtain⟨its,r,pl,hz⟩:=I.list hq
  refine SeqAt.notIn_listAt (eqU x) pl.isList (fun w hw=>gX rx fx r fs w (by simpa using hw)) ⟨.bl _,H,I,rfl,?_⟩
  rw[show its.toArray.any (eqU x)=its.any (eqU x) by simp,jy r fs]
  exact q
 ·obtain⟨its,r,pl,hz⟩:=I.tuple hq
  refine SeqAt.notIn_tupleAt (eqU x) pl (fun w hw=>gX rx fx r fs w (by simpa using hw)) ⟨.bl _,H,I,rfl,?_⟩
  rw[show its.toArray.any (eqU x)=its.any (eqU x) by simp,jy r fs]
  exact q
theorem bv:fP X (.builtin "len") (fun xs H Q=>∃ p ys,xs=[.ref p]/\(SqL X.K H p ys\/SqT X.K H p ys)/\Q (.int ys.length) H):=by
 intro pins s σ H xs us Q I r h
 obtain⟨p,ys,rfl,hq,q⟩:=h
 obtain⟨u,rfl,rx⟩:=pf r
 cases rx
 have hn:=pT
 rcases hq with hq | hq
 ·obtain⟨its,r',pl,hz⟩:=I.list hq
  have hlen:=r'.length
  exact Calls.call_len_list pl.isList (by simp only[size_toArray] <;> lia) ⟨.int ys.length,H,I.tok _,⟨s.toks+1,by rw[size_toArray,hlen]⟩,q⟩
 ·obtain⟨its,r',pl,hz⟩:=I.tuple hq
  have hlen:=r'.length
  exact len_tuple pl (by simp only[size_toArray] <;> lia) ⟨.int ys.length,H,I.tok _,⟨s.toks+1,by rw[size_toArray,hlen]⟩,q⟩
theorem m7:fP X (.type "list") (fun xs H Q=>∃ p ys,xs=[.ref p]/\(SqL X.K H p ys\/SqT X.K H p ys)/\∀ l,H l=none->Q (.ref l) (upd H l (.lst ys))):=by
 intro pins s σ H xs us Q I r h
 obtain⟨p,ys,rfl,hq,q⟩:=h
 obtain⟨u,rfl,rx⟩:=pf r
 cases rx
 have fin:∀ (its:List Value),Vals ys its->ys.length<=sizeLine->∀ (h':Heap) (c':Nat),(∀ b o',s.heap.get? b=some o'->h'.get? b=some o') ->
   h'.get? s.heap.objs.size=some { cls:=.type "list",dict:=none,data:=.seq its.toArray c',slots:=#[] }->EP X pins σ Q (.ref s.heap.objs.size) { s with heap:=h' }:=fun its r' hz h' c' kp e =>
  ⟨.ref s.heap.objs.size,_,I.laid (t':=s.toks) kp (Nat.le_refl _) (show ObjOk X.prog X.w _ h' _ (.lst ys) from ⟨hz,its,c',r',e⟩),rfl,q _ (I.hok.fresh (Nat.le_refl _))⟩
 rcases hq with hq | hq
 ·obtain⟨its,r',pl,hz⟩:=I.list hq
  have hlen:=r'.length
  obtain⟨o,ho,hc,n,hd⟩:=pl.isList
  exact call_list_seq p (.inl rfl) ho hc hd (fun h' c' kp e=>fin its r' hz h' c' kp e) (by simp only[size_toArray] <;> lia)
 ·obtain⟨its,r',pl,hz⟩:=I.tuple hq
  have hlen:=r'.length
  obtain⟨o,ho,hc,n,hd⟩:=pl
  exact call_list_seq p (.inr rfl) ho hc hd (fun h' c' kp e=>fin its r' hz h' c' kp e) (by simp only[size_toArray] <;> lia)
def tyV (K:Frag) (T:String) (x:V) (H:Hp):Prop:=match x with
 | .str _=>T = "str"
 | .int _=>T = "int"
 | .ref p=>(T = "list"/\∃ xs,SqL K H p xs)\/(T = "tuple"/\∃ o,K.lookup p=some o/\o.cls=.type "tuple"/\o.dict=none) \/
   (T = "dict"/\((∃ kvs,H p=some (.dK kvs))\/∃ kvs,H p=some (.dT kvs)))\/(T = "set"/\∃ S n,H p=some (.set S n))
 | _=>False
theorem tyV_is {pins:List (Addr×Obj)}{σ:St}{H:Hp}{s:Shared}{T:String}{x:V}{v:Value}(I:Inv X pins σ H s) (r:RelV x v) (ty:tyV X.K T x H) :
  s.TypeIs v T/\∀ a,v=.ref a->∃ ob,s.heap.get? a=some ob/\ob.dict=none:=by
 cases x with
 | str z =>
  obtain⟨t,rfl⟩:=r
  cases (show T = "str" from ty)
  exact⟨typeIs_str s z t,fun _ e=>nomatch e⟩
 | int i =>
  obtain⟨t,rfl⟩:=r
  cases (show T = "int" from ty)
  exact⟨typeIs_int s i t,fun _ e=>nomatch e⟩
 | ref p =>
  cases r
  rcases ty with ⟨rfl,xs,hq⟩ | ⟨rfl,o,hk,hc,hd⟩ | ⟨rfl,hk⟩ | ⟨rfl,S,n,hk⟩
  ·obtain⟨its,_,pl,_⟩:=I.list hq
   refine⟨pl.isList.typeIs,fun a e=>?_⟩
   cases e
   obtain⟨o,n,e,c,hd,_⟩:=pl
   exact⟨o,e,hd⟩
  ·refine⟨⟨o,I.kIn p o hk,hc⟩,fun a e=>?_⟩
   cases e
   exact⟨o,I.kIn _ o hk,hd⟩
  ·have z:∃ o,s.heap.get? p=some o/\o.ExactDict:=by
    rcases hk with ⟨kvs,hk⟩ | ⟨kvs,hk⟩
    ·obtain⟨_,_,_,_,o,_,_,e,ex,_⟩:=I.hok p _ hk
     exact⟨o,e,ex⟩
    ·obtain⟨_,_,_,_,o,_,_,e,ex,_⟩:=I.hok p _ hk
     exact⟨o,e,ex⟩
   obtain⟨o,e,ex⟩:=z
   refine⟨⟨o,e,ex.1⟩,fun a e2=>?_⟩
   cases e2
   exact⟨o,e,ex.2.1⟩
  ·obtain⟨o,_,_,_,e,ex,_⟩:=I.hok p _ hk
   refine⟨⟨o,e,ex.1⟩,fun a e2=>?_⟩
   cases e2
   exact⟨o,e,ex.2.1⟩
 | _=>exact False.elim ty
def tBM0 (K:Frag) (T:String) (r:V->List V->Hp->VK->Prop) (to:TE):TE:=fun σ H Q=>to σ H fun x H1=>tyV K T x H1/\r x [] H1 Q
def tBM (K:Frag) (T:String) (r:V->List V->Hp->VK->Prop) (to:TE) (t:TA):TE:=fun σ H Q=>to σ H fun x H1=>tyV K T x H1/\t σ H1 fun xs H2=>r x xs H2 Q
variable {o e:Expr}{es:List Expr}{to:TE}{t:TA}{name:Str}{apos cpos:Pos}{T id:String}{r:V->List V->Hp->VK->Prop}
theorem fM (pa:PlainAttrs T) (slot:Slot T name id) (hty:typeOf (.builtin id)=pure (.type "method_descriptor")) (hm:MtR X id r) (ho:PE X o to)
  (hbase:attributeBase o name X.env (eval o X.env)=eval o X.env:=by rfl) (hline:(apos.endLine == cpos.line)=true:=by rfl):PE X (.Call (.Attribute o name apos) [] [] cpos) (tBM0 X.K T r to):=by
 intro pins s σ H Q I h
 refine wpAny_Call_method0_late hbase hline (thn (ho pins s σ H _ I h) fun v s1 ⟨x,H1,I1,r1,ty,q1⟩=>?_)
 obtain⟨h1,h2⟩:=tyV_is I1 r1 ty
 exact⟨T,id,pa,slot,hty,h1,h2,Calls.callWith_builtin rfl (PySem.evalArgs_none (hm pins s1 σ H1 x [] v [] Q I1 r1 .nil q1))⟩
theorem cN (pa:PlainAttrs T) (slot:Slot T name id) (hty:typeOf (.builtin id)=pure (.type "method_descriptor")) (hm:MtR X id r) (ho:PE X o to) (ha:PA X (e::es) t)
  (hbase:attributeBase o name X.env (eval o X.env)=eval o X.env:=by rfl)
  (hfew:((backTo cpos (starEach (e::es) X.env)).all (fun x=>!x.1)&&(backToKw cpos (keywordEach [] X.env)).all (fun x=>x.1.isSome)
  &&decide ((e::es).length+([]:List Keyword).length+(if ([]:List Keyword).isEmpty then 0 else 1)<30))=true:=by rfl)
  (hline:(apos.endLine == cpos.line)=true:=by rfl) (hs:starEach (e::es) X.env=(false,eval e X.env)::starEach es X.env:=by rfl) (hplain:(backTo cpos (starEach es X.env)).any (·.1)=false:=by rfl) :
  PE X (.Call (.Attribute o name apos) (e::es) [] cpos) (tBM X.K T r to t):=by
 intro pins s σ H Q I h
 refine wpAny_Call_method_late hbase hfew hline rfl (thn (ho pins s σ H _ I h) fun v s1 ⟨x,H1,I1,r1,ty,q1⟩=>?_)
 obtain⟨h1,h2⟩:=tyV_is I1 r1 ty
 refine⟨T,id,pa,slot,hty,h1,h2,?_⟩
 have hA:=ha cpos pins s1 σ H1 _ I1 q1
 rw[hs] at hA ⊢
 refine Calls.callWith_builtin (by show (false || (backTo cpos (starEach es X.env)).any (·.1))=false; rw[hplain] <;> rfl) (Calls.evalArgs_plain ?_)
 exact thn hA fun us s2 ⟨vs,H2,I2,r2,q2⟩=>hm pins s2 σ H2 x vs v us Q I2 r1 r2 q2
/- xs.append(e),list.index on a module's tuple .. are MtR facts of 06m -/
end
end L2
namespace L2
open PySem PySem.Spec PyProof.Rows
def MtM (X:Cx) (id:String) (r:V->List V->Hp->VK->Prop):Prop :=
 ∀ (pins:List (Addr×Obj)) (s:Shared) (σ:St) (H:Hp) (x:V) (xs:List V) (v:Value) (us:List Value) (Q:VK),Inv X pins σ H s->RelV x v->Vals xs us->r x xs H Q ->
  wpAny (model X.prog X.w) X.A (call (.builtin id) (v::us)) (EP X pins σ Q) X.xe s
theorem Vals.one:∀ {x:V}{us:List Value},Vals [x] us->∃ u,us=[u]/\RelV x u
 | _,_,.cons r .nil=>⟨_,rfl,r⟩
theorem Vals.zero:∀ {us:List Value},Vals [] us->us=[]
 | _,.nil=>rfl
theorem Vals.reverse {xs:List V}{us:List Value}(h:Vals xs us):Vals xs.reverse us.reverse:=by
 induction h with
 | nil=>exact .nil
 | cons r t ih=>rw[List.reverse_cons,List.reverse_cons]; exact Vals.append ih (.cons r .nil)
section
variable {X:Cx}{pins:List (Addr×Obj)}{σ:St}{H:Hp}{s:Shared}{l b:Addr}{xs ys zs:List V}
theorem Inv.lset {its its':List Value}{n:Nat}{f:Array Value->Array Value}{t':Nat}(I:Inv X pins σ H s) (hH:H l=some (.lst xs))
  (e:s.heap.get? l=some { cls:=.type "list",data:=.seq its.toArray n }) (hf:f its.toArray=its'.toArray) (hv:Vals ys its') (hz:ys.length<=sizeLine) :
  Inv X pins σ (upd H l (.lst ys)) { s with heap:=s.heap.update l (Obj.mapSeq f),toks:=t' }:=by
 have q:=PySem.IsL.update e f
 rw[hf] at q
 refine I.write (x:=l) (e:=l) (by rw[hH]; exact trivial) (.inl rfl) (fun b' u hb hu=>(Heap.get?_update_other s.heap (Obj.mapSeq f) (Ne.symm hb)).trans hu) ⟨_,q⟩ ?_
 exact⟨hz,its',_,hv,q⟩
theorem Inv.lnew {its:List Value}{t':Nat}(I:Inv X pins σ H s) (hv:Vals ys its) (hz:ys.length<=sizeLine) :
  Inv X pins σ (upd H s.heap.objs.size (.lst ys)) { s with heap:=s.heap.push { cls:=.type "list",data:=.seq its.toArray },toks:=t' } :=
 I.laid (fun _ _ q=>Heap.get?_push_of_some _ q) (Nat.le_refl _) ⟨hz,its,0,hv,Heap.get?_push_size _ rfl⟩
theorem Inv.fresh (I:Inv X pins σ H s):H s.heap.objs.size=none:=I.hok.fresh (Nat.le_refl _)
theorem Inv.lstM (I:Inv X pins σ H s) (hH:H l=some (.lst xs)):xs.length<=sizeLine/\∃ (its:List Value) (n:Nat),Vals xs its/\xs.length=its.length/\s.heap.get? l=some { cls:=.type "list",data:=.seq its.toArray n }:=by
 obtain⟨z,its,n,r,e⟩:=I.hok l _ hH
 exact⟨z,its,n,r,r.length,e⟩
theorem notLongL {n:Nat}(h:n<=sizeLine):Builtin.List.listTooLong n=false:=by
 unfold Builtin.List.listTooLong
 exact decide_eq_false (by lia)
end
section
variable {X:Cx}
def rAppend:V->List V->Hp->VK->Prop:=fun x vs H Q=>∃ l xs y,x=.ref l/\vs=[y]/\H l=some (.lst xs)/\xs.length<sizeLine/\Q .non (upd H l (.lst (xs++[y])))
theorem aP:MtM X "list.append" rAppend:=by
 intro pins s σ H x vs v us Q I rx rv h
 obtain⟨l,xs,y,rfl,rfl,hH,hz,q⟩:=h
 cases rx
 obtain⟨u,rfl,ru⟩:=rv.one
 obtain⟨z,its,n,r,hl,e⟩:=I.lstM hH
 refine call_meets F.slot_list_append ⟨_,e,rfl⟩ F.entry_list_append (F.args_list_append_2 _ _) (PySem.list_append l its.toArray n u (by rw[size_toArray]; lia)) ⟨e,?_⟩
 refine⟨.non,_,I.lset (its':=its++[u]) hH e (by simp) (r.append (.cons ru .nil)) ?_,rfl,q⟩
 rw[length_append,List.length_singleton]
 lia
def rExtend:V->List V->Hp->VK->Prop:=fun x vs H Q=>∃ l b xs zs,x=.ref l/\vs=[.ref b]/\H l=some (.lst xs)/\H b=some (.lst zs)/\xs.length+zs.length<=sizeLine/\Q .non (upd H l (.lst (xs++zs)))
theorem e8:MtM X "list.extend" rExtend:=by
 intro pins s σ H x vs v us Q I rx rv h
 obtain⟨l,b,xs,zs,rfl,rfl,hH,hB,hz,q⟩:=h
 cases rx
 obtain⟨u,rfl,ru⟩:=rv.one
 cases ru
 obtain⟨z,its,n,r,hl,e⟩:=I.lstM hH
 obtain⟨z2,its2,n2,r2,hl2,e2⟩:=I.lstM hB
 have hsz:its.toArray.size+its2.toArray.size<=sizeLine:=by rw[size_toArray,size_toArray]; lia
 have hlong:¬ (!its.toArray.isEmpty&&Builtin.List.listTooLong (its.toArray.size+its2.toArray.size))=true:=by
  rw[notLongL hsz,Bool.and_false]
  exact Bool.false_ne_true
 refine call_meets F.slot_list_extend ⟨_,e,rfl⟩ F.entry_list_extend (F.args_list_extend_2 _ _)
  (AutoSeq1.list_extend_list_list_0 l its.toArray n b its2.toArray n2 hlong (by rw[size_toArray]; lia) (by lia)) ⟨e,e2,?_⟩
 refine⟨.non,_,I.lset (its':=its++its2) hH e (by simp) (r.append r2) ?_,rfl,q⟩
 rw[length_append]
 lia
end
section
variable {prog:Program}{w:World}{A:Around}{E:Value->Shared->Prop}{s:Shared}
set_option maxRecDepth 100000 in
end
section
variable {X:Cx}
end
end L2
namespace Att
open PySem PySem.W PySem.Calls PyProof.Rows
theorem jt {P:Params}{h:Heap}:∀ (ns:List Int) (vs:List Value),WellAll P h vs (ns.map WData.int)->IntsAre vs ns:=by
 intro ns
 induction ns with
 | nil =>
  intro vs w
  rw[List.map_nil] at w
  cases w
  exact .nil
 | cons n ns ih =>
  intro vs w
  rw[map_cons] at w
  cases w with
  | cons a b =>
   cases a
   exact .cons _ _ (ih _ b)
theorem tP {l:OpenLaw}{n:Nat}(hn:l.most=some n) {P:Params}{h:Heap}{args:List WData}{vals:List Value}
  (hpre:l.row.toRowW.claim.pre args=true) (hwl:WellAll P h vals args) :
  ∃ a vs ns,vals=[Value.ref a]/\args=[WData.list (ns.map WData.int)]/\h.get? a=some { cls:=.type "list",data:=.seq vs.toArray }/\IntsAre vs ns/\ns.length<=n:=by
 have hsh:WShape.hasAll [] args [.list .int]=true:=(pre_splitW hpre).1
 have hc:l.pre.holds [] { args:=args }=true:=(pre_splitW hpre).2
 obtain⟨d,r,rfl,h1,h2⟩:=hasAllW_cons hsh
 obtain rfl:=hasAllW_nil h2
 obtain⟨xs,rfl,h3⟩:=hasW_list h1
 obtain⟨ns,rfl⟩:=items_int h3
 have hlen:ns.length<=n:=by
  unfold OpenLaw.pre at hc
  have h4:(WTm.not (.lt (.lit (.int (n:Int))) (.len (.arg 0)))).holds [] { args:=[.list (ns.map .int)] }=true:=by
   have h4:=(holds_andW hc).1
   rw[hn] at h4
   exact h4
  have h5:=condW_of h4 (w_not (w_lt w_lit (w_len_list (w_arg rfl))))
  rw[length_map] at h5
  refine Nat.le_of_not_lt fun q=>?_
  have q':(n:Int)<((ns.length:Nat):Int):=by lia
  first
   | (rw[decide_eq_true q'] at h5; exact absurd h5 (by decide))
   | (simp at h5; lia)
 cases hwl with
 | cons w1 w2 =>
  cases w2
  cases w1 with
  | list ho hall=>exact⟨_,_,ns,rfl,rfl,ho,jt ns _ hall,hlen⟩
theorem tU (l:OpenLaw) (args:List WData):l.row.toRowW.claim.post args (.bool true) args=true :=
 postW_of (r:=l.row.toRowW) (X:=(true == true))
  (show WShape.has [] (.bool true) .bool=true by first | rfl | decide | simp[WShape.has,WShape.arms,WShape.armsAll])
  (show (WTm.eq .res (.lit (.bool true))).value [] { args:=args,res:=some (.bool true),after:=args }=some (.bool (true == true)) from w_eq_bool (w_res rfl) w_lit) rfl
theorem attach_call {l:OpenLaw}{n:Nat}{q:Program}{loose:List Str}{XP:(Str->Option Value)->Heap->Prop}{YP:World->Heap->Prop}{d:DefRec}
  (hn:l.most=some n) (hdf:d.params.defaults=[])
  (call:∀ (w:World) (s₀ s₁:Shared) (mg mb:Str->Option Value) (fa:Addr) (o:Obj) (pm cd doc:Value) (a:Addr) (vs:List Value) (ns:List Int),
   Ground q loose [] XP w s₀ mg mb s₁.heap->YP w s₁.heap ->
   s₁.heap.get? fa=some o->o.data=.func (docDef d.name d.params d.body d.scope pm cd doc)->s₁.heap.CodeRec cd d.name->mg d.name=some (.ref fa) ->
   s₁.heap.get? a=some { cls:=.type "list",data:=.seq vs.toArray }->IntsAre vs ns->ns.length<=n->s₁.gens=#[] ->
   codeAny (model l.prog w) callerA (.call (.ref fa) ⟨[.ref a],[]⟩) (fun r s'=>r=.ok (.ret (.bool true))/\OldK s₁.heap s'.heap/\s'.os=s₁.os/\AllBare s'.gens) s₁) :
  WalkO q loose XP YP l.row.toRowW d [] (fun f vs=>PySem.call f vs):=by
 intro w s₀ s₁ mg mb G Y fa o pm cd doc dV kV ho hd hcd hD hmg hg args vals as hpre hlay hrd hwl hlo
 obtain rfl:dV=.none:=Dflts.none hD hdf
 obtain rfl:kV=.none:=Dflts.noKw hD
 obtain⟨a,vs,ns,rfl,rfl,hobj,hints,hlen⟩:=tP hn hpre hwl
 refine enter_call (codeAny_mono (call w s₀ s₁ mg mb fa o pm cd doc a vs ns G Y ho (fd_plain hd) hcd hmg hobj hints hlen hg) fun r s' hq=>?_)
 obtain⟨rfl,h2,h3,h4⟩:=hq
 exact⟨.inl ⟨.bool true,.bool true,[],rfl,fun _=>rfl,.bool true,tU l _,fun _=>⟨List.Pairwise.nil,fun _ hm=>(nomatch hm)⟩⟩,h2,h3,h4⟩
section
variable {prog:Program}{w:World}{A:Around}{E:Value->Shared->Prop}{s:Shared}{K:Frag}
end
end Att
namespace L2
open PySem PySem.Spec PyProof.Rows
theorem dF:∀ {vs:List Value}{ns:List Int},IntsAre vs ns->Vals (ns.map V.int) vs
 | _,_,.nil=>.nil
 | _,_,.cons n t h=>.cons ⟨t,rfl⟩ (dF h)
end L2
namespace L2
open PySem PySem.Spec PyProof.Rows
end L2
namespace L2
open PySem PySem.Spec PyProof.Rows
noncomputable def aS (s:Stmt) (j:Nat):Stmt:=match s with
 | .ClassDef _ _ _ body _ _ _ _ _ _ _=>body.getD j (.Pass ⟨0,0,0,0⟩)
 | _=>.Pass ⟨0,0,0,0⟩
noncomputable def cW (s:Stmt):Arguments:=match s with
 | .FunctionDef _ a _ _ _ _ _ _ _ _=>a
 | _=>{ posonlyargs:=[],args:=[],vararg:=none,kwonlyargs:=[],kw_defaults:=[],kwarg:=none,defaults:=[] }
noncomputable def bH (s:Stmt):List Stmt:=match s with
 | .FunctionDef _ _ b _ _ _ _ _ _ _=>b
 | _=>[]
noncomputable def ak (s:Stmt):Scope:=match s with
 | .FunctionDef _ _ _ _ _ _ sc _ _ _=>sc
 | _=>{ kind:=.function,names:=[],isGenerator:=false,isCoroutine:=false }
abbrev CX0:CXT:=fun _ _ _ _ _ _=>False
abbrev E0:XK:=fun _ _ _=>False
theorem sY {X:Cx}:lh CX0 X E0:=fun _ _ _ _ _ _ _ h=>h.elim
structure Fun (K:Frag) (x qual:Str) (st:Stmt) (f:Addr) (fd:FuncData):Prop where
 ex:∃ (oc:Value) (od:Option Addr) (kV doc pm:Value) (an:Option Addr) (cdv ct:Value) (osl:Array (Option Value)),
  fd=fnOf x qual (cW st) (bH st) (ak st) .none kV doc pm an cdv ct/\K.lookup f=some ⟨oc,od,.func fd,osl⟩/\codeIn K cdv qual=true
 kp:keepIn K (.ref f)=true
section
variable {P:Program}{w:World}{K:Frag}{mg:Str->Option Value}{base:Heap}
theorem Fun.ok {x qual:Str}{st:Stmt}{f:Addr}{fd:FuncData}{N ps:List Str}{k:Nat}{sp:Sp}(F:Fun K x qual st f fd) (S:FnScope N ps (ak st)) (len:∀ vs H Q E,sp vs H Q E->vs.length=ps.length)
  (hbody:∀ (cdv:Value) (A:Around) (outer:List Env) (s:Shared) (H:Hp) (vs:List V) (Q:VK) (E:XK),Room k (A.deeper (envOfC qual (ak st) s.heap.objs.size f cdv))->sp vs H Q E ->
   ∃ t,PSs (mS CX0 P w K mg base N qual (ak st) f cdv A outer s H E).nox (bH st) t/\t { nx:=fun _ H'=>Q .non H',rt:=Q } (iY N vs) H):FnOk P w K mg base CX0 (k+1) f fd ps sp:=by
 obtain⟨oc,od,kV,doc,pm,an,cdv,ct,osl,rfl,lk,hcd⟩:=F.ex
 refine fn_of lk hcd S len fun A outer s H vs Q E hr hsp=>?_
 obtain⟨t,h,q⟩:=hbody cdv A outer s H vs Q E hr hsp
 exact⟨t,h.nox,q⟩
theorem Fun.binds {x qual:Str}{st:Stmt}{f:Addr}{fd:FuncData}{ps:List Str}(F:Fun K x qual st f fd)
  (h:∀ (kV doc pm:Value) (an:Option Addr) (cdv ct:Value) (us:List Value),us.length=ps.length->bindArgs (fnOf x qual (cW st) (bH st) (ak st) .none kV doc pm an cdv ct) ⟨us,[]⟩=pure (ps.zip us)):Binds K fd ps []:=by
 obtain⟨oc,od,kV,doc,pm,an,cdv,ct,osl,rfl,lk,hcd⟩:=F.ex
 exact .all (h kV doc pm an cdv ct)
theorem qp {x qual:Str}{st:Stmt}{f:Addr}{oc:Value}{od an:Option Addr}{osl:Array (Option Value)}{kV doc pm cdv ct:Value}(l:K.lookup f=some ⟨oc,od,.func (fnOf x qual (cW st) (bH st) (ak st) .none kV doc pm an cdv ct),osl⟩)
  (c:codeIn K cdv qual=true) (k:keepIn K (.ref f)=true):Fun K x qual st f (fnOf x qual (cW st) (bH st) (ak st) .none kV doc pm an cdv ct):=⟨⟨oc,od,kV,doc,pm,an,cdv,ct,osl,rfl,l,c⟩,k⟩
end
theorem iM {A:Around}{k:Nat}(hr:Room k A):A.units+1<cLine:=Nat.lt_of_le_of_lt (Nat.add_le_add_left (by decide:1<=64) _) hr.units
section
variable {X:Cx}
theorem pv (i:Nat) {x:Str}{pos:Pos}(hN:X.N[i]?=some x:=by rfl) (hv:Vis X.env.scope x:=by first | exact Or.inl rfl | exact Or.inr (Or.inl rfl) | exact Or.inr (Or.inr rfl)) (hd:(x == ("__debug__":Str))=false:=by decide)
  (hcd:(x == ("__classdict__":Str))=false:=by decide):PE X (.Name x pos) (tVar i):=pe_var hN hv hd hcd
end
theorem db {A B:Prop}(h:B):if false=true then A else B:=by
 rw[if_neg Bool.false_ne_true]
 exact h
theorem iteT {A B:Prop}(h:A):if true=true then A else B:=by
 rw[if_pos rfl]
 exact h
theorem ite2 {c A B:Prop} [Decidable c] (h1:c->A) (h2:¬ c->B):if c then A else B:=by
 by_cases h:c
 ·rw[if_pos h]
  exact h1 h
 ·rw[if_neg h]
  exact h2 h
theorem mw {c A B:Prop} [Decidable c] (hc:c) (h:B):if (!decide c)=true then A else B:=by
 rw[decide_eq_true hc]
 exact db h
def Same (H H':Hp):Prop:=∀ b o,H b=some o->H' b=some o
theorem Same.refl (H:Hp):Same H H:=fun _ _ h=>h
theorem Same.trans {H H1 H2:Hp}(a:Same H H1) (b:Same H1 H2):Same H H2:=fun c o h=>b c o (a c o h)
theorem Same.free {H H':Hp}(e:Same H H') {l:Addr}(h:H' l=Option.none):H l=Option.none:=by
 cases q:H l with
 | none=>rfl
 | some o =>
  rw[e l o q] at h
  cases h
theorem Same.seq {K:Frag}{H H':Hp}{a:Addr}{xs:List V}(e:Same H H') (h:SqL K H a xs):SqL K H' a xs:=by
 rcases h with (h | ⟨o,h⟩) | h
 ·exact .inl (.inl (e _ _ h))
 ·exact .inl (.inr ⟨o,e _ _ h⟩)
 ·exact .inr h
end L2
set_option maxHeartbeats 4000000
namespace Ow
open PySem PySem.Spec PyProof.Rows L2
structure Has (P:Program) (w:World) (K:Frag) (mg:Str->Option Value) (base:Heap) (k:Nat) (x:Str) (ps:List Str) (sp:Sp):Prop where
 ex:∃ (f:Addr) (fd:FuncData),FnOk P w K mg base CX0 k f fd ps sp/\Binds K fd ps []/\keepIn K (.ref f)=true/\mg x=some (.ref f)
section
variable {X:Cx}{k:Nat}{x:Str}{ps:List Str}{sp:Sp}{p pos:Pos}{e:Expr}{es:List Expr}{t:TA}
theorem aH (h:Has X.prog X.w X.K X.mg X.base k x ps sp) (hr:Room k X.A) (hg:Gl X x) (ha:PA X (e::es) t) (hdb:(x == ("__debug__":Str))=false:=by decide)
  (he:starEach (e::es) X.env=(false,eval e X.env)::starEach es X.env:=by rfl) (hpl:(backTo pos (starEach es X.env)).any (·.1)=false:=by rfl) :
  PE X (.Call (.Name x p) (e::es) [] pos) (tCall sp [] E0 t):=by
 obtain⟨f,fd,F,b,kp,m⟩:=h.ex
 exact pe_call F hr hg m kp b .nil sY ha hdb he hpl
theorem pe_fn0 (h:Has X.prog X.w X.K X.mg X.base k x ps sp) (hr:Room k X.A) (hg:Gl X x) (hdb:(x == ("__debug__":Str))=false:=by decide) :
  PE X (.Call (.Name x p) [] [] pos) (tCall sp [] E0 tNil):=by
 obtain⟨f,fd,F,b,kp,m⟩:=h.ex
 exact pe_call0 F hr hg m kp b .nil sY hdb
theorem nQ {T:String}(hg:Gl X x) (hm:X.mg x=none) (hv:bootBuiltins x=some (.type T)) (hn:x≠"__name__":=by decide) (hd:(x == ("__debug__":Str))=false:=by decide):PE X (.Name x pos) (tC (.ty T)):=pe_bltn (v:=.ty T) hg hm hv rfl hn hd
theorem nH {C:Addr}(hg:Gl X x) (hm:X.mg x=some (.ref C)) (hd:(x == ("__debug__":Str))=false:=by decide):PE X (.Name x pos) (tC (.ref C)):=pe_glob (v:=.ref C) hg hm rfl hd
def clsV:V->Option Value
 | .ty n=>some (.type n)
 | .ref C=>some (.ref C)
 | _=>none
theorem clsV_rel {c:V}{u cv:Value}(r:RelV c u) (h:clsV c=some cv):u=cv:=by
 cases c with
 | ty n=>cases h; exact r
 | ref C=>cases h; exact r
 | _=>cases h
theorem bf:fP X (.builtin "isinstance") (fun xs H Q=>∃ x c t cv b,xs=[x,c]/\clsV c=some cv/\TyOf X.K H x t/\kitOne X.K t cv=some b/\Q (.bl b) H):=by
 intro pins s σ H xs us Q I r h
 obtain⟨x,c,t,cv,b,rfl,hc,ty,e,q⟩:=h
 obtain⟨u,u',rfl,rx,rc⟩:=vals2 r
 cases clsV_rel rc hc
 exact sf I rx ty e fun tk=>⟨.bl b,H,I.tok _,rfl,q⟩
theorem bi:OpR X (binaryOp .FloorDiv) (rI (fun _ j=>0<j/\j.natAbs.log2<9000) fun i j=>.int (i/j)):=opI fun i j _ _ _ _ _ hc q=>by
 have h1:(0:Int)<j:=hc.1
 exact floordiv_int (by lia) (by rw[Int.fdiv_eq_ediv_of_nonneg i (by lia)]; exact q) (.inl (PyProof.noPylong_of_log2 hc.2))
theorem cS:OpR X (binaryOp .Mult) (rI (fun i j=>Builtin.Int.intBits i<=100000/\Builtin.Int.intBits j<=100000) fun i j=>.int (i*j)):=opI fun _ _ _ _ _ _ _ hc q =>
 mul_int q (IntMulOk.of_bits (Nat.le_trans hc.1 (by decide)) (Nat.le_trans hc.2 (by decide)))
end
theorem gi (K:Frag):kitOne K (.type "int") (.type "int")=some true:=rfl
theorem eU (K:Frag):kitOne K (.type "int") (.type "bool")=some false:=by with_unfolding_all rfl
theorem jo (K:Frag):kitOne K (.type "tuple") (.type "tuple")=some true:=rfl
theorem jd {c A B:Prop} [Decidable c] (hc:c) (h:A):if decide c=true then A else B:=by
 rw[if_pos (decide_eq_true hc)]
 exact h
theorem bB {c A B:Prop} [Decidable c] (hc:¬ c) (h:B):if decide c=true then A else B:=by
 rw[if_neg (by rw[decide_eq_false hc]; decide)]
 exact h
theorem ret_true {Q:VK}{H:Hp}{c:Prop} [Decidable c] (hc:c) (q:Q (.bl true) H):Q (.bl (decide c)) H:=by
 rw[decide_eq_true hc]
 exact q
theorem iteN {c A B:Prop} [Decidable c] (hc:¬ c) (h:A):if (!decide c)=true then A else B:=by
 rw[decide_eq_false hc]
 exact iteT h
theorem p1_pos (n:Nat):(0:Int)<1*2^n:=by
 rw[one_mul]
 exact pow_pos (by decide)
theorem fB (n:Nat):(0:Int)<2^n:=pow_pos (by decide)
theorem fF {m n:Nat}(h:m<=n):(2:Int)^m<=2^n:=by
 have e:n=m+(n-m):=by lia
 rw[e,pow_add]
 have h1:=fB m
 have h2:(1:Int)<=2^(n-m):=fB (n-m)
 have h3:=mul_le_mul_of_nonneg_left h2 (Int.le_of_lt h1)
 rw[mul_one] at h3
 exact h3
def SameX (p:Addr) (H H':Hp):Prop:=∀ b o,b≠p->H b=some o->H' b=some o
theorem SameX.trans {p:Addr}{H H1 H2:Hp}(a:SameX p H H1) (b:SameX p H1 H2):SameX p H H2:=fun c o n h=>b c o n (a c o n h)
theorem SameX.of {p:Addr}{H H':Hp}(a:Same H H'):SameX p H H':=fun c o _ h=>a c o h
theorem SameX.upd {p:Addr}{H:Hp}{o:HO}:SameX p H (upd H p o):=fun c u n h=>by rw[au n]; exact h
theorem ao {H:Hp}{p:Addr}(h:H p=none) (o:HO):Same H (L2.upd H p o):=fun b u q=>by rw[au (aE q h)]; exact q
theorem getI (ns:List Int) (k:Nat) (h:k<ns.length):atI (ns.map V.int) (k:Int)=some (.int ns[k]):=sN (by rw[List.getElem?_map,List.getElem?_eq_getElem h] <;> rfl)
end Ow
namespace Ow
open PySem PySem.Spec PyProof.Rows L2
structure MHas (P:Program) (w:World) (K:Frag) (mg:Str->Option Value) (base:Heap) (k:Nat) (C:Addr) (m:Str) (ps:List Str) (sp:Sp):Prop where
 cl:Cls K C
 ex:∃ (f:Addr) (fd:FuncData),Meth K C m f/\FnOk P w K mg base CX0 k f fd ps sp/\Binds K fd ps []
def tMethP (X:Cx) (k:Nat) (m:Str) (ta:TE) (t:TA):TE:=fun σ H Q=>ta σ H fun x H1=>∃ (a C dx:Addr) (fs:List (Str×V)) (ps:List Str) (sp:Sp),x=.ref a/\H1 a=some (.ins C dx fs)/\fs.lookup m=none /\
 MHas X.prog X.w X.K X.mg X.base k C m ps sp/\t σ H1 fun vs H2=>sp (x::(vs++[])) H2 Q E0
section
variable {X:Cx}{k:Nat}{x m:Str}{C:Addr}{p pos apos:Pos}{o e:Expr}{es:List Expr}{ta:TE}{t:TA}
theorem dQ {pl:Sem Bool}(he:PE X o ta) (hr:Room k X.A) (ha:PA X (e::es) t)
  (hst:starEach (e::es) X.env=(false,eval e X.env)::starEach es X.env:=by rfl) (hpl:(backTo pos (starEach es X.env)).any (·.1)=false:=by rfl)
  (ht:eval (.Call (.Attribute o m apos) (e::es) [] pos) X.env=(do
   let ov <- eval o X.env
   standAt apos.atName
   let (f,first) <- holding [ov] (getMethod ov m pl)
   callWith pos f first (backTo pos (starEach (e::es) X.env)) (backToKw pos (keywordEach [] X.env))):=by rfl) :
  PE X (.Call (.Attribute o m apos) (e::es) [] pos) (tMethP X k m ta t):=by
 intro pins s σ H Q I h
 refine PySem.W.methodCall_KW (pl:=pl) (thn (he pins s σ H _ I h) fun u s1 ⟨x,H1,I1,rx,a,C,dx,fs,ps,sp,ex,ea,l,M,q⟩=>?_) ht
 subst ex
 obtain rfl:u=Value.ref a:=rx
 obtain⟨f,fd,hm,F,hb⟩:=M.ex
 refine lC I1 ea M.cl hm l ?_
 refine PySem.W.callWith_K (first:=[.ref a]) (h₀:=X.base) I.ok.mod.kin hm.kp (thn (ha pos pins s1 σ H1 _ I1 q) fun us s2 ⟨vs,H2,I2,r,q2⟩=>⟨I2.kIn,?_⟩) hst hpl
 exact qc (us:=.ref a::us) (vs:=.ref a::vs) F hr hb .nil sY I2 (.cons rfl r) q2
theorem bt {pl:Sem Bool}(he:PE X o ta) (hr:Room k X.A)
  (ht:eval (.Call (.Attribute o m apos) [] [] pos) X.env=(do
   let ov <- eval o X.env
   standAt apos.atName
   let (f,first) <- holding [ov] (getMethod ov m pl)
   callWith pos f first (backTo pos (starEach [] X.env)) (backToKw pos (keywordEach [] X.env))):=by rfl) :
  PE X (.Call (.Attribute o m apos) [] [] pos) (tMethP X k m ta tNil):=by
 intro pins s σ H Q I h
 refine PySem.W.methodCall_KW (pl:=pl) (thn (he pins s σ H _ I h) fun u s1 ⟨x,H1,I1,rx,a,C,dx,fs,ps,sp,ex,ea,l,M,q⟩=>?_) ht
 subst ex
 obtain rfl:u=Value.ref a:=rx
 obtain⟨f,fd,hm,F,hb⟩:=M.ex
 refine lC I1 ea M.cl hm l ?_
 exact PySem.W.callWith_K0 (first:=[.ref a]) I1.kIn hm.kp (qc (us:=[.ref a]) (vs:=[.ref a]) F hr hb .nil sY I1 (.cons rfl .nil) q)
end
end Ow
namespace Ow
open PySem PySem.Spec PyProof.Rows L2
noncomputable def bd (X:Cx) (N:List Str) (scope:Scope) (cl:List (Str×Addr)) (C:Addr) (s2:Shared) (H2:Hp) (fp:List Addr):Cx where
 prog:=X.prog
 w:=X.w
 K:=X.K
 mg:=X.mg
 base:=X.base
 A:=X.A
 N:=N
 s₀:=s2
 H₀:=H2
 env:=compEnvC scope cl C X.env
 outer:=X.stack
 stack:=X.stack
 ex:=fp
 calm:=true
 fn:=fun _=>false
 pn:=[]
 xe:=fun _ _=>False
def tL (wi:TI) (te:TE) (cap:L2.St->L2.St):TE:=fun σ H Q=>wi σ H fun J H1=>∀ D,H1 D=none->∃ W:Nat->Nat->Hp->Prop,(∃ m,W 0 m (upd H1 D (.lst [])))/\∀ i m H,W i m H ->
 (J.stop i H/\Q (.ref D) H)\/(J.go i H/\∀ x H',J.yld i H x H'->te (some x::cap σ) H' fun y H2=>∃ ys,H2 D=some (.lst ys)/\ys.length<sizeLine/\∃ m',m'<m/\W (i+1) m' (upd H2 D (.lst (ys++[y]))))
section
variable {X:Cx}{elt iter:Expr}{x:Str}{px pos:Pos}{scope:Scope}{wi:TI}{te:TE}{N:List Str}{cl:List (Str×Addr)}{cap:L2.St->L2.St}
theorem tD (hc:X.calm=true) (hclos:closureFor scope X.env=pure cl) (hsub:∀ n c,cl.lookup n=some c->X.env.cells.lookup n=some c)
  (hcell:∀ y∈scope.names,y.2≠.cell) (hkind:scope.kind=.function) (hnames:∀ y∈scope.names,y.2=.local->scope.names.lookup y.1=some .local) (hx:scope.names.lookup x=some .local)
  (hhas:∀ y,(Env.kindOf (compEnvC scope cl 0 X.env) y=some .cell\/Env.kindOf (compEnvC scope cl 0 X.env) y=some .free)->∃ c,cl.lookup y=some c)
  (hN:(x::N).Nodup) (hcapl:∀ σ,(cap σ).length=N.length)
  (hcap:∀ (σ:L2.St) (i:Nat) (y:Str) (v:V),σ.length=X.N.length->N[i]?=some y->(cap σ)[i]?=some (some v)->(Env.kindOf (compEnvC scope cl 0 X.env) y=some .cell\/Env.kindOf (compEnvC scope cl 0 X.env) y=some .free)/\X.env.kindOf y=some .cell/\∃ j:Nat,X.N[j]?=some y/\σ[j]?=some (some v))
  (hi:PI X (.Name x px) iter wi) (he:∀ C s2 H2 fp,PE (bd X (x::N) scope cl C s2 H2 fp) elt te)
  (hs:∀ z,foldedSetIterable iter X.env z=pure z:=by intro _; rfl) :
  PE X (.ListComp elt [⟨.Name x px,iter,[],0⟩] scope pos) (tL wi te cap):=by
 intro pins s σ H Q I h
 rw[eval_ListComp]
 refine wpAny_comprehension_free (use:=none) rfl hs hclos hkind hnames (thn (hi pins s σ H _ I h) fun xv s1 h1=>thn h1 fun itv s2 h2=>?_)
 obtain⟨it,fp,tn,J,H2,e,I2,T,st2,f2,hW⟩:=h2
 subst e
 have hD:H2 s2.heap.objs.size=none:=I2.hok.fresh (Nat.le_refl _)
 obtain⟨W,⟨m0,w0⟩,turn⟩:=hW s2.heap.objs.size hD
 refine wpAny_newObj_type (wpAny_newFunctionEnv hcell (by intro y hy; simp at hy) (fun h4 hns4 hsb4=>?_) hkind) (by show 0<=sizeLine; decide)
 dsimp only at hns4 hsb4 ⊢
 generalize hH3:s2.heap.push { cls:=.type "list",dict:=none,data:=.seq ([]:List Value).toArray }=H3 at hns4 hsb4 ⊢
 have hCz:H3.objs.size=s2.heap.objs.size+1:=by rw[<- hH3,Heap.size_push]
 have old3:∀ b o,s2.heap.get? b=some o->H3.get? b=some o:=fun b o e=>hH3 ▸ Heap.get?_push_of_some _ e
 have eD3:H3.get? s2.heap.objs.size=some { cls:=.type "list",dict:=none,data:=.seq ([]:List Value).toArray }:=hH3 ▸ Heap.get?_push_size _ rfl
 have old4:∀ b o,H3.get? b=some o->h4.get? b=some o:=fun b o e=>hsb4.extBut b o (Nat.ne_of_lt (Heap.lt_size e)) (Heap.get?_push_of_some _ e)
 have old:∀ b o,s2.heap.get? b=some o->h4.get? b=some o:=fun b o e=>old4 b o (old3 b o e)
 have szC:s2.heap.objs.size<H3.objs.size:=by rw[hCz]; exact lt_succ_self _
 have fpC:∀ b∈fp,b≠H3.objs.size:=fun b hb=>by
  obtain⟨o,ho,_⟩:=T.obj 0 _ st2 b hb
  exact Nat.ne_of_lt (lt_trans (Heap.lt_size ho) szC)
 have ok':(bd X (x::N) scope cl H3.objs.size s2 H2 fp).Ok:=by
  refine⟨I2.ok.mod,hkind,I2.ok.glob,I2.ok.blt,(Nat.le_of_lt szC),fun a b c e1 e2=>I2.ok.inj a b c (hsub a c e1) (hsub b c e2),fun y hy=>hhas y hy,fun y c z _=>absurd (show false=true from z) (by decide),
   fun _=>I2.ok.hd hc,I2.ok.frames,.inl rfl,fun b hb=>⟨fpC b hb,fun y c e=>(f2 b hb).2.2.2.2.1 y c (hsub y c e)⟩,I2.bs,Nat.le_trans I2.ok.bsz I2.sz,fun b o e hb=>?_,fun b hb z=>?_,I2.stack,I2.stkFree⟩
  ·rcases(f2 b hb).2.2.2.1 with q | q
   ·exact I2.ok.noex b o e q
   ·exact absurd (Nat.lt_of_lt_of_le (Heap.lt_size e) (Nat.le_trans I2.ok.bsz q)) (lt_irrefl _)
  ·rcases List.mem_cons.mp (I2.stkSub b z) with q | q
   ·exact(f2 b hb).2.1 q
   ·exact(f2 b hb).2.2.1 q
 have okD:ObjOk X.prog X.w (upd H2 s2.heap.objs.size (.lst [])) h4 s2.heap.objs.size (.lst []):=⟨zero_le _,[],0,.nil,old4 _ _ eD3⟩
 have I4:Inv (bd X (x::N) scope cl H3.objs.size s2 H2 fp) [] (none::cap σ) (upd H2 s2.heap.objs.size (.lst [])) { s2 with heap:=h4,toks:=s2.toks+([]:List (Str×Value)).length }:=by
  refine⟨ok',rfl,I2.bare,Un.laid old (Nat.le_refl _) hD,⟨_,hns4,fun i y v e1 e2 _=>?_⟩,fun y c e=>?_,?_,fun y c e=>?_,fun p hp=>absurd hp (by show p∉([]++[]:List (Addr×Obj)); simp),I2.hok.laid old (Nat.le_refl _) okD,?_⟩
  ·cases i with
   | zero=>simp at e2
   | succ i =>
    obtain⟨k1,k2,j,e3,e4⟩:=hcap σ i y v I2.len (show N[i]?=some y from e1) (show (cap σ)[i]?=some (some v) from e2)
    obtain⟨m,_,hl⟩:=I2.loc
    obtain⟨u,ru,lk⟩:=hl j y v e3 e4 (.inr (.inl k2))
    refine⟨u,ru,.inr ⟨k1,?_⟩⟩
    rcases lk with ⟨z,_⟩ | ⟨_,c,e5,hcl⟩
    ·rw[k2] at z; cases z
    ·obtain⟨c',e6⟩:=hhas y k1
     have:c'=c:=by
      have:=hsub y c' e6
      rw[e5] at this
      exact(Option.some.inj this).symm
     subst this
     obtain⟨oc,ho,hd⟩:=hcl
     exact⟨c',e6,oc,old _ _ ho,hd⟩
  ·obtain⟨v,oc,ho,hd⟩:=I2.cell y c (hsub y c e)
   exact⟨v,oc,old _ _ ho,hd⟩
  ·show upd H2 s2.heap.objs.size (.lst []) H3.objs.size=none
   rw[au (Nat.ne_of_gt szC)]
   exact I2.hok.fresh (Nat.le_of_lt szC)
  ·have h1:=I2.freeC y c (hsub y c e)
   obtain⟨v,oc,ho,_⟩:=I2.cell y c (hsub y c e)
   rw[au (Nat.ne_of_lt (Heap.lt_size ho))]
   exact h1
  ·show (none::cap σ).length=(x::N).length
   simp[hcapl]
 have stat:∀ {H':Hp},(∀ b∈fp,H' b=none)->∀ b∈fp,kF (bd X (x::N) scope cl H3.objs.size s2 H2 fp) [] H' b:=fun {H'} hn b hb =>
  ⟨hn b hb,(ok'.exf b hb).1,ok'.exfs b hb,.inl hb,(ok'.exf b hb).2,fun p hp=>absurd hp (by show p∉([]++[]:List (Addr×Obj)); simp)⟩
 have loop:codeAny (model X.prog X.w) X.A (.compLoop (.ListComp elt [⟨.Name x px,iter,[],0⟩] scope pos) 0 (.ref it) (.ref s2.heap.objs.size) (compEnvC scope cl H3.objs.size X.env))
   (compPost (model X.prog X.w) X.A X.xe none (EP X pins σ Q) (.ref s2.heap.objs.size) H3.objs.size) { s2 with heap:=h4,toks:=s2.toks+([]:List (Str×Value)).length }:=by
  refine codeAny_compLoop_list (fun n s'=>∃ (i:Nat) (z0:Option V) (H':Hp),Inv (bd X (x::N) scope cl H3.objs.size s2 H2 fp) [] (z0::cap σ) H' s'/\tn i s'.heap/\(∀ b∈fp,H' b=none)/\W i n H') ?_ m0
   ⟨0,none,_,I4,T.keep 0 _ _ st2 (fun b _ o e=>old b o e),fun b hb=>?_,w0⟩
  ·rintro n s5 ⟨i,z0,H5,I5,st5,fr5,w5⟩
   rcases turn i n H5 w5 with ⟨stop,qn⟩ | ⟨go,step⟩
   ·refine wpAny_mono (T.done (bd X (x::N) scope cl H3.objs.size s2 H2 fp) rfl rfl rfl rfl i [] s5 _ H5 _ I5 (stat fr5) st5 stop) (fun r s6 ⟨hr,I6⟩=>?_) fun _ _ z=>z
    subst hr
    obtain⟨m,hn6,_⟩:=id I6.loc
    refine⟨m,hn6,fun h' sb=>⟨.ref s2.heap.objs.size,H5,?_,rfl,qn⟩⟩
    have kp:∀ b o,b≠H3.objs.size->s6.heap.get? b=some o->h'.get? b=some o:=fun b o hb e=>sb.extBut b o hb e
    have nC:∀ b o,s2.heap.get? b=some o->b≠H3.objs.size:=fun b o e=>Nat.ne_of_lt (lt_trans (Heap.lt_size e) szC)
    have fC:H5 H3.objs.size=none:=I6.free
    refine I2.call' (ch:=fp) (s':={ s6 with heap:=h' }) I6.os ?_ ?_ I6.bare fun b hb=>⟨(f2 b hb).2.2.2.1,(f2 b hb).2.1,(f2 b hb).2.2.2.2.1,(f2 b hb).2.2.2.2.2⟩
    ·have U:Un (frs X.stack) fp H2 H5 s2.heap s6.heap:=I6.base
     exact⟨fun b o e n1 n2 n3=>kp b o (nC b o e) (U.keep b o e n1 n2 n3),fun b o e n1 n2 n3=>by
       obtain⟨sl,q⟩:=U.slot b o e n1 n2 n3
       exact⟨sl,kp b _ (nC b o e) q⟩,U.free,fun b o e n3=>by
       obtain⟨o',q⟩:=U.there b o e n3
       exact⟨o',kp b _ (nC b o e) q⟩,U.tups,U.frzs,U.tbls⟩
    ·intro b u e
     refine(I6.hok b u e).stay (fun c v hc q=>kp c v (fun z=>?_) q) (fun _ q=>q) fun _ _ q=>q
     rcases hc with y | y
     ·rw[<- y,z,fC] at e
      cases e
     ·rw[z,fC] at y
      cases y
   ·refine wpAny_mono (T.item (bd X (x::N) scope cl H3.objs.size s2 H2 fp) rfl rfl rfl rfl i [] s5 _ H5 _ I5 (stat fr5) st5 go) (fun r s6 ⟨u,hr,h6⟩=>?_) fun _ _ z=>z
    subst hr
    have key:(letOwnedTupleGo (.Name x px) (.ref it) u >>= fun _=>assign (.Name x px) (compEnvC scope cl H3.objs.size X.env) u)=assign (.Name x px) (compEnvC scope cl H3.objs.size X.env) u:=by first | rfl | exact pure_bind _ _
    dsimp only
    rw[<- key]
    refine wpAny_bind (wpAny_mono h6 (fun _ s7 ⟨v,H7,I7,r7,y7,st7,fr7⟩=>?_) fun _ _ z=>z)
    have I7':=I7.pinned (stat fr7) (T.obj _ _ st7)
    refine wpAny_assign_Name (io (i:=0) I7' hN rfl (.inl (lookup_relabel_local hx)) r7 (fun s8 I8=>?_) (.inr (lookup_relabel_local hx)))
    refine wpAny_mono (he H3.objs.size s2 H2 fp _ s8 (some v::cap σ) H7 _ I8 (step v H7 y7)) (fun w9 s9 ⟨y,H9,I9,r9,ys,hys,hlt,m',hm,w9'⟩=>?_) fun _ _ z=>z.elim
    refine wpAny_mono (aP (X:=bd X (x::N) scope cl H3.objs.size s2 H2 fp) _ s9 _ H9 (.ref s2.heap.objs.size) [y] _ [w9] (fun _ Hn=>Hn=upd H9 s2.heap.objs.size (.lst (ys++[y]))) I9 rfl (.cons r9 .nil) ⟨_,ys,y,rfl,rfl,hys,hlt,rfl⟩) (fun _ s10 ⟨_,H10,I10,_,e10⟩=>?_) fun _ _ z=>z.elim
    subst e10
    refine⟨m',hm,i+1,some v,_,I10.unpinned,T.keep _ _ _ st7 fun b hb o e=>(I10.pin (b,o) (mem_append_right _ (mem_append_right _ (bR hb e)))).1,fun b hb=>?_,w9'⟩
    obtain⟨o,e,d⟩:=T.obj _ _ st7 b hb
    exact(I10.pin (b,o) (mem_append_right _ (mem_append_right _ (bR hb e)))).2.1
  ·obtain⟨o,ho,_⟩:=T.obj 0 _ st2 b hb
   rw[au (Nat.ne_of_lt (Heap.lt_size ho))]
   exact(f2 b hb).1
 exact codeAny_compStart_list loop (T.self X.A 0 _ _ _ (T.keep 0 _ _ st2 (fun b _ o e=>old b o e)) loop)
theorem qe (hc:X.calm=true) (hclos:closureFor scope X.env=pure []) (hno:∀ p∈scope.names,p.2≠.cell/\p.2≠.free) (hkind:scope.kind=.function)
  (hnames:∀ y∈scope.names,y.2=.local->scope.names.lookup y.1=some .local) (hx:scope.names.lookup x=some .local)
  (hi:PI X (.Name x px) iter wi) (he:∀ C s2 H2 fp,PE (bd X [x] scope [] C s2 H2 fp) elt te)
  (hs:∀ z,foldedSetIterable iter X.env z=pure z:=by intro _; rfl) :
  PE X (.ListComp elt [⟨.Name x px,iter,[],0⟩] scope pos) (tL wi te fun _=>[]):=by
 refine tD (N:=[]) (cl:=[]) hc hclos (fun _ _ e=>nomatch e) (fun y hy=>(hno y hy).1) hkind hnames hx (fun y hy=>?_) (by simp) (fun _=>rfl) (fun _ i y v _ e _=>by simp at e) hi he hs
 exfalso
 have sub:∀ (l:List (Str×NameKind)),(∀ p∈l,p.2≠.cell/\p.2≠.free)->∀ p∈(l.map fun (n,k)=>if (k == NameKind.free&&X.env.scope.kind == ScopeKind.function&&X.env.kindOf n == some NameKind.cell) then (n,NameKind.cell) else (n,k)),p.2≠.cell/\p.2≠.free:=by
  intro l hl p hp
  obtain⟨q,hq,e⟩:=List.mem_map.mp hp
  have h1:=hl q hq
  obtain⟨n,k⟩:=q
  have hf:(k == NameKind.free)=false:=by
   cases k <;> first | rfl | exact absurd rfl h1.2
  rw[<- e]
  dsimp only
  rw[hf,Bool.false_and,Bool.false_and,if_neg (by decide)]
  exact h1
 have mem:∀ k,Env.kindOf (compEnvC scope [] 0 X.env) y=some k->k≠.cell/\k≠.free:=fun k e=>sub scope.names hno (y,k) (PySem.mem_of_lookup e)
 rcases hy with z | z
 ·exact(mem _ z).1 rfl
 ·exact(mem _ z).2 rfl
theorem ps_comp {i:Nat}{y:Str}{py spos:Pos}(hNX:X.N.Nodup) (hiy:X.N[i]?=some y) (hly:Loc X.env.scope y) (hsw:swapsWith (.ListComp elt [⟨.Name x px,iter,[],0⟩] scope pos) (some (.Name y py)) spos.line X.env=pure true) (hc:X.calm=true) (hclos:closureFor scope X.env=pure cl) (hsub:∀ n c,cl.lookup n=some c->X.env.cells.lookup n=some c)
  (hcell:∀ y∈scope.names,y.2≠.cell) (hkind:scope.kind=.function) (hnames:∀ y∈scope.names,y.2=.local->scope.names.lookup y.1=some .local) (hx:scope.names.lookup x=some .local)
  (hhas:∀ y,(Env.kindOf (compEnvC scope cl 0 X.env) y=some .cell\/Env.kindOf (compEnvC scope cl 0 X.env) y=some .free)->∃ c,cl.lookup y=some c)
  (hN:(x::N).Nodup) (hcapl:∀ σ,(cap σ).length=N.length)
  (hcap:∀ (σ:L2.St) (i:Nat) (y:Str) (v:V),σ.length=X.N.length->N[i]?=some y->(cap σ)[i]?=some (some v)->(Env.kindOf (compEnvC scope cl 0 X.env) y=some .cell\/Env.kindOf (compEnvC scope cl 0 X.env) y=some .free)/\X.env.kindOf y=some .cell/\∃ j:Nat,X.N[j]?=some y/\σ[j]?=some (some v))
  (hi:PI X (.Name x px) iter wi) (he:∀ C s2 H2 fp,PE (bd X (x::N) scope cl C s2 H2 fp) elt te)
  (hs:∀ z,foldedSetIterable iter X.env z=pure z:=by intro _; rfl) (hf:X.fn y=true\/X.env.scope.names.lookup y=some .local:=by first | exact .inl rfl | exact .inr rfl | assumption) :
  PS X (.Assign [.Name y py] (.ListComp elt [⟨.Name x px,iter,[],0⟩] scope pos) spos) (tAsg (tL wi te cap) (sU i)):=by
 intro pins s σ H DD I h
 rw[exec_Assign_Name_used _ _ _ _ hsw]
 refine wpAny_bind (wpAny_standAt (wpAny_bind ?_))
 show wpAny _ X.A (do let _ <- comprehension (.ListComp elt [⟨.Name x px,iter,[],0⟩] scope pos) scope X.env _ (newList []) false (eval iter X.env) (some (assign (.Name y py) X.env))) _ _ s
 refine wpAny_bind (wpAny_mono (wpAny_comprehension_free (use:=some (assign (.Name y py) X.env)) (Q:=fun _ s'=>SP X pins DD .next s') rfl hs hclos hkind hnames (thn (hi pins s σ H _ I h) fun xv s1 h1=>thn h1 fun itv s2 h2=>?_)) (fun _ s' hq=>wpAny_pure (wpAny_pure hq)) fun _ _ e=>e)
 obtain⟨it,fp,tn,J,H2,e,I2,T,st2,f2,hW⟩:=h2
 subst e
 have hD:H2 s2.heap.objs.size=none:=I2.hok.fresh (Nat.le_refl _)
 obtain⟨W,⟨m0,w0⟩,turn⟩:=hW s2.heap.objs.size hD
 refine wpAny_newObj_type (wpAny_newFunctionEnv hcell (by intro y hy; simp at hy) (fun h4 hns4 hsb4=>?_) hkind) (by show 0<=sizeLine; decide)
 dsimp only at hns4 hsb4 ⊢
 generalize hH3:s2.heap.push { cls:=.type "list",dict:=none,data:=.seq ([]:List Value).toArray }=H3 at hns4 hsb4 ⊢
 have hCz:H3.objs.size=s2.heap.objs.size+1:=by rw[<- hH3,Heap.size_push]
 have old3:∀ b o,s2.heap.get? b=some o->H3.get? b=some o:=fun b o e=>hH3 ▸ Heap.get?_push_of_some _ e
 have eD3:H3.get? s2.heap.objs.size=some { cls:=.type "list",dict:=none,data:=.seq ([]:List Value).toArray }:=hH3 ▸ Heap.get?_push_size _ rfl
 have old4:∀ b o,H3.get? b=some o->h4.get? b=some o:=fun b o e=>hsb4.extBut b o (Nat.ne_of_lt (Heap.lt_size e)) (Heap.get?_push_of_some _ e)
 have old:∀ b o,s2.heap.get? b=some o->h4.get? b=some o:=fun b o e=>old4 b o (old3 b o e)
 have szC:s2.heap.objs.size<H3.objs.size:=by rw[hCz]; exact lt_succ_self _
 have fpC:∀ b∈fp,b≠H3.objs.size:=fun b hb=>by
  obtain⟨o,ho,_⟩:=T.obj 0 _ st2 b hb
  exact Nat.ne_of_lt (lt_trans (Heap.lt_size ho) szC)
 have ok':(bd X (x::N) scope cl H3.objs.size s2 H2 fp).Ok:=by
  refine⟨I2.ok.mod,hkind,I2.ok.glob,I2.ok.blt,(Nat.le_of_lt szC),fun a b c e1 e2=>I2.ok.inj a b c (hsub a c e1) (hsub b c e2),fun y hy=>hhas y hy,fun y c z _=>absurd (show false=true from z) (by decide),
   fun _=>I2.ok.hd hc,I2.ok.frames,.inl rfl,fun b hb=>⟨fpC b hb,fun y c e=>(f2 b hb).2.2.2.2.1 y c (hsub y c e)⟩,I2.bs,Nat.le_trans I2.ok.bsz I2.sz,fun b o e hb=>?_,fun b hb z=>?_,I2.stack,I2.stkFree⟩
  ·rcases(f2 b hb).2.2.2.1 with q | q
   ·exact I2.ok.noex b o e q
   ·exact absurd (Nat.lt_of_lt_of_le (Heap.lt_size e) (Nat.le_trans I2.ok.bsz q)) (lt_irrefl _)
  ·rcases List.mem_cons.mp (I2.stkSub b z) with q | q
   ·exact(f2 b hb).2.1 q
   ·exact(f2 b hb).2.2.1 q
 have okD:ObjOk X.prog X.w (upd H2 s2.heap.objs.size (.lst [])) h4 s2.heap.objs.size (.lst []):=⟨zero_le _,[],0,.nil,old4 _ _ eD3⟩
 have I4:Inv (bd X (x::N) scope cl H3.objs.size s2 H2 fp) [] (none::cap σ) (upd H2 s2.heap.objs.size (.lst [])) { s2 with heap:=h4,toks:=s2.toks+([]:List (Str×Value)).length }:=by
  refine⟨ok',rfl,I2.bare,Un.laid old (Nat.le_refl _) hD,⟨_,hns4,fun i y v e1 e2 _=>?_⟩,fun y c e=>?_,?_,fun y c e=>?_,fun p hp=>absurd hp (by show p∉([]++[]:List (Addr×Obj)); simp),I2.hok.laid old (Nat.le_refl _) okD,?_⟩
  ·cases i with
   | zero=>simp at e2
   | succ i =>
    obtain⟨k1,k2,j,e3,e4⟩:=hcap σ i y v I2.len (show N[i]?=some y from e1) (show (cap σ)[i]?=some (some v) from e2)
    obtain⟨m,_,hl⟩:=I2.loc
    obtain⟨u,ru,lk⟩:=hl j y v e3 e4 (.inr (.inl k2))
    refine⟨u,ru,.inr ⟨k1,?_⟩⟩
    rcases lk with ⟨z,_⟩ | ⟨_,c,e5,hcl⟩
    ·rw[k2] at z; cases z
    ·obtain⟨c',e6⟩:=hhas y k1
     have:c'=c:=by
      have:=hsub y c' e6
      rw[e5] at this
      exact(Option.some.inj this).symm
     subst this
     obtain⟨oc,ho,hd⟩:=hcl
     exact⟨c',e6,oc,old _ _ ho,hd⟩
  ·obtain⟨v,oc,ho,hd⟩:=I2.cell y c (hsub y c e)
   exact⟨v,oc,old _ _ ho,hd⟩
  ·show upd H2 s2.heap.objs.size (.lst []) H3.objs.size=none
   rw[au (Nat.ne_of_gt szC)]
   exact I2.hok.fresh (Nat.le_of_lt szC)
  ·have h1:=I2.freeC y c (hsub y c e)
   obtain⟨v,oc,ho,_⟩:=I2.cell y c (hsub y c e)
   rw[au (Nat.ne_of_lt (Heap.lt_size ho))]
   exact h1
  ·show (none::cap σ).length=(x::N).length
   simp[hcapl]
 have stat:∀ {H':Hp},(∀ b∈fp,H' b=none)->∀ b∈fp,kF (bd X (x::N) scope cl H3.objs.size s2 H2 fp) [] H' b:=fun {H'} hn b hb =>
  ⟨hn b hb,(ok'.exf b hb).1,ok'.exfs b hb,.inl hb,(ok'.exf b hb).2,fun p hp=>absurd hp (by show p∉([]++[]:List (Addr×Obj)); simp)⟩
 have loop:codeAny (model X.prog X.w) X.A (.compLoop (.ListComp elt [⟨.Name x px,iter,[],0⟩] scope pos) 0 (.ref it) (.ref s2.heap.objs.size) (compEnvC scope cl H3.objs.size X.env))
   (compPost (model X.prog X.w) X.A X.xe (some (assign (.Name y py) X.env)) (fun _ s'=>SP X pins DD .next s') (.ref s2.heap.objs.size) H3.objs.size) { s2 with heap:=h4,toks:=s2.toks+([]:List (Str×Value)).length }:=by
  refine codeAny_compLoop_list (fun n s'=>∃ (i:Nat) (z0:Option V) (H':Hp),Inv (bd X (x::N) scope cl H3.objs.size s2 H2 fp) [] (z0::cap σ) H' s'/\tn i s'.heap/\(∀ b∈fp,H' b=none)/\W i n H') ?_ m0
   ⟨0,none,_,I4,T.keep 0 _ _ st2 (fun b _ o e=>old b o e),fun b hb=>?_,w0⟩
  ·rintro n s5 ⟨i,z0,H5,I5,st5,fr5,w5⟩
   rcases turn i n H5 w5 with ⟨stop,qn⟩ | ⟨go,step⟩
   ·refine wpAny_mono (T.done (bd X (x::N) scope cl H3.objs.size s2 H2 fp) rfl rfl rfl rfl i [] s5 _ H5 _ I5 (stat fr5) st5 stop) (fun r s6 ⟨hr,I6⟩=>?_) fun _ _ z=>z
    subst hr
    obtain⟨m,hn6,_⟩:=id I6.loc
    have I6X:Inv X pins σ H5 s6:=I2.call' (ch:=fp) (s':=s6) I6.os I6.base I6.hok I6.bare fun b hb=>⟨(f2 b hb).2.2.2.1,(f2 b hb).2.1,(f2 b hb).2.2.2.2.1,(f2 b hb).2.2.2.2.2⟩
    have fC:H5 H3.objs.size=none:=I6.free
    have nL:H3.objs.size≠X.env.locals:=Ne.symm (Nat.ne_of_lt (lt_trans I2.lt szC))
    have nCl:∀ z c,X.env.cells.lookup z=some c->c≠H3.objs.size:=fun z c e=>by
     obtain⟨v,oc,ho,_⟩:=I2.cell z c e
     exact Nat.ne_of_lt (lt_trans (Heap.lt_size ho) szC)
    refine wpAny_assign_Name (nV I6X hNX hiy hly (v:=.ref s2.heap.objs.size) rfl (fun s7 I7 ⟨ad,sb7,had⟩=>?_) hf)
    have nA:H3.objs.size≠ad:=by
     rcases had with e | e
     ·rw[e]; exact nL
     ·exact Ne.symm (nCl _ _ e)
    refine⟨m,hn6.sameBut sb7 nA,fun h' sb=>⟨_,H5,?_,qn⟩⟩
    refine I7.turned (it:=H3.objs.size) (t':=s7.toks) (fun b o hb e=>sb.extBut b o hb e) fC nL (.inr (Nat.le_trans I2.sz (Nat.le_of_lt szC))) nCl fun p hp=>?_
    exact Nat.ne_of_lt (lt_trans (Heap.lt_size (I2.pin p hp).1) szC)
   ·refine wpAny_mono (T.item (bd X (x::N) scope cl H3.objs.size s2 H2 fp) rfl rfl rfl rfl i [] s5 _ H5 _ I5 (stat fr5) st5 go) (fun r s6 ⟨u,hr,h6⟩=>?_) fun _ _ z=>z
    subst hr
    have key:(letOwnedTupleGo (.Name x px) (.ref it) u >>= fun _=>assign (.Name x px) (compEnvC scope cl H3.objs.size X.env) u)=assign (.Name x px) (compEnvC scope cl H3.objs.size X.env) u:=by first | rfl | exact pure_bind _ _
    dsimp only
    rw[<- key]
    refine wpAny_bind (wpAny_mono h6 (fun _ s7 ⟨v,H7,I7,r7,y7,st7,fr7⟩=>?_) fun _ _ z=>z)
    have I7':=I7.pinned (stat fr7) (T.obj _ _ st7)
    refine wpAny_assign_Name (io (i:=0) I7' hN rfl (.inl (lookup_relabel_local hx)) r7 (fun s8 I8=>?_) (.inr (lookup_relabel_local hx)))
    refine wpAny_mono (he H3.objs.size s2 H2 fp _ s8 (some v::cap σ) H7 _ I8 (step v H7 y7)) (fun w9 s9 ⟨yv,H9,I9,r9,ys,hys,hlt,m',hm,w9'⟩=>?_) fun _ _ z=>z.elim
    refine wpAny_mono (aP (X:=bd X (x::N) scope cl H3.objs.size s2 H2 fp) _ s9 _ H9 (.ref s2.heap.objs.size) [yv] _ [w9] (fun _ Hn=>Hn=upd H9 s2.heap.objs.size (.lst (ys++[yv]))) I9 rfl (.cons r9 .nil) ⟨_,ys,yv,rfl,rfl,hys,hlt,rfl⟩) (fun _ s10 ⟨_,H10,I10,_,e10⟩=>?_) fun _ _ z=>z.elim
    subst e10
    refine⟨m',hm,i+1,some v,_,I10.unpinned,T.keep _ _ _ st7 fun b hb o e=>(I10.pin (b,o) (mem_append_right _ (mem_append_right _ (bR hb e)))).1,fun b hb=>?_,w9'⟩
    obtain⟨o,e,d⟩:=T.obj _ _ st7 b hb
    exact(I10.pin (b,o) (mem_append_right _ (mem_append_right _ (bR hb e)))).2.1
  ·obtain⟨o,ho,_⟩:=T.obj 0 _ st2 b hb
   rw[au (Nat.ne_of_lt (Heap.lt_size ho))]
   exact(f2 b hb).1
 exact codeAny_compStart_list loop (T.self X.A 0 _ _ _ (T.keep 0 _ _ st2 (fun b _ o e=>old b o e)) loop)
theorem eW {K:Frag}{a D:Addr}{xs:List V}{te':TE}{tl:L2.St}{G:Hp->Prop}{H1:Hp}(Pv:Nat->Hp->Prop) (h0:Pv 0 (upd H1 D (.lst []))) (hl:∀ i H,i<=xs.length->Pv i H->SqL K H a xs)
  (hs:∀ i x H,xs[i]?=some x->Pv i H->te' (some x::tl) H fun y H2=>∃ ys,H2 D=some (.lst ys)/\ys.length<sizeLine/\∃ m',m'<xs.length-i/\(m'=xs.length-(i+1)/\i+1<=xs.length/\Pv (i+1) (upd H2 D (.lst (ys++[y])))))
  (hd:∀ H,Pv xs.length H->G H) :
  ∃ W:Nat->Nat->Hp->Prop,(∃ m,W 0 m (upd H1 D (.lst [])))/\∀ i m H,W i m H ->
   ((Itl K a).stop i H/\G H)\/((Itl K a).go i H/\∀ x H',(Itl K a).yld i H x H'->te' (some x::tl) H' fun y H2=>∃ ys,H2 D=some (.lst ys)/\ys.length<sizeLine/\∃ m',m'<m/\W (i+1) m' (upd H2 D (.lst (ys++[y])))):=by
 refine⟨fun i m H=>m=xs.length-i/\i<=xs.length/\Pv i H,⟨xs.length,by simp,zero_le _,h0⟩,?_⟩
 rintro i m H ⟨rfl,hi,p⟩
 have q:=hl i H hi p
 by_cases hlt:i<xs.length
 ·refine .inr ⟨⟨xs,xs[i],q,by simp[hlt]⟩,fun x H' y=>?_⟩
  obtain⟨e,y⟩:=y
  subst e
  exact hs i x _ (y xs q) p
 ·have e:i=xs.length:=by lia
  subst e
  exact .inl ⟨⟨xs,q,Nat.le_refl _⟩,hd H p⟩
end
def tJoin (t u:TS):TS:=fun D σ H=>∃ J:L2.St->Hp->Prop,t { D with nx:=J } σ H/\∀ σ' H',J σ' H'->u D σ' H'
theorem bn {X:Cx}{st:Stmt}{rest:List Stmt}{t u:TS}(h1:PS X st t) (h2:PSs X rest u):PSs X (st::rest) (tJoin t u):=by
 intro pins s σ H D I h
 obtain⟨J,h,hJ⟩:=h
 refine wpAny_execs_cons (thn (h1 pins s σ H { D with nx:=J } I h) fun f s1 q=>?_)
 cases f with
 | next =>
  obtain⟨σ',H',I',q⟩:=q
  exact h2 pins s1 σ' H' D I' (hJ _ _ q)
 | ret v=>exact q
 | brk=>exact q
 | cont=>exact q
end Ow
namespace Ow
open PySem PySem.Spec PyProof.Rows L2
noncomputable def eqVs (xs ys:List V):Bool:=(List.range (min xs.length ys.length)).all (fun j=>eqV (xs.getD j .non) (ys.getD j .non))&&xs.length == ys.length
section
variable {X:Cx}
theorem cO {xs:List V}{us:List Value}(r:Vals xs us) {j:Nat}(h1:j<us.length):RelV (xs.getD j .non) us[j]:=by
 have hl:=r.length
 have hj:j<xs.length:=by lia
 obtain⟨u,hu,ru⟩:=r.get (i:=j) (x:=xs[j]) (List.getElem?_eq_getElem hj)
 rw[List.getElem?_eq_getElem h1] at hu
 rw[getD_eq_getElem?_getD,List.getElem?_eq_getElem hj]
 cases hu
 exact ru
def rEq0 (K:Frag) (neg:Bool):R2:=fun x y H Q=>∃ p q xs,x=.ref p/\y=.ref q/\SqL K H p xs/\SqL K H q []/\Q (.bl (if neg then !xs.isEmpty else xs.isEmpty)) H
theorem op_ne0 (hu:X.A.units<cLine):OpR X (compareOp .NotEq) (rEq0 X.K true):=by
 intro pins s σ H x y v u Q I rx ry h
 obtain⟨p,q,xs,rfl,rfl,hp,hq,k⟩:=h
 cases rx
 cases ry
 obtain⟨its,r,pl,hz⟩:=I.list hp
 obtain⟨its2,r2,pl2,hz2⟩:=I.list hq
 cases r2
 have hl:=r.length
 cases xs with
 | nil =>
  cases r
  exact SeqAt.RcNeAt.lists (e:=fun _=>true) pl.isList pl2.isList rfl hu (fun j h1 _=>absurd h1 (by simp)) X.prog X.w X.xe _ ⟨.bl _,H,I,rfl,k⟩
 | cons z zs =>
  refine SeqAt.RcNeAt.lists_lengths pl.isList pl2.isList ?_ hu X.prog X.w X.xe _ ⟨.bl _,H,I,rfl,k⟩
  rw[length_cons] at hl
  simp only[size_toArray,<- hl]
  rfl
def tRev (K:Frag) (te:TE):TE:=fun σ H Q=>te σ H fun x H1=>∃ a xs,x=.ref a/\SqL K H1 a xs/\∀ p,H1 p=none->Q (.ref p) (upd H1 p (.lst xs.reverse))
theorem pe_rev {e:Expr}{te:TE}{j:Nat}{p1 p2 p3 pos:Pos}(he:PE X e te):PE X (.Subscript e (.Slice none none (some (.UnaryOp .USub (.Constant (.int 1) j p1) p3)) p2) pos) (tRev X.K te):=by
 intro pins s σ H Q I h
 refine Subscript_ (thn (he pins s σ H _ I h) fun v s1 ⟨x,H1,I1,r1,a,xs,ex,hx,q⟩=>?_)
 subst ex
 cases r1
 refine wpAny_Slice ?_
 rw[evalPart_none]
 refine wpAny_pure (wpAny_pure ?_)
 rw[evalPart_some]
 refine thn ((jF eN ag:PE X (.UnaryOp .USub (.Constant (.int 1) j p1) p3) _) pins s1 σ H1 (fun z Hz=>z=.int (-1)/\Hz=H1) I1 ⟨_,rfl,rfl,rfl⟩) fun vk s2 ⟨z,H2,I2,rz,ez,eH⟩=>?_
 subst ez eH
 obtain⟨tk,rfl⟩:=rz
 obtain⟨its,r,ht,hz⟩:=I2.list hx
 have hlen:=r.length
 have I4:Inv X pins σ H2 { s2 with heap:=s2.heap.push { cls:=.type "slice",data:=.fields #[.none,.none,.int (-1) tk] } }:=I2.kept (t':=s2.toks) fun b ob q=>Heap.get?_push_of_some _ q
 obtain⟨its',r',ht',hz'⟩:=I4.list hx
 show wpAny (model X.prog X.w) X.A (subscriptTail e (.Slice none none (some (.UnaryOp .USub (.Constant (.int 1) j p1) p3)) p2) (.ref a) (.ref s2.heap.objs.size)) (EP X pins σ Q) X.xe { s2 with heap:=s2.heap.push { cls:=.type "slice",data:=.fields #[.none,.none,.int (-1) tk] } }
 have hlen':=r'.length
 refine tail_any (ops:=[.ref a,.ref s2.heap.objs.size]) ht'.isList.typeIs slot_list_getitem.lookup (wpAny_getItem_list_slice ht'.isList (Heap.IsSliceOf.new ..) .none .none (.int (-1) tk) (by decide) ?_ (by rw[size_toArray] <;> lia)) (by with_unfolding_all rfl)
 rw[PySem.W.krv_pick]
 refine⟨.ref (s2.heap.push { cls:=.type "slice",data:=.fields #[.none,.none,.int (-1) tk] }).objs.size,_,I4.laid (t':=s2.toks) (o:=.lst xs.reverse) (fun b ob q=>Heap.get?_push_of_some _ q) (Nat.le_refl _) ?_,rfl,q _ (I4.hok.fresh (Nat.le_refl _))⟩
 refine⟨by rw[length_reverse]; exact hz,its'.reverse,0,L2.Vals.reverse r',?_⟩
 exact Heap.get?_push_size _ rfl
end
end Ow
namespace Ow
open PySem PySem.Spec PyProof.Rows L2
section
variable {X:Cx}
def rAddL (K:Frag):R2:=fun x y H Q=>∃ a b xs ys,x=.ref a/\y=.ref b/\SqL K H a xs/\SqL K H b ys/\xs.length+ys.length<=sizeLine/\∀ p,H p=none->Q (.ref p) (upd H p (.lst (xs++ys)))
theorem lO:OpR X (binaryOp .Add) (rAddL X.K):=by
 intro pins s σ H x y v u Q I rx ry h
 obtain⟨a,b,xs,ys,rfl,rfl,ha,hb,hz,q⟩:=h
 cases rx
 cases ry
 obtain⟨its,r,pl,_⟩:=I.list ha
 obtain⟨its2,r2,pl2,_⟩:=I.list hb
 have hl:=r.length
 have hl2:=r2.length
 obtain⟨⟨cls,dd,data,sl⟩,ho,hc,n,hd⟩:=id pl.isList
 obtain⟨⟨cls2,dd2,data2,sl2⟩,ho2,hc2,n2,hd2⟩:=id pl2.isList
 simp only at hc hd hc2 hd2
 subst hc hd hc2 hd2
 have e:its.toArray++its2.toArray=(its++its2).toArray:=by simp
 refine concat_meets ⟨_,ho,rfl⟩ ⟨_,ho2,rfl⟩ noFill_list_add seq_list_add PySem.F.slot_list_add PySem.F.entry_list_add (PySem.F.args_list_add_2 _ _) (list_addW a b its.toArray its2.toArray n n2 dd dd2 sl sl2 (by simp; lia)) ⟨ho,ho2,?_⟩
 rw[e]
 exact⟨.ref s.heap.objs.size,_,I.lnew (t':=s.toks) (r.append r2) (by rw[length_append]; exact hz),rfl,q _ I.fresh⟩
variable {tg:Expr}
inductive EqD (K:Frag) (H:Hp):Nat->V->V->Bool->Prop where
 | flat {d:Nat} {x y:V} (fx:dG x=true) (fy:dG y=true):EqD K H d x y (eqV x y)
 | tup {d:Nat} {p q:Addr} {xs ys:List V} {e:Nat->Bool} (hn:p≠q) (hx:SqT K H p xs) (hy:SqT K H q ys) (he:∀ j,j<xs.length->j<ys.length->EqD K H d (xs.getD j .non) (ys.getD j .non) (e j)) :
   EqD K H (d+1) (.ref p) (.ref q) ((List.range (min xs.length ys.length)).all e&&xs.length == ys.length)
 | lst {d:Nat} {p q:Addr} {xs ys:List V} {e:Nat->Bool} (hn:p≠q) (hx:SqL K H p xs) (hy:SqL K H q ys) (hl:xs.length=ys.length) (he:∀ j,j<xs.length->EqD K H d (xs.getD j .non) (ys.getD j .non) (e j)) :
   EqD K H (d+1) (.ref p) (.ref q) ((List.range xs.length).all e)
 | same {d:Nat} {p:Addr}:EqD K H d (.ref p) (.ref p) true
theorem EqD.at {pins:List (Addr×Obj)}{σ:L2.St}{H:Hp}{s:Shared}(I:Inv X pins σ H s):∀ {d:Nat}{x y:V}{b:Bool}{u v:Value}{A:Around},EqD X.K H d x y b->RelV x u->RelV y v->A.units+d<cLine->SeqAt.EqAt A s u v b:=by
 intro d x y b u v A h
 induction h generalizing u v A with
 | flat fx fy=>intro rx ry _; exact eqAt_V rx ry fx fy
 | same=>intro rx ry _; cases rx; cases ry; exact SeqAt.EqAt.same _
 | @tup d p q xs ys e hn hx hy he ih =>
  intro rx ry hu
  cases rx
  cases ry
  obtain⟨its,r,pl,_⟩:=I.tuple hx
  obtain⟨its2,r2,pl2,_⟩:=I.tuple hy
  have hl:=r.length
  have hl2:=r2.length
  have:=SeqAt.EqAt.of_refs hn (SeqAt.RcAt.tuples (A:=A) (e:=e) pl pl2 (by lia) (fun j h1 h2=>by
   have h1':j<its.length:=by simpa using h1
   have h2':j<its2.length:=by simpa using h2
   have z:=ih j (by lia) (by lia) (cO r h1') (cO r2 h2') (A:=A.in1) (by show A.units+1+d<_; lia)
   simpa using z))
  simp only[size_toArray,<- hl,<- hl2] at this
  exact this
 | @lst d p q xs ys e hn hx hy hle he ih =>
  intro rx ry hu
  cases rx
  cases ry
  obtain⟨its,r,pl,_⟩:=I.list hx
  obtain⟨its2,r2,pl2,_⟩:=I.list hy
  have hl:=r.length
  have hl2:=r2.length
  have:=SeqAt.EqAt.of_refs hn (SeqAt.RcAt.lists (A:=A) (e:=e) pl.isList pl2.isList (by simp only[size_toArray]; lia) (by lia) (fun j h1 h2=>by
   have h1':j<its.length:=by simpa using h1
   have h2':j<its2.length:=by simpa using h2
   have z:=ih j (by lia) (cO r h1') (cO r2 h2') (A:=A.in1) (by show A.units+1+d<_; lia)
   simpa using z))
  simp only[size_toArray,<- hl] at this
  exact this
def rEqLD (K:Frag) (d:Nat) (neg:Bool):R2:=fun x y H Q=>∃ p q xs ys e,x=.ref p/\y=.ref q/\SqL K H p xs/\SqL K H q ys/\xs.length=ys.length/\(∀ j,j<xs.length->EqD K H d (xs.getD j .non) (ys.getD j .non) (e j))/\Q (.bl (if neg=true then !(List.range xs.length).all e else (List.range xs.length).all e)) H
theorem op_neLD {d:Nat}(hu:X.A.units+d+1<cLine):OpR X (compareOp .NotEq) (rEqLD X.K d true):=by
 intro pins s σ H x y v u Q I rx ry h
 obtain⟨p,q,xs,ys,e,rfl,rfl,hp,hq,hle,he,k⟩:=h
 cases rx
 cases ry
 obtain⟨its,r,pl,_⟩:=I.list hp
 obtain⟨its2,r2,pl2,_⟩:=I.list hq
 have hl:=r.length
 have hl2:=r2.length
 refine SeqAt.RcNeAt.lists (e:=e) pl.isList pl2.isList (by simp only[size_toArray]; lia) (by lia) (fun j h1 h2=>?_) X.prog X.w X.xe _ ⟨.bl _,H,I,rfl,?_⟩
 ·have h1':j<its.length:=by simpa using h1
  have h2':j<its2.length:=by simpa using h2
  have z:=(he j (by lia)).at I (cO r h1') (cO r2 h2') (A:=X.A.in1) (by show X.A.units+1+d<_; lia)
  simpa using z
 ·simp only[size_toArray,<- hl]
  exact k
end
end Ow
namespace Ow
open PySem PySem.Spec PyProof.Rows L2
section
variable {X:Cx}{tg:Expr}
theorem o7 (hc:X.calm=true):fP X (.builtin "all") (fun xs H Q=>∃ (a:Addr) (bs:List Bool),xs=[.ref a]/\SqL X.K H a (bs.map V.bl)/\Q (.bl (bs.all id)) H):=by
 intro pins s σ H xs us Q I r h
 obtain⟨a,bs,rfl,hq,q⟩:=h
 obtain⟨u,rfl,rx⟩:=pf r
 cases rx
 obtain⟨its,rv,pl,hz⟩:=I.list hq
 have hl:=rv.length
 rw[length_map] at hl
 refine call_all_walk (wpAny_pyIter_list pl.isList ?_)
 have hne:a≠s.heap.objs.size:=by
  obtain⟨o,ho,_⟩:=pl.isList
  exact Nat.ne_of_lt (Heap.lt_size ho)
 refine⟨s.heap.objs.size,_,_,_,_,_,fun j=>bs.getD j false,rfl,Walks.list (A:=X.A.in1) (I.ok.hd hc) s.heap.objs.size a hne its.toArray,⟨⟨_,Heap.get?_push_size _ rfl,rfl,rfl⟩,Heap.IsList.push pl.isList _⟩,?_,?_⟩
 ·intro i v s' Q' E' hP hQ'
  have hP':its[i]?=some v:=by simpa using hP
  have hi:i<its.length:=(List.getElem?_eq_some_iff.mp hP').1
  have hb:(bs.map V.bl)[i]?=some (V.bl (bs.getD i false)):=by
   rw[List.getElem?_map,getD_eq_getElem?_getD,List.getElem?_eq_getElem (by lia)]
   rfl
  obtain⟨u',hu',ru'⟩:=rv.get hb
  rw[hP'] at hu'
  cases hu'
  cases ru'
  exact wpAny_truthy_bool hQ'
 ·intro h' tk hk
  refine⟨.bl _,H,I.kept (t':=tk) fun b o e=>hk b o (fun z=>?_) (Heap.get?_push_of_some _ e),?_,q⟩
  ·have z':b=s.heap.objs.size:=by simpa using z
   exact absurd (Heap.lt_size e) (by rw[z']; exact lt_irrefl _)
  ·have e1:(List.range its.toArray.size).all (fun j=>bs.getD j false)=bs.all id:=by
    rw[size_toArray,<- hl]
    rw[Bool.eq_iff_iff,List.all_eq_true,List.all_eq_true]
    constructor
    ·intro h x hx
     obtain⟨j,hj,e⟩:=List.getElem_of_mem hx
     have:=h j (List.mem_range.mpr hj)
     rw[getD_eq_getElem?_getD,List.getElem?_eq_getElem hj] at this
     show x=true
     rw[<- e]
     exact this
    ·intro h j hj
     have hj':=List.mem_range.mp hj
     rw[getD_eq_getElem?_getD,List.getElem?_eq_getElem hj']
     exact h _ (getElem_mem hj')
   rw[e1]
   rfl
variable {elt iter:Expr}{x:Str}{px pos:Pos}{scope:Scope}{wi:TI}{te:TE}{cl:List (Str×Addr)}
theorem je (js:List Nat) (ns:List Str) (hc:X.calm=true) (hclos:closureFor scope X.env=pure cl) (hcls:cl.map (·.1)=ns) (hsub:∀ p∈cl,X.env.cells.lookup p.1=some p.2)
  (hno:∀ p∈scope.names,p.2≠.cell/\(p.2=.free->p.1∈ns)) (hkind:scope.kind=.function) (hnames:∀ y∈scope.names,y.2=.local->scope.names.lookup y.1=some .local) (hx:scope.names.lookup x=some .local)
  (hN:(x::ns).Nodup) (hkd:∀ y∈ns,(Env.kindOf (compEnvC scope cl 0 X.env) y=some .cell\/Env.kindOf (compEnvC scope cl 0 X.env) y=some .free)/\X.env.kindOf y=some .cell)
  (hjl:js.length=ns.length) (hj:js.map (fun j=>X.N[j]?)=ns.map some)
  (hi:PI X (.Name x px) iter wi) (he:∀ C s2 H2 fp,PE (bd X (x::ns) scope cl C s2 H2 fp) elt te)
  (hs:∀ z,foldedSetIterable iter X.env z=pure z:=by intro _; rfl) :
  PE X (.ListComp elt [⟨.Name x px,iter,[],0⟩] scope pos) (tL wi te fun σ=>js.map fun j=>(σ[j]?).getD none):=by
 refine tD (N:=ns) (cl:=cl) hc hclos (fun n c e=>hsub (n,c) (PySem.mem_of_lookup e)) (fun y hy=>(hno y hy).1) hkind hnames hx (fun y hy=>?_) hN (fun σ=>by rw[length_map]; exact hjl) (fun σ i y v _ e1 e2=>?_) hi he hs
 ·have sub:∀ (l:List (Str×NameKind)),(∀ p∈l,p.2≠.cell/\(p.2=.free->p.1∈ns))->∀ p∈(l.map fun (n,k)=>if (k == NameKind.free&&X.env.scope.kind == ScopeKind.function&&X.env.kindOf n == some NameKind.cell) then (n,NameKind.cell) else (n,k)),(p.2=.cell\/p.2=.free)->p.1∈ns:=by
   intro l hl p hp hk
   obtain⟨q,hq,e⟩:=List.mem_map.mp hp
   have h1:=hl q hq
   obtain⟨n,k⟩:=q
   dsimp only at e
   by_cases hf:k=.free
   ·have h2:=h1.2 hf
    split at e
    ·rw[<- e]; exact h2
    ·rw[<- e]; exact h2
   ·have hf':(k == NameKind.free)=false:=by
     cases k <;> first | rfl | exact absurd rfl hf
    rw[hf',Bool.false_and,Bool.false_and,if_neg (by decide)] at e
    rw[<- e] at hk
    rcases hk with z | z
    ·exact absurd z h1.1
    ·exact absurd z hf
  have hy':y∈ns:=by
   rcases hy with z | z
   ·exact sub scope.names hno (y,.cell) (PySem.mem_of_lookup z) (.inl rfl)
   ·exact sub scope.names hno (y,.free) (PySem.mem_of_lookup z) (.inr rfl)
  rw[<- hcls] at hy'
  have key:∀ l:List (Str×Addr),y∈l.map (·.1)->∃ c,l.lookup y=some c:=by
   intro l
   induction l with
   | nil=>intro h; simp at h
   | cons p r ih =>
    intro h
    by_cases e:y=p.1
    ·exact⟨p.2,by obtain⟨p1,p2⟩:=p; dsimp only at e; subst e; simp[List.lookup]⟩
    ·have h':y∈r.map (·.1):=by
      rw[map_cons] at h
      exact(List.mem_cons.mp h).resolve_left e
     obtain⟨c,hc'⟩:=ih h'
     refine⟨c,?_⟩
     obtain⟨p1,p2⟩:=p
     have:(y == p1)=false:=by simpa using e
     rw[List.lookup_cons,this]
     exact hc'
  exact key cl hy'
 ·have hm:y∈ns:=mem_of_getElem? e1
  refine⟨(hkd y hm).1,(hkd y hm).2,?_⟩
  rw[List.getElem?_map] at e2
  cases hji:js[i]? with
  | none=>rw[hji] at e2; cases e2
  | some j =>
   rw[hji] at e2
   have e3:(σ[j]?).getD none=some v:=by
    have:=Option.some.inj e2
    exact this
   have e4:=congrArg (fun l=>l[i]?) hj
   rw[List.getElem?_map,List.getElem?_map,hji,e1] at e4
   have e5:X.N[j]?=some y:=by
    have:=Option.some.inj e4
    exact this
   refine⟨j,e5,?_⟩
   cases hσ:σ[j]? with
   | none=>rw[hσ] at e3; cases e3
   | some o =>
    rw[hσ] at e3
    have e6:o=some v:=e3
    rw[e6]
structure CHas (P:Program) (w:World) (K:Frag) (mg:Str->Option Value) (base:Heap) (k:Nat) (C:Addr) (x:Str) (ps:List Str) (sp:Sp):Prop where
 ex:∃ (f:Addr) (fd:FuncData),Mk K C f/\FnOk P w K mg base CX0 k f fd ps sp/\Binds K fd ps []/\mg x=some (.ref C)
theorem j5 {k:Nat}{C:Addr}{y:Str}{ps:List Str}{sp:Sp}{p:Pos}{e:Expr}{es:List Expr}{t:TA}(h:CHas X.prog X.w X.K X.mg X.base k C y ps sp) (hr:Room (k+1) X.A) (hg:Gl X y) (ha:PA X (e::es) t) (hdb:(y == ("__debug__":Str))=false:=by decide)
  (he:starEach (e::es) X.env=(false,eval e X.env)::starEach es X.env:=by rfl) (hpl:(backTo pos (starEach es X.env)).any (·.1)=false:=by rfl) :
  PE X (.Call (.Name y p) (e::es) [] pos) (tMake C sp [] E0 t):=by
 obtain⟨f,fd,M,F,b,m⟩:=h.ex
 exact pe_make M F hr hg m b .nil sY ha hdb he hpl
end
end Ow
namespace Ow
open PySem PySem.Spec PyProof.Rows L2
section
variable {X:Cx}
theorem ix_tupK {K:Frag}(h:X.K=K):IxR X (rIxT K):=by
 subst h
 exact aU
variable {elt iter:Expr}{x:Str}{px pos:Pos}{scope:Scope}{wi:TI}{te:TE}{cl:List (Str×Addr)}
theorem ps_compC {i:Nat}{y:Str}{py spos:Pos}(hNX:X.N.Nodup) (hiy:X.N[i]?=some y) (hly:Loc X.env.scope y) (hsw:swapsWith (.ListComp elt [⟨.Name x px,iter,[],0⟩] scope pos) (some (.Name y py)) spos.line X.env=pure true) (js:List Nat) (ns:List Str) (hc:X.calm=true) (hclos:closureFor scope X.env=pure cl) (hcls:cl.map (·.1)=ns) (hsub:∀ p∈cl,X.env.cells.lookup p.1=some p.2)
  (hno:∀ p∈scope.names,p.2≠.cell/\(p.2=.free->p.1∈ns)) (hkind:scope.kind=.function) (hnames:∀ y∈scope.names,y.2=.local->scope.names.lookup y.1=some .local) (hx:scope.names.lookup x=some .local)
  (hN:(x::ns).Nodup) (hkd:∀ y∈ns,(Env.kindOf (compEnvC scope cl 0 X.env) y=some .cell\/Env.kindOf (compEnvC scope cl 0 X.env) y=some .free)/\X.env.kindOf y=some .cell)
  (hjl:js.length=ns.length) (hj:js.map (fun j=>X.N[j]?)=ns.map some)
  (hi:PI X (.Name x px) iter wi) (he:∀ C s2 H2 fp,PE (bd X (x::ns) scope cl C s2 H2 fp) elt te)
  (hs:∀ z,foldedSetIterable iter X.env z=pure z:=by intro _; rfl) (hf:X.fn y=true\/X.env.scope.names.lookup y=some .local:=by first | exact .inl rfl | exact .inr rfl | assumption) :
  PS X (.Assign [.Name y py] (.ListComp elt [⟨.Name x px,iter,[],0⟩] scope pos) spos) (tAsg (tL wi te fun σ=>js.map fun j=>(σ[j]?).getD none) (sU i)):=by
 refine ps_comp hNX hiy hly hsw (N:=ns) (cl:=cl) hc hclos (fun n c e=>hsub (n,c) (PySem.mem_of_lookup e)) (fun y hy=>(hno y hy).1) hkind hnames hx (fun y hy=>?_) hN (fun σ=>by rw[length_map]; exact hjl) (fun σ i y v _ e1 e2=>?_) hi he hs hf
 ·have sub:∀ (l:List (Str×NameKind)),(∀ p∈l,p.2≠.cell/\(p.2=.free->p.1∈ns))->∀ p∈(l.map fun (n,k)=>if (k == NameKind.free&&X.env.scope.kind == ScopeKind.function&&X.env.kindOf n == some NameKind.cell) then (n,NameKind.cell) else (n,k)),(p.2=.cell\/p.2=.free)->p.1∈ns:=by
   intro l hl p hp hk
   obtain⟨q,hq,e⟩:=List.mem_map.mp hp
   have h1:=hl q hq
   obtain⟨n,k⟩:=q
   dsimp only at e
   by_cases hf:k=.free
   ·have h2:=h1.2 hf
    split at e
    ·rw[<- e]; exact h2
    ·rw[<- e]; exact h2
   ·have hf':(k == NameKind.free)=false:=by
     cases k <;> first | rfl | exact absurd rfl hf
    rw[hf',Bool.false_and,Bool.false_and,if_neg (by decide)] at e
    rw[<- e] at hk
    rcases hk with z | z
    ·exact absurd z h1.1
    ·exact absurd z hf
  have hy':y∈ns:=by
   rcases hy with z | z
   ·exact sub scope.names hno (y,.cell) (PySem.mem_of_lookup z) (.inl rfl)
   ·exact sub scope.names hno (y,.free) (PySem.mem_of_lookup z) (.inr rfl)
  rw[<- hcls] at hy'
  have key:∀ l:List (Str×Addr),y∈l.map (·.1)->∃ c,l.lookup y=some c:=by
   intro l
   induction l with
   | nil=>intro h; simp at h
   | cons p r ih =>
    intro h
    by_cases e:y=p.1
    ·exact⟨p.2,by obtain⟨p1,p2⟩:=p; dsimp only at e; subst e; simp[List.lookup]⟩
    ·have h':y∈r.map (·.1):=by
      rw[map_cons] at h
      exact(List.mem_cons.mp h).resolve_left e
     obtain⟨c,hc'⟩:=ih h'
     refine⟨c,?_⟩
     obtain⟨p1,p2⟩:=p
     have:(y == p1)=false:=by simpa using e
     rw[List.lookup_cons,this]
     exact hc'
  exact key cl hy'
 ·have hm:y∈ns:=mem_of_getElem? e1
  refine⟨(hkd y hm).1,(hkd y hm).2,?_⟩
  rw[List.getElem?_map] at e2
  cases hji:js[i]? with
  | none=>rw[hji] at e2; cases e2
  | some j =>
   rw[hji] at e2
   have e3:(σ[j]?).getD none=some v:=by
    have:=Option.some.inj e2
    exact this
   have e4:=congrArg (fun l=>l[i]?) hj
   rw[List.getElem?_map,List.getElem?_map,hji,e1] at e4
   have e5:X.N[j]?=some y:=by
    have:=Option.some.inj e4
    exact this
   refine⟨j,e5,?_⟩
   cases hσ:σ[j]? with
   | none=>rw[hσ] at e3; cases e3
   | some o =>
    rw[hσ] at e3
    have e6:o=some v:=e3
    rw[e6]
end
end Ow
namespace Ow
open PySem PySem.Spec PyProof.Rows L2
section
variable {P:Program}{w:World}{base h h1 h2 B:Heap}{fs:List Addr}{H H':Hp}{l:List Env}
end
section
variable {P:Program}{w:World}{K:Frag}{mg:Str->Option Value}{base:Heap}{N:List Str}{qual:Str}{scope:Scope}{f:Addr}{cdv:Value}{A:Around}{outer:List Env}{s₀:Shared}{H₀:Hp}{E:XK}
end
section
variable {X:Cx}{pins:List (Addr×Obj)}{σ:L2.St}{H:Hp}{s:Shared}{a:Addr}{oe:Obj}
end
section
variable {X:Cx}{k i j:Nat}{f y n c:Str}{ps:List Str}{sp:Sp}{e:Expr}{es:List Expr}{ta:TA}{C₁:Addr}{b₀:Stmt}{suite:List Stmt}{tb:Addr->Obj->TS}{py p pos apos np hpos tpos:Pos}
end
section
variable {prog:Program}{w:World}{A:Around}{E:Value->Shared->Prop}{h:Heap}{g:Array GenState}{d:Drawn}{t:Nat}{os:OsState}{K:Frag}{a C:Addr}{o:Obj}
end
end Ow
namespace Ow
open PySem PySem.Spec PyProof.Rows L2
section
variable {P:Program}{w:World}{K:Frag}{mg:Str->Option Value}{base:Heap}{N:List Str}{qual:Str}{scope:Scope}{f:Addr}{cdv:Value}{A:Around}{outer:List Env}{s₀:Shared}{H₀:Hp}{E:XK}
end
section
variable {X:Cx}{pins pins':List (Addr×Obj)}{σ:L2.St}{H:Hp}{s:Shared}{E:L2.St->XK}
end
end Ow
namespace Ow
open PySem PySem.Spec PyProof.Rows L2
section
variable {X:Cx}{pins:List (Addr×Obj)}{σ:L2.St}{H:Hp}{s:Shared}{a:Addr}{oe:Obj}{j:Nat}{n:Str}
end
section
variable {X:Cx}{j:Nat}{n c:Str}{C₁:Addr}{b₀:Stmt}{suite:List Stmt}{tb:Addr->Obj->TS}{np hpos:Pos}
end
def rBits:V->List V->Hp->VK->Prop:=fun x vs H Q=>∃ i:Int,x=.int i/\vs=[]/\Q (.int ((Builtin.Int.intBits i:Nat):Int)) H
theorem dO {X:Cx}:MtR X "int.bit_length" rBits:=by
 intro pins s σ H x vs v us Q I rx rv h
 obtain⟨i,rfl,rfl,q⟩:=h
 obtain⟨t,rfl⟩:=rx
 cases rv.zero
 exact call_int_bit_length ⟨.int _,H,I.tok _,⟨_,rfl⟩,q⟩
theorem jS {K:Frag}{i:Int}{H:Hp}:tyV K "int" (.int i) H:=rfl
end Ow
namespace Ow
open PySem PySem.Spec PyProof.Rows L2
def Rise (xs:Array Nat):Prop:=∀ i j,i<j->j<xs.size->xs.getD i 0<xs.getD j 0
theorem getD_any {xs:Array Nat}{i a b:Nat}(h:i<xs.size):xs.getD i a=xs.getD i b:=by
 rw[Array.getD_eq_getD_getElem?,Array.getD_eq_getD_getElem?,Array.getElem?_eq_getElem h]
 rfl
theorem mf {xs:Array Nat}{j:Nat}(R:Rise xs):∀ (n lo hi:Nat),hi-lo<=n->lo<=hi->hi<=xs.size->(∀ k,k<lo->xs.getD k 0<j)->(∀ k,hi<=k->k<xs.size->j<=xs.getD k 0) ->
  let i:=SetTable.below.go xs j n lo hi; i<=xs.size/\(∀ k,k<i->xs.getD k 0<j)/\∀ k,i<=k->k<xs.size->j<=xs.getD k 0
 | 0,lo,hi,h1,h2,h3,h4,h5=>by
  have e:lo=hi:=by lia
  subst e
  exact⟨h3,h4,h5⟩
 | n+1,lo,hi,h1,h2,h3,h4,h5=>by
  unfold SetTable.below.go
  by_cases c:lo<hi
  ·rw[if_pos c]
   dsimp only
   have m1:(lo+hi)/2<hi:=by lia
   have m0:lo<=(lo+hi)/2:=by lia
   have ms:(lo+hi)/2<xs.size:=by lia
   rw[getD_any (b:=0) ms]
   by_cases q:xs.getD ((lo+hi)/2) 0<j
   ·rw[if_pos q]
    refine mf R n _ hi (by lia) (by lia) h3 (fun k hk=>?_) h5
    by_cases hm:k=(lo+hi)/2
    ·rw[hm]; exact q
    ·exact lt_trans (R k _ (by lia) ms) q
   ·rw[if_neg q]
    refine mf R n lo _ (by lia) (by lia) (by lia) h4 fun k hk hs=>?_
    by_cases hm:k=(lo+hi)/2
    ·rw[hm]; lia
    ·have:=R ((lo+hi)/2) k (by lia) hs
     lia
  ·rw[if_neg c]
   have e:lo=hi:=by lia
   subst e
   exact⟨h3,h4,h5⟩
theorem qi {xs:Array Nat}(R:Rise xs) (j:Nat):SetTable.below xs j<=xs.size/\(∀ k,k<SetTable.below xs j->xs.getD k 0<j)/\∀ k,SetTable.below xs j<=k->k<xs.size->j<=xs.getD k 0 :=
 mf R xs.size 0 xs.size (by lia) (zero_le _) (Nat.le_refl _) (fun k h=>absurd h (Nat.not_lt_zero k)) fun k h1 h2=>by lia
theorem pM {xs:Array Nat}(R:Rise xs) {j i:Nat}(hi:i<=xs.size) (h1:∀ k,k<i->xs.getD k 0<j) (h2:∀ k,i<=k->k<xs.size->j<=xs.getD k 0):SetTable.below xs j=i:=by
 obtain⟨a,b,c⟩:=qi R j
 by_cases q:SetTable.below xs j<i
 ·have:=c _ (Nat.le_refl _) (by lia)
  have:=h1 _ q
  lia
 by_cases q2:i<SetTable.below xs j
 ·have:=b i q2
  have:=h2 i (Nat.le_refl _) (by lia)
  lia
 lia
theorem oK {xs:Array Nat}(R:Rise xs) {j:Nat}(hn:xs[SetTable.below xs j]?≠some j):Rise (SetTable.insertAt xs (SetTable.below xs j) j):=by
 obtain⟨a,b,c⟩:=qi R j
 generalize SetTable.below xs j=p at *
 have sz:(SetTable.insertAt xs p j).size=xs.size+1:=by
  unfold SetTable.insertAt
  simp only[Array.size_append,Array.size_push,Array.size_extract]
  lia
 have g:∀ i,i<xs.size+1->(SetTable.insertAt xs p j).getD i 0=if i<p then xs.getD i 0 else if i=p then j else xs.getD (i-1) 0:=fun i hi=>by
  unfold SetTable.insertAt
  rw[Array.getD_eq_getD_getElem?,Array.getElem?_append,Array.size_push,Array.size_extract]
  have e1:min p xs.size-0=p:=by lia
  rw[e1]
  by_cases q:i<p+1
  ·rw[if_pos q,Array.getElem?_push,Array.size_extract,e1]
   by_cases q2:i=p
   ·rw[if_pos q2,if_neg (by lia),if_pos q2]
    rfl
   ·rw[if_neg q2,if_pos (by lia),Array.getElem?_extract,if_pos (by lia),Array.getD_eq_getD_getElem?,Nat.zero_add]
  ·rw[if_neg q,if_neg (by lia),if_neg (by lia),Array.getElem?_extract,if_pos (by lia),Array.getD_eq_getD_getElem?]
   congr 2
   lia
 have d:∀ k,p<=k->k<xs.size->j<xs.getD k 0:=fun k h1 h2=>by
  have h3:=c k h1 h2
  by_cases e:k=p
  ·subst e
   refine Nat.lt_of_le_of_ne h3 fun z=>hn ?_
   rw[Array.getElem?_eq_getElem h2]
   rw[Array.getD_eq_getD_getElem?,Array.getElem?_eq_getElem h2] at z
   exact congrArg some z.symm
  ·exact Nat.lt_of_le_of_lt (c p (Nat.le_refl _) (by lia)) (R p k (by lia) h2)
 intro i k hik hk
 rw[sz] at hk
 rw[g i (by lia),g k hk]
 by_cases i1:i<p
 ·rw[if_pos i1]
  by_cases k1:k<p
  ·rw[if_pos k1]; exact R i k hik (by lia)
  ·rw[if_neg k1]
   by_cases k2:k=p
   ·rw[if_pos k2]; exact b i i1
   ·rw[if_neg k2]; exact R i (k-1) (by lia) (by lia)
 ·rw[if_neg i1,if_neg (show ¬ k<p by lia),if_neg (show ¬ k=p by lia)]
  by_cases i2:i=p
  ·rw[if_pos i2]; exact d (k-1) (by lia) (by lia)
  ·rw[if_neg i2]; exact R (i-1) (k-1) (by lia) (by lia)
def Good (t:SetTable):Prop:=t.plain=true->Rise t.place
theorem uz {t:SetTable}{j:Nat}(h:∀ i,t.slot j≠.live i):t.place[SetTable.below t.place j]?≠some j:=fun z=>by
 unfold SetTable.slot at h
 dsimp only at h
 rw[z] at h
 exact h _ (by rw[beq_self_eq_true]; rfl)
theorem iO {t:SetTable}{f:Nat->Int}{h:Int}:∀ (n:Nat) (p:SetTable.Probe) {j:Nat}{d:Option Nat},(∀ x,p.dummy=some x->t.slot x=.dummy)->SetTable.probe.go t f h n p=some (.empty j d)->t.slot j=.empty/\∀ x,d=some x->t.slot x=.dummy
 | 0,p,j,d,hp,e=>by cases e
 | n+1,p,j,d,hp,e=>by
  unfold SetTable.probe.go at e
  split at e
  ·next q =>
   cases e
   exact⟨q,hp⟩
  ·next q =>
   refine iO n _ (fun x hx=>?_) e
   have:({ p with dummy:=some p.j }:SetTable.Probe).dummy=some x:=by
    unfold SetTable.advance at hx
    split at hx <;> exact hx
   cases this
   exact q
  ·next i q =>
   split at e
   ·cases e
   ·refine iO n _ (fun x hx=>hp x ?_) e
    unfold SetTable.advance at hx
    split at hx <;> exact hx
theorem oJ {t:SetTable}{h:Int}{s:Nat}{b:Bool}(e:t.freeSlot h=some (s,b)):∀ i,t.slot s≠.live i:=by
 unfold SetTable.freeSlot at e
 split at e
 ·next j d q =>
  cases e
  obtain⟨h1,h2⟩:=iO _ _ (fun x hx=>by cases hx) q
  intro i z
  cases d with
  | none=>rw[show (none:Option Nat).getD j=j from rfl,h1] at z; cases z
  | some x=>rw[show (some x).getD j=x from rfl,h2 x rfl] at z; cases z
 ·cases e
theorem jq (t:SetTable) (n:Nat) (g:Good t):(t.orStandIn n).led=t.led/\Good (t.orStandIn n):=by
 unfold SetTable.orStandIn
 split
 ·exact⟨rfl,g⟩
 ·exact⟨rfl,fun hp=>by cases hp⟩
theorem nZ (t:SetTable) (es:Array (Int×Value)) (h:Int) (x:Value) (g:Good t):(layNew t es h x).2.1.led=t.led/\Good (layNew t es h x).2.1:=by
 unfold layNew
 split
 ·next s b e =>
  have z:=jq (t.put s).1 (SetTable.insertAt es (t.put s).2 (h,x)).size (fun hp=>oK (g hp) (uz (oJ e)))
  exact⟨z.1,z.2⟩
 ·exact⟨rfl,fun hp=>by cases hp⟩
theorem qO {α:Type}(f:Nat->Option α):∀ (l:List Nat),l.Pairwise (·<·)->((l.filterMap fun j=>(f j).map (j,·)).map (·.1)).Pairwise (·<·):=by
 intro l h
 refine List.pairwise_map.mpr (List.Pairwise.filterMap _ (fun a b hab x hx y hy=>?_) h)
 obtain⟨_,_,rfl⟩:=Option.map_eq_some_iff.mp hx
 obtain⟨_,_,rfl⟩:=Option.map_eq_some_iff.mp hy
 exact hab
theorem rise_of {l:List Nat}(h:l.Pairwise (·<·)):Rise l.toArray:=by
 intro i j hij hj
 have hj':j<l.length:=by simpa using hj
 rw[Array.getD_eq_getD_getElem?,Array.getD_eq_getD_getElem?,List.getElem?_toArray,List.getElem?_toArray,List.getElem?_eq_getElem (show i<l.length by lia),List.getElem?_eq_getElem hj']
 exact List.pairwise_iff_getElem.mp h i j _ _ hij
theorem qU {m f mo:Nat}{led pl:Bool}{hs:Array Int}{t:SetTable}{o:Array Nat}(e:SetTable.laid m f mo led pl hs=some (t,o)):t.led=led/\Good t:=by
 unfold SetTable.laid at e
 obtain⟨ow,_,e⟩:=Option.bind_eq_some_iff.mp e
 cases e
 exact⟨rfl,fun _=>rise_of (qO _ _ List.pairwise_lt_range)⟩
theorem kP (t:SetTable) (es:Array (Int×Value)) (n:Nat):(relayAll t es n).2.1.led=t.led/\Good (relayAll t es n).2.1:=by
 unfold relayAll
 split
 ·next t' o e =>
  dsimp only
  split
  ·exact qU e
  ·exact⟨rfl,fun hp=>by cases hp⟩
 ·exact⟨rfl,fun hp=>by cases hp⟩
end Ow
namespace Ow
open PySem PySem.Spec PyProof.Rows L2
def pU (e:Int×Value):Int:=match e.2 with | .int k _=>k | _=>0
def AllI (l:List (Int×Value)):Prop:=∀ e∈l,∃ k tk,e=(hashInt k,Value.int k tk)
def SetI (w:World) (o:Obj) (ks:List Int):Prop:=∃ es ep t,o=⟨.type "set",none,.set es ep t,#[]⟩/\AllI es.toList/\es.toList.map pU=ks/\ks.Nodup/\es.size<scanBound/\t.fits es.size=true/\(w.params.followText "set-order"=false->t.led=true)/\Good t
theorem AllI.elems {prog:Program}{w:World}{l:List (Int×Value)}(h:AllI l):ElemsOf (intKind prog w) l:=fun e he=>by
 obtain⟨k,tk,rfl⟩:=h e he
 exact⟨⟨k,intKind_is _ _ _ _,rfl⟩,rfl⟩
theorem AllI.push {l l':List (Int×Value)}{k:Int}{tk:Tok}(h:AllI l) (p:List.Perm l' (l++[(hashInt k,Value.int k tk)])):AllI l':=fun e he=>by
 rcases List.mem_append.mp (p.mem_iff.mp he) with z | z
 ·exact h e z
 ·rw[mem_singleton] at z
  exact⟨k,tk,z⟩
theorem m5 {l:List (Int×Value)}(h:AllI l) {e:Int×Value}(he:e∈l) (k:Int):Value.isInt k e.2=true ↔ pU e=k:=by
 obtain⟨k',tk,rfl⟩:=h e he
 show (Value.isInt k (Value.int k' tk)=true) ↔ k'=k
 unfold Value.isInt
 rw[beq_iff_eq]
section
variable {prog:Program}{w:World}{A:Around}{E:Value->Shared->Prop}{s:Shared}{a:Addr}{o:Obj}{ks:List Int}{k:Int}{tk:Tok}
theorem addI {Q:Bool->Shared->Prop}(ho:s.heap.get? a=some o) (S:SetI w o ks) (hr:ks.length+1<scanBound)
  (hq:∀ h' o' ks' b,Heap.SameBut a s.heap h'->h'.get? a=some o'->SetI w o' ks'->(∀ x,x∈ks' ↔ x∈ks\/x=k)->ks'.length<=ks.length+1->Q b { s with heap:=h' }) :
  wpAny (model prog w) A (setAddHashed a (.int k tk) (hashInt k)) Q E s:=by
 obtain⟨es,ep,t,rfl,al,rfl,nd,hb,hf,led,gd⟩:=S
 have hsz:es.size+1<scanBound:=by rw[length_map,Array.length_toList] at hr; exact hr
 unfold setAddHashed setAddHashedIn
 refine wpAny_holding (wpAny_bind (wpAny_setState_of ho rfl hf ?_))
 dsimp only
 rw[byScan_of (knd:=intKind prog w) rfl hb al.elems]
 simp only[↓reduceIte]
 unfold setAddByScan
 refine wpAny_bind (wpAny_bind (wpAny_rule (wpAny_bind (wpAny_setScan_of (knd:=intKind prog w) (k:=k) (intKind_is _ _ _ _) ho rfl hf al.elems ?_))))
 cases hr2:List.findIdx? (fun e=>(intKind prog w).is k e.2) es.toList with
 | some j =>
  dsimp only
  obtain⟨hj,pj,_⟩:=List.findIdx?_eq_some_iff_getElem.mp hr2
  have hk:k∈es.toList.map pU:=List.mem_map.mpr ⟨es.toList[j],getElem_mem hj,(m5 al (getElem_mem hj) k).mp pj⟩
  refine wpAny_pure (wpAny_pure ?_)
  have z:=hq s.heap _ _ false (Heap.SameBut.refl a s.heap) ho ⟨es,ep,t,rfl,al,rfl,nd,hb,hf,led,gd⟩ (fun x=>⟨.inl,fun q=>q.elim id fun q=>q ▸ hk⟩) (le_succ _)
  exact z
 | none =>
  dsimp only
  have nk:k∉es.toList.map pU:=fun q=>by
   obtain⟨e,he,hk⟩:=List.mem_map.mp q
   have z:=List.findIdx?_eq_none_iff.mp hr2 e he
   rw[show (intKind prog w).is k e.2=true from (m5 al he k).mpr hk] at z
   cases z
  have pm:=layNew_perm t es (hashInt k) (.int k tk)
  have fi:=layNew_fits t es (hashInt k) (.int k tk)
  have kp:=nZ t es (hashInt k) (.int k tk) gd
  generalize hL:layNew t es (hashInt k) (.int k tk)=L at pm fi kp ⊢
  obtain⟨es1,t1,wd,gave⟩:=L
  dsimp only at pm fi kp ⊢
  rw[Array.toList_push] at pm
  have al1:=al.push pm
  have len1:es1.size=es.size+1:=by rw[<- Array.length_toList,pm.length_eq,length_append,Array.length_toList]; rfl
  have kperm:List.Perm (es1.toList.map pU) (es.toList.map pU++[k]):=by
   have z:=pm.map pU
   rwa [map_append] at z
  have nd1:(es1.toList.map pU).Nodup:=by
   refine kperm.nodup_iff.mpr ?_
   rw[List.nodup_append]
   exact⟨nd,List.nodup_cons.mpr ⟨not_mem_nil,nodup_nil⟩,fun x hx y hy z=>by rw[mem_singleton] at hy; subst hy; subst z; exact nk hx⟩
  have mem1:∀ x,x∈es1.toList.map pU ↔ x∈es.toList.map pU\/x=k:=fun x=>by rw[kperm.mem_iff,mem_append,mem_singleton]
  have gw:∀ (b:Bool) {s1:Shared} {Q':Unit->Shared->Prop},Q' () s1->wpAny (model prog w) A (match b with | true=>rule "set.scan.the-table-gave-way" | false=>pure ()) Q' E s1:=fun b s1 Q' q=>by
   cases b <;> first | exact wpAny_pure q | exact wpAny_rule q
  have tail:∀ t2:SetTable,t2.fits es1.size=true->(w.params.followText "set-order"=false->t2.led=true)->Good t2->wpAny (model prog w) A (do
    storeSet a es1 t2
    if (!wd&&t2.tooFull)=true then do
      (match (relayAll t2 es1 (SetTable.grown es1.size)).2.2 with | true=>rule "set.scan.the-table-gave-way" | false=>pure ())
      storeSet a (relayAll t2 es1 (SetTable.grown es1.size)).1 (relayAll t2 es1 (SetTable.grown es1.size)).2.1
      pure (some true)
     else pure (some true)) (fun r s'=>wpAny (model prog w) A (match r with | some added=>pure added | none=>setAddHashedIn a (.int k tk) (hashInt k) 99999) Q E s') E s:=fun t2 f2 l2 g2=>by
   have sz1:es1.size<=sizeLine:=fits_of_scanBound (by rw[len1]; exact hsz)
   refine wpAny_bind (wpAny_storeSet_of ho rfl ?_ sz1)
   have g1:(s.heap.update a (Obj.putSet es1 t2)).get? a=some ⟨.type "set",none,.set es1 (ep+1) t2,#[]⟩:=Heap.get?_update_self _ ho rfl
   split
   ·have p2:=relayAll_perm t2 es1 (SetTable.grown es1.size)
    have f3:=relayAll_fits t2 es1 (SetTable.grown es1.size)
    have k3:=kP t2 es1 (SetTable.grown es1.size)
    generalize relayAll t2 es1 (SetTable.grown es1.size)=R at p2 f3 k3 ⊢
    obtain⟨es2,t3,gv⟩:=R
    dsimp only at p2 f3 k3 ⊢
    have len2:es2.size=es1.size:=by rw[<- Array.length_toList,p2.length_eq,Array.length_toList]
    refine wpAny_bind (gw _ (wpAny_bind (wpAny_storeSet_of (s:={ s with heap:=s.heap.update a (Obj.putSet es1 t2) }) g1 rfl ?_ (by rw[len2]; exact sz1))))
    have g3:((s.heap.update a (Obj.putSet es1 t2)).update a (Obj.putSet es2 t3)).get? a=some ⟨.type "set",none,.set es2 (ep+1+1) t3,#[]⟩:=Heap.get?_update_self _ g1 rfl
    refine wpAny_pure (wpAny_pure (hq _ _ (es2.toList.map pU) true ((Heap.SameBut.update _ a _).trans (Heap.SameBut.update _ a _)) g3 ⟨es2,_,t3,rfl,fun e he=>al1 e (p2.mem_iff.mp he),rfl,(p2.map pU).nodup_iff.mpr nd1,by rw[len2,len1]; exact hsz,f3,fun q=>by rw[k3.1]; exact l2 q,k3.2⟩ (fun x=>by rw[(p2.map pU).mem_iff]; exact mem1 x) ?_))
    rw[length_map,length_map,Array.length_toList,Array.length_toList,len2,len1]
    exact Nat.le_refl _
   ·refine wpAny_pure (wpAny_pure (hq _ _ (es1.toList.map pU) true (Heap.SameBut.update _ a _) g1 ⟨es1,_,t2,rfl,al1,rfl,nd1,by rw[len1]; exact hsz,f2,l2,g2⟩ mem1 ?_))
    rw[length_map,length_map,Array.length_toList,Array.length_toList,len1]
    exact Nat.le_refl _
  refine wpAny_bind (gw _ ?_)
  split
  ·refine wpAny_bind ?_
   rw[hashByValue_scannable 8 rfl]
   refine wpAny_pure ?_
   exact tail t1 fi (fun q=>by rw[kp.1]; exact led q) kp.2
  ·refine wpAny_bind (wpAny_pure ?_)
   simp only[↓reduceIte]
   exact tail t1 fi (fun q=>by rw[kp.1]; exact led q) kp.2
end
end Ow
namespace Ow
open PySem PySem.Spec PyProof.Rows L2
def Upto (w:World) (val:Nat->Int) (i:Nat) (S:Addr) (h:Heap):Prop:=∃ o ks,h.get? S=some o/\SetI w o ks/\ks.length<=i/\∀ x,x∈ks ↔ ∃ j,j<i/\val j=x
section
variable {prog:Program}{w:World}{A:Around}{R:Result->Shared->Prop}{I:Addr}{fp wr:List Addr}{G:Array GenState->Array GenState->Prop}{n:Nat}{P:Nat->Value->Prop}{St:Nat->Shared->Prop}
theorem setloopI (W:WalksS prog w A.in1 I fp wr G n P St) (S:Addr) (nS:S∉fp) (val:Nat->Int) (hv:∀ i v,P i v->∃ t,v=.int (val i) t) (hb:n+1<scanBound) :
  ∀ (k i:Nat) (s:Shared),n-i=k->i<=n->St i s->Upto w val i S s.heap->(∀ s',Moved (S::wr) G s s'->Upto w val n S s'.heap->R (.ok (.ret .none)) s') ->
   codeAny (model prog w) A (.builtin "set.update.loop" ⟨[.ref S,.ref I],[]⟩) R s:=by
 have nw:S∉wr:=fun z=>nS (W.sub _ z)
 have sb:∀ b∈wr,b∈S::wr:=fun b z=>mem_cons_of_mem _ z
 have mv:∀ {i:Nat} {s s':Shared},Moved wr G s s'->Upto w val i S s.heap->Upto w val i S s'.heap:=fun m ⟨o,ks,g,r⟩=>⟨o,ks,m.heap S _ nw g,r⟩
 intro k
 induction k with
 | zero =>
  intro i s e1 e2 st U hR
  have e3:i=n:=by lia
  subst e3
  refine codeAny_builtin F.entry_set_update_loop ?_
  rw[Around.under_plainId F.plain_set_update_loop _]
  show wpAny _ A.in1 (pyNext (.ref I) >>= _) _ _ s
  refine wpAny_bind (W.done s _ _ st fun s1 m=>?_)
  show wpAny _ A.in1 (ret Value.none) _ _ s1
  exact wpAny_pure (hR s1 (m.mono sb) (mv m U))
 | succ k ih =>
  intro i s e1 e2 st U hR
  have e3:i<n:=by lia
  refine codeAny_builtin F.entry_set_update_loop ?_
  rw[Around.under_plainId F.plain_set_update_loop _]
  show wpAny _ A.in1 (pyNext (.ref I) >>= _) _ _ s
  refine wpAny_bind (W.item i s _ _ e3 st fun v s1 hP st1 m=>?_)
  obtain⟨t,rfl⟩:=hv i v hP
  obtain⟨o,ks,g,SI,le,mem⟩:=mv m U
  show wpAny _ A.in1 (holding [Value.int (val i) t] (setAdd S (.int (val i) t)) >>= _) _ _ s1
  refine wpAny_bind (wpAny_holding ?_)
  unfold setAdd
  refine wpAny_holding (wpAny_bind ((intKind prog w).pyHash (k:=val i) (intKind_is _ _ _ _) ?_))
  refine addI (s:={ s1 with toks:=s1.toks+1 }) g SI (by lia) fun h' o' ks' b same g' SI' mem' le'=>?_
  have U':Upto w val (i+1) S h':=⟨o',ks',g',SI',by lia,fun x=>by
   rw[mem' x,mem x]
   constructor
   ·rintro (⟨j,hj,e⟩ | rfl)
    ·exact⟨j,by lia,e⟩
    ·exact⟨i,by lia,rfl⟩
   ·rintro ⟨j,hj,e⟩
    by_cases hji:j=i
    ·subst hji; exact .inr e.symm
    ·exact .inl ⟨j,by lia,e⟩⟩
  have oth:∀ b' o2,b'≠S->s1.heap.get? b'=some o2->h'.get? b'=some o2:=fun b' o2 hne q=>(same.2 b' hne).trans q
  refine wpAny_pure ⟨plainId_quiet F.plain_set_update_loop _,ih (i+1) { s1 with heap:=h',toks:=s1.toks+1 } (by lia) e3 (W.frame _ s1 h' (s1.toks+1) st1 (le_succ _) fun b' hb' o2 q=>oth b' o2 (fun z=>nS (z ▸ hb')) q) U' fun s2 m2 U2=>?_⟩
  exact hR s2 (Moved.trans W.gtrans ((m.mono sb).then_heap (le_succ _) fun b' o2 hb' q=>oth b' o2 (fun z=>hb' (z ▸ mem_cons_self ..)) q) m2) U2
end
section
variable {prog:Program}{w:World}{A:Around}{E:Value->Shared->Prop}{s:Shared}
theorem oY (a:Value) {Q:Value->Shared->Prop}
  (h:Q (.ref s.heap.objs.size) { s with heap:=s.heap.push { cls:=.type "set",dict:=none,data:=.set #[] 0 (.fresh 0 0 (!(w.params.followText "set-order"))) } }) :
  codeAny (model prog w) A (.call (.builtin "set.__new__") ⟨[.type "set",a],[]⟩) (wants Q E) s:=by
 refine codeAny_of_tree ?_
 show wpAny _ A.in1 (do checkBuiltinCall "set.__new__" ⟨[.type "set",a],[]⟩; again (.builtin "set.__new__" ⟨[.type "set",a],[]⟩)) _ _ s
 refine wpAny_bind (wpAny_of_eq (F.newCall_set_1 a) (wpAny_pure ⟨plainId_quiet F.plain_set_new _,codeAny_builtin F.entry_set_new ?_⟩))
 rw[Around.under_plainId F.plain_set_new _]
 unfold Builtin.«set.__new__» Builtin.Frozenset.newClass
 have su:=sub_set_self
 obtain⟨hp,g,d,tk,os⟩:=s
 dsimp only
 wp_walk
 refine wpAny_askSetting (wpAny_pure ?_)
 dsimp only
 simp only[newObj]
 exact wpAny_bind (wpAny_alloc (wpAny_pure (wpAny_pure h)))
theorem sV {l:Addr}{its:Array Value}{ns:List Int}{Q:Value->Shared->Prop}(hh:A.handled=none) (hl:s.heap.IsList l its) (hi:IntsAre its.toList ns) (hb:its.size+1<scanBound)
  (k:∀ (h':Heap) (tk:Nat),Upto w (fun i=>ns.getD i 0) its.size s.heap.objs.size h'->(∀ b o,b<s.heap.objs.size->s.heap.get? b=some o->h'.get? b=some o)->Q (.ref s.heap.objs.size) { s with heap:=h',toks:=tk }) :
  wpAny (model prog w) A (call (.type "set") [.ref l]) Q E s:=by
 obtain⟨c,tl,hmro⟩:=F.called_set.mro
 have q1:=F.called_set.made
 have q2:=F.called_set.sub
 have q3:=F.called_set.notType
 have q4:=F.called_set.canCreate
 have q5:=F.typeCall_set_1 (.ref l)
 generalize hled:(!(w.params.followText "set-order"))=led
 refine wpAny_call (codeAny_of_tree ?_)
 show wpAny _ _ (callAny (.type "set") _) _ _ _
 refine wpAny_pure ⟨Code.quiet_builtin _ (by decide +kernel),codeAny_builtin F.entry_type_call ?_⟩
 rw[Around.under_plain (weight_type_call_type "set" [.ref l] []) rfl]
 repeat (any_goals (first | assumption | wp_step))
 refine codeAny_mono (oY (.ref l) (E:=E) (Q:=fun ob s1=>ob=.ref s.heap.objs.size/\s1={ s with heap:=s.heap.push { cls:=.type "set",dict:=none,data:=.set #[] 0 (.fresh 0 0 led) } }) ⟨rfl,by rw[hled]⟩) fun r s1 hr=>?_
 cases r with
 | error e=>exact hr
 | ok fl =>
  cases fl with
  | ret ob =>
   obtain⟨rfl,rfl⟩:=hr
   have gS:(s.heap.push { cls:=.type "set",dict:=none,data:=.set #[] 0 (.fresh 0 0 led) }).get? s.heap.objs.size=some { cls:=.type "set",dict:=none,data:=.set #[] 0 (.fresh 0 0 led) }:=Heap.get?_push_size _ rfl
   have tS:Shared.TypeIs { s with heap:=s.heap.push { cls:=.type "set",dict:=none,data:=.set #[] 0 (.fresh 0 0 led) } } (.ref s.heap.objs.size) "set":=⟨_,gS,rfl⟩
   have q6:=F.called_set.init.lookup
   have q7:=F.called_set.init.bind (.ref s.heap.objs.size)
   repeat (any_goals (first | assumption | wp_step))
   refine codeAny_mono (codeAny_call_builtin (R:=wants (fun r s2=>r=.none/\∃ h' tk,s2={ s with heap:=h',toks:=tk }/\Upto w (fun i=>ns.getD i 0) its.size s.heap.objs.size h'/\∀ b o,b<s.heap.objs.size->s.heap.get? b=some o->h'.get? b=some o) E)
    F.called_set.init.plain F.entry_set_init (check_set_init_1 tS ?_)) fun r2 s2 hr2=>?_
   ·obtain⟨ol,go,hcl,nl,hdl⟩:=hl
    obtain⟨o1,o2,o3,o4⟩:=ol
    simp only at hcl hdl
    subst hcl hdl
    have gl:(s.heap.push { cls:=.type "set",dict:=none,data:=.set #[] 0 (.fresh 0 0 led) }).get? l=some { cls:=.type "list",dict:=o2,data:=.seq its nl,slots:=o4 }:=Heap.get?_push_of_some _ go
    have p1:=F.sub_list_set
    have p2:=F.sub_list_frozenset
    have p3:(Value.type "list" == Value.type "dict")=false:=by decide
    have il:(s.heap.push { cls:=.type "set",dict:=none,data:=.set #[] 0 (.fresh 0 0 led) }).IsList l its:=⟨_,gl,rfl,nl,rfl⟩
    unfold Builtin.«set.__init__» noKeywords Builtin.Frozenset.updateFrom
    generalize eP:pyIter=PI
    wp_walk
    subst eP
    refine wpAny_pyIter_list il (wpAny_bind (wpAny_runValue ?_))
    have lS:l<s.heap.objs.size:=Heap.lt_size go
    have hh3:A.in1.in1.in1.handled=none:=by simp[hh]
    have lI:l≠(s.heap.push { cls:=.type "set",dict:=none,data:=.set #[] 0 (.fresh 0 0 led) }).objs.size:=by
     rw[Heap.size_push]
     exact Nat.ne_of_lt (lt_succ_of_lt lS)
    have nS:s.heap.objs.size∉[(s.heap.push { cls:=.type "set",dict:=none,data:=.set #[] 0 (.fresh 0 0 led) }).objs.size,l]:=fun z=>by
     rw[Heap.size_push] at z
     rcases List.mem_cons.mp z with z | z
     ·lia
     ·rw[mem_singleton] at z
      exact absurd z.symm (Nat.ne_of_lt lS)
    refine setloopI ((Walks.list hh3 _ l lI its).toS) s.heap.objs.size nS (fun i=>ns.getD i 0) (fun i v hv=>IntsAre.int_at hi i v (by rw[Array.getElem?_toList]; exact hv)) hb (its.size-0) 0 _ (by lia) (zero_le _)
     ⟨⟨_,Heap.get?_push_size _ rfl,rfl,rfl⟩,il.push _⟩ ?U0 ?hR
    case U0 =>
     refine⟨_,[],Heap.get?_push_of_some _ gS,⟨#[],0,.fresh 0 0 led,rfl,(fun e he=>by simp at he),rfl,nodup_nil,by unfold scanBound; decide,rfl,fun z=>?_,fun _ i j hij hj=>?_⟩,Nat.le_refl _,fun x=>⟨fun z=>(not_mem_nil z).elim,fun ⟨j,hj,_⟩=>by lia⟩⟩
     ·show led=true
      rw[<- hled,z]
      rfl
     ·exact absurd hj (Nat.not_lt_zero _)
    case hR =>
     intro s' m U
     obtain⟨h',g',d',tk',os'⟩:=s'
     obtain rfl:g'=s.gens:=m.gens
     obtain rfl:d'=s.drawn:=m.drawn
     obtain rfl:os'=s.os:=m.os
     show wpAny _ _ _ _ _ _
     refine wpAny_pure ?_
     show wpAny _ _ (ret Value.none) _ _ _
     refine wpAny_pure ⟨rfl,h',tk',rfl,U,fun b o hb' e=>m.heap b o (fun z=>?_) (Heap.get?_push_of_some _ (Heap.get?_push_of_some _ e))⟩
     rcases List.mem_cons.mp z with z | z
     ·exact absurd z (Nat.ne_of_lt hb')
     ·rw[mem_singleton,Heap.size_push] at z
      exact absurd z (Nat.ne_of_lt (lt_succ_of_lt hb'))
   ·cases r2 with
    | error e=>exact hr2
    | ok fl2 =>
     cases fl2 with
     | ret r =>
      obtain⟨rfl,h',tk,rfl,U,kp⟩:=hr2
      repeat (any_goals (first | assumption | wp_step))
      exact k _ _ U kp
     | _=>exact hr2.elim
  | _=>exact hr.elim
end
end Ow
namespace Ow
open PySem PySem.Spec PyProof.Rows L2
theorem slot_setit:Slot "set_iterator" "__next__" "set_iterator.__next__" :=
 .of (owner:="set_iterator") (n:="__next__") (by rw[typeLookup_type,builtinLookup_eq_fast]; kernel_rfl) (by decide +kernel) (by decide +kernel) (by decide +kernel) (by first | exact .inl (by decide +kernel) | exact .inr (by decide +kernel)) (by rw[isSubtype_type]; kernel_rfl)
theorem dR:entryFor table "set_iterator.__next__"=some Builtin.«set_iterator.__next__»:=entryFor_of_fast (by kernel_rfl)
theorem ff (a:Value):argsOk "set_iterator.__next__" ⟨[a],[]⟩:=by unfold argsOk; kernel_rfl
theorem lB (a:Addr) (slot given ep:Nat):setNext a slot given ep=(do
  let (es,epoch,t) <- setState a
  if <- setsByText then
   if epoch != ep then unsupported "set_iterator.__next__:elements-changed"
   return ((<- setWalk a)[given]?).map fun e=>(e.2,slot)
  if !t.plain&&es.size > 1 then unsupported "set_iterator.__next__:the-table-is-plain-no-more"
  (if !t.led&&!es.isEmpty then unsupported "set:maker-not-led" else pure ():Sem Unit)
  let i:=SetTable.below t.place slot
  return match es[i]?,t.place[i]? with
   | some (_,x),some j=>some (x,j+1)
   | _,_=>none):=rfl
theorem qx (a:Addr):setWalk a=(do
  let (es,epoch,t) <- setState a
  if <- setsByText then return pickOrder ((<- ask).params.setOrder a epoch) es
  if !t.plain&&es.size > 1 then return (<- drawOrder es.size es.toList).toArray
  (if !t.led&&es.size > 1 then unsupported "set:maker-not-led" else pure ():Sem Unit)
  return es):=rfl
noncomputable def itO (first:Value) (i:Nat) (S:Addr) (n ep:Nat):Obj:=⟨.type "set_iterator",none,.fields #[first,.int i 0,.ref S,.int n 0,.int ep 0],#[]⟩
section
variable {prog:Program}{w:World}{A:Around}{E:Value->Shared->Prop}{s:Shared}{S I:Addr}{es:Array (Int×Value)}{ep:Nat}{t:SetTable}
theorem gP {Q:Bool->Shared->Prop}(h:Q (w.params.followText "set-order") s):wpAny (model prog w) A setsByText Q E s:=by
 unfold setsByText
 exact wpAny_bind (wpAny_askSetting (wpAny_pure h))
theorem nextC {slot given:Nat}{e:Int×Value}{j:Nat}{Q:Option (Value×Nat)->Shared->Prop}(hS:s.heap.get? S=some ⟨.type "set",none,.set es ep t,#[]⟩) (hf:t.fits es.size=true) (hb:w.params.followText "set-order"=false) (hd:(!t.plain&&decide (es.size > 1))=false) (hl:t.led=true)
  (h:Q (match es[SetTable.below t.place slot]?,t.place[SetTable.below t.place slot]? with | some (_,x),some j=>some (x,j+1) | _,_=>none) s) :
  wpAny (model prog w) A (setNext S slot given ep) Q E s:=by
 rw[lB]
 refine wpAny_bind (wpAny_setState_of hS rfl hf (wpAny_bind (gP ?_)))
 rw[hb]
 simp only[Bool.false_eq_true,↓reduceIte]
 rw[hd,hl]
 simp only[Bool.false_eq_true,↓reduceIte,Bool.not_true,Bool.false_and]
 exact wpAny_pure h
theorem nextA {slot given:Nat}{Q:Option (Value×Nat)->Shared->Prop}(hS:s.heap.get? S=some ⟨.type "set",none,.set es ep t,#[]⟩) (hf:t.fits es.size=true) (hb:w.params.followText "set-order"=true)
  (h:Q (((pickOrder (w.params.setOrder S ep) es)[given]?).map fun e=>(e.2,slot)) s) :
  wpAny (model prog w) A (setNext S slot given ep) Q E s:=by
 rw[lB]
 refine wpAny_bind (wpAny_setState_of hS rfl hf (wpAny_bind (gP ?_)))
 rw[hb]
 simp only[bne_self_eq_false,Bool.false_eq_true,↓reduceIte]
 rw[qx]
 refine wpAny_bind (wpAny_bind (wpAny_setState_of hS rfl hf (wpAny_bind (gP ?_))))
 rw[hb]
 simp only[↓reduceIte]
 exact wpAny_bind (wpAny_askSetting (wpAny_pure (wpAny_pure h)))
theorem nq {slot i n:Nat}{x:Value}{slot':Nat}{Q:Option Value->Shared->Prop}(hI:s.heap.get? I=some (itO (.int slot 0) i S n ep)) (hS:s.heap.get? S=some ⟨.type "set",none,.set es ep t,#[]⟩) (hf:t.fits es.size=true) (hn:n=es.size)
  (hnx:∀ (A:Around) (E:Value->Shared->Prop) (Q:Option (Value×Nat)->Shared->Prop),Q (some (x,slot')) s->wpAny (model prog w) A (setNext S slot i ep) Q E s)
  (h:∀ h',h'.get? I=some (itO (.int slot' 0) (i+1) S n ep)->Heap.SameBut I s.heap h'->Q (some x) { s with heap:=h' }):wpAny (model prog w) A (pyNext (.ref I)) Q E s:=by
 unfold pyNext
 have ty:s.TypeIs (.ref I) "set_iterator":=⟨_,hI,rfl⟩
 refine wpAny_bind (wpAny_attempt (wpAny_callSpecial?_slot (name:=Str.ofString "__next__") ty slot_setit (wpAny_call_entry slot_setit ty dR ?_ (ff _))))
 unfold Builtin.«set_iterator.__next__»
 refine wpAny_bind (wpAny_pure ?_)
 dsimp only
 refine wpAny_bind (wpAny_fieldsOf hI rfl ?_)
 dsimp only
 refine wpAny_bind (wpAny_setEntries_of hS rfl hf ?_)
 subst hn
 simp only[bne_self_eq_false,Bool.false_eq_true,↓reduceIte]
 simp only[Int.toNat_natCast]
 refine wpAny_bind (hnx _ _ _ ?_)
 dsimp only
 refine wpAny_bind (wpAny_setField hI rfl (by show 0<5; decide) ?_)
 have g1:=Heap.get?_update_self (Obj.mapFields (·.setIfInBounds 0 (rawInt slot'))) hI rfl
 refine wpAny_bind (wpAny_setField g1 rfl (by show 1<5; decide) ?_)
 have g2:=Heap.get?_update_self (Obj.mapFields (·.setIfInBounds 1 (rawInt ((i:Int)+1)))) g1 rfl
 exact wpAny_pure ⟨x,rfl,wpAny_pure (h _ g2 ((Heap.SameBut.update ..).trans (Heap.SameBut.update ..)))⟩
theorem uc {Q:Option Value->Shared->Prop}{o:Obj}{vs:Array Value}(hh:A.handled=none) (hI:s.heap.get? I=some o) (hd:o.data=.fields vs) (hz:2<vs.size) (h:∀ h',Heap.ExtBut I s.heap h'->Q none { s with heap:=h' }) :
  wpAny (model prog w) A.in1 (do
    setField (Value.ref I) 2 Value.none
    let e <- newExc (Value.type "StopIteration") []
    raiseNew e)
   (fun fin s'=>∃ v,fin=Fin.done (Flow.ret v)/\wpAny (model prog w) A (pure (some v)) Q E s')
   (fun e s'=>wpAny (model prog w) A (do if <- isInstance e (Value.type "StopIteration") then pure none else throw e) Q E s') s:=by
 refine wpAny_bind (wpAny_setField hI hd hz (wpAny_bind ?_))
 simp only[newExc,newTuple]
 refine wpAny_bind (wpAny_newObj_type ?_ (by size_fits))
 refine wpAny_bind (m:=firstArgMember _ _) (wpAny_of_eq (a:=Value.none) (by first | rfl | (simp only[firstArgMember]; rfl)) ?_)
 refine wpAny_newObj_type ?_ (by size_fits)
 simp only[raiseNew]
 refine wpAny_bind (wpAny_handled ?_)
 rw[show A.in1.handled=none from hh]
 refine wpAny_bind (wpAny_pure (wpAny_throw ?_))
 refine wpAny_bind (wpAny_isInstance (T:="StopIteration") (b:=true) ⟨_,Heap.get?_push_size _ rfl,rfl⟩ isSubtype_stop ?_)
 simp only[↓reduceIte]
 refine wpAny_pure (h _ fun b ob hb q=>?_)
 exact Heap.get?_push_of_some _ (Heap.get?_push_of_some _ ((Heap.get?_update_other _ _ (Ne.symm hb)).trans q))
theorem pP {slot i n:Nat}{Q:Option Value->Shared->Prop}(hh:A.handled=none) (hI:s.heap.get? I=some (itO (.int slot 0) i S n ep)) (hS:s.heap.get? S=some ⟨.type "set",none,.set es ep t,#[]⟩) (hf:t.fits es.size=true) (hn:n=es.size)
  (hnx:∀ (A:Around) (E:Value->Shared->Prop) (Q:Option (Value×Nat)->Shared->Prop),Q none s->wpAny (model prog w) A (setNext S slot i ep) Q E s)
  (h:∀ h',Heap.ExtBut I s.heap h'->Q none { s with heap:=h' }):wpAny (model prog w) A (pyNext (.ref I)) Q E s:=by
 unfold pyNext
 have ty:s.TypeIs (.ref I) "set_iterator":=⟨_,hI,rfl⟩
 refine wpAny_bind (wpAny_attempt (wpAny_callSpecial?_slot (name:=Str.ofString "__next__") ty slot_setit (wpAny_call_entry slot_setit ty dR ?_ (ff _))))
 unfold Builtin.«set_iterator.__next__»
 refine wpAny_bind (wpAny_pure ?_)
 dsimp only
 refine wpAny_bind (wpAny_fieldsOf hI rfl ?_)
 dsimp only
 refine wpAny_bind (wpAny_setEntries_of hS rfl hf ?_)
 subst hn
 simp only[bne_self_eq_false,Bool.false_eq_true,↓reduceIte]
 simp only[Int.toNat_natCast]
 refine wpAny_bind (hnx _ _ _ ?_)
 exact uc hh hI rfl (by show 2<5; decide) h
theorem rX {T:Addr}{ot:Obj}{ps:Array Value}{i n p:Nat}{tk:Tok}{e:Int×Value}{Q:Option Value->Shared->Prop}(hI:s.heap.get? I=some (itO (.ref T) i S n ep)) (hS:s.heap.get? S=some ⟨.type "set",none,.set es ep t,#[]⟩) (hf:t.fits es.size=true) (hn:n=es.size)
  (hT:s.heap.get? T=some ot) (hd:∃ m,ot.data=.seq ps m) (hp:ps[i]?=some (.int p tk)) (he:es[p]?=some e)
  (h:∀ h',h'.get? I=some (itO (.ref T) (i+1) S n ep)->Heap.SameBut I s.heap h'->Q (some e.2) { s with heap:=h' }):wpAny (model prog w) A (pyNext (.ref I)) Q E s:=by
 unfold pyNext
 have ty:s.TypeIs (.ref I) "set_iterator":=⟨_,hI,rfl⟩
 refine wpAny_bind (wpAny_attempt (wpAny_callSpecial?_slot (name:=Str.ofString "__next__") ty slot_setit (wpAny_call_entry slot_setit ty dR ?_ (ff _))))
 unfold Builtin.«set_iterator.__next__»
 refine wpAny_bind (wpAny_pure ?_)
 dsimp only
 refine wpAny_bind (wpAny_fieldsOf hI rfl ?_)
 dsimp only
 refine wpAny_bind (wpAny_setEntries_of hS rfl hf ?_)
 subst hn
 simp only[bne_self_eq_false,Bool.false_eq_true,↓reduceIte]
 simp only[Int.toNat_natCast]
 obtain⟨m,hd⟩:=hd
 refine wpAny_bind (wpAny_seqItems hT hd ?_)
 dsimp only
 rw[hp]
 dsimp only
 unfold setNextDrawn
 refine wpAny_bind (wpAny_bind (wpAny_setState_of hS rfl hf ?_))
 simp only[bne_self_eq_false,Bool.false_eq_true,↓reduceIte,Int.toNat_natCast,he]
 refine wpAny_pure (wpAny_bind (wpAny_setField hI rfl (by show 1<5; decide) ?_))
 have g2:=Heap.get?_update_self (Obj.mapFields (·.setIfInBounds 1 (rawInt ((i:Int)+1)))) hI rfl
 exact wpAny_pure ⟨_,rfl,wpAny_pure (h _ g2 (Heap.SameBut.update ..))⟩
theorem draw_end {T:Addr}{ot:Obj}{ps:Array Value}{i n:Nat}{Q:Option Value->Shared->Prop}(hh:A.handled=none) (hI:s.heap.get? I=some (itO (.ref T) i S n ep)) (hS:s.heap.get? S=some ⟨.type "set",none,.set es ep t,#[]⟩) (hf:t.fits es.size=true) (hn:n=es.size)
  (hT:s.heap.get? T=some ot) (hd:∃ m,ot.data=.seq ps m) (hp:ps[i]?=none)
  (h:∀ h',Heap.ExtBut I s.heap h'->Q none { s with heap:=h' }):wpAny (model prog w) A (pyNext (.ref I)) Q E s:=by
 unfold pyNext
 have ty:s.TypeIs (.ref I) "set_iterator":=⟨_,hI,rfl⟩
 refine wpAny_bind (wpAny_attempt (wpAny_callSpecial?_slot (name:=Str.ofString "__next__") ty slot_setit (wpAny_call_entry slot_setit ty dR ?_ (ff _))))
 unfold Builtin.«set_iterator.__next__»
 refine wpAny_bind (wpAny_pure ?_)
 dsimp only
 refine wpAny_bind (wpAny_fieldsOf hI rfl ?_)
 dsimp only
 refine wpAny_bind (wpAny_setEntries_of hS rfl hf ?_)
 subst hn
 simp only[bne_self_eq_false,Bool.false_eq_true,↓reduceIte]
 simp only[Int.toNat_natCast]
 obtain⟨m,hd⟩:=hd
 refine wpAny_bind (wpAny_seqItems hT hd ?_)
 dsimp only
 rw[hp]
 dsimp only
 refine wpAny_bind (wpAny_setField hI rfl (by show 0<5; decide) ?_)
 have g1:=Heap.get?_update_self (Obj.mapFields (·.setIfInBounds 0 (rawInt 0))) hI rfl
 refine uc (s:={ s with heap:=s.heap.update I (Obj.mapFields (·.setIfInBounds 0 (rawInt 0))) }) hh g1 rfl (by show 2<5; decide) fun h' x=>h h' fun b o hb q=>x b o hb ((Heap.get?_update_other _ _ (Ne.symm hb)).trans q)
end
end Ow
namespace Ow
open PySem PySem.Spec PyProof.Rows L2
theorem eX:Slot "set_iterator" "__iter__" "set_iterator.__iter__" :=
 .of (owner:="set_iterator") (n:="__iter__") (by rw[typeLookup_type,builtinLookup_eq_fast]; kernel_rfl) (by decide +kernel) (by decide +kernel) (by decide +kernel) (by first | exact .inl (by decide +kernel) | exact .inr (by decide +kernel)) (by rw[isSubtype_type]; kernel_rfl)
theorem jK (a:Value):argsOk "set_iterator.__iter__" ⟨[a],[]⟩:=by unfold argsOk; kernel_rfl
theorem i3:entryFor table "set_iterator.__iter__"=some Builtin.«dict_keyiterator.__iter__» :=
 entryFor_alias (id':="dict_keyiterator.__iter__") (by kernel_rfl) rfl (by decide +kernel) (by kernel_rfl)
theorem iG {α:Type}:∀ (l:List α) (i:Nat) (h:i<l.length),List.Perm ([l[i]]++l.eraseIdx i) l
 | x::l,0,h=>.refl _
 | x::l,i+1,h=>(List.Perm.swap x _ _).trans (.cons x (iG l i (Nat.lt_of_succ_lt_succ h)))
theorem n8 {α:Type}(f:Nat->Nat):∀ (n k:Nat) (l:List α) (out:Array α),l.length=n->List.Perm (pickOrder.go f n k l out).toList (out.toList++l)
 | 0,k,l,out,h=>by
  obtain rfl:l=[]:=List.length_eq_zero_iff.mp h
  show List.Perm out.toList _
  rw[append_nil]
 | n+1,k,l,out,h=>by
  have hlt:f k%l.length<l.length:=Nat.mod_lt _ (by lia)
  unfold pickOrder.go
  rw[List.getElem?_eq_getElem hlt]
  dsimp only
  refine(n8 f n (k+1) (l.eraseIdx (f k%l.length)) (out.push l[f k%l.length]) (by rw[List.length_eraseIdx_of_lt hlt]; lia)).trans ?_
  rw[Array.toList_push,append_assoc]
  exact List.Perm.append_left _ (iG l _ hlt)
theorem fJ {α:Type}(f:Nat->Nat) (xs:Array α):List.Perm (pickOrder f xs).toList xs.toList:=by
 have z:=n8 f xs.size 0 xs.toList #[] (Array.length_toList)
 exact z
section
variable {prog:Program}{w:World}{A:Around}{E:Value->Shared->Prop}{s:Shared}{S I:Addr}{es:Array (Int×Value)}{ep:Nat}{t:SetTable}
theorem iC {first:Value}{i n:Nat}{Q:Value->Shared->Prop}(hI:s.heap.get? I=some (itO first i S n ep)) (h:Q (.ref I) s):wpAny (model prog w) A (pyIter (.ref I)) Q E s:=by
 have ty:s.TypeIs (.ref I) "set_iterator":=⟨_,hI,rfl⟩
 refine wpAny_pyIter_slot ty eX (wpAny_call_entry eX ty i3 ?_ (jK _))
 show wpAny _ _ (ret (.ref I)) _ _ s
 exact wpAny_pure ⟨_,rfl, "set_iterator",_,ty,slot_setit.lookup,h⟩
noncomputable abbrev stO (es:Array (Int×Value)) (ep:Nat) (t:SetTable):Obj:=⟨.type "set",none,.set es ep t,#[]⟩
theorem walkC (hh:A.handled=none) (hne:S≠I) (hf:t.fits es.size=true) (hb:w.params.followText "set-order"=false) (hd:(!t.plain&&decide (es.size > 1))=false) (hl:t.led=true) (R:Rise t.place) :
  Walks prog w A I [I,S] [I] es.size (fun i v=>(es.toList.map (·.2))[i]?=some v) (fun i h=>h.get? S=some (stO es ep t)/\∃ slot:Nat,h.get? I=some (itO (.int slot 0) i S es.size ep)/\(∀ k,k<i->t.place.getD k 0<slot)/\∀ k,i<=k->k<t.place.size->slot<=t.place.getD k 0):=by
 have hsz:t.place.size=es.size:=by
  simp only[SetTable.fits,Bool.and_eq_true,beq_iff_eq] at hf
  exact hf.1
 refine⟨fun b hb=>by simp at hb; simp[hb],fun i h h' ⟨g1,slot,g2,r⟩ k=>⟨k S (by simp) _ g1,slot,k I (by simp) _ g2,r⟩,fun i s Q E hi ⟨g1,slot,g2,r1,r2⟩ hQ=>?_,fun s Q E ⟨g1,slot,g2,r1,r2⟩ hQ=>?_,fun i s Q E ⟨g1,slot,g2,_⟩ hQ=>iC g2 hQ⟩
 ·have bl:SetTable.below t.place slot=i:=pM R (by lia) r1 r2
  have hj:t.place[i]?=some (t.place.getD i 0):=by
   rw[Array.getD_eq_getD_getElem?,Array.getElem?_eq_getElem (show i<t.place.size by lia)]
   rfl
  have he:es[i]?=some es[i]:=Array.getElem?_eq_getElem hi
  refine nq (x:=es[i].2) (slot':=t.place.getD i 0+1) g2 g1 hf rfl (fun A E Q q=>nextC (e:=es[i]) (j:=0) g1 hf hb hd hl (by rw[bl,he,hj]; exact q)) fun h' g3 sb=>hQ _ h' s.toks ?_ ⟨(sb.2 S hne).trans g1,_,g3,fun k hk=>?_,fun k h1 h2=>?_⟩ fun b o hb q=>(sb.2 b fun z=>hb (by simp[z])).trans q
  ·rw[List.getElem?_map,Array.getElem?_toList,he]
   rfl
  ·by_cases e:k=i
   ·rw[e]; exact lt_succ_self _
   ·have:=R k i (by lia) (by lia)
    lia
  ·exact R i k (by lia) h2
 ·have bl:SetTable.below t.place slot=es.size:=pM R (by lia) r1 r2
  refine pP hh g2 g1 hf rfl (fun A E Q q=>nextC (e:=(0,.none)) (j:=0) g1 hf hb hd hl (by rw[bl,Array.getElem?_eq_none (Nat.le_refl _)]; exact q)) fun h' ex=>hQ h' s.toks fun b o hb q=>ex b o (fun z=>hb (by simp[z])) q
theorem walkA (hh:A.handled=none) (hne:S≠I) (hf:t.fits es.size=true) (hb:w.params.followText "set-order"=true) :
  Walks prog w A I [I,S] [I] es.size (fun i v=>((pickOrder (w.params.setOrder S ep) es).toList.map (·.2))[i]?=some v) (fun i h=>h.get? S=some (stO es ep t)/\∃ slot:Nat,h.get? I=some (itO (.int slot 0) i S es.size ep)):=by
 have hsz:(pickOrder (w.params.setOrder S ep) es).size=es.size:=by
  rw[<- Array.length_toList,(fJ _ es).length_eq,Array.length_toList]
 refine⟨fun b hb=>by simp at hb; simp[hb],fun i h h' ⟨g1,slot,g2⟩ k=>⟨k S (by simp) _ g1,slot,k I (by simp) _ g2⟩,fun i s Q E hi ⟨g1,slot,g2⟩ hQ=>?_,fun s Q E ⟨g1,slot,g2⟩ hQ=>?_,fun i s Q E ⟨g1,slot,g2⟩ hQ=>iC g2 hQ⟩
 ·have he:(pickOrder (w.params.setOrder S ep) es)[i]?=some (pickOrder (w.params.setOrder S ep) es)[i]:=Array.getElem?_eq_getElem (by lia)
  refine nq (x:=(pickOrder (w.params.setOrder S ep) es)[i].2) (slot':=slot) g2 g1 hf rfl (fun A E Q q=>nextA g1 hf hb (by rw[he]; exact q)) fun h' g3 sb=>hQ _ h' s.toks ?_ ⟨(sb.2 S hne).trans g1,slot,g3⟩ fun b o hb q=>(sb.2 b fun z=>hb (by simp[z])).trans q
  rw[List.getElem?_map,Array.getElem?_toList,he]
  rfl
 ·refine pP hh g2 g1 hf rfl (fun A E Q q=>nextA g1 hf hb (by rw[Array.getElem?_eq_none (by lia)]; exact q)) fun h' ex=>hQ h' s.toks fun b o hb q=>ex b o (fun z=>hb (by simp[z])) q
theorem walkB {T:Addr}{ps:List Nat}{ot:Obj}(hh:A.handled=none) (hne:S≠I) (hnT:T≠I) (hf:t.fits es.size=true) (hd:∃ m,ot.data=.seq (ps.map fun i:Nat=>rawInt i).toArray m) (hp:List.Perm ps (List.range es.size)) :
  Walks prog w A I [I,S,T] [I] es.size (fun i v=>(ps.map fun p=>(es.getD p (0,.none)).2)[i]?=some v) (fun i h=>h.get? S=some (stO es ep t)/\h.get? T=some ot/\h.get? I=some (itO (.ref T) i S es.size ep)):=by
 have hlen:ps.length=es.size:=by rw[hp.length_eq,length_range]
 refine⟨fun b hb=>by simp at hb; simp[hb],fun i h h' ⟨g1,g2,g3⟩ k=>⟨k S (by simp) _ g1,k T (by simp) _ g2,k I (by simp) _ g3⟩,fun i s Q E hi ⟨g1,g2,g3⟩ hQ=>?_,fun s Q E ⟨g1,g2,g3⟩ hQ=>?_,fun i s Q E ⟨g1,g2,g3⟩ hQ=>iC g3 hQ⟩
 ·have hi':i<ps.length:=by lia
  have hpi:ps[i]<es.size:=List.mem_range.mp (hp.mem_iff.mp (getElem_mem hi'))
  have he:es[ps[i]]?=some es[ps[i]]:=Array.getElem?_eq_getElem hpi
  refine rX (p:=ps[i]) (tk:=0) (e:=es[ps[i]]) g3 g1 hf rfl g2 hd (by rw[List.getElem?_toArray,List.getElem?_map,List.getElem?_eq_getElem hi']; rfl) he fun h' g4 sb=>hQ _ h' s.toks ?_ ⟨(sb.2 S hne).trans g1,(sb.2 T hnT).trans g2,g4⟩ fun b o hb q=>(sb.2 b fun z=>hb (by simp[z])).trans q
  rw[List.getElem?_map,List.getElem?_eq_getElem hi']
  show some (es.getD ps[i] (0,.none)).2=some es[ps[i]].2
  rw[Array.getD_eq_getD_getElem?,he]
  rfl
 ·refine draw_end hh g3 g1 hf rfl g2 hd (by rw[List.getElem?_toArray,List.getElem?_eq_none (by rw[length_map]; lia)]) fun h' ex=>hQ h' s.toks fun b o hb q=>ex b o (fun z=>hb (by simp[z])) q
theorem qD (es:Array (Int×Value)):(List.range es.size).map (fun p=>(es.getD p (0,.none)).2)=es.toList.map (·.2):=by
 refine List.ext_getElem (by simp) fun i h1 h2=>?_
 have hi:i<es.size:=by simpa using h1
 simp[Array.getD_eq_getD_getElem?,Array.getElem?_eq_getElem hi]
theorem fH {α:Type}{Q:List α->Shared->Prop}:∀ (n:Nat) (xs:List α) (s:Shared),xs.length=n->(∀ ys d,List.Perm ys xs->Q ys { s with drawn:=d })->wpAny (model prog w) A (drawOrder n xs) Q E s
 | 0,xs,s,h,k=>by
  obtain rfl:xs=[]:=List.length_eq_zero_iff.mp h
  exact wpAny_pure (k [] s.drawn (.refl _))
 | n+1,[],s,h,k=>by cases h
 | n+1,x::xs,s,h,k=>by
  unfold drawOrder
  refine wpAny_bind fun Γ p hΓ=>?_
  show Sem.wp _ _ (Sem.choose .order (x::xs).length Sem.pure) _ _ _ _
  rw[Sem.wp_choose]
  refine⟨by rw[length_cons]; lia,?_⟩
  generalize hc:(model prog w).w.draws .order (s.drawn.get .order)%(x::xs).length=c
  have hlt:c<(x::xs).length:=by rw[<- hc]; exact Nat.mod_lt _ (by rw[length_cons]; lia)
  have k2:wpAny (model prog w) A (do
    match (x::xs)[c]? with
    | some x1=>return x1::(<- drawOrder n ((x::xs).eraseIdx c))
    | none=>unsupported "internal:drawOrder") Q E { s with drawn:=s.drawn.bump .order }:=by
   rw[List.getElem?_eq_getElem hlt]
   refine wpAny_bind (fH n _ _ (by rw[List.length_eraseIdx_of_lt hlt]; lia) fun ys d pm=>wpAny_pure (k _ d ?_))
   exact(List.Perm.cons _ pm).trans (iG (x::xs) c hlt)
  rw[Sem.wp_pure]
  exact k2
end
end Ow
namespace Ow
open PySem PySem.Spec PyProof.Rows L2
theorem fN:Slot "set" "__iter__" "set.__iter__" :=
 .of (owner:="set") (n:="__iter__") (by rw[typeLookup_type,builtinLookup_eq_fast]; kernel_rfl) (by decide +kernel) (by decide +kernel) (by decide +kernel) (by first | exact .inl (by decide +kernel) | exact .inr (by decide +kernel)) (by rw[isSubtype_type]; kernel_rfl)
theorem kt (a:Value):argsOk "set.__iter__" ⟨[a],[]⟩:=by unfold argsOk; kernel_rfl
theorem jN:entryFor table "set.__iter__"=some Builtin.«frozenset.__iter__»:=entryFor_alias (id':="frozenset.__iter__") (by kernel_rfl) rfl (by decide +kernel) (by kernel_rfl)
theorem pu (a:Addr):setDrawn a=(do
  let (es,_,t) <- setState a
  let byText <- setsByText
  return !byText&&(!t.plain&&es.size > 1)):=rfl
theorem j7 (a:Addr):setEpoch a=(do return (<- setState a).2.1):=rfl
def Yields (es:Array (Int×Value)) (vs:List Value):Prop:=List.Perm vs (es.toList.map (·.2))
section
variable {prog:Program}{w:World}{A:Around}{E:Value->Shared->Prop}{s:Shared}{S:Addr}{es:Array (Int×Value)}{ep:Nat}{t:SetTable}
theorem iter_set {A':Around}{Q:Value->Shared->Prop}(hh:A'.handled=none) (hS:s.heap.get? S=some (stO es ep t)) (hf:t.fits es.size=true) (hzz:es.size<scanBound) (hled:w.params.followText "set-order"=false->t.led=true) (hg:Good t)
  (k:∀ (I:Addr) (s':Shared) (vs:List Value) (fp:List Addr) (St:Nat->Heap->Prop),s'.gens=s.gens->s'.os=s.os->s'.toks=s.toks->(∀ b o,s.heap.get? b=some o->s'.heap.get? b=some o)->s.heap.objs.size<=I->(∀ b∈fp,b<s'.heap.objs.size/\(b=S\/s.heap.objs.size<=b))->I∈fp ->
   Yields es vs->Walks prog w A' I fp [I] es.size (fun i v=>vs[i]?=some v) St->St 0 s'.heap->Q (.ref I) s') :
  wpAny (model prog w) A (pyIter (.ref S)) Q E s:=by
 have ty:s.TypeIs (.ref S) "set":=⟨_,hS,rfl⟩
 have lS:S<s.heap.objs.size:=Heap.lt_size hS
 refine wpAny_pyIter_slot ty fN (wpAny_call_entry fN ty jN ?_ (kt _))
 unfold Builtin.«frozenset.__iter__» Builtin.Frozenset.slot0 Builtin.Frozenset.sizeOf
 refine wpAny_bind (wpAny_pure (wpAny_bind (wpAny_bind (wpAny_setEntries_of hS rfl hf (wpAny_pure ?_)))))
 rw[pu]
 refine wpAny_bind (wpAny_bind (wpAny_setState_of hS rfl hf (wpAny_bind (gP (wpAny_pure ?_)))))
 by_cases hdr:(!w.params.followText "set-order"&&(!t.plain&&decide (es.size > 1)))=true
 ·rw[if_pos hdr]
  refine wpAny_bind (fH es.size (List.range es.size) s (length_range ..) fun ps d pm=>?_)
  have hbt:w.params.followText "set-order"=false:=by
   cases z:w.params.followText "set-order" with
   | false=>rfl
   | true=>rw[z] at hdr; cases hdr
  refine wpAny_bind (wpAny_newTuple ?_ (by rw[length_map,pm.length_eq,length_range]; exact fits_of_scanBound hzz))
  dsimp only
  generalize hot:({ cls:=.type "tuple",data:=.seq (ps.map fun i:Nat=>rawInt i).toArray }:Obj)=ot
  have gT:(s.heap.push ot).get? s.heap.objs.size=some ot:=Heap.get?_push_size _ (by rw[<- hot]; rfl)
  have gS1:(s.heap.push ot).get? S=some (stO es ep t):=Heap.get?_push_of_some _ hS
  rw[j7]
  refine wpAny_bind (wpAny_bind (wpAny_setState_of gS1 rfl hf (wpAny_pure ?_)))
  refine wpAny_bind (wpAny_newObj_type (wpAny_pure ?_))
  have gI:((s.heap.push ot).push (itO (.ref s.heap.objs.size) 0 S es.size ep)).get? (s.heap.push ot).objs.size=some (itO (.ref s.heap.objs.size) 0 S es.size ep):=Heap.get?_push_size _ rfl
  refine⟨_,rfl, "set_iterator",_,⟨_,gI,rfl⟩,slot_setit.lookup,?_⟩
  have lI:(s.heap.push ot).objs.size=s.heap.objs.size+1:=Heap.size_push _ _
  refine k _ _ (ps.map fun p=>(es.getD p (0,.none)).2) [(s.heap.push ot).objs.size,S,s.heap.objs.size] _ rfl rfl rfl (fun b o q=>Heap.get?_push_of_some _ (Heap.get?_push_of_some _ q)) (by rw[lI]; exact le_succ _) (fun b hb=>?_) (mem_cons_self ..) ?_
   (walkB hh (by rw[lI]; exact Nat.ne_of_lt (lt_succ_of_lt lS)) (by rw[lI]; exact Nat.ne_of_lt (lt_succ_self _)) hf (ot:=ot) (by rw[<- hot]; exact⟨_,rfl⟩) pm) ⟨Heap.get?_push_of_some _ gS1,Heap.get?_push_of_some _ gT,gI⟩
  ·show b<((s.heap.push ot).push _).objs.size/\_
   rw[Heap.size_push,lI]
   rcases List.mem_cons.mp hb with z | hb
   ·rw[z,lI]; exact⟨lt_succ_self _,.inr (le_succ _)⟩
   rcases List.mem_cons.mp hb with z | hb
   ·rw[z]; exact⟨lt_succ_of_lt (lt_succ_of_lt lS),.inl rfl⟩
   ·rw[mem_singleton] at hb
    rw[hb]; exact⟨lt_succ_of_lt (lt_succ_self _),.inr (Nat.le_refl _)⟩
  ·show List.Perm _ _
   rw[<- qD]
   exact pm.map _
 ·rw[if_neg hdr]
  refine wpAny_bind (wpAny_pure ?_)
  rw[j7]
  refine wpAny_bind (wpAny_bind (wpAny_setState_of hS rfl hf (wpAny_pure ?_)))
  refine wpAny_bind (wpAny_newObj_type (wpAny_pure ?_))
  have gI:(s.heap.push (itO (.int 0 0) 0 S es.size ep)).get? s.heap.objs.size=some (itO (.int 0 0) 0 S es.size ep):=Heap.get?_push_size _ rfl
  refine⟨_,rfl, "set_iterator",_,⟨_,gI,rfl⟩,slot_setit.lookup,?_⟩
  have nI:S≠s.heap.objs.size:=Nat.ne_of_lt lS
  have fpO:∀ b∈[s.heap.objs.size,S],b<(s.heap.push (itO (.int 0 0) 0 S es.size ep)).objs.size/\(b=S\/s.heap.objs.size<=b):=fun b hb=>by
   rw[Heap.size_push]
   rcases List.mem_cons.mp hb with z | hb
   ·rw[z]; exact⟨lt_succ_self _,.inr (Nat.le_refl _)⟩
   ·rw[mem_singleton] at hb
    rw[hb]; exact⟨lt_succ_of_lt lS,.inl rfl⟩
  cases hbt:w.params.followText "set-order" with
  | true =>
   exact k _ _ ((pickOrder (w.params.setOrder S ep) es).toList.map (fun e:Int×Value=>e.2)) [s.heap.objs.size,S] _ rfl rfl rfl (fun b o q=>Heap.get?_push_of_some _ q) (Nat.le_refl _) fpO (mem_cons_self ..) ((fJ _ es).map _) (walkA hh nI hf hbt) ⟨Heap.get?_push_of_some _ hS,0,gI⟩
  | false =>
   rw[hbt] at hdr
   have hd:(!t.plain&&decide (es.size > 1))=false:=by
    cases z:(!t.plain&&decide (es.size > 1)) with
    | false=>rfl
    | true=>rw[z] at hdr; exact absurd rfl hdr
   have R:Rise t.place:=by
    cases hp:t.plain with
    | true=>exact hg hp
    | false =>
     rw[hp] at hd
     have h1:¬ es.size > 1:=by simpa using hd
     have hsz:t.place.size=es.size:=by
      simp only[SetTable.fits,Bool.and_eq_true,beq_iff_eq] at hf
      exact hf.1
     intro i j hij hj
     lia
   exact k _ _ (es.toList.map (fun e:Int×Value=>e.2)) [s.heap.objs.size,S] _ rfl rfl rfl (fun b o q=>Heap.get?_push_of_some _ q) (Nat.le_refl _) fpO (mem_cons_self ..) (List.Perm.refl _) (walkC hh nI hf hbt hd (hled hbt) R) ⟨Heap.get?_push_of_some _ hS,0,gI,(fun k hk=>absurd hk (Nat.not_lt_zero _)),fun k _ _=>zero_le _⟩
end
end Ow
namespace Ow
open PySem PySem.Spec PyProof.Rows L2
noncomputable abbrev eL:Obj:={ cls:=.type "list",data:=.seq ([]:List Value).toArray }
section
variable {prog:Program}{w:World}{A:Around}{E:Value->Shared->Prop}{s:Shared}{S:Addr}{es:Array (Int×Value)}{ep:Nat}{t:SetTable}
theorem hint_set {Q:Bool->Shared->Prop}(hS:s.heap.get? S=some (stO es ep t)) (h:Q false s):wpAny (model prog w) A (Builtin.List.listLengthHint (.ref S)) Q E s:=by
 have ty:s.TypeIs (.ref S) "set":=⟨_,hS,rfl⟩
 unfold Builtin.List.listLengthHint
 refine wpAny_bind (wpAny_specialOf ty PySem.F.slot_set_len.lookup ?_)
 (generalize hid:("set.__len__":String)=id0; (fail_if_success (clear hid id0)); wp_delta; rw[show splitId id0=some ("set","__len__") from by subst hid; decide +kernel]; subst hid)
 refine wpAny_bind (wpAny_isInstance (b:=true) ty (by rw[isSubtype_type]; kernel_rfl) ?_)
 simp only[Bool.not_true,Bool.false_eq_true,if_false]
 rw[if_pos (by decide +kernel)]
 exact wpAny_bind (wpAny_typeOf ty (wpAny_pure h))
theorem o6 {Q:List Value->Shared->Prop}(hh:A.handled=none) (hS:s.heap.get? S=some (stO es ep t)) (hf:t.fits es.size=true) (hz:es.size<scanBound) (hled:w.params.followText "set-order"=false->t.led=true) (hg:Good t)
  (k:∀ (s':Shared) (acc:List Value),s'.gens=s.gens->s'.os=s.os->s.toks<=s'.toks->s.heap.objs.size<s'.heap.objs.size->(∀ b o,s.heap.get? b=some o->s'.heap.get? b=some o)->Yields es acc->Q acc s'):wpAny (model prog w) A (collect (.ref S)) Q E s:=by
 have lS:S<s.heap.objs.size:=Heap.lt_size hS
 unfold collect
 refine wpAny_bind (wpAny_runValue (codeAny_builtin F.entry_proto_collect ?_))
 rw[Around.under_plainId F.plain_proto_collect _]
 show wpAny _ A.in1 (newList [] >>= fun l=>again (.builtin "list.__iadd__" ⟨[l,.ref S],[]⟩)) _ _ s
 refine wpAny_bind (wpAny_newObj_type (wpAny_pure ⟨plainId_quiet F.plain_list_iadd _,codeAny_builtin F.entry_list_iadd ?_⟩))
 rw[Around.under_plainId F.plain_list_iadd _]
 have gL:(s.heap.push eL).get? s.heap.objs.size=some eL:=Heap.get?_push_size _ rfl
 have gS:(s.heap.push eL).get? S=some (stO es ep t):=Heap.get?_push_of_some _ hS
 have n1:Builtin.List.listSameRef (.ref s.heap.objs.size) (.ref S)=false:=by
  unfold Builtin.List.listSameRef
  exact beq_eq_false_iff_ne.mpr (Nat.ne_of_gt lS)
 show wpAny _ A.in1 (Builtin.List.listExtendWith (.ref s.heap.objs.size) (.ref S) (.ref s.heap.objs.size)) _ _ _
 unfold Builtin.List.listExtendWith
 refine wpAny_bind (wpAny_typeOf (T:="set") ⟨_,gS,rfl⟩ ?_)
 rw[if_neg (by rw[n1]; decide)]
 refine wpAny_bind (iter_set (A':=A.in1) hh gS hf hz hled hg fun I s1 vs fp St e1 e2 e3 kp le fpO If Y W st=>?_)
 have gS1:s1.heap.get? S=some (stO es ep t):=kp _ _ gS
 have gL1:s1.heap.get? s.heap.objs.size=some eL:=kp _ _ gL
 refine wpAny_bind (wpAny_holding (hint_set gS1 ?_))
 dsimp only
 rw[if_pos (by decide +kernel)]
 have lL:s.heap.objs.size∉fp:=fun z=>by
  rcases(fpO _ z).2 with q | q
  ·exact absurd q.symm (Nat.ne_of_lt lS)
  ·dsimp only at q
   rw[Heap.size_push] at q
   exact absurd q (Nat.not_succ_le_self _)
 refine wpAny_bind (wpAny_rule (wpAny_bind ?_))
 show wpAny _ A.in1 (updateSeq s.heap.objs.size (·.push .none) >>= fun _=>updateSeq s.heap.objs.size (·.pop)) _ _ _
 refine wpAny_bind (wpAny_updateSeq gL1 rfl ?_)
 have g2:=Heap.get?_update_self (Obj.mapSeq (·.push Value.none)) gL1 rfl
 refine wpAny_updateSeq g2 rfl ?_
 have g3:=Heap.get?_update_self (Obj.mapSeq (·.pop)) g2 rfl
 have oth:∀ b o,b≠s.heap.objs.size->s1.heap.get? b=some o->((s1.heap.update s.heap.objs.size (Obj.mapSeq (·.push Value.none))).update s.heap.objs.size (Obj.mapSeq (·.pop))).get? b=some o :=
  fun b o hb q=>(Heap.get?_update_other _ _ (Ne.symm hb)).trans ((Heap.get?_update_other _ _ (Ne.symm hb)).trans q)
 have W':=W.toS
 refine wpAny_pure ⟨plainId_quiet F.plain_extend_loop _,codeAny_extend_loopS W' (fits_of_scanBound hz) _ lL _ es.size 0 _ _ _ rfl (zero_le _)
  (W.frame 0 s1.heap _ st fun b hb o q=>oth b o (fun z=>lL (z ▸ hb)) q) g3 (ItemsOf.nil _) fun s' acc c' m gA it=>?_⟩
 show wpAny _ A (load s.heap.objs.size >>= _) _ _ s'
 refine wpAny_bind (wpAny_load gA (wpAny_pure (k s' acc.toList (m.gens.trans e1) (m.os.trans e2) (by have:=m.toks; have e3':s1.toks=s.toks:=e3; rw[<- e3']; exact this) (Heap.lt_size gA) (fun b o q=>?_) ?_)))
 ·have lb:=Heap.lt_size q
  refine m.heap b o (fun z=>?_) (oth b o (Nat.ne_of_lt lb) (kp b o (Heap.get?_push_of_some _ q)))
  rcases List.mem_cons.mp z with z | z
  ·exact absurd z (Nat.ne_of_lt lb)
  ·rw[mem_singleton] at z
   have le':s.heap.objs.size+1<=I:=by
    have q2:=le
    dsimp only at q2
    rw[Heap.size_push] at q2
    exact q2
   rw[z] at lb
   exact absurd (Nat.lt_of_lt_of_le lb (Nat.le_of_succ_le le')) (lt_irrefl _)
 ·have e4:acc.toList=vs:=by
   have lv:vs.length=es.size:=by rw[Y.length_eq,length_map,Array.length_toList]
   refine List.ext_getElem (by rw[Array.length_toList,it.1,lv]) fun i h1 h2=>?_
   have z:vs[i]?=some acc.toList[i]:=it.2 i acc.toList[i] (by rw[<- Array.getElem?_toList]; exact List.getElem?_eq_getElem h1)
   rw[List.getElem?_eq_getElem h2] at z
   exact(Option.some.inj z).symm
  rw[e4]
  exact Y
end
end Ow
namespace Ow
open PySem PySem.Spec PyProof.Rows L2
def intOf:Value->Int | .int k _=>k | _=>0
theorem ut:∀ {l:List Value},(∀ v∈l,∃ k tk,v=Value.int k tk)->IntsAre l (l.map intOf)
 | [],_=>.nil
 | v::r,h=>by
  obtain⟨k,tk,rfl⟩:=h v (mem_cons_self ..)
  exact .cons k tk (ut fun v hv=>h v (mem_cons_of_mem _ hv))
section
variable {prog:Program}{w:World}{A:Around}{E:Value->Shared->Prop}{s:Shared}{S:Addr}{o:Obj}{ks:List Int}
theorem oF {Q:Value->Shared->Prop}(hh:A.handled=none) (hS:s.heap.get? S=some o) (SI:SetI w o ks) (h64:ks.length<64)
  (k:∀ (p:Addr) (s':Shared) (out:List Value) (ns:List Int) (n:Nat),s'.gens=s.gens->s'.os=s.os->(∀ b u,s.heap.get? b=some u->s'.heap.get? b=some u)->s.heap.objs.size<=p->s'.heap.get? p=some (seqObj "list" out.toArray n)->IntsAre out ns->ns.Perm ks->ns.Pairwise (·<=·)->Q (.ref p) s') :
  wpAny (model prog w) A (call (.builtin "sorted") [.ref S]) Q E s:=by
 obtain⟨es,ep,t,rfl,al,rfl,nd,hz,hf,led,gd⟩:=SI
 refine Calls.call_function_entry kind_sorted plain_sorted entry_sorted (args_sorted1 _) ?_
 unfold Builtin.«sorted»
 refine wpAny_bind (m:=checkCount "sorted" 1 1 _) (wpAny_pure (wpAny_bind (o6 (A:=A.in1) hh hS hf hz led gd fun s1 acc e1 e2 e3 lt kp Y=>?_)))
 have ai:∀ v∈acc,∃ k tk,v=Value.int k tk:=fun v hv=>by
  obtain⟨e,he,rfl⟩:=List.mem_map.mp (Y.mem_iff.mp hv)
  obtain⟨k,tk,rfl⟩:=al e he
  exact⟨k,tk,rfl⟩
 have la:acc.length=es.size:=by rw[Y.length_eq,length_map,Array.length_toList]
 have l64:acc.length<64:=by rw[la]; rw[length_map,Array.length_toList] at h64; exact h64
 refine wpAny_bind (wpAny_newList ?_ (by rw[sizeLine_eq]; lia))
 have gL:(s1.heap.push (seqObj "list" acc.toArray 0)).get? s1.heap.objs.size=some (seqObj "list" acc.toArray 0):=Heap.get?_push_size _ rfl
 refine wpAny_bind (wpAny_holding (wpAny_call_entry slot_list_sort ⟨_,gL,rfl⟩ entry_list_sort (list_sort_tree gL (ut ai) l64 fun out ns a1 a2 a3=>⟨_,rfl,?_⟩) (args_list_sort _)))
 obtain⟨m,gO⟩:∃ m,(sortedHeap (s1.heap.push (seqObj "list" acc.toArray 0)) s1.heap.objs.size acc out).get? s1.heap.objs.size=some (seqObj "list" out m):=sortedHeap_at gL
 have lt1:s.heap.objs.size<=s1.heap.objs.size:=Nat.le_of_lt lt
 refine wpAny_pure ⟨_,rfl,k _ _ out.toList ns m e1 e2 (fun b u q=>?_) lt1 ?_ a1 (a2.trans ?_) a3⟩
 ·have q1:=kp b u q
  exact(sortedHeap_old (Nat.ne_of_lt (Heap.lt_size q1)) (by rw[size_push']; exact lt_succ_of_lt (Heap.lt_size q1))).trans (Heap.get?_push_of_some _ q1)
 ·exact gO
 ·have z:=Y.map intOf
  rw[map_map] at z
  refine z.trans (List.Perm.of_eq (List.map_congr_left fun e he=>?_))
  obtain⟨k,tk,rfl⟩:=al e he
  rfl
end
def sI (w:World) (p:Addr) (ns:List Int):HO:=.ext fun h=>∃ o ks,h.get? p=some o/\SetI w o ks/\(∀ x,x∈ks ↔ x∈ns)/\ks.length<=ns.length
theorem dF:∀ {ns:List Int}{us:List Value},Vals (ns.map V.int) us->IntsAre us ns
 | [],us,r=>by cases r; exact .nil
 | n::ns,us,r=>by
  cases r with
  | cons h r =>
   obtain⟨t,rfl⟩:=h
   exact .cons n t (dF r)
theorem n5 {us:List Value}{ns:List Int}(h:IntsAre us ns):Vals (ns.map V.int) us:=by
 induction h with
 | nil=>exact .nil
 | cons n t _ ih=>exact .cons ⟨t,rfl⟩ ih
theorem mem_getD {ns:List Int}{x:Int}:(∃ j,j<ns.length/\ns.getD j 0=x) ↔ x∈ns:=by
 constructor
 ·rintro ⟨j,hj,rfl⟩
  rw[getD_eq_getElem?_getD,List.getElem?_eq_getElem hj]
  exact getElem_mem hj
 ·intro h
  obtain⟨j,hj,rfl⟩:=List.mem_iff_getElem.mp h
  exact⟨j,hj,by rw[getD_eq_getElem?_getD,List.getElem?_eq_getElem hj]; rfl⟩
theorem qg {X:Cx}(hh:X.A.handled=none):fP X (.type "set") (fun xs H Q=>∃ (l:Addr) (ns:List Int),xs=[.ref l]/\SqL X.K H l (ns.map V.int)/\ns.length<1000/\∀ p,H p=none->Q (.ref p) (upd H p (sI X.w p ns))):=by
 intro pins s σ H xs us Q I r h
 obtain⟨l,ns,rfl,hl,hn,k⟩:=h
 obtain⟨u,rfl,ru⟩:=r.one
 cases (show u=Value.ref l from ru)
 obtain⟨its,rv,pl,_⟩:=I.list hl
 have hi:=dF rv
 have le:its.length=ns.length:=by have:=rv.length; rw[length_map] at this; exact this.symm
 refine sV hh pl.isList (by simpa using hi) (by rw[size_toArray,le]; unfold scanBound; lia) fun h' tk U kp=>?_
 obtain⟨o,ks,go,SI,lk,mem⟩:=U
 rw[size_toArray,le] at lk
 have ok:ObjOk X.prog X.w (upd H s.heap.objs.size (sI X.w s.heap.objs.size ns)) h' s.heap.objs.size (sI X.w s.heap.objs.size ns) :=
  ⟨⟨o,ks,go,SI,fun x=>by rw[mem x,size_toArray,le]; exact mem_getD,lk⟩,⟨o,go⟩,fun h1 h2 ⟨o1,k1,g1,r1⟩ q=>⟨o1,k1,q _ g1,r1⟩⟩
 exact⟨.ref s.heap.objs.size,_,I.laid (fun b u q=>kp b u (Heap.lt_size q) q) (Nat.le_refl _) ok,rfl,k _ (I.hok.fresh (Nat.le_refl _))⟩
theorem strict {ns:List Int}(h:ns.Pairwise (·<=·)) (nd:ns.Nodup):ns.Pairwise (·<·):=by
 refine(h.and nd).imp fun {a b} ⟨h1,h2⟩=>?_
 exact Int.lt_iff_le_and_ne.mpr ⟨h1,h2⟩
theorem eV {X:Cx}(hh:X.A.handled=none):fP X (.builtin "sorted") (fun xs H Q=>∃ (p:Addr) (ns:List Int),xs=[.ref p]/\H p=some (sI X.w p ns)/\ns.length<64/\∀ (q:Addr) (zs:List Int),H q=none->zs.Pairwise (·<·)->(∀ x,x∈zs ↔ x∈ns)->Q (.ref q) (upd H q (.lst (zs.map V.int)))):=by
 intro pins s σ H xs us Q I r h
 obtain⟨p,ns,rfl,hp,hn,k⟩:=h
 obtain⟨u,rfl,ru⟩:=r.one
 cases (show u=Value.ref p from ru)
 obtain⟨⟨o,ks,go,SI,mem,lk⟩,_⟩:=I.hok p _ hp
 have nd:ks.Nodup:=by
  obtain⟨_,_,_,_,_,_,nd,_⟩:=SI
  exact nd
 refine oF hh go SI (by lia) fun q s' out zs n e1 e2 kp le gq iz pm pw=>?_
 have fr:H q=none:=I.hok.fresh le
 have hb:AllBare s'.gens:=by rw[e1]; exact I.bare
 have lz:zs.length=ks.length:=pm.length_eq
 have I2:=I.call' (H':=upd H q (.lst (zs.map V.int))) (s':=s') (ch:=[]) e2 (Un.laid kp le fr) (I.hok.laid kp le ⟨by rw[length_map,sizeLine_eq]; lia,out,n,n5 iz,gq⟩) hb fun b z=>nomatch z
 exact⟨.ref q,_,I2,rfl,k q zs fr (strict pw (pm.nodup_iff.mpr nd)) fun x=>by rw[pm.mem_iff,mem x]⟩
theorem ee {X:Cx}:fP X (.builtin "sorted") (fun xs H Q=>∃ (p:Addr) (ns:List Int),xs=[.ref p]/\SqL X.K H p (ns.map V.int)/\ns.length<64/\∀ (q:Addr) (zs:List Int),H q=none->zs.Pairwise (·<=·)->zs.Perm ns->Q (.ref q) (upd H q (.lst (zs.map V.int)))):=by
 intro pins s σ H xs us Q I r h
 obtain⟨p,ns,rfl,hp,hn,k⟩:=h
 obtain⟨u,rfl,ru⟩:=r.one
 cases (show u=Value.ref p from ru)
 obtain⟨its,rv,pl,_⟩:=I.list hp
 have hi:=dF rv
 have le:its.length=ns.length:=by have:=rv.length; rw[length_map] at this; exact this.symm
 refine sorted_ints pl.isList hi (by lia) fun out zs iz pm pw=>?_
 obtain⟨n,gq⟩:=sortedAll_at s.heap its out
 have lz:zs.length=ns.length:=pm.length_eq
 have fr:H (s.heap.objs.size+1)=none:=I.hok.fresh (le_succ _)
 have I2:=I.laid (a:=s.heap.objs.size+1) (o:=.lst (zs.map V.int)) (h':=sortedAll s.heap its out) (t':=s.toks) (fun b u q=>sortedAll_old q) (le_succ _) ⟨by rw[length_map,sizeLine_eq]; lia,out.toList,n,n5 iz,gq⟩
 exact⟨.ref _,_,I2,rfl,k _ zs fr pw pm⟩
end Ow
namespace L2
open PySem PySem.Spec PyProof.Rows
noncomputable def pC (X:Cx) (N:List Str) (qual:Str) (scope:Scope) (f:Addr) (cd:Value) (cl:List (Str×Addr)) (s:Shared) (H:Hp):Cx where
 prog:=X.prog
 w:=X.w
 K:=X.K
 mg:=X.mg
 base:=X.base
 A:=X.A.deeper (PySem.W.envX qual scope s.heap.objs.size f cd cl)
 N:=N
 s₀:=s
 H₀:=H
 env:=PySem.W.envX qual scope s.heap.objs.size f cd cl
 outer:=X.stack
 stack:=PySem.W.envX qual scope s.heap.objs.size f cd cl::X.stack
 ex:=[]
 calm:=true
 fn:=fun _=>false
 pn:=[]
 xe:=fun _ _=>False
structure Cells (h:Heap) (H:Hp) (fs:List Addr) (cl:List (Str×Addr)) (ns:List Str) (vals:List V):Prop where
 all:∀ x c,cl.lookup x=some c->H c=none/\c∉fs/\∃ v,h.IsCell c v
 inj:∀ x y c,cl.lookup x=some c->cl.lookup y=some c->x=y
 val:∀ (i:Nat) y v,ns[i]?=some y->vals[i]?=some v->∃ c u,cl.lookup y=some c/\RelV v u/\h.IsCell c (some u)
section
variable {X:Cx}{pins:List (Addr×Obj)}{σ:St}{H:Hp}{s:Shared}{cl:List (Str×Addr)}{ns:List Str}{vals:List V}
theorem Cells.keep (C:Cells X.s₀.heap X.H₀ X.fs cl ns vals) (I:Inv X pins σ H s) (hex:X.ex=[]):Cells s.heap H (frs X.stack) cl ns vals:=by
 have one:∀ x c v,cl.lookup x=some c->X.s₀.heap.IsCell c v->s.heap.IsCell c v:=fun x c v e ⟨o,ho,hd⟩ =>
  ⟨o,I.base.keep c o ho (C.all x c e).1 (C.all x c e).2.1 (by rw[hex]; simp),hd⟩
 refine⟨fun x c e=>?_,C.inj,fun i y v e1 e2=>?_⟩
 ·obtain⟨h1,h2,v,hv⟩:=C.all x c e
  obtain⟨o,ho,hd⟩:=id hv
  refine⟨I.base.free c o ho h1 (by rw[hex]; simp),fun z=>?_,v,one x c v e hv⟩
  rcases List.mem_cons.mp (I.stkSub c z) with z | z
  ·have:=hv.lt
   have h3:=I.ok.above
   rw[<- z] at h3
   exact absurd this (Nat.not_lt.mpr h3)
  ·exact h2 z
 ·obtain⟨c,u,l,r,hv⟩:=C.val i y v e1 e2
  exact⟨c,u,l,r,one y c _ l hv⟩
theorem inv_lam {qual:Str}{scope:Scope}{f:Addr}{cd:Value}{x:Str}{v:V}{u:Value}{h₁:Heap}{t':Nat}{fs:List Addr}(I:Inv X pins σ H s) (hc:X.calm=true)
  (hkind:scope.kind=.function) (hx:scope.names.lookup x=some .local) (hns:∀ y∈ns,scope.names.lookup y=some .free)
  (hfree:∀ y,(scope.names.lookup y=some .cell\/scope.names.lookup y=some .free)->∃ c,cl.lookup y=some c)
  (C:Cells s.heap H fs cl ns vals) (hl:vals.length=ns.length) (r:RelV v u)
  (n1:h₁.Ns s.heap.objs.size (fun y=>[(x,u)].reverse.lookup y)) (hk:∀ b o,s.heap.get? b=some o->h₁.get? b=some o) :
  Inv (pC X (x::ns) qual scope f cd cl s H) [] (some v::vals.map some) H { s with heap:=h₁,toks:=t' }:=by
 have noA:∀ b:Addr,b∉(pC X (x::ns) qual scope f cd cl s H).ex:=fun b z=>absurd (show b∈([]:List Addr) from z) (by simp)
 refine⟨⟨I.ok.mod,hkind,rfl,rfl,Nat.le_refl _,C.inj,fun y hy=>hfree y hy,fun y c z _=>(nomatch z),fun _=>I.ok.hd hc,Around.frames_deeper I.ok.frames,.inr ⟨rfl,rfl⟩,fun b z=>absurd z (noA b),I.bs,Nat.le_trans I.ok.bsz I.sz,fun b _ _=>noA b,fun b z=>absurd z (noA b),I.stack,I.stkFree⟩,
  rfl,I.bare,Un.kept hk,⟨_,n1,fun i y w h1 h2 h3=>?_⟩,fun y c h=>?_,I.hok.fresh (Nat.le_refl _),fun y c h=>(C.all y c h).1,fun p hp=>absurd (show p∈([]:List (Addr×Obj)) from hp) (by simp),I.hok.kept hk,?_⟩
 ·cases i with
  | zero =>
   have e1:x=y:=by simpa [pC] using h1
   have e2:v=w:=by simpa using h2
   subst e1 e2
   exact⟨u,r,.inl ⟨hx,by simp⟩⟩
  | succ i =>
   have e1:ns[i]?=some y:=by simpa [pC] using h1
   have e2:vals[i]?=some w:=by
    rw[List.getElem?_cons_succ,List.getElem?_map] at h2
    cases q:vals[i]? with
    | none=>rw[q] at h2; cases h2
    | some z=>rw[q] at h2; cases h2; rfl
   obtain⟨c,u',l,r',hv⟩:=C.val i y w e1 e2
   exact⟨u',r',.inr ⟨.inr (hns y (mem_of_getElem? e1)),c,l,hv.keeps hk⟩⟩
 ·obtain⟨_,_,w,hv⟩:=C.all y c h
  exact⟨w,hv.keeps hk⟩
 ·show (some v::vals.map some).length=(x::ns).length
  simp[hl]
theorem rY {name qual:Str}{params:Arguments}{body:Expr}{scope:Scope}{f c':Addr}{pm ctv:Value}{x:Str}{v:V}{u:Value}{Q:VK}{te:TE}{fs:List Addr}{k:Nat}(I:Inv X pins σ H s) (hc:X.calm=true) (hr:Room k X.A)
  (ho:s.heap.get? f=some (PySem.W.kla_obj name qual params body scope cl pm c' ctv)) (hcd:s.heap.CodeRec (.ref c') qual)
  (hbind:bindArgs (PySem.W.kla_fn name qual params body scope cl pm (.ref c') ctv) ⟨[u],[]⟩=pure [(x,u)])
  (hco:scope.isCoroutine=false) (hgen:scope.isGenerator=false) (hcell:∀ y∈scope.names,y.2≠.cell)
  (hkind:scope.kind=.function) (hx:scope.names.lookup x=some .local) (hns:∀ y∈ns,scope.names.lookup y=some .free)
  (hfree:∀ y,(scope.names.lookup y=some .cell\/scope.names.lookup y=some .free)->∃ c,cl.lookup y=some c)
  (C:Cells s.heap H fs cl ns vals) (hl:vals.length=ns.length) (r:RelV v u)
  (hb:PE (pC X (x::ns) qual scope f (.ref c') cl s H) body te) (hq:te (some v::vals.map some) H Q) :
  wpAny (model X.prog X.w) X.A (call (.ref f) [u]) (EP X pins σ Q) X.xe s:=by
 have run:codeAny (model X.prog X.w) X.A (.call (.ref f) ⟨[u],[]⟩) (CR CX0 X.stack X.prog X.w H s Q E0) s:=by
  refine PySem.W.kla_callFunE hr.depth ho rfl hco hgen rfl hcd ?_
  rw[hbind]
  refine wpAny_pure (wpAny_newFunctionEnv hcell (fun y hy=>?_) (fun h₁ n1 hsb=>?_) hkind)
  ·have e:y=(x,u):=by simpa using hy
   rw[e]; exact hx
  ·have hk₁:∀ b o,s.heap.get? b=some o->h₁.get? b=some o:=fun b o e=>hsb.extBut b o (Nat.ne_of_lt (Heap.lt_size e)) (Heap.get?_push_of_some _ e)
   refine⟨I.nolimit.keeps hk₁,?_⟩
   show codeAny _ _ (.expr body (PySem.W.envX qual scope s.heap.objs.size f (.ref c') cl)) _ _
   have J:=inv_lam (qual:=qual) (f:=f) (cd:=.ref c') (t':=s.toks+1) I hc hkind hx hns hfree C hl r n1 hk₁
   refine PySem.W.kla_codeExpr (wpAny_mono (hb [] _ _ H Q J hq) (fun z s' hz=>?_) fun e s' z=>z.elim)
   obtain⟨v',H',J',rv,q⟩:=hz
   exact⟨v',H',J'.os,J'.bare,J'.base,J'.hok,rv,q⟩
 refine wpAny_call (codeAny_mono run fun r s' hq=>?_)
 cases r with
 | error e=>exact False.elim hq
 | ok fl =>
  cases fl with
  | ret u=>exact I.after hq
  | next=>exact False.elim hq
  | brk=>exact False.elim hq
  | cont=>exact False.elim hq
end
def Clo (name qual:Str) (params:Arguments) (body:Expr) (scope:Scope) (cl:List (Str×Addr)) (H:Hp) (f:Addr):Prop :=
 ∃ (pm:Value) (c':Addr) (ctv:Value),H f=some (.ext fun h=>h.get? f=some (PySem.W.kla_obj name qual params body scope cl pm c' ctv))/\H c'=some (.ext fun h=>h.CodeRec (.ref c') qual)
theorem Clo.mono {name qual:Str}{params:Arguments}{body:Expr}{scope:Scope}{cl:List (Str×Addr)}{H H':Hp}{f:Addr}(c:Clo name qual params body scope cl H f) (h:∀ a u,H a=some u->H' a=some u):Clo name qual params body scope cl H' f :=
 let ⟨pm,c',ctv,e1,e2⟩:=c; ⟨pm,c',ctv,h _ _ e1,h _ _ e2⟩
def tCallV (name qual:Str) (params:Arguments) (body:Expr) (scope:Scope) (cl:List (Str×Addr)) (vals:List V) (te:TE) (i:Nat) (ta:TE):TE:=fun σ H Q =>
 ∃ f,σ[i]?=some (some (.ref f))/\Clo name qual params body scope cl H f/\ta σ H fun v H1=>Clo name qual params body scope cl H1 f/\te (some v::vals.map some) H1 Q
section
variable {X:Cx}
theorem pO {name qual:Str}{params:Arguments}{body:Expr}{scope:Scope}{cl:List (Str×Addr)}{ns:List Str}{vals:List V}{te ta:TE}{i k:Nat}{y x:Str}{p pos:Pos}{e:Expr}(hc:X.calm=true) (hex:X.ex=[]) (hr:Room k X.A)
  (hN:X.N[i]?=some y) (hv:Vis X.env.scope y) (C:Cells X.s₀.heap X.H₀ X.fs cl ns vals) (hl:vals.length=ns.length)
  (hbind:∀ (pm ctv:Value) (c':Addr) (u:Value),bindArgs (PySem.W.kla_fn name qual params body scope cl pm (.ref c') ctv) ⟨[u],[]⟩=pure [(x,u)])
  (hco:scope.isCoroutine=false) (hgen:scope.isGenerator=false) (hcell:∀ y∈scope.names,y.2≠.cell)
  (hkind:scope.kind=.function) (hx:scope.names.lookup x=some .local) (hns:∀ y∈ns,scope.names.lookup y=some .free)
  (hfree:∀ y,(scope.names.lookup y=some .cell\/scope.names.lookup y=some .free)->∃ c,cl.lookup y=some c)
  (ha:PE X e ta) (hb:∀ f c' s H,PE (pC X (x::ns) qual scope f (.ref c') cl s H) body te)
  (hd:(y == ("__debug__":Str))=false:=by decide) (hcd:(y == ("__classdict__":Str))=false:=by decide) (he:starEach [e] X.env=(false,eval e X.env)::starEach [] X.env:=by rfl) (hpl:(backTo pos (starEach [] X.env)).any (·.1)=false:=by rfl) :
  PE X (.Call (.Name y p) [e] [] pos) (tCallV name qual params body scope cl vals te i ta):=by
 intro pins s σ H Q I h
 obtain⟨f,hi,c0,h⟩:=h
 have atF:∀ {H:Hp} {s:Shared},Inv X pins σ H s->Clo name qual params body scope cl H f->PySem.W.FnAt f s.heap:=fun J ⟨pm,c',ctv,e1,e2⟩=>by
  obtain⟨z,_⟩:=J.hok f _ e1
  exact⟨_,_,_,_,z⟩
 refine wpAny_Call_Name_kw (thn (pe_var (pos:=p) hN hv hd hcd pins s σ H (fun v H1=>v=.ref f/\H1=H) I ⟨.ref f,hi,rfl,rfl⟩) fun u s1 ⟨v,H1,I1,rv,hv1⟩=>?_)
 obtain⟨rfl,rfl⟩:=hv1
 obtain rfl:u=Value.ref f:=rv
 refine PySem.W.callWith_F (first:=[]) (atF I1 c0) (thn ((aa ha ah he) pos pins s1 σ _ (fun vs H2=>match vs with | [v]=>Clo name qual params body scope cl H2 f/\te (some v::vals.map some) H2 Q | _=>False) I1 h) fun us s2 ⟨vs,H2,I2,rv,q2⟩=>?_) he hpl
 match vs,us,rv,q2 with
 | [v],_,.cons (b:=u) r1 .nil,q2 =>
  obtain⟨c2,q2⟩:=q2
  refine⟨atF I2 c2,?_⟩
  obtain⟨pm,c',ctv,e1,e2⟩:=c2
  obtain⟨z1,_⟩:=I2.hok f _ e1
  obtain⟨z2,_⟩:=I2.hok c' _ e2
  exact rY I2 hc hr z1 z2 (hbind pm ctv c' u) hco hgen hcell hkind hx hns hfree (C.keep I2 hex) hl r1 (hb f c' s2 H2) q2
end
structure FnOkS (P:Program) (w:World) (K:Frag) (mg:Str->Option Value) (base:Heap) (CX:CXT) (k:Nat) (f:Addr) (fd:FuncData) (ps:List Str) (sp:List Env->Shared->Sp):Prop where
 len:∀ o s vs H Q E,sp o s vs H Q E->vs.length=ps.length
 run:∀ (A:Around) (outer:List Env) (s:Shared) (H:Hp) (args:Args) (us:List Value) (vs:List V) (Q:VK) (E:XK),Room k A->Env0 P w K mg base A outer s H->BindsTo s fd args (ps.zip us)->Vals vs us->sp outer s vs H Q E ->
  codeAny (model P w) A (.call (.ref f) args) (CR CX outer P w H s Q E) s
theorem Fun.okS {P:Program}{w:World}{K:Frag}{mg:Str->Option Value}{base:Heap}{x qual:Str}{st:Stmt}{f:Addr}{fd:FuncData}{N ps:List Str}{k:Nat}{sp:List Env->Shared->Sp}(F:Fun K x qual st f fd) (S:FnScope N ps (ak st)) (len:∀ o s vs H Q E,sp o s vs H Q E->vs.length=ps.length)
  (hbody:∀ (cdv:Value) (A:Around) (outer:List Env) (s:Shared) (H:Hp) (vs:List V) (Q:VK) (E:XK),Room k (A.deeper (envOfC qual (ak st) s.heap.objs.size f cdv))->sp outer s vs H Q E ->
   ∃ t,PSs (mS CX0 P w K mg base N qual (ak st) f cdv A outer s H E).nox (bH st) t/\t { nx:=fun _ H'=>Q .non H',rt:=Q } (iY N vs) H):FnOkS P w K mg base CX0 (k+1) f fd ps sp:=by
 obtain⟨oc,od,kV,doc,pm,an,cdv,ct,osl,rfl,lk,hcd⟩:=F.ex
 refine⟨len,fun A outer s H args us vs Q E hr e0 hb r hsp=>?_⟩
 have one:FnOk P w K mg base CX0 (k+1) f (fnOf x qual (cW st) (bH st) (ak st) .none kV doc pm an cdv ct) ps (fun vs' H' Q' E'=>sp outer s vs' H' Q' E'/\vs'=vs/\H'=H)->codeAny (model P w) A (.call (.ref f) args) (CR CX0 outer P w H s Q E) s:=fun G=>G.run A outer s H args us vs Q E hr e0 hb r ⟨hsp,rfl,rfl⟩
 have hl:=len _ _ _ _ _ _ hsp
 have KX:K.In s.heap:=e0.mod.kin.keeps fun b o e=>(e0.bs b o e).1
 have lim:s.heap.NoLimit:=e0.mod.nolimit.keeps fun b o e=>(e0.bs b o e).1
 have hkind:∀ y∈ps.zip us,(ak st).names.lookup y.1=some .local\/((ak st).names.lookup y.1=some .cell/\((cellsFrom (s.heap.objs.size+1) (ak st).names []).lookup y.1).isSome=true):=fun ⟨n,v⟩ hy=>by
  rcases S.par n (List.of_mem_zip hy).1 with q | q
  ·exact .inl q
  ·exact .inr ⟨q,PySem.W.cellsFrom_some _ _ _ (.inl q)⟩
 refine codeAny_call_function hr.depth (KX _ _ lk) rfl S.co S.gen rfl (PySem.W.codeRec_of KX hcd) (hb _ _ _ _ ?_)
 refine wpAny_newFunctionEnv_cells S.kind hkind fun env he s1 y=>?_
 subst he
 refine⟨lim.keeps y.toInCall.keep,codeAny_func ?_⟩
 obtain⟨t,ht,hq⟩:=hbody cdv A outer s H vs Q E (hr.deeper _) hsp
 have I:Inv (mS CX0 P w K mg base N qual (ak st) f cdv A outer s H E) [] (iY N vs) H s1:=nO S hr.hd e0 hl r y
 refine wpAny_mono (ht.nox [] s1 (iY N vs) H _ I hq) (fun fl s' hs=>?_) fun e s' hs=>hs
 have fin:∀ {σ':St} {H':Hp} {v:V} {u:Value},Inv (mS CX0 P w K mg base N qual (ak st) f cdv A outer s H E) [] σ' H' s'->RelV v u->Q v H'->CE outer P w H s Q u s' :=
  fun {σ' H' v u} J rv q=>⟨v,H',J.os,J.bare,J.base,J.hok,rv,q⟩
 cases fl with
 | ret u =>
  obtain⟨v,σ',H',J,rv,q⟩:=hs
  exact fin J rv q
 | next =>
  obtain⟨σ',H',J,q⟩:=hs
  exact fin (v:=V.non) (u:=Value.none) J rfl q
 | brk =>
  obtain⟨_,_,_,q⟩:=hs
  exact False.elim q
 | cont =>
  obtain⟨_,_,_,q⟩:=hs
  exact False.elim q
structure HasS (P:Program) (w:World) (K:Frag) (mg:Str->Option Value) (base:Heap) (k:Nat) (x:Str) (ps:List Str) (sp:List Env->Shared->Sp):Prop where
 ex:∃ (f:Addr) (fd:FuncData),FnOkS P w K mg base CX0 k f fd ps sp/\Binds K fd ps []/\keepIn K (.ref f)=true/\mg x=some (.ref f)
def tCallS (R:St->List V->Hp->VK->Prop) (t:TA):TE:=fun σ H Q=>t σ H fun vs H1=>R σ vs H1 Q
section
variable {X:Cx}
theorem pe_fnS {k:Nat}{x:Str}{ps:List Str}{sp:List Env->Shared->Sp}{R:St->List V->Hp->VK->Prop}{p pos:Pos}{e:Expr}{es:List Expr}{t:TA}(h:HasS X.prog X.w X.K X.mg X.base k x ps sp) (hr:Room k X.A) (hg:Gl X x) (ha:PA X (e::es) t)
  (hR:∀ pins σ H s vs Q,Inv X pins σ H s->R σ vs H Q->sp X.stack s vs H Q E0)
  (hdb:(x == ("__debug__":Str))=false:=by decide) (he:starEach (e::es) X.env=(false,eval e X.env)::starEach es X.env:=by rfl) (hpl:(backTo pos (starEach es X.env)).any (·.1)=false:=by rfl) :
  PE X (.Call (.Name x p) (e::es) [] pos) (tCallS R t):=by
 obtain⟨f,fd,F,hb,hk,hm⟩:=h.ex
 intro pins s σ H Q I h
 refine wpAny_Call_Name_kw (j9 I hg hm ?_ hdb)
 refine PySem.W.callWith_K (h₀:=X.base) I.ok.mod.kin hk (thn (ha pos pins s σ H _ I h) fun us s1 ⟨vs,H1,I1,r,q⟩=>⟨I1.kIn,?_⟩) he hpl
 have hsp:=hR pins σ H1 s1 vs Q I1 q
 have hl:us.length=ps.length:=by rw[<- r.length]; exact F.len _ _ _ _ _ _ hsp
 have hb':=hb s1 us I1.kIn (by rw[append_nil]; exact hl)
 rw[append_nil] at hb'
 refine wpAny_call (codeAny_mono (F.run X.A X.stack s1 H1 ⟨us,[]⟩ us vs Q E0 hr I1.env0 hb' r hsp) fun r s' hq=>?_)
 cases r with
 | error e=>exact False.elim hq
 | ok fl =>
  cases fl with
  | ret u=>exact I1.after hq
  | next=>exact False.elim hq
  | brk=>exact False.elim hq
  | cont=>exact False.elim hq
end
theorem iR {pos:Pos}{c:Value}:∀ (l:List Value),TriplesOk l->TriplesOk (l++[rawInt pos.line,rawInt pos.col,c])
 | [],_=>trivial
 | .int _ _::.int _ _::_::r,h=>iR (pos:=pos) (c:=c) r h
structure LamBase (mg:Str->Option Value) (base:Heap) (c P:Addr):Prop where
 code:PySem.W.CodeHd base c P
 bm:∃ bm ob,mg "__builtins__"=some (.ref bm)/\bm≠builtinsNs/\base.get? bm=some ob/\ob.cls=.type "module"/\ob.dict=some builtinsNs/\ob.data=.plain
section
variable {X:Cx}
end
theorem tJ {P:Program}{w:World}{K:Frag}{mg mb:Str->Option Value}{CX:CXT}{k:Nat}{fa a:Addr}{fd:FuncData}{x:Str}{sp:Sp}{s₁:Shared}{vs:List Value}{ns:List Int}{tabs:List (Addr×Addr)}
  (KX:K.In s₁.heap) (hns:s₁.heap.Ns mainGlobals mg) (hb:s₁.heap.Ns builtinsNs mb) (hbb:∀ x:Str,x≠"__name__"->mb x=bootBuiltins x) (hlim:s₁.heap.NoLimit) (hg:s₁.gens=#[])
  (hbm:∃ bm ob,mg "__builtins__"=some (.ref bm)/\bm≠builtinsNs/\s₁.heap.get? bm=some ob/\ob.cls=.type "module"/\ob.dict=some builtinsNs/\ob.data=.plain)
  (hT:PySem.W.TabsAt tabs s₁.heap) (hTK:∀ q∈tabs,K.lookup q.2=none)
  (ha:s₁.heap.get? a=some { cls:=.type "list",data:=.seq vs.toArray }) (hi:IntsAre vs ns) (hl:ns.length<=sizeLine) (hr:Room k callerA)
  (F:∀ base:Heap,K.In base->base.Ns mainGlobals mg->(∀ q∈tabs,LamBase mg base q.1 q.2)->FnOk P w K mg base CX k fa fd [x] sp) (hbind:∀ (s:Shared) (u:Value),BindsTo s fd ⟨[u],[]⟩ [(x,u)])
  (hsp:∀ H:Hp,(∀ q∈tabs,H q.2=some (.tbl #[]))->SqL K H a (ns.map V.int)->sp [.ref a] H (fun v _=>v=.bl true) fun _ _ _=>False)
  (hCX:∀ H e s',CX [] H s₁ (fun _ _ _=>False) e s'->False) :
  codeAny (model P w) callerA (.call (.ref fa) ⟨[.ref a],[]⟩) (fun r s'=>r=.ok (.ret (.bool true))/\OldK s₁.heap s'.heap/\s'.os=s₁.os/\AllBare s'.gens) s₁:=by
 have rv:=dF hi
 have lenV:=hi.length
 have tabAt:∀ b,b∈tabs.map (·.2)->∃ q∈tabs,q.2=b/\s₁.heap.get? b=some (PySem.W.tabObj #[]):=fun b hb=>by
  obtain⟨q,hq,rfl⟩:=List.mem_map.mp hb
  exact⟨q,hq,rfl,(hT q hq).2⟩
 have aT:a∉tabs.map (·.2):=fun z=>by
  obtain⟨_,_,_,e⟩:=tabAt a z
  rw[ha] at e
  have e':=congrArg Obj.data (Option.some.inj e)
  have e2:Data.seq vs.toArray _=Data.fields #[]:=e'
  cases e2
 have core:∀ H:Hp,(∀ b,H b=none\/(b=a/\∃ xs,H b=some (.frz { cls:=.type "list",data:=.seq vs.toArray } (.lst xs)))\/(b∈tabs.map (·.2)/\H b=some (.tbl #[])))->(∀ b∈tabs.map (·.2),H b=some (.tbl #[]))->SqL K H a (ns.map V.int)->HOk P w H s₁.heap->(H a≠none->K.lookup a=none) ->
   codeAny (model P w) callerA (.call (.ref fa) ⟨[.ref a],[]⟩) (fun r s'=>r=.ok (.ret (.bool true))/\OldK s₁.heap s'.heap/\s'.os=s₁.os/\AllBare s'.gens) s₁:=by
  intro H hO hTb hS hok hK
  have base_of:∀ {b:Addr} {o:Obj},s₁.heap.get? b=some o->H b=none->(hidT s₁.heap H).get? b=some o:=fun e n=>hidT_get e n
  have noA:∀ {b:Addr} {o:Obj},s₁.heap.get? b=some o->(o.data≠.seq vs.toArray)->o.cls≠.none->H b=none:=fun {b o} e d c=>by
   rcases hO b with z | ⟨z,_⟩ | ⟨z,_⟩
   ·exact z
   ·rw[z,ha] at e; cases e; exact absurd rfl d
   ·obtain⟨_,_,_,e2⟩:=tabAt b z
    rw[e] at e2; cases e2; exact absurd rfl c
  have noD:∀ {b:Addr} {o:Obj} {es:Array DictEntry} {ep:Nat},s₁.heap.get? b=some o->o.data=.dict es ep->H b=none:=fun {b o es ep} e d=>by
   rcases hO b with z | ⟨z,_⟩ | ⟨z,_⟩
   ·exact z
   ·rw[z,ha] at e; cases e
    have d':Data.seq vs.toArray _=Data.dict es ep:=d
    cases d'
   ·obtain⟨_,_,_,e2⟩:=tabAt b z
    rw[e] at e2; cases e2; cases d
  have nsK:∀ {b:Addr} {m:Str->Option Value},s₁.heap.Ns b m->(hidT s₁.heap H).Ns b m:=fun {b m} ⟨o,es,ep,e,d,r⟩=>⟨o,es,ep,base_of e (noD e d),d,r⟩
  have hKb:K.In (hidT s₁.heap H):=fun b o e=>base_of (KX b o e) (by
   rcases hO b with z | ⟨z,xs,z2⟩ | ⟨z,z2⟩
   ·exact z
   ·rw[z,hK (by rw[<- z,z2]; simp)] at e; cases e
   ·obtain⟨q,hq,hqb,_⟩:=tabAt b z
    rw[<- hqb,hTK q hq] at e; cases e)
  have hM:Mod K mg (hidT s₁.heap H):=⟨hKb,nsK hns,⟨mb,nsK hb,hbb⟩,let ⟨mc,h1,h2⟩:=hlim; ⟨mc,nsK h1,h2⟩⟩
  have hLB:∀ q∈tabs,LamBase mg (hidT s₁.heap H) q.1 q.2:=fun q hq=>by
   refine⟨?_,?_⟩
   ·obtain⟨o,us,file,tf,flags,tg,inF,text,tt,e,e2,e3,r⟩:=(hT q hq).1
    refine⟨o,us,file,tf,flags,tg,inF,text,tt,base_of e (noA e (by rw[e3]; nofun) (by rw[e2]; nofun)),e2,e3,r⟩
   ·obtain⟨bm,ob,b1,b2,b3,b4,b5,b6⟩:=hbm
    exact⟨bm,ob,b1,b2,base_of b3 (noA b3 (by rw[b6]; nofun) (by rw[b4]; nofun)),b4,b5,b6⟩
  have e0:Env0 P w K mg (hidT s₁.heap H) callerA [] s₁ H:=⟨rfl,hM,fun b o e=>of_hidT e,Nat.le_of_eq (tF _ _),trivial,fun b hb=>absurd (show b∈([]:List Addr) from hb) (by simp),hok,.of_eq hg⟩
  refine codeAny_mono ((F _ hKb (nsK hns) hLB).run callerA [] s₁ H ⟨[.ref a],[]⟩ [.ref a] [.ref a] _ _ hr e0 (hbind s₁ (.ref a)) (.cons rfl .nil) (hsp H (fun q hq=>hTb _ (List.mem_map_of_mem hq)) hS)) fun r s' h=>?_
  cases r with
  | error e=>exact(hCX H e s' h).elim
  | ok fl =>
   cases fl with
   | next=>exact False.elim h
   | brk=>exact False.elim h
   | cont=>exact False.elim h
   | ret u =>
    obtain⟨v,H',os,bare,un,hok',r',q⟩:=h
    have q':v=.bl true:=q
    subst q'
    obtain rfl:u=Value.bool true:=r'
    have key:∀ b o,s₁.heap.get? b=some o->asItWas s₁.heap s'.heap b o/\∃ o',s'.heap.get? b=some o':=fun b o e=>by
     rcases hO b with z | ⟨z,xs,z2⟩ | ⟨z,z2⟩
     ·have e1:=un.keep b o e z (by intro z; exact absurd (show b∈([]:List Addr) from z) (by simp)) (by simp)
      exact⟨.inl e1,o,e1⟩
     ·have z3:=un.frzs b _ _ z2
      obtain⟨e1,_⟩:=hok b _ z2
      obtain⟨e2,_⟩:=hok' b _ z3
      rw[e] at e1; cases e1
      exact⟨.inl e2,_,e2⟩
     ·obtain⟨q,hq,rfl,e1⟩:=tabAt b z
      rw[e] at e1; cases e1
      obtain⟨more,z3⟩:=un.tbls _ _ z2
      have e2:s'.heap.get? q.2=some (PySem.W.tabObj (#[]++more)):=hok' _ _ z3
      exact⟨.inr (.inl ⟨((hT q hq).1.tab (hT q hq).2).isCodeTable,rfl,#[],more,rfl,e2⟩),_,e2⟩
    exact⟨rfl,⟨fun b o e=>(key b o e).1,fun b o e=>(key b o e).2⟩,os,bare⟩
 have tbOk:∀ (H:Hp) (b:Addr),b∈tabs.map (·.2)->ObjOk P w H s₁.heap b (.tbl #[]):=fun H b hb=>by
  obtain⟨_,_,_,e⟩:=tabAt b hb
  exact e
 have dec:∀ b,Decidable (b∈tabs.map (·.2)):=fun b=>inferInstance
 cases hk:K.lookup a with
 | some o =>
  have e:=KX a o hk
  rw[ha] at e
  cases e
  refine core (fun b=>if b∈tabs.map (·.2) then some (.tbl #[]) else none) (fun b=>?_) (fun b hb=>if_pos hb) (.inr ⟨_,vs.toArray,_,hk,rfl,rfl,rfl,by rw[size_toArray,lenV]; exact hl,by simpa using rv⟩) (fun b u z=>?_) fun z=>absurd (if_neg aT) z
  ·by_cases hb:b∈tabs.map (·.2)
   ·exact .inr (.inr ⟨hb,if_pos hb⟩)
   ·exact .inl (if_neg hb)
  ·by_cases hb:b∈tabs.map (·.2)
   ·have z':=(if_pos hb).symm.trans z
    cases z'
    exact tbOk _ b hb
   ·have z':=(if_neg hb).symm.trans z
    cases z'
 | none =>
  have eA:(if a=a then some (HO.frz { cls:=.type "list",data:=.seq vs.toArray } (.lst (ns.map V.int))) else if a∈tabs.map (·.2) then some (.tbl #[]) else none)=some (HO.frz { cls:=.type "list",data:=.seq vs.toArray } (.lst (ns.map V.int))):=if_pos rfl
  refine core (fun b=>if b=a then some (.frz { cls:=.type "list",data:=.seq vs.toArray } (.lst (ns.map V.int))) else if b∈tabs.map (·.2) then some (.tbl #[]) else none) (fun b=>?_) (fun b hb=>?_) (.inl (.inr ⟨{ cls:=.type "list",data:=.seq vs.toArray },if_pos rfl⟩)) (fun b u z=>?_) fun _=>hk
  ·by_cases hb:b=a
   ·exact .inr (.inl ⟨hb,_,if_pos hb⟩)
   ·by_cases hb2:b∈tabs.map (·.2)
    ·exact .inr (.inr ⟨hb2,(if_neg hb).trans (if_pos hb2)⟩)
    ·exact .inl ((if_neg hb).trans (if_neg hb2))
  ·exact(if_neg fun z=>aT (by rw[<- z]; exact hb)).trans (if_pos hb)
  ·by_cases hb:b=a
   ·have z':=(if_pos hb).symm.trans z
    cases z'
    subst hb
    exact⟨ha,by rw[length_map]; exact hl,vs,_,rv,ha⟩
   ·have z':=(if_neg hb).symm.trans z
    by_cases hb2:b∈tabs.map (·.2)
    ·have z'':=(if_pos hb2).symm.trans z'
     cases z''
     exact tbOk _ b hb2
    ·have z'':=(if_neg hb2).symm.trans z'
     cases z''
theorem walk_ofT {l:PySem.W.OpenLaw}{n k:Nat}{q:Program}{loose:List Str}{XP:(Str->Option Value)->Heap->Prop}{YP:World->Heap->Prop}{d:DefRec}{K:Params->Frag}{CX:World->CXT}{sp:World->Sp}{x:Str}(tabs:List (Addr×Addr))
  (hn:l.most=some n) (hn2:n<=sizeLine) (hdf:d.params.defaults=[]) (hr:Room k callerA)
  (hY:∀ (w:World) (h:Heap),YP w h->(K w.params).In h)
  (hT:∀ (w:World) (lo:List Str) (mean:ExcName->Option Value) (mg mb:Str->Option Value) (h:Heap),Top q lo mean mg mb h->(K w.params).In h->PySem.W.TabsAt tabs h)
  (hTK:∀ w:World,∀ t∈tabs,(K w.params).lookup t.2=none)
  (F:∀ (w:World) (mg:Str->Option Value) (fa:Addr) (h:Heap),(K w.params).In h->h.Ns mainGlobals mg->mg d.name=some (.ref fa) ->
   ∃ fd:FuncData,(∀ (s:Shared) (u:Value),BindsTo s fd ⟨[u],[]⟩ [(x,u)]) /\
    ∀ base:Heap,(K w.params).In base->base.Ns mainGlobals mg->(∀ t∈tabs,LamBase mg base t.1 t.2)->FnOk l.prog w (K w.params) mg base (CX w) k fa fd [x] (sp w))
  (hsp:∀ (w:World) (H:Hp) (a:Addr) (ns:List Int),ns.length<=n->(∀ t∈tabs,H t.2=some (.tbl #[]))->SqL (K w.params) H a (ns.map V.int)->sp w [.ref a] H (fun v _=>v=.bl true) fun _ _ _=>False)
  (hCX:∀ (w:World) (H:Hp) (s:Shared) (e:Value) (s':Shared),CX w [] H s (fun _ _ _=>False) e s'->False) :
  PySem.W.WalkO q loose XP YP l.row.toRowW d [] (fun f vs=>PySem.call f vs):=by
 refine Att.attach_call hn hdf fun w s₀ s₁ mg mb fa o pm cd doc a vs ns G Y ho hd hcd hmg hobj hints hlen hg=>?_
 have KX:=hY w _ Y
 obtain⟨fd,hb,hF⟩:=F w mg fa _ KX G.T.g hmg
 exact tJ KX G.T.g G.T.b G.T.builtins G.T.nolimit hg G.T.bmain (hT w _ _ mg mb _ G.T KX) (hTK w) hobj hints (Nat.le_trans hlen hn2) hr hF hb (fun H hO hS=>hsp w H a ns hlen hO hS) fun H e s'=>hCX w H s₁ e s'
theorem Fun.okC {P:Program}{w:World}{K:Frag}{mg:Str->Option Value}{base:Heap}{x qual:Str}{st:Stmt}{f c:Addr}{fd:FuncData}{N ps:List Str}{k:Nat}{sp:Sp}(F:Fun K x qual st f fd) (hc:fd.code=.ref c) (S:FnScope N ps (ak st)) (len:∀ vs H Q E,sp vs H Q E->vs.length=ps.length)
  (hbody:∀ (A:Around) (outer:List Env) (s:Shared) (H:Hp) (vs:List V) (Q:VK) (E:XK),Room k (A.deeper (envOfC qual (ak st) s.heap.objs.size f (.ref c)))->sp vs H Q E ->
   ∃ t,PSs (mS CX0 P w K mg base N qual (ak st) f (.ref c) A outer s H E).nox (bH st) t/\t { nx:=fun _ H'=>Q .non H',rt:=Q } (iY N vs) H):FnOk P w K mg base CX0 (k+1) f fd ps sp:=by
 obtain⟨oc,od,kV,doc,pm,an,cdv,ct,osl,rfl,lk,hcd⟩:=F.ex
 obtain rfl:cdv=.ref c:=hc
 refine fn_of lk hcd S len fun A outer s H vs Q E hr hsp=>?_
 obtain⟨t,h,q⟩:=hbody A outer s H vs Q E hr hsp
 exact⟨t,h.nox,q⟩
theorem Inv.cells {X:Cx}{pins:List (Addr×Obj)}{σ:St}{H:Hp}{s:Shared}{cl:List (Str×Addr)}{ns:List Str}{vals:List V}(I:Inv X pins σ H s) (hfn:∀ x,X.fn x=true) (hsub:∀ x c,cl.lookup x=some c->X.env.cells.lookup x=some c)
  (hval:∀ (i:Nat) y v,ns[i]?=some y->vals[i]?=some v->∃ (j:Nat) (c:Addr),X.N[j]?=some y/\σ[j]?=some (some v)/\X.env.kindOf y=some .cell/\cl.lookup y=some c):Cells s.heap H (frs X.stack) cl ns vals:=by
 refine⟨fun x c e=>⟨I.freeC x c (hsub x c e),fun z=>?_,I.cell x c (hsub x c e)⟩,fun x y c e1 e2=>I.ok.inj x y c (hsub x c e1) (hsub y c e2),fun i y v e1 e2=>?_⟩
 ·rcases List.mem_cons.mp (I.stkSub c z) with q | q
  ·exact I.cne x c (hsub x c e) q
  ·obtain⟨_,o,ho,_⟩:=I.ok.funs.mem q
   exact absurd (Heap.lt_size ho) (Nat.not_lt.mpr (I.ok.cab x c (hfn x) (hsub x c e)))
 ·obtain⟨j,c,h1,h2,h3,h4⟩:=hval i y v e1 e2
  obtain⟨m,_,hl⟩:=I.loc
  obtain⟨u,r,l⟩:=hl j y v h1 h2 (.inr (.inl h3))
  rcases l with ⟨k,_⟩ | ⟨_,c',hc,hv⟩
  ·rw[h3] at k; cases k
  ·rw[hsub y c h4] at hc
   cases hc
   exact⟨c,u,h4,r,hv⟩
end L2
namespace L2
open PySem PySem.Spec PyProof.Rows
theorem mQ {names:List (Str×NameKind)}{cl:List (Str×Addr)}{ns:List Str}(hcls:cl.map (·.1)=ns) (hno:∀ p∈names,p.2≠.cell/\(p.2=.free->p.1∈ns)) :
  ∀ y,(names.lookup y=some .cell\/names.lookup y=some .free)->∃ c,cl.lookup y=some c:=fun y hy=>by
 have hy':y∈ns:=by
  rcases hy with z | z
  ·exact absurd rfl (hno (y,.cell) (PySem.mem_of_lookup z)).1
  ·exact(hno (y,.free) (PySem.mem_of_lookup z)).2 rfl
 rw[<- hcls] at hy'
 have key:∀ l:List (Str×Addr),y∈l.map (·.1)->∃ c,l.lookup y=some c:=by
  intro l
  induction l with
  | nil=>intro h; simp at h
  | cons p r ih =>
   intro h
   by_cases e:y=p.1
   ·exact⟨p.2,by obtain⟨p1,p2⟩:=p; dsimp only at e; subst e; simp[List.lookup]⟩
   ·have h':y∈r.map (·.1):=by
     rw[map_cons] at h
     exact(List.mem_cons.mp h).resolve_left e
    obtain⟨c,hc'⟩:=ih h'
    refine⟨c,?_⟩
    obtain⟨p1,p2⟩:=p
    have:(y == p1)=false:=by simpa using e
    rw[List.lookup_cons,this]
    exact hc'
 exact key cl hy'
noncomputable def lamAt (st:Stmt) (i j:Nat):Expr:=match (bH st).getD i (.Pass ⟨0,0,0,0⟩) with
 | .Return (some (.Call _ args _ _)) _=>args.getD j (.Constant .none 0 ⟨0,0,0,0⟩)
 | _=>.Constant .none 0 ⟨0,0,0,0⟩
def lamA (e:Expr):Arguments:=match e with
 | .Lambda a _ _ _=>a
 | _=>{ posonlyargs:=[],args:=[],vararg:=none,kwonlyargs:=[],kw_defaults:=[],kwarg:=none,defaults:=[] }
def lamB (e:Expr):Expr:=match e with
 | .Lambda _ b _ _=>b
 | _=>.Constant .none 0 ⟨0,0,0,0⟩
def re (e:Expr):Scope:=match e with
 | .Lambda _ _ s _=>s
 | _=>{ kind:=.function,names:=[],isGenerator:=false,isCoroutine:=false }
def lamP (e:Expr):Pos:=match e with
 | .Lambda _ _ _ p=>p
 | _=>⟨0,0,0,0⟩
end L2
namespace Ow
open PySem PySem.Spec PyProof.Rows L2
theorem dk_none {P:Program}{w:World}{H:Hp}(h:Heap) (hb:sysModules<h.objs.size):ObjOk P w H (h.push { cls:=.type "dict",data:=.dict #[] }) h.objs.size (.dK []) :=
 ⟨zero_le _,beq_eq_false_iff_ne.mpr (Ne.symm (Nat.ne_of_lt hb)),[],.nil,Heap.DictOf.new h⟩
theorem inv_big {X:Cx}{pins:List (Addr×Obj)}{σ:L2.St}{H:Hp}{s:Shared}(I:Inv X pins σ H s):sysModules<s.heap.objs.size:=by
 have h1:=I.ok.mod.glob.lt
 have h2:=Nat.le_trans I.ok.bsz I.sz
 exact Nat.lt_of_lt_of_le (Nat.lt_of_le_of_lt (by decide) h1) h2
def tDNew:TE:=fun _ H Q=>∀ p,H p=none->Q (.ref p) (upd H p (.dK []))
theorem pN {X:Cx}{pos:Pos}:PE X (.Dict [] [] pos) tDNew:=fun pins s σ H Q I h =>
 wpAny_Dict_empty ⟨.ref s.heap.objs.size,_,I.laid (a:=s.heap.objs.size) (o:=.dK []) (t':=s.toks) (fun _ _ q=>Heap.get?_push_of_some _ q) (Nat.le_refl _) (dk_none s.heap (inv_big I)),rfl,h _ (I.hok.fresh (Nat.le_refl _))⟩
end Ow
namespace Ow
open PySem PySem.Spec PyProof.Rows L2
def tCompT (wi:TI) (tc:TT) (te:TE) (cap:L2.St->L2.St):TE:=fun σ H Q=>wi σ H fun J H1=>∀ D,H1 D=none->∃ W:Nat->Nat->Hp->Prop,(∃ m,W 0 m (upd H1 D (.lst [])))/\∀ i m H,W i m H ->
 (J.stop i H/\Q (.ref D) H)\/(J.go i H/\∀ x H',J.yld i H x H'->tc (some x::cap σ) H' fun b HA=>if b=true then te (some x::cap σ) HA (fun y H2=>∃ ys,H2 D=some (.lst ys)/\ys.length<sizeLine/\∃ m',m'<m/\W (i+1) m' (upd H2 D (.lst (ys++[y])))) else ∃ m',m'<m/\W (i+1) m' HA)
section
variable {X:Cx}{elt iter cc:Expr}{x:Str}{px pos:Pos}{scope:Scope}{wi:TI}{tc:TT}{te:TE}{N:List Str}{cl:List (Str×Addr)}{cap:L2.St->L2.St}
theorem pe_compT (hc:X.calm=true) (hclos:closureFor scope X.env=pure cl) (hsub:∀ n c,cl.lookup n=some c->X.env.cells.lookup n=some c)
  (hcell:∀ y∈scope.names,y.2≠.cell) (hkind:scope.kind=.function) (hnames:∀ y∈scope.names,y.2=.local->scope.names.lookup y.1=some .local) (hx:scope.names.lookup x=some .local)
  (hhas:∀ y,(Env.kindOf (compEnvC scope cl 0 X.env) y=some .cell\/Env.kindOf (compEnvC scope cl 0 X.env) y=some .free)->∃ c,cl.lookup y=some c)
  (hN:(x::N).Nodup) (hcapl:∀ σ,(cap σ).length=N.length)
  (hcap:∀ (σ:L2.St) (i:Nat) (y:Str) (v:V),σ.length=X.N.length->N[i]?=some y->(cap σ)[i]?=some (some v)->(Env.kindOf (compEnvC scope cl 0 X.env) y=some .cell\/Env.kindOf (compEnvC scope cl 0 X.env) y=some .free)/\X.env.kindOf y=some .cell/\∃ j:Nat,X.N[j]?=some y/\σ[j]?=some (some v))
  (hi:PI X (.Name x px) iter wi) (ht:∀ C s2 H2 fp,PT (bd X (x::N) scope cl C s2 H2 fp) cc tc) (he:∀ C s2 H2 fp,PE (bd X (x::N) scope cl C s2 H2 fp) elt te)
  (hs:∀ z,foldedSetIterable iter X.env z=pure z:=by intro _; rfl) :
  PE X (.ListComp elt [⟨.Name x px,iter,[cc],0⟩] scope pos) (tCompT wi tc te cap):=by
 intro pins s σ H Q I h
 rw[eval_ListComp]
 refine wpAny_comprehension_free (use:=none) rfl hs hclos hkind hnames (thn (hi pins s σ H _ I h) fun xv s1 h1=>thn h1 fun itv s2 h2=>?_)
 obtain⟨it,fp,tn,J,H2,e,I2,T,st2,f2,hW⟩:=h2
 subst e
 have hD:H2 s2.heap.objs.size=none:=I2.hok.fresh (Nat.le_refl _)
 obtain⟨W,⟨m0,w0⟩,turn⟩:=hW s2.heap.objs.size hD
 refine wpAny_newObj_type (wpAny_newFunctionEnv hcell (by intro y hy; simp at hy) (fun h4 hns4 hsb4=>?_) hkind) (by show 0<=sizeLine; decide)
 dsimp only at hns4 hsb4 ⊢
 generalize hH3:s2.heap.push { cls:=.type "list",dict:=none,data:=.seq ([]:List Value).toArray }=H3 at hns4 hsb4 ⊢
 have hCz:H3.objs.size=s2.heap.objs.size+1:=by rw[<- hH3,Heap.size_push]
 have old3:∀ b o,s2.heap.get? b=some o->H3.get? b=some o:=fun b o e=>hH3 ▸ Heap.get?_push_of_some _ e
 have eD3:H3.get? s2.heap.objs.size=some { cls:=.type "list",dict:=none,data:=.seq ([]:List Value).toArray }:=hH3 ▸ Heap.get?_push_size _ rfl
 have old4:∀ b o,H3.get? b=some o->h4.get? b=some o:=fun b o e=>hsb4.extBut b o (Nat.ne_of_lt (Heap.lt_size e)) (Heap.get?_push_of_some _ e)
 have old:∀ b o,s2.heap.get? b=some o->h4.get? b=some o:=fun b o e=>old4 b o (old3 b o e)
 have szC:s2.heap.objs.size<H3.objs.size:=by rw[hCz]; exact lt_succ_self _
 have fpC:∀ b∈fp,b≠H3.objs.size:=fun b hb=>by
  obtain⟨o,ho,_⟩:=T.obj 0 _ st2 b hb
  exact Nat.ne_of_lt (lt_trans (Heap.lt_size ho) szC)
 have ok':(bd X (x::N) scope cl H3.objs.size s2 H2 fp).Ok:=by
  refine⟨I2.ok.mod,hkind,I2.ok.glob,I2.ok.blt,(Nat.le_of_lt szC),fun a b c e1 e2=>I2.ok.inj a b c (hsub a c e1) (hsub b c e2),fun y hy=>hhas y hy,fun y c z _=>absurd (show false=true from z) (by decide),
   fun _=>I2.ok.hd hc,I2.ok.frames,.inl rfl,fun b hb=>⟨fpC b hb,fun y c e=>(f2 b hb).2.2.2.2.1 y c (hsub y c e)⟩,I2.bs,Nat.le_trans I2.ok.bsz I2.sz,fun b o e hb=>?_,fun b hb z=>?_,I2.stack,I2.stkFree⟩
  ·rcases(f2 b hb).2.2.2.1 with q | q
   ·exact I2.ok.noex b o e q
   ·exact absurd (Nat.lt_of_lt_of_le (Heap.lt_size e) (Nat.le_trans I2.ok.bsz q)) (lt_irrefl _)
  ·rcases List.mem_cons.mp (I2.stkSub b z) with q | q
   ·exact(f2 b hb).2.1 q
   ·exact(f2 b hb).2.2.1 q
 have okD:ObjOk X.prog X.w (upd H2 s2.heap.objs.size (.lst [])) h4 s2.heap.objs.size (.lst []):=⟨zero_le _,[],0,.nil,old4 _ _ eD3⟩
 have I4:Inv (bd X (x::N) scope cl H3.objs.size s2 H2 fp) [] (none::cap σ) (upd H2 s2.heap.objs.size (.lst [])) { s2 with heap:=h4,toks:=s2.toks+([]:List (Str×Value)).length }:=by
  refine⟨ok',rfl,I2.bare,Un.laid old (Nat.le_refl _) hD,⟨_,hns4,fun i y v e1 e2 _=>?_⟩,fun y c e=>?_,?_,fun y c e=>?_,fun p hp=>absurd hp (by show p∉([]++[]:List (Addr×Obj)); simp),I2.hok.laid old (Nat.le_refl _) okD,?_⟩
  ·cases i with
   | zero=>simp at e2
   | succ i =>
    obtain⟨k1,k2,j,e3,e4⟩:=hcap σ i y v I2.len (show N[i]?=some y from e1) (show (cap σ)[i]?=some (some v) from e2)
    obtain⟨m,_,hl⟩:=I2.loc
    obtain⟨u,ru,lk⟩:=hl j y v e3 e4 (.inr (.inl k2))
    refine⟨u,ru,.inr ⟨k1,?_⟩⟩
    rcases lk with ⟨z,_⟩ | ⟨_,c,e5,hcl⟩
    ·rw[k2] at z; cases z
    ·obtain⟨c',e6⟩:=hhas y k1
     have:c'=c:=by
      have:=hsub y c' e6
      rw[e5] at this
      exact(Option.some.inj this).symm
     subst this
     obtain⟨oc,ho,hd⟩:=hcl
     exact⟨c',e6,oc,old _ _ ho,hd⟩
  ·obtain⟨v,oc,ho,hd⟩:=I2.cell y c (hsub y c e)
   exact⟨v,oc,old _ _ ho,hd⟩
  ·show upd H2 s2.heap.objs.size (.lst []) H3.objs.size=none
   rw[au (Nat.ne_of_gt szC)]
   exact I2.hok.fresh (Nat.le_of_lt szC)
  ·have h1:=I2.freeC y c (hsub y c e)
   obtain⟨v,oc,ho,_⟩:=I2.cell y c (hsub y c e)
   rw[au (Nat.ne_of_lt (Heap.lt_size ho))]
   exact h1
  ·show (none::cap σ).length=(x::N).length
   simp[hcapl]
 have stat:∀ {H':Hp},(∀ b∈fp,H' b=none)->∀ b∈fp,kF (bd X (x::N) scope cl H3.objs.size s2 H2 fp) [] H' b:=fun {H'} hn b hb =>
  ⟨hn b hb,(ok'.exf b hb).1,ok'.exfs b hb,.inl hb,(ok'.exf b hb).2,fun p hp=>absurd hp (by show p∉([]++[]:List (Addr×Obj)); simp)⟩
 have loop:codeAny (model X.prog X.w) X.A (.compLoop (.ListComp elt [⟨.Name x px,iter,[cc],0⟩] scope pos) 0 (.ref it) (.ref s2.heap.objs.size) (compEnvC scope cl H3.objs.size X.env))
   (compPost (model X.prog X.w) X.A X.xe none (EP X pins σ Q) (.ref s2.heap.objs.size) H3.objs.size) { s2 with heap:=h4,toks:=s2.toks+([]:List (Str×Value)).length }:=by
  refine codeAny_compLoop_tests (fun n s'=>∃ (i:Nat) (z0:Option V) (H':Hp),Inv (bd X (x::N) scope cl H3.objs.size s2 H2 fp) [] (z0::cap σ) H' s'/\tn i s'.heap/\(∀ b∈fp,H' b=none)/\W i n H') ?_ m0
   ⟨0,none,_,I4,T.keep 0 _ _ st2 (fun b _ o e=>old b o e),fun b hb=>?_,w0⟩
  ·rintro n s5 ⟨i,z0,H5,I5,st5,fr5,w5⟩
   rcases turn i n H5 w5 with ⟨stop,qn⟩ | ⟨go,step⟩
   ·refine wpAny_mono (T.done (bd X (x::N) scope cl H3.objs.size s2 H2 fp) rfl rfl rfl rfl i [] s5 _ H5 _ I5 (stat fr5) st5 stop) (fun r s6 ⟨hr,I6⟩=>?_) fun _ _ z=>z
    subst hr
    obtain⟨m,hn6,_⟩:=id I6.loc
    refine⟨m,hn6,fun h' sb=>⟨.ref s2.heap.objs.size,H5,?_,rfl,qn⟩⟩
    have kp:∀ b o,b≠H3.objs.size->s6.heap.get? b=some o->h'.get? b=some o:=fun b o hb e=>sb.extBut b o hb e
    have nC:∀ b o,s2.heap.get? b=some o->b≠H3.objs.size:=fun b o e=>Nat.ne_of_lt (lt_trans (Heap.lt_size e) szC)
    have fC:H5 H3.objs.size=none:=I6.free
    refine I2.call' (ch:=fp) (s':={ s6 with heap:=h' }) I6.os ?_ ?_ I6.bare fun b hb=>⟨(f2 b hb).2.2.2.1,(f2 b hb).2.1,(f2 b hb).2.2.2.2.1,(f2 b hb).2.2.2.2.2⟩
    ·have U:Un (frs X.stack) fp H2 H5 s2.heap s6.heap:=I6.base
     exact⟨fun b o e n1 n2 n3=>kp b o (nC b o e) (U.keep b o e n1 n2 n3),fun b o e n1 n2 n3=>by
       obtain⟨sl,q⟩:=U.slot b o e n1 n2 n3
       exact⟨sl,kp b _ (nC b o e) q⟩,U.free,fun b o e n3=>by
       obtain⟨o',q⟩:=U.there b o e n3
       exact⟨o',kp b _ (nC b o e) q⟩,U.tups,U.frzs,U.tbls⟩
    ·intro b u e
     refine(I6.hok b u e).stay (fun c v hc q=>kp c v (fun z=>?_) q) (fun _ q=>q) fun _ _ q=>q
     rcases hc with y | y
     ·rw[<- y,z,fC] at e
      cases e
     ·rw[z,fC] at y
      cases y
   ·refine wpAny_mono (T.item (bd X (x::N) scope cl H3.objs.size s2 H2 fp) rfl rfl rfl rfl i [] s5 _ H5 _ I5 (stat fr5) st5 go) (fun r s6 ⟨u,hr,h6⟩=>?_) fun _ _ z=>z
    subst hr
    have key:(letOwnedTupleGo (.Name x px) (.ref it) u >>= fun _=>assign (.Name x px) (compEnvC scope cl H3.objs.size X.env) u)=assign (.Name x px) (compEnvC scope cl H3.objs.size X.env) u:=by first | rfl | exact pure_bind _ _
    dsimp only
    rw[<- key]
    refine wpAny_bind (wpAny_mono h6 (fun _ s7 ⟨v,H7,I7,r7,y7,st7,fr7⟩=>?_) fun _ _ z=>z)
    have I7':=I7.pinned (stat fr7) (T.obj _ _ st7)
    refine wpAny_assign_Name (io (i:=0) I7' hN rfl (.inl (lookup_relabel_local hx)) r7 (fun s8 I8=>?_) (.inr (lookup_relabel_local hx)))
    have behind:∀ (m':Nat) (H10:Hp) (s10:Shared),m'<n->Inv (bd X (x::N) scope cl H3.objs.size s2 H2 fp) ([]++nh fp s7.heap) (some v::cap σ) H10 s10->W (i+1) m' H10->∃ m,m<n/\∃ (i:Nat) (z0:Option V) (H':Hp),Inv (bd X (x::N) scope cl H3.objs.size s2 H2 fp) [] (z0::cap σ) H' s10/\tn i s10.heap/\(∀ b∈fp,H' b=none)/\W i m H':=by
     intro m' H10 s10 hm I10 w9'
     refine⟨m',hm,i+1,some v,_,I10.unpinned,T.keep _ _ _ st7 fun b hb o e=>(I10.pin (b,o) (mem_append_right _ (mem_append_right _ (bR hb e)))).1,fun b hb=>?_,w9'⟩
     obtain⟨o,e,d⟩:=T.obj _ _ st7 b hb
     exact(I10.pin (b,o) (mem_append_right _ (mem_append_right _ (bR hb e)))).2.1
    refine wpAny_tests_one (wpAny_mono (ht H3.objs.size s2 H2 fp _ s8 (some v::cap σ) H7 _ I8 (step v H7 y7)) (fun ok sA ⟨HA,IA,hA⟩=>?_) fun _ _ z=>z.elim)
    cases ok with
    | false =>
     rw[if_neg (by decide)] at hA ⊢
     obtain⟨m',hm,wA⟩:=hA
     exact behind m' HA sA hm IA wA
    | true =>
     rw[if_pos rfl] at hA ⊢
     refine wpAny_mono (he H3.objs.size s2 H2 fp _ sA (some v::cap σ) HA _ IA hA) (fun w9 s9 ⟨y,H9,I9,r9,ys,hys,hlt,m',hm,w9'⟩=>?_) fun _ _ z=>z.elim
     refine wpAny_mono (aP (X:=bd X (x::N) scope cl H3.objs.size s2 H2 fp) _ s9 _ H9 (.ref s2.heap.objs.size) [y] _ [w9] (fun _ Hn=>Hn=upd H9 s2.heap.objs.size (.lst (ys++[y]))) I9 rfl (.cons r9 .nil) ⟨_,ys,y,rfl,rfl,hys,hlt,rfl⟩) (fun _ s10 ⟨_,H10,I10,_,e10⟩=>?_) fun _ _ z=>z.elim
     subst e10
     exact behind m' _ s10 hm I10 w9'
  ·obtain⟨o,ho,_⟩:=T.obj 0 _ st2 b hb
   rw[au (Nat.ne_of_lt (Heap.lt_size ho))]
   exact(f2 b hb).1
 exact codeAny_compStart_list loop (T.self X.A 0 _ _ _ (T.keep 0 _ _ st2 (fun b _ o e=>old b o e)) loop)
theorem rL (js:List Nat) (ns:List Str) (hc:X.calm=true) (hclos:closureFor scope X.env=pure cl) (hcls:cl.map (·.1)=ns) (hsub:∀ p∈cl,X.env.cells.lookup p.1=some p.2)
  (hno:∀ p∈scope.names,p.2≠.cell/\(p.2=.free->p.1∈ns)) (hkind:scope.kind=.function) (hnames:∀ y∈scope.names,y.2=.local->scope.names.lookup y.1=some .local) (hx:scope.names.lookup x=some .local)
  (hN:(x::ns).Nodup) (hkd:∀ y∈ns,(Env.kindOf (compEnvC scope cl 0 X.env) y=some .cell\/Env.kindOf (compEnvC scope cl 0 X.env) y=some .free)/\X.env.kindOf y=some .cell)
  (hjl:js.length=ns.length) (hj:js.map (fun j=>X.N[j]?)=ns.map some)
  (hi:PI X (.Name x px) iter wi) (ht:∀ C s2 H2 fp,PT (bd X (x::ns) scope cl C s2 H2 fp) cc tc) (he:∀ C s2 H2 fp,PE (bd X (x::ns) scope cl C s2 H2 fp) elt te)
  (hs:∀ z,foldedSetIterable iter X.env z=pure z:=by intro _; rfl) :
  PE X (.ListComp elt [⟨.Name x px,iter,[cc],0⟩] scope pos) (tCompT wi tc te fun σ=>js.map fun j=>(σ[j]?).getD none):=by
 refine pe_compT (N:=ns) (cl:=cl) hc hclos (fun n c e=>hsub (n,c) (PySem.mem_of_lookup e)) (fun y hy=>(hno y hy).1) hkind hnames hx (fun y hy=>?_) hN (fun σ=>by rw[length_map]; exact hjl) (fun σ i y v _ e1 e2=>?_) hi ht he hs
 ·have sub:∀ (l:List (Str×NameKind)),(∀ p∈l,p.2≠.cell/\(p.2=.free->p.1∈ns))->∀ p∈(l.map fun (n,k)=>if (k == NameKind.free&&X.env.scope.kind == ScopeKind.function&&X.env.kindOf n == some NameKind.cell) then (n,NameKind.cell) else (n,k)),(p.2=.cell\/p.2=.free)->p.1∈ns:=by
   intro l hl p hp hk
   obtain⟨q,hq,e⟩:=List.mem_map.mp hp
   have h1:=hl q hq
   obtain⟨n,k⟩:=q
   dsimp only at e
   by_cases hf:k=.free
   ·have h2:=h1.2 hf
    split at e
    ·rw[<- e]; exact h2
    ·rw[<- e]; exact h2
   ·have hf':(k == NameKind.free)=false:=by
     cases k <;> first | rfl | exact absurd rfl hf
    rw[hf',Bool.false_and,Bool.false_and,if_neg (by decide)] at e
    rw[<- e] at hk
    rcases hk with z | z
    ·exact absurd z h1.1
    ·exact absurd z hf
  have hy':y∈ns:=by
   rcases hy with z | z
   ·exact sub scope.names hno (y,.cell) (PySem.mem_of_lookup z) (.inl rfl)
   ·exact sub scope.names hno (y,.free) (PySem.mem_of_lookup z) (.inr rfl)
  rw[<- hcls] at hy'
  have key:∀ l:List (Str×Addr),y∈l.map (·.1)->∃ c,l.lookup y=some c:=by
   intro l
   induction l with
   | nil=>intro h; simp at h
   | cons p r ih =>
    intro h
    by_cases e:y=p.1
    ·exact⟨p.2,by obtain⟨p1,p2⟩:=p; dsimp only at e; subst e; simp[List.lookup]⟩
    ·have h':y∈r.map (·.1):=by
      rw[map_cons] at h
      exact(List.mem_cons.mp h).resolve_left e
     obtain⟨c,hc'⟩:=ih h'
     refine⟨c,?_⟩
     obtain⟨p1,p2⟩:=p
     have:(y == p1)=false:=by simpa using e
     rw[List.lookup_cons,this]
     exact hc'
  exact key cl hy'
 ·have hm:y∈ns:=mem_of_getElem? e1
  refine⟨(hkd y hm).1,(hkd y hm).2,?_⟩
  rw[List.getElem?_map] at e2
  cases hji:js[i]? with
  | none=>rw[hji] at e2; cases e2
  | some j =>
   rw[hji] at e2
   have e3:(σ[j]?).getD none=some v:=by
    have:=Option.some.inj e2
    exact this
   have e4:=congrArg (fun l=>l[i]?) hj
   rw[List.getElem?_map,List.getElem?_map,hji,e1] at e4
   have e5:X.N[j]?=some y:=by
    have:=Option.some.inj e4
    exact this
   refine⟨j,e5,?_⟩
   cases hσ:σ[j]? with
   | none=>rw[hσ] at e3; cases e3
   | some o =>
    rw[hσ] at e3
    have e6:o=some v:=e3
    rw[e6]
end
theorem qA {K:Frag}{a D:Addr}{xs:List V}{tc':TT}{te':TE}{tl:L2.St}{G:Hp->Prop}{H1:Hp}(Pv:Nat->Hp->Prop) (h0:Pv 0 (upd H1 D (.lst []))) (hl:∀ i H,i<=xs.length->Pv i H->SqL K H a xs)
  (hs:∀ i x H,xs[i]?=some x->Pv i H->tc' (some x::tl) H fun b HA=>if b=true then te' (some x::tl) HA (fun y H2=>∃ ys,H2 D=some (.lst ys)/\ys.length<sizeLine/\∃ m',m'<xs.length-i/\(m'=xs.length-(i+1)/\i+1<=xs.length/\Pv (i+1) (upd H2 D (.lst (ys++[y]))))) else ∃ m',m'<xs.length-i/\(m'=xs.length-(i+1)/\i+1<=xs.length/\Pv (i+1) HA))
  (hd:∀ H,Pv xs.length H->G H) :
  ∃ W:Nat->Nat->Hp->Prop,(∃ m,W 0 m (upd H1 D (.lst [])))/\∀ i m H,W i m H ->
   ((Itl K a).stop i H/\G H)\/((Itl K a).go i H/\∀ x H',(Itl K a).yld i H x H'->tc' (some x::tl) H' fun b HA=>if b=true then te' (some x::tl) HA (fun y H2=>∃ ys,H2 D=some (.lst ys)/\ys.length<sizeLine/\∃ m',m'<m/\W (i+1) m' (upd H2 D (.lst (ys++[y])))) else ∃ m',m'<m/\W (i+1) m' HA):=by
 refine⟨fun i m H=>m=xs.length-i/\i<=xs.length/\Pv i H,⟨xs.length,by simp,zero_le _,h0⟩,?_⟩
 rintro i m H ⟨rfl,hi,p⟩
 have q:=hl i H hi p
 by_cases hlt:i<xs.length
 ·refine .inr ⟨⟨xs,xs[i],q,by simp[hlt]⟩,fun x H' y=>?_⟩
  obtain⟨e,y⟩:=y
  subst e
  exact hs i x _ (y xs q) p
 ·have e:i=xs.length:=by lia
  subst e
  exact .inl ⟨⟨xs,q,Nat.le_refl _⟩,hd H p⟩
end Ow
namespace Ow
open PySem PySem.Spec PyProof.Rows L2
section
variable {X:Cx}
end
end Ow
namespace Ow
open PySem PySem.Spec PyProof.Rows L2
def tMethQ (P:Program) (w:World) (K:Frag) (mg:Str->Option Value) (base:Heap) (k:Nat) (m:Str) (ta:TE) (t:TA):TE:=fun σ H Q=>ta σ H fun x H1=>∃ (a C dx:Addr) (fs:List (Str×V)) (ps:List Str) (sp:Sp),x=.ref a/\H1 a=some (.ins C dx fs)/\fs.lookup m=none /\
 MHas P w K mg base k C m ps sp/\t σ H1 fun vs H2=>sp (x::(vs++[])) H2 Q E0
theorem pe_methQ {X:Cx}{P:Program}{w:World}{K:Frag}{mg:Str->Option Value}{base:Heap}{k:Nat}{o e:Expr}{es:List Expr}{m:Str}{ta:TE}{t:TA}{pos apos:Pos}{pl:Sem Bool}(h1:X.prog=P) (h2:X.w=w) (h3:X.K=K) (h4:X.mg=mg) (h5:X.base=base) (he:PE X o ta) (hr:Room k X.A) (ha:PA X (e::es) t)
  (hst:starEach (e::es) X.env=(false,eval e X.env)::starEach es X.env:=by rfl) (hpl:(backTo pos (starEach es X.env)).any (·.1)=false:=by rfl)
  (ht:eval (.Call (.Attribute o m apos) (e::es) [] pos) X.env=(do
   let ov <- eval o X.env
   standAt apos.atName
   let (f,first) <- holding [ov] (getMethod ov m pl)
   callWith pos f first (backTo pos (starEach (e::es) X.env)) (backToKw pos (keywordEach [] X.env))):=by rfl) :
  PE X (.Call (.Attribute o m apos) (e::es) [] pos) (tMethQ P w K mg base k m ta t):=by
 subst h1 h2 h3 h4 h5
 exact dQ he hr ha hst hpl ht
theorem jv {K:Frag}{C D:Addr}(h1:isClsIn K D=true) (h2:typeIn K (.ref D)=some (.type "type")) (h3:mroIn K C (.ref D)=some true):kitOne K (.ref C) (.ref D)=some true:=by
 unfold kitOne
 split
 ·rfl
 ·unfold PySem.W.kitCls
  have e:((PySem.W.clsIn K D).isSome&&typeIn K (.ref D) == some (.type "type"))=true:=by
   rw[h2]
   have h1':(PySem.W.clsIn K D).isSome=true:=h1
   rw[h1',Bool.true_and]
   exact beq_self_eq_true _
  show (if ((PySem.W.clsIn K D).isSome&&typeIn K (.ref D) == some (.type "type"))=true then PySem.W.subIn K (.ref C) (.ref D) else none)=_
  rw[if_pos e]
  exact h3
end Ow
namespace L2
open PySem PySem.Spec PyProof.Rows
section
variable {X:Cx}
def ItzL (K:Frag) (a b:Addr):It :=
 ⟨fun i H=>∃ xs ys x y,SqL K H a xs/\SqL K H b ys/\xs[i]?=some x/\ys[i]?=some y,
  fun i H v H'=>∀ xs ys x y,SqL K H a xs->SqL K H b ys->xs[i]?=some x->ys[i]?=some y->∃ T,v=.ref T/\H T=none/\H'=upd H T (.tup [x,y]),
  fun i H=>∃ xs ys,SqL K H a xs/\SqL K H b ys/\xs.length<=i⟩
theorem sv {P:Program}{w:World}{K:Frag}{elts:List Expr}{x1}{tp:Pos}{z TI TO i1 i2 a b:Addr}(D:ZipApart z TI TO i1 i2 a b) :
  Turn P w K (.Tuple elts x1 tp) (ItzL K a b) [z,TO,i1,i2,TI] z (fun i h=>IsZip h z TI TO .none/\IsPair h TI (.ref i1) (.ref i2)/\(∃ u v,IsPair h TO u v)/\h.IsListIter i1 a i/\h.IsListIter i2 b i) where
 mem:=by simp
 obj:=fun i h st c hc=>by
  obtain⟨q1,q2,⟨u,v,q3⟩,⟨o1,e1,_,d1⟩,⟨o2,e2,_,d2⟩⟩:=st
  simp only[mem_cons,not_mem_nil,or_false] at hc
  rcases hc with rfl | rfl | rfl | rfl | rfl
  ·exact⟨_,q1,fun v z=>by cases z⟩
  ·exact⟨_,q3,fun v z=>by cases z⟩
  ·exact⟨_,e1,fun v z=>by rw[d1] at z; cases z⟩
  ·exact⟨_,e2,fun v z=>by rw[d2] at z; cases z⟩
  ·exact⟨_,q2,fun v z=>by cases z⟩
 keep:=fun i h h' st k=>by
  obtain⟨q1,q2,⟨u,v,q3⟩,q4,q5⟩:=st
  exact⟨k z (by simp) _ q1,k TI (by simp) _ q2,⟨u,v,k TO (by simp) _ q3⟩,q4.at fun o e=>k i1 (by simp) o e,q5.at fun o e=>k i2 (by simp) o e⟩
 item:=by
  intro X hP hw hK hc i pins s σ H E I hf st hg
  subst hP hw hK
  obtain⟨xs,ys,x,y,ha,hb,hx,hy⟩:=hg
  obtain⟨q1,q2,⟨u,v,q3⟩,q4,q5⟩:=st
  obtain⟨its,rv,p,_⟩:=I.list ha
  obtain⟨jts,rw',p',_⟩:=I.list hb
  obtain⟨ux,hux,rx⟩:=rv.get hx
  obtain⟨uy,huy,ry⟩:=rw'.get hy
  refine wpAny_pyNext_zip_item D q1 q2 q3 q4 q5 (show s.heap.IsList a its.toArray from p.isList) (show s.heap.IsList b jts.toArray from p'.isList) (x:=ux) (y:=uy) (by simpa using hux) (by simpa using huy) fun h' z1 o1 v1 v2 pr sz all=>?_
  refine⟨_,rfl,wpAny_letOwnedTupleGo_zip z1 fun h'' z2 sb=>?_⟩
  have nz:∀ c o,c≠z->h'.get? c=some o->h''.get? c=some o:=fun c o n e=>sb.extBut c o n e
  have zl:z<s.heap.objs.size:=Heap.lt_size q1
  have hT:H s.heap.objs.size=none:=I.hok.fresh (Nat.le_refl _)
  have prT:IsPair h'' s.heap.objs.size ux uy:=nz _ _ (Nat.ne_of_gt zl) pr
  have kept:∀ c o,c∉[z,TO,i1,i2]->s.heap.get? c=some o->h''.get? c=some o:=fun c o n e=>by
   simp only[mem_cons,not_mem_nil,or_false,not_or] at n
   exact nz c o n.1 (all c o n.1 n.2.1 n.2.2.1 n.2.2.2 e)
  have sub:∀ c∈[z,TO,i1,i2],c∈[z,TO,i1,i2,TI]:=fun c h=>by
   simp only[mem_cons,not_mem_nil,or_false] at h ⊢
   rcases h with h | h | h | h <;> simp[h]
  have trk:∀ c u,H c=some u->c∉[z,TO,i1,i2]:=fun c u e n=>by
   have:=(hf c (sub c n)).1
   rw[e] at this; cases this
  refine⟨.ref s.heap.objs.size,upd H s.heap.objs.size (.tup [x,y]),?_,rfl,fun xs' ys' x' y' ha' hb' hx' hy'=>?_,⟨z2,nz _ _ D.TIz (all _ _ D.TIz D.TITO D.TIi1 D.TIi2 q2),⟨_,_,nz _ _ D.TOz o1⟩,v1.at fun o e=>nz _ o D.i1z e,v2.at fun o e=>nz _ o D.i2z e⟩,fun c hc=>?_⟩
  ·refine Inv.step (s:=s) (h':=h'') (g':=s.gens) (d':=s.drawn) (t':=s.toks) (ch:=[z,TO,i1,i2]) I (fun c n=>let q:=hf c (sub c n); ⟨q.2.2.2.1,q.2.1,q.2.2.2.2.1,q.2.2.2.2.2⟩) (fun c o _ _ n e _=>kept c o n e) (fun c o _ _ n e _=>⟨o.slots,kept c o n e⟩)
    (fun c o _ e n=>by rw[au (Nat.ne_of_lt (Heap.lt_size e))]; exact n) (fun c o n e=>⟨o,kept c o n e⟩) (fun c zs e=>by rw[au (aE e hT)]; exact e) (fun c o u e=>by rw[au (aE e hT)]; exact e) (fun c ps e=>⟨#[],by rw[au (aE e hT),e]; simp⟩) (fun m hm=>?_) (fun c u e=>?_) I.bare
   ·obtain⟨o,es,ep,ho,r⟩:=hm
    refine⟨o,es,ep,kept _ o (fun n=>?_) ho,r⟩
    exact(hf _ (sub _ n)).2.1 rfl
   ·by_cases q:c=s.heap.objs.size
    ·subst q
     rw[ae] at e; cases e
     exact⟨by show 2<=sizeLine; decide,[ux,uy],.cons rx (.cons ry .nil),⟨_,prT,rfl,_,rfl⟩⟩
    ·rw[au q] at e
     refine(I.hok c u e).stay (fun c' v hc' e'=>kept c' v ?_ e') (fun c' e'=>by rw[au (aE e' hT)]; exact e') fun c' zs e'=>by rw[au (aE e' hT)]; exact e'
     rcases hc' with z' | z'
     ·rw[z']; exact trk c u e
     ·exact trk c' _ z'
  ·rw[I.list_inj ha' ha] at hx'
   rw[I.list_inj hb' hb] at hy'
   rw[hx] at hx'; rw[hy] at hy'
   cases hx'; cases hy'
   exact⟨_,rfl,hT,rfl⟩
  ·have q:=hf c hc
   have hl:c≠s.heap.objs.size:=by
    simp only[mem_cons,not_mem_nil,or_false] at hc
    obtain⟨_,e4,_⟩:=q4
    obtain⟨_,e5,_⟩:=q5
    rcases hc with rfl | rfl | rfl | rfl | rfl
    ·exact Nat.ne_of_lt zl
    ·exact Nat.ne_of_lt (Heap.lt_size q3)
    ·exact Nat.ne_of_lt (Heap.lt_size e4)
    ·exact Nat.ne_of_lt (Heap.lt_size e5)
    ·exact Nat.ne_of_lt (Heap.lt_size q2)
   rw[au hl]
   exact q.1
 done:=by
  intro X hP hw hK hc i pins s σ H E I hf st hg
  subst hP hw hK
  obtain⟨xs,ys,ha,hb,hx⟩:=hg
  obtain⟨q1,q2,⟨u,v,q3⟩,q4,q5⟩:=st
  obtain⟨its,rv,p,_⟩:=I.list ha
  obtain⟨jts,rw',p',_⟩:=I.list hb
  have hl:=rv.length
  have sub:∀ c∈[z,TO,i1,i2],c∈[z,TO,i1,i2,TI]:=fun c h=>by
   simp only[mem_cons,not_mem_nil,or_false] at h ⊢
   rcases h with h | h | h | h <;> simp[h]
  refine wpAny_pyNext_zip_end (I.ok.hd hc) D q1 q2 q3 q4 q5 (show s.heap.IsList a its.toArray from p.isList) (show s.heap.IsList b jts.toArray from p'.isList) (.inl (by simp; lia)) fun h' all=>⟨rfl,?_⟩
  have kept:∀ c o,c∉[z,TO,i1,i2]->s.heap.get? c=some o->h'.get? c=some o:=fun c o n e=>by
   simp only[mem_cons,not_mem_nil,or_false,not_or] at n
   exact all c o n.1 n.2.1 n.2.2.1 n.2.2.2 e
  have trk:∀ c u,H c=some u->c∉[z,TO,i1,i2]:=fun c u e n=>by
   have:=(hf c (sub c n)).1
   rw[e] at this; cases this
  refine Inv.step (s:=s) (h':=h') (g':=s.gens) (d':=s.drawn) (t':=s.toks) (ch:=[z,TO,i1,i2]) I (fun c n=>let q:=hf c (sub c n); ⟨q.2.2.2.1,q.2.1,q.2.2.2.2.1,q.2.2.2.2.2⟩) (fun c o _ _ n e _=>kept c o n e) (fun c o _ _ n e _=>⟨o.slots,kept c o n e⟩)
    (fun c o _ e n=>n) (fun c o n e=>⟨o,kept c o n e⟩) (fun c zs e=>e) (fun c o u e=>e) (fun c ps e=>⟨#[],by rw[e]; simp⟩) (fun m hm=>?_) (fun c u e=>?_) I.bare
  ·obtain⟨o,es,ep,ho,r⟩:=hm
   exact⟨o,es,ep,kept _ o (fun n=>(hf _ (sub _ n)).2.1 rfl) ho,r⟩
  ·refine(I.hok c u e).stay (fun c' v hc' e'=>kept c' v ?_ e') (fun c' e'=>e') fun c' zs e'=>e'
   rcases hc' with z' | z'
   ·rw[z']; exact trk c u e
   ·exact trk c' _ z'
 self:=fun _ _ _ _ _ st h=>wpAny_pyIter_zip st.1 h
def iZipL (K:Frag) (ta:TA):TI:=fun σ H R=>ta σ H fun vs H1=>∃ a b xs ys,vs=[.ref a,.ref b]/\SqL K H1 a xs/\SqL K H1 b ys/\R (ItzL K a b) H1
theorem pi_zipL {e1 e2:Expr}{ta:TA}{p pos:Pos}{elts:List Expr}{x1}{tp:Pos}(hg:Gl X "zip") (hm:X.mg "zip"=none) (ha:PA X [e1,e2] ta) (hs:starEach [e1,e2] X.env=(false,eval e1 X.env)::starEach [e2] X.env:=by rfl) (hpl:(backTo pos (starEach [e2] X.env)).any (·.1)=false:=by rfl) :
  PI X (.Tuple elts x1 tp) (.Call (.Name "zip" p) [e1,e2] [] pos) (iZipL X.K ta):=by
 intro pins s σ H R I h
 refine Call_ (lF I hg hm PyProof.Rows.boot_zip (PyProof.Rows.callWith_type1 (thn (ha pos pins s σ H _ I h) fun us s1 ⟨vs,H1,I1,r1,q1⟩=>?_) hs hpl))
 obtain⟨a,b,xs,ys,e,hqa,hqb,q⟩:=q1
 subst e
 cases r1 with
 | cons r rr =>
  cases rr with
  | cons r' rr' =>
   cases rr'
   cases r
   cases r'
   obtain⟨its,rv,pl,_⟩:=I1.list hqa
   obtain⟨jts,rw',pl',_⟩:=I1.list hqb
   refine call_zip_2 (show s1.heap.IsList a its.toArray from pl.isList) (show s1.heap.IsList b jts.toArray from pl'.isList) fun h' z1 z2 z3 z4 z5 _ z6=>?_
   have I2:Inv X pins σ H1 { s1 with heap:=h' }:=I1.kept (t':=s1.toks) z6
   have la:a<s1.heap.objs.size:=by obtain⟨o,e,_⟩:=pl.isList; exact Heap.lt_size e
   have lb:b<s1.heap.objs.size:=by obtain⟨o,e,_⟩:=pl'.isList; exact Heap.lt_size e
   refine wpAny_pyIter_zip z1 ?_
   refine⟨s1.heap.objs.size+4,[s1.heap.objs.size+4,s1.heap.objs.size+3,s1.heap.objs.size,s1.heap.objs.size+1,s1.heap.objs.size+2],_,_,H1,rfl,I2,sv (zipApart_new la lb),⟨z1,z2,⟨_,_,z3⟩,z4,z5⟩,fun c hc=>?_,q⟩
   have le:s1.heap.objs.size<=c:=by
    simp only[mem_cons,not_mem_nil,or_false] at hc
    rcases hc with h | h | h | h | h <;> rw[h]
    ·exact Nat.le_add_right _ _
    ·exact Nat.le_add_right _ _
    ·exact Nat.le_refl _
    ·exact Nat.le_add_right _ _
    ·exact Nat.le_add_right _ _
   exact I1.fpOk le (I1.hok.fresh le)
end
end L2
namespace Ow
open PySem PySem.Spec PyProof.Rows L2
section
variable {X:Cx}{elt iter cc:Expr}{x:Str}{px pos:Pos}{scope:Scope}{wi:TI}{tc:TT}{te:TE}{N:List Str}{cl:List (Str×Addr)}{cap:L2.St->L2.St}
end
end Ow
namespace Ow
open PySem PySem.Spec PyProof.Rows L2
end Ow
namespace Ow
open PySem PySem.Spec PyProof.Rows L2
section
variable {X:Cx}
theorem ty_str {K:Frag}{x:Str}{H:Hp}:tyV K "str" (.str x) H:=rfl
end
def rEqTD (K:Frag) (d:Nat) (neg:Bool):R2:=fun x y H Q=>∃ p q xs ys e,x=.ref p/\y=.ref q/\SqT K H p xs/\SqT K H q ys/\(∀ j,j<xs.length->j<ys.length->EqD K H d (xs.getD j .non) (ys.getD j .non) (e j))/\Q (.bl (if neg=true then !((List.range (min xs.length ys.length)).all e&&xs.length == ys.length) else ((List.range (min xs.length ys.length)).all e&&xs.length == ys.length))) H
end Ow
namespace Ow
open PySem PySem.Spec PyProof.Rows L2
section
variable {prog:Program}{w:World}{K:Type} [DecidableEq K] {knd:KeyKind prog w K}{A:Around}{E:Value->Shared->Prop}{s:Shared}
end
section
variable {prog:Program}{w:World}{A:Around}{E:Value->Shared->Prop}{s:Shared}
end
section
variable {X:Cx}
end
def ua:Expr->Bool
 | .Starred _ _=>false
 | _=>true
theorem sh {e:Expr}(h:ua e=true) (rest:List Expr) (env:Env):starEach (e::rest) env=(false,eval e env)::starEach rest env:=by
 cases e <;> first | rfl | cases h
theorem dM {X:Cx}{e:Expr}{es:List Expr}{te:TE}{t:TA}(ha:PE X e te) (hr:PA X es t) (hn:ua e=true:=by rfl):PA X (e::es) (tCons te t):=aa ha hr (sh hn es X.env)
structure Sl (p:Prop):Prop where
 out:p
section
variable {X:Cx}
theorem tQ {rest:List Stmt}{st:Stmt}{t u:TS}(h1:PS X st t) (h2:Sl (PSs X rest u)):PSs X (st::rest) (tJoin t u):=bn h1 h2.out
theorem ue {rest:List Stmt}{st:Stmt}{t u:TS}(h1:Sl (PS X st t)) (h2:PSs X rest u):Sl (PSs X (st::rest) (tSeq t u)):=⟨af h1.out h2⟩
theorem ps_setS {i:Nat}{x:Str}{e:Expr}{te:TE}{pos pos':Pos}(hN:X.N.Nodup) (hi:X.N[i]?=some x) (hx:Loc X.env.scope x) (he:Sl (PE X e te)) (hs:swapsWith e (some (.Name x pos')) pos.line X.env=pure false:=by rfl) (hf:X.fn x=true\/X.env.scope.names.lookup x=some .local:=by first | exact .inl rfl | exact .inr rfl | assumption) :
  Sl (PS X (.Assign [.Name x pos'] e pos) (tAsg te (sU i))):=⟨ax hN hi hx he.out hs hf⟩
theorem gf {es:List Expr}{t:TA}{pos:Pos}(h:Sl (PA X es t)):Sl (PE X (.List es pos) (tLst t)):=⟨bu h.out⟩
theorem aM {e:Expr}{es:List Expr}{te:TE}{t:TA}(ha:PE X e te) (hr:Sl (PA X es t)) (hn:ua e=true:=by rfl):Sl (PA X (e::es) (tCons te t)):=⟨dM ha hr.out hn⟩
theorem gk:Sl (PA X [] tNil):=⟨ah⟩
end
end Ow
namespace L2
open PySem PySem.Spec PyProof.Rows
section
variable {κ:Type} [DecidableEq κ]
noncomputable def cR (kvs:List (κ×V)) (k:κ):Option V:=(kvs.find? fun kv=>decide (kv.1=k)).map (·.2)
noncomputable def dI (kvs:List (κ×V)) (k:κ) (v:V):List (κ×V) :=
 if (kvs.any fun kv=>decide (kv.1=k))=true then kvs.map (fun kv=>if kv.1=k then (kv.1,v) else kv) else kvs++[(k,v)]
theorem ce {p:κ×V}{r:List (κ×V)}{k:κ}(e:p.1=k):cR (p::r) k=some p.2:=by simp[cR,List.find?_cons,e]
theorem cq {p:κ×V}{r:List (κ×V)}{k:κ}(e:¬ p.1=k):cR (p::r) k=cR r k:=by simp[cR,List.find?_cons,e]
theorem hV (k:κ):∀ kvs:List (κ×V),(kvs.any fun kv=>decide (kv.1=k))=(cR kvs k).isSome
 | []=>rfl
 | p::r=>by
  rw[List.any_cons]
  by_cases e:p.1=k
  ·simp only[ce e,decide_eq_true e,Bool.true_or,Option.isSome_some]
  ·rw[cq e,decide_eq_false e,Bool.false_or]; exact hV k r
theorem pW (k j:κ) (y:V):∀ kvs:List (κ×V),cR (kvs.map fun kv=>if kv.1=k then (kv.1,y) else kv) j=(cR kvs j).map fun x=>if j=k then y else x
 | []=>rfl
 | p::r=>by
  have ih:=pW k j y r
  rw[map_cons]
  by_cases h:p.1=k
  ·rw[if_pos h]
   by_cases e:p.1=j
   ·rw[ce (p:=(p.1,y)) e,ce e,Option.map_some,if_pos (e.symm.trans h)]
   ·rw[cq (p:=(p.1,y)) e,cq e,ih]
  ·rw[if_neg h]
   by_cases e:p.1=j
   ·rw[ce (p:=p) e,ce e,Option.map_some,if_neg (fun z=>h (e.trans z))]
   ·rw[cq (p:=p) e,cq e,ih]
theorem nJ (k j:κ) (y:V):∀ kvs:List (κ×V),cR kvs k=none->cR (kvs++[(k,y)]) j=if j=k then some y else cR kvs j
 | [],_=>by
  by_cases e:k=j
  ·rw[if_pos e.symm]; exact ce (p:=(k,y)) e
  ·rw[if_neg (fun z=>e z.symm)]; exact cq (p:=(k,y)) e
 | p::r,hn=>by
  rw[List.cons_append]
  have hk:¬ p.1=k:=fun z=>by rw[ce z] at hn; cases hn
  rw[cq hk] at hn
  have ih:=nJ k j y r hn
  by_cases e:p.1=j
  ·rw[ce e,ce e,if_neg (fun z=>hk (e.trans z))]
  ·rw[cq e,cq e,ih]
theorem ij (kvs:List (κ×V)) (k j:κ) (y:V):cR (dI kvs k y) j=if j=k then some y else cR kvs j:=by
 unfold dI
 by_cases a:(kvs.any fun kv=>decide (kv.1=k))=true
 ·rw[if_pos a,pW]
  rw[hV] at a
  by_cases e:j=k
  ·obtain⟨x,hx⟩:=Option.isSome_iff_exists.mp a
   rw[if_pos e,e,hx,Option.map_some,if_pos rfl]
  ·rw[if_neg e]
   cases cR kvs j with
   | none=>rfl
   | some x=>rw[Option.map_some,if_neg e]
 ·rw[if_neg a]
  refine nJ k j y kvs ?_
  rw[hV] at a
  cases q:cR kvs k with
  | none=>rfl
  | some x=>rw[q] at a; exact(a rfl).elim
theorem cX (kvs:List (κ×V)) (k:κ) (v:V):(dI kvs k v).length<=kvs.length+1:=by
 unfold dI
 split
 ·rw[length_map]; lia
 ·rw[length_append,length_cons,List.length_nil]; lia
theorem RelO.isSome_eq {o:Option V}{u:Option Value}(r:RelO o u):o.isSome=u.isSome:=by
 cases o with
 | none=>cases u with
  | none=>rfl
  | some _=>exact(show False from r).elim
 | some _=>cases u with
  | none=>exact(show False from r).elim
  | some _=>rfl
theorem RelO.getD {o:Option V}{u:Option Value}{d:V}{d':Value}(r:RelO o u) (rd:RelV d d'):RelV (o.getD d) (u.getD d'):=by
 cases o with
 | none=>cases u with
  | none=>exact rd
  | some _=>exact(show False from r).elim
 | some _=>cases u with
  | none=>exact(show False from r).elim
  | some _=>exact r
theorem KV.val {kvs:List (κ×V)}{vs:List (κ×Value)}(r:KV kvs vs) (k:κ):RelO (cR kvs k) (valueAt vs k):=by
 unfold KV at r
 induction r with
 | nil=>exact True.intro
 | @cons p q ps qs h t ih =>
  obtain⟨h1,h2⟩:=h
  by_cases e:p.1=k
  ·have e':q.1=k:=h1.symm.trans e
   have b:valueAt (q::qs) k=some q.2:=by simp[valueAt,List.find?_cons,e']
   rw[ce e,b]; exact h2
  ·have e':¬ q.1=k:=fun z=>e (h1.trans z)
   have b:valueAt (q::qs) k=valueAt qs k:=by simp[valueAt,List.find?_cons,e']
   rw[cq e,b]; exact ih
theorem KV.any {kvs:List (κ×V)}{vs:List (κ×Value)}(r:KV kvs vs) (k:κ):(kvs.any fun kv=>decide (kv.1=k))=vs.any fun kv=>decide (kv.1=k):=by
 unfold KV at r
 induction r with
 | nil=>rfl
 | cons h t ih=>rw[List.any_cons,List.any_cons,ih,h.1]
theorem KV.repl {kvs:List (κ×V)}{vs:List (κ×Value)}(r:KV kvs vs) (k:κ) {y:V}{u:Value}(ry:RelV y u) :
  KV (kvs.map fun kv=>if kv.1=k then (kv.1,y) else kv) (vs.map fun kv=>if kv.1=k then (kv.1,u) else kv):=by
 unfold KV at r ⊢
 induction r with
 | nil=>exact .nil
 | @cons p q ps qs h t ih =>
  rw[map_cons,map_cons]
  refine .cons ?_ ih
  obtain⟨h1,h2⟩:=h
  by_cases e:p.1=k
  ·rw[if_pos e,if_pos (h1.symm.trans e)]; exact⟨h1,ry⟩
  ·rw[if_neg e,if_neg (fun z=>e (h1.trans z))]; exact⟨h1,h2⟩
theorem KV.put {kvs:List (κ×V)}{vs:List (κ×Value)}(r:KV kvs vs) (k:κ) {y:V}{u:Value}(ry:RelV y u):KV (dI kvs k y) (stored vs k u):=by
 unfold dI stored
 rw[r.any k]
 by_cases e:(vs.any fun kv=>decide (kv.1=k))=true
 ·rw[if_pos e,if_pos e]; exact r.repl k ry
 ·rw[if_neg e,if_neg e]; exact Paired.snoc r ⟨rfl,ry⟩
theorem KV.keys {kvs:List (κ×V)}{vs:List (κ×Value)}(r:KV kvs vs):kvs.map (·.1)=vs.map (·.1):=by
 unfold KV at r
 induction r with
 | nil=>rfl
 | cons h t ih=>rw[map_cons,map_cons,ih,h.1]
theorem KV.length {kvs:List (κ×V)}{vs:List (κ×Value)}(r:KV kvs vs):kvs.length=vs.length:=Paired.length r
end
theorem qY {P:Program}{w:World}{k:Key}{u:Value}(r:RelV (kV k) u):(ba P w).is k u=true:=by
 cases k with
 | inl i=>obtain⟨t,e⟩:=(show ∃ t,u=Value.int i t from r); subst e; exact oU P w i t
 | inr x=>obtain⟨t,e⟩:=(show ∃ t,u=Value.str x t from r); subst e; exact ou P w x t
theorem og {P:Program}{w:World}:∀ {ks:List Key}{us:List Value},Vals (ks.map kV) us->ItemsAre (ba P w) ks us
 | [],_,r=>by rw[List.map_nil] at r; cases r; exact .nil
 | k::ks,_,r=>by
  rw[map_cons] at r
  cases r with
  | cons h t=>exact .cons (qY h) (og t)
abbrev KT (H:Hp):List (List Key×V)->List (List Key×Addr×Value)->Prop:=Paired fun p q=>p.1=q.1/\H q.2.1=some (.tup (p.1.map kV))/\RelV p.2 q.2.2
theorem KT.val {H:Hp}{kvs:List (List Key×V)}{xs:List (List Key×Addr×Value)}(r:KT H kvs xs) (k:List Key):RelO (cR kvs k) ((atKey xs k).map (·.2)):=by
 induction r with
 | nil=>exact True.intro
 | @cons p q ps qs h t ih =>
  obtain⟨h1,_,h2⟩:=h
  by_cases e:p.1=k
  ·have e':q.1=k:=h1.symm.trans e
   have b:atKey (q::qs) k=some q.2:=by simp[atKey,List.find?_cons,e']
   rw[ce e,b]; exact h2
  ·have e':¬ q.1=k:=fun z=>e (h1.trans z)
   have b:atKey (q::qs) k=atKey qs k:=by simp[atKey,List.find?_cons,e']
   rw[cq e,b]; exact ih
theorem KT.repl {H:Hp}{kvs:List (List Key×V)}{xs:List (List Key×Addr×Value)}(r:KT H kvs xs) (k:List Key) {y:V}{u:Value}(ry:RelV y u) :
  KT H (kvs.map fun kv=>if kv.1=k then (kv.1,y) else kv) (xs.map (putAt k u)):=by
 induction r with
 | nil=>exact .nil
 | @cons p q ps qs h t ih =>
  rw[map_cons,map_cons]
  refine .cons ?_ ih
  obtain⟨h1,h2,h3⟩:=h
  unfold putAt
  by_cases e:p.1=k
  ·rw[if_pos e,if_pos (h1.symm.trans e)]; exact⟨h1,h2,ry⟩
  ·rw[if_neg e,if_neg (fun z=>e (h1.trans z))]; exact⟨h1,h2,h3⟩
theorem KT.put {H:Hp}{kvs:List (List Key×V)}{xs:List (List Key×Addr×Value)}(r:KT H kvs xs) (k:List Key) {b:Addr}{y:V}{u:Value}(hb:H b=some (.tup (k.map kV))) (ry:RelV y u) :
  KT H (dI kvs k y) (storedH xs k b u):=by
 have e:(kvs.any fun kv=>decide (kv.1=k))=(atKey xs k).isSome:=by
  rw[hV,(r.val k).isSome_eq,Option.isSome_map]
 unfold dI storedH
 rw[e]
 by_cases q:(atKey xs k).isSome=true
 ·rw[if_pos q,if_pos q]; exact r.repl k ry
 ·rw[if_neg q,if_neg q]; exact Paired.snoc r ⟨rfl,hb,ry⟩
theorem KT.keeps {H H':Hp}{kvs:List (List Key×V)}{xs:List (List Key×Addr×Value)}(r:KT H kvs xs) (ht:∀ b ys,H b=some (.tup ys)->H' b=some (.tup ys)):KT H' kvs xs :=
 Paired.mapP r fun _ _ z=>⟨z.1,ht _ _ z.2.1,z.2.2⟩
section
variable {P:Program}{w:World}{H:Hp}{h:Heap}{a:Addr}
theorem rd_of {u:HO}(ok:HOk P w H h) (e:Rd H a u):ObjOk P w H h a u:=e.ok ok
theorem r8 {kvs:List (Key×V)}(ok:HOk P w H h) (e:Rd H a (.dK kvs)):kvs.length<=sizeLine/\(a == sysModules)=false/\∃ vs,KV kvs vs/\h.DictOf (ba P w) a vs :=
 show ObjOk P w H h a (.dK kvs) from rd_of ok e
theorem dk_of {kvs:List (Key×V)}(ok:HOk P w H h) (e:H a=some (.dK kvs)):kvs.length<=sizeLine/\(a == sysModules)=false/\∃ vs,KV kvs vs/\h.DictOf (ba P w) a vs:=r8 ok (.inl e)
theorem qq {ks:List Key}(ok:HOk P w H h) (e:H a=some (.tup (ks.map kV))):(tupleKind (ba P w)).is h ks a:=by
 obtain⟨_,its,r,o,h1,h2,n,h3⟩:=(show ObjOk P w H h a (.tup (ks.map kV)) from ok a _ e)
 exact⟨o,its.toArray,n,h1,h2,h3,by simpa using og r⟩
theorem ui {kvs:List (List Key×V)}(ok:HOk P w H h) (e:Rd H a (.dT kvs)):kvs.length<=sizeLine/\(a == sysModules)=false /\
  ∃ xs,KT H kvs xs/\h.DictOfH (tupleKind (ba P w)) a xs:=by
 obtain⟨z,y,xs,r,o,es,ep,h1,h2,h3,h4,h5⟩:=(show ObjOk P w H h a (.dT kvs) from rd_of ok e)
 refine⟨z,y,xs,r,o,es,ep,h1,h2,h3,h4,fun x hx=>?_,h5⟩
 have all:∀ {l:List (List Key×V)} {m:List (List Key×Addr×Value)},KT H l m->∀ x∈m,(tupleKind (ba P w)).is h x.1 x.2.1:=by
  intro l m q
  induction q with
  | nil=>intro x hx; exact nomatch hx
  | @cons p q ps qs hq t ih =>
   intro x hx
   rcases List.mem_cons.mp hx with e | hx
   ·subst e
    exact qq ok (by rw[<- hq.1]; exact hq.2.1)
   ·exact ih x hx
 exact all r x hx
theorem dt_of {kvs:List (List Key×V)}(ok:HOk P w H h) (e:H a=some (.dT kvs)):kvs.length<=sizeLine/\(a == sysModules)=false /\
  ∃ xs,KT H kvs xs/\h.DictOfH (tupleKind (ba P w)) a xs:=ui ok (.inl e)
end
def DGet (H:Hp) (a:Addr) (y:V) (r:Option V):Prop :=
 (∃ kvs k,Rd H a (.dK kvs)/\y=kV k/\r=cR kvs k)\/∃ kvs k b,Rd H a (.dT kvs)/\y=.ref b/\H b=some (.tup (k.map kV))/\r=cR kvs k
def DPut (H:Hp) (a:Addr) (y v:V) (H':Hp):Prop :=
 (∃ kvs k,H a=some (.dK kvs)/\y=kV k/\kvs.length<sizeLine/\H'=upd H a (.dK (dI kvs k v))) \/
 ∃ kvs k b,H a=some (.dT kvs)/\y=.ref b/\H b=some (.tup (k.map kV))/\kvs.length<sizeLine/\H'=upd H a (.dT (dI kvs k v))
theorem DGet.k {H:Hp}{a:Addr}{kvs:List (Key×V)}{k:Key}(e:H a=some (.dK kvs)):DGet H a (kV k) (cR kvs k):=.inl ⟨kvs,k,.inl e,rfl,rfl⟩
theorem DPut.k {H:Hp}{a:Addr}{kvs:List (Key×V)}{k:Key}{v:V}(e:H a=some (.dK kvs)) (hl:kvs.length<sizeLine):DPut H a (kV k) v (upd H a (.dK (dI kvs k v))):=.inl ⟨kvs,k,e,rfl,hl,rfl⟩
section
variable {X:Cx}{pins:List (Addr×Obj)}{σ:St}{H:Hp}{s:Shared}{a:Addr}{y v:V}{u r:Value}{o:Option V}{A:Around}{E:Value->Shared->Prop}
theorem Inv.big (I:Inv X pins σ H s):sysModules<s.heap.objs.size:=by
 have h:mainGlobals<s.heap.objs.size:=(I.mod.glob.keeps I.bk).lt
 exact lt_trans (by decide) h
theorem sR {Q:Value->Shared->Prop}(hu:A.units+1<cLine) (I:Inv X pins σ H s) (g:DGet H a y (some v)) (ry:RelV y u) (h:∀ w' s',Inv X pins σ H s'->RelV v w'->Q w' s') :
  wpAny (model X.prog X.w) A (getItem (.ref a) u) Q E s:=by
 rcases g with ⟨kvs,k,e,ey,l⟩ | ⟨kvs,k,b,e,ey,eb,l⟩
 ·subst ey
  obtain⟨z,hd,vs,rel,dd⟩:=r8 I.hok e
  obtain⟨w',hw,rw'⟩:=RelO.some_of (v:=v) (o:=valueAt vs k) (by rw[l]; exact rel.val k)
  exact wpAny_getItem_of (qY ry) dd.mapOf hw (h w' _ (I.tok _) rw')
 ·subst ey
  cases (show u=Value.ref b from ry)
  obtain⟨z,hd,xs,rel,dd⟩:=ui I.hok e
  obtain⟨w',hw,rw'⟩:=RelO.some_of (v:=v) (o:=(atKey xs k).map (·.2)) (by rw[l]; exact rel.val k)
  obtain⟨p,hp,hp2⟩:=Option.map_eq_some_iff.mp hw
  refine wpAny_getItem_heap (tupleKind_room_in1 hu) (qq I.hok eb) dd hp ?_
  rw[hp2]
  exact h w' _ (I.tok _) rw'
theorem oC {h':Heap}{t':Nat}{ob:HO}(I:Inv X pins σ H s) (mu:Mut (H a)) (hs:Heap.SameBut a s.heap h') (he:∃ q,h'.get? a=some q) (new:ObjOk X.prog X.w (upd H a ob) h' a ob) :
  Inv X pins σ (upd H a ob) { s with heap:=h',toks:=t' } :=
 I.write (x:=a) (e:=a) mu (.inl rfl) (fun b q hb z=>(hs.2 b hb).trans z) he new
theorem dk_new {P:Program}{w:World}{H':Hp}{h':Heap}{kvs:List (Key×V)}{vs:List (Key×Value)}(z:kvs.length<=sizeLine) (hd:(a == sysModules)=false) (rel:KV kvs vs) (dd:h'.DictOf (ba P w) a vs) :
  ObjOk P w H' h' a (.dK kvs):=⟨z,hd,vs,rel,dd⟩
theorem rq {H':Hp}{Q:Unit->Shared->Prop}(hu:A.units+1<cLine) (I:Inv X pins σ H s) (g:DPut H a y v H') (ry:RelV y u) (rv:RelV v r) (h:∀ s',Inv X pins σ H' s'->Q () s') :
  wpAny (model X.prog X.w) A (setItem (.ref a) u r) Q E s:=by
 rcases g with ⟨kvs,k,e,ey,l,eH⟩ | ⟨kvs,k,b,e,ey,eb,l,eH⟩
 ·subst ey eH
  obtain⟨z,hd,vs,rel,dd⟩:=dk_of I.hok e
  have hz:vs.length<=sizeLine:=by rw[<- rel.length]; exact z
  have hl:(dI kvs k v).length<=sizeLine:=by have:=cX kvs k v; lia
  refine wpAny_setItem_pairs (hsz:=hz) (qY ry) dd fun h' dd' hs=>h _ ?_
  have he:∃ q,h'.get? a=some q:=let ⟨q,_,_,hq,_⟩:=dd'; ⟨q,hq⟩
  exact oC I (by rw[e]; exact True.intro) hs he (dk_new hl hd (rel.put k rv) dd')
 ·subst ey eH
  cases (show u=Value.ref b from ry)
  obtain⟨z,hd,xs,rel,dd⟩:=dt_of I.hok e
  have hz:xs.length<=sizeLine:=by rw[<- Paired.length rel]; exact z
  have hl:(dI kvs k v).length<=sizeLine:=by have:=cX kvs k v; lia
  refine wpAny_setItem_heap (hsz:=hz) (tupleKind_room_in1 hu) (qq I.hok eb) dd fun h' dd' hs=>h _ ?_
  obtain⟨q,es,ep,hq,h2,h3,h4,_,h5⟩:=dd'
  refine oC I (by rw[e]; exact True.intro) hs ⟨q,hq⟩ ⟨hl,hd,_,(rel.put k eb rv).keeps fun c ys ec=>?_,q,es,ep,hq,h2,h3,h4,h5⟩
  rw[au (ne_of ec e (fun z=>nomatch z))]
  exact ec
end
section
variable {X:Cx}{pins:List (Addr×Obj)}{σ:St}{H:Hp}{s:Shared}{a:Addr}{kvs:List (Key×V)}{k:Key}{u:Value}{A:Around}{E:Value->Shared->Prop}
end
def NoSl (i:Expr):Prop:=∀ ov iv,subscripted i false ov iv=operate [ov,iv] (getItem ov iv)
theorem sB {prog:Program}{w:World}{A:Around}{E:Value->Shared->Prop}{s:Shared}{env:Env}{value slice:Expr}{pos:Pos}{T id:String}{Q:Value->Shared->Prop}
  (hl:typeLookup (.type T) "__getitem__"=pure (some (.builtin id))) (hs:NoSl slice)
  (h:wpAny (model prog w) A (eval value env) (fun o s₁=>wpAny (model prog w) A (eval slice env) (fun i s₂=>s₂.TypeIs o T/\wpAny (model prog w) A (getItem o i) Q E s₂) E s₁) E s) :
  wpAny (model prog w) A (eval (.Subscript value slice pos) env) Q E s:=by
 refine Subscript_ (wpAny_mono h (fun o s₁ h₁=>wpAny_mono h₁ (fun i s₂ h₂=>?_) fun _ _ x=>x) fun _ _ x=>x)
 obtain⟨hT,h₂⟩:=h₂
 unfold subscriptTail
 refine wpAny_bind ?_
 rw[getitemInPython_of_ne hT.not_modules]
 refine wpAny_bind (wpAny_specialOf hT hl ?_)
 have fin:wpAny (model prog w) A (subscripted slice false o i) (fun r s₃=>wpAny (model prog w) A (letTemporaryGo value o r >>= fun _=>pure r) Q E s₃) E s₂:=by
  rw[hs o i]
  exact wpAny_operating (wpAny_mono h₂ (fun r s₃ h₃=>wpAny_bind (wpAny_letTemporaryGo (wpAny_pure h₃))) fun _ _ x=>x)
 first
  | exact wpAny_pure (wpAny_bind fin)
  | exact wpAny_bind (wpAny_pure (wpAny_bind fin))
  | exact wpAny_bind fin
theorem oz {X:Cx}{pins:List (Addr×Obj)}{σ:St}{H:Hp}{s:Shared}{a:Addr}{y:V}{o:Option V}(I:Inv X pins σ H s) (g:DGet H a y o):s.TypeIs (.ref a) "dict":=by
 rcases g with ⟨kvs,k,e,_,_⟩ | ⟨kvs,k,b,e,_,_,_⟩
 ·obtain⟨_,_,vs,_,dd⟩:=r8 I.hok e
  exact dd.typeIs
 ·obtain⟨_,_,xs,_,dd⟩:=ui I.hok e
  exact dd.typeIs
def tDGet (td ty:TE):TE:=fun σ H Q=>td σ H fun x H1=>ty σ H1 fun y H2=>∃ a v,x=.ref a/\DGet H2 a y (some v)/\Q v H2
def sDPut (td ty tv:TE):TS:=fun D σ H=>tv σ H fun v H1=>td σ H1 fun x H2=>ty σ H2 fun y H3=>∃ a H4,x=.ref a/\DPut H3 a y v H4/\D.nx σ H4
section
variable {X:Cx}{o i e value:Expr}{pos pos' tpos:Pos}{td ty tv:TE}
theorem iQ (hu:X.A.units+1<cLine) (ho:PE X o td) (hi:PE X i ty) (hs:NoSl i):PE X (.Subscript o i pos) (tDGet td ty):=by
 intro pins s σ H Q I h
 refine sB PySem.F.slot_dict_getitem.lookup hs (thn (ho pins s σ H _ I h) fun u s1 ⟨x,H1,I1,rx,q1⟩=>thn (hi pins s1 σ H1 _ I1 q1) fun iv s2 ⟨y,H2,I2,ry,a,v,ex,g,q2⟩=>?_)
 subst ex
 obtain rfl:u=Value.ref a:=rx
 exact⟨oz I2 g,sR hu I2 g ry fun w' s3 I3 rw'=>⟨v,H2,I3,rw',q2⟩⟩
theorem jz (hu:X.A.units+1<cLine) (ho:PE X o td) (hi:PE X i ty) (hv:PE X value tv) (hs:swapsWith value (some (.Subscript o i pos')) pos.line X.env=pure false) :
  PS X (.Assign [.Subscript o i pos'] value pos) (sDPut td ty tv):=by
 intro pins s σ H D I h
 refine wpAny_Assign_Subscript (thn (hv pins s σ H _ I h) fun r s1 ⟨v,H1,I1,rv,q1⟩=>thn (ho pins s1 σ H1 _ I1 q1) fun u s2 ⟨x,H2,I2,rx,q2⟩=>thn (hi pins s2 σ H2 _ I2 q2) fun iv s3 ⟨y,H3,I3,ry,a,H4,ex,g,q3⟩=>?_) hs
 subst ex
 obtain rfl:u=Value.ref a:=rx
 exact rq hu I3 g ry rv fun s4 I4=>⟨σ,H4,I4,q3⟩
end
theorem dk_empty {P:Program}{w:World}{H:Hp}(h:Heap) (hb:sysModules<h.objs.size):ObjOk P w H (h.push { cls:=.type "dict",data:=.dict #[] }) h.objs.size (.dK []) :=
 ⟨zero_le _,beq_eq_false_iff_ne.mpr (Ne.symm (Nat.ne_of_lt hb)),[],.nil,Heap.DictOf.new h⟩
section
variable {X:Cx}{pos:Pos}
end
def tj:List (TE×TE)->St->Hp->(List (V×V)->Hp->Prop)->Prop
 | [],_,H,Q=>Q [] H
 | (tk,tv)::r,σ,H,Q=>tk σ H fun x H1=>tv σ H1 fun y H2=>tj r σ H2 fun ps H3=>Q ((x,y)::ps) H3
abbrev VV:List (V×V)->List (Value×Value)->Prop:=Paired fun p q=>RelV p.1 q.1/\RelV p.2 q.2
def PPs (X:Cx) (pos:Pos) (keys:List (Option Expr)) (values:List Expr) (trs:List (TE×TE)):Prop :=
 ∀ (pins:List (Addr×Obj)) (s:Shared) (σ:St) (H:Hp) (Q:List (V×V)->Hp->Prop),Inv X pins σ H s->tj trs σ H Q ->
  wpAny (model X.prog X.w) X.A (evalPairs (pairTrees keys values X.env pos)) (fun vs s'=>∃ ps H',Inv X pins σ H' s'/\VV ps vs/\Q ps H') X.xe s
theorem pps_nil {X:Cx}{pos:Pos}:PPs X pos [] [] []:=fun pins s σ H Q I h=>pairTrees_nil_walk ⟨[],H,I,.nil,h⟩
theorem pps_cons {X:Cx}{pos:Pos}{k v:Expr}{ks:List (Option Expr)}{vs:List Expr}{tk tv:TE}{trs:List (TE×TE)}(hk:PE X k tk) (hv:PE X v tv) (hr:PPs X pos ks vs trs) :
  PPs X pos (some k::ks) (v::vs) ((tk,tv)::trs):=fun pins s σ H Q I h =>
 pairTrees_cons_walk (thn (hk pins s σ H _ I h) fun u s1 ⟨x,H1,I1,rx,q1⟩=>thn (hv pins s1 σ H1 _ I1 q1) fun w2 s2 ⟨y,H2,I2,ry,q2⟩ =>
  thn (hr pins s2 σ H2 _ I2 q2) fun ws s3 ⟨ps,H3,I3,rel,q3⟩=>⟨(x,y)::ps,H3,I3,.cons ⟨rx,ry⟩ rel,q3⟩)
def kr (kvs more:List (Key×V)):List (Key×V):=more.foldl (fun acc kv=>dI acc kv.1 kv.2) kvs
theorem KV.merge:∀ {more:List (Key×V)}{rs:List (Key×Value)}{kvs:List (Key×V)}{vs:List (Key×Value)},KV more rs->KV kvs vs->KV (kr kvs more) (merged vs rs):=by
 intro more rs kvs vs r
 unfold KV at r
 induction r generalizing kvs vs with
 | nil=>intro q; exact q
 | @cons p q ps qs h t ih =>
  intro r0
  have e:KV (dI kvs p.1 p.2) (stored vs q.1 q.2):=by
   have:=r0.put p.1 h.2
   rw[<- h.1]; exact this
  exact ih e
theorem gH:∀ (more kvs:List (Key×V)),(kr kvs more).length<=kvs.length+more.length
 | [],kvs=>by show kvs.length<=kvs.length+0; lia
 | p::r,kvs=>by
  have h1:=gH r (dI kvs p.1 p.2)
  have h2:=cX kvs p.1 p.2
  show (kr (dI kvs p.1 p.2) r).length<=_
  rw[length_cons]; lia
theorem lM {P:Program}{w:World}:∀ {kvs:List (Key×V)}{ws:List (Value×Value)},VV (kvs.map fun kv=>(kV kv.1,kv.2)) ws->∃ rs,Carries (ba P w) ws rs/\KV kvs rs
 | [],_,r=>by rw[List.map_nil] at r; cases r; exact⟨[],True.intro,.nil⟩
 | p::kvs,_,r=>by
  rw[map_cons] at r
  cases r with
  | @cons a b as bs h t =>
   obtain⟨rs,c,q⟩:=lM (P:=P) (w:=w) t
   obtain⟨b1,b2⟩:=b
   exact⟨(p.1,b2)::rs,⟨qY h.1,rfl,c⟩,.cons ⟨rfl,h.2⟩ q⟩
def tDisp (trs:List (TE×TE)):TE:=fun σ H Q=>∀ p,H p=none->tj trs σ (upd H p (.dK [])) fun ps H2=>H2 p=some (.dK [])/\∃ kvs:List (Key×V),ps=kvs.map (fun kv=>(kV kv.1,kv.2))/\kvs.length<=15/\Q (.ref p) (upd H2 p (.dK (kr [] kvs)))
theorem pe_disp {X:Cx}{pos:Pos}{keys:List (Option Expr)}{values:List Expr}{trs:List (TE×TE)}(h:PPs X pos keys values trs) (hall:keys.all (·.isSome)=true) (hl:keys.length=values.length) (h0:keys≠[])
  (h15:keys.length<=15):PE X (.Dict keys values pos) (tDisp trs):=by
 intro pins s σ H Q I q
 have hn:=I.hok.fresh (Nat.le_refl s.heap.objs.size)
 have I1:=I.laid (a:=s.heap.objs.size) (o:=.dK []) (h':=s.heap.push { cls:=.type "dict",data:=.dict #[] }) (t':=s.toks) (fun _ _ q=>Heap.get?_push_of_some _ q) (Nat.le_refl _) (dk_empty s.heap I.big)
 refine wpAny_Dict_walk (knd:=ba X.prog X.w) hall hl h0 h15 (thn (h pins _ σ _ _ I1 (q _ hn)) fun ws s2 ⟨ps,H2,I2,rel,e,kvs,ep,lk,q2⟩=>?_)
 subst ep
 obtain⟨rs,c,rk⟩:=lM (P:=X.prog) (w:=X.w) rel
 obtain⟨z,hd,vs0,r0,dd⟩:=dk_of I2.hok e
 cases r0
 refine⟨rs,c,dd,fun h' dd' hs=>⟨.ref s.heap.objs.size,_,?_,rfl,q2⟩⟩
 have hz:(kr [] kvs).length<=sizeLine:=by
  have h1:=gH kvs []
  rw[List.length_nil] at h1
  rw[sizeLine_eq]; lia
 have he:∃ q,h'.get? s.heap.objs.size=some q:=let ⟨q,_,_,hq,_⟩:=dd'; ⟨q,hq⟩
 exact oC I2 (by rw[e]; exact True.intro) hs he (dk_new hz hd (rk.merge .nil) dd')
structure M1 (X:Cx) (o:Expr) (m:Str) (apos:Pos) (e:Expr) (cpos:Pos):Prop where
 base:attributeBase o m X.env (eval o X.env)=eval o X.env
 few:((backTo cpos (starEach [e] X.env)).all (fun x=>!x.1)&&(backToKw cpos (keywordEach [] X.env)).all (fun x=>x.1.isSome)
 &&decide (([e]:List Expr).length+([]:List Keyword).length+(if ([]:List Keyword).isEmpty then 0 else 1)<30))=true
 line:(apos.endLine == cpos.line)=true
 trees:backTo cpos (starEach [e] X.env)=[(false,eval e X.env)]
def IsD (H:Hp) (a:Addr):Prop:=(∃ kvs,Rd H a (.dK kvs))\/∃ kvs,Rd H a (.dT kvs)
theorem isD_at {X:Cx}{pins:List (Addr×Obj)}{σ:St}{H:Hp}{s:Shared}{a:Addr}(I:Inv X pins σ H s) (d:IsD H a) :
  s.TypeIs (.ref a) "dict"/\(∀ b,Value.ref a=.ref b->∃ ob,s.heap.get? b=some ob/\ob.dict=none)/\(a == sysModules)=false:=by
 rcases d with ⟨kvs,e⟩ | ⟨kvs,e⟩
 ·obtain⟨_,hd,vs,_,dd⟩:=r8 I.hok e
  refine⟨dd.typeIs,fun b q=>?_,hd⟩
  cases q
  obtain⟨ob,_,_,h1,h2,_⟩:=dd
  exact⟨ob,h1,h2.2.1⟩
 ·obtain⟨_,hd,xs,_,dd⟩:=ui I.hok e
  refine⟨dd.typeIs,fun b q=>?_,hd⟩
  cases q
  obtain⟨ob,_,_,h1,h2,_⟩:=dd
  exact⟨ob,h1,h2.2.1⟩
section
variable {X:Cx}{pins:List (Addr×Obj)}{σ:St}{H:Hp}{s:Shared}{a:Addr}{y d:V}{u r:Value}{o:Option V}{A:Around}{E:Value->Shared->Prop}
theorem d_get1 {Q:Value->Shared->Prop}(hu:A.units+1<cLine) (I:Inv X pins σ H s) (g:DGet H a y o) (ry:RelV y u) (h:∀ w' s',Inv X pins σ H s'->RelV (o.getD .non) w'->Q w' s') :
  wpAny (model X.prog X.w) A (call (.builtin "dict.get") [.ref a,u]) Q E s:=by
 rcases g with ⟨kvs,k,e,ey,l⟩ | ⟨kvs,k,b,e,ey,eb,l⟩
 ·subst ey
  obtain⟨z,hd,vs,rel,dd⟩:=r8 I.hok e
  refine call_meetsIn PySem.F.slot_dict_get dd.typeIs PySem.F.entry_dict_get (PySem.F.args_dict_get_2 _ _) (meets_dict_get (ba X.prog X.w) a (qY ry) hd) ⟨_,dd.mapOf,h _ _ (I.tok _) ?_⟩
  rw[l]
  exact(rel.val k).getD rfl
 ·subst ey
  cases (show u=Value.ref b from ry)
  obtain⟨z,hd,xs,rel,dd⟩:=ui I.hok e
  refine call_meetsIn PySem.F.slot_dict_get dd.typeIs PySem.F.entry_dict_get (PySem.F.args_dict_get_2 _ _) (meetsH_dict_get (tupleKind (ba X.prog X.w)) a b hd) ⟨tupleKind_room_in1 hu,k,xs,qq I.hok eb,dd,h _ _ (I.tok _) ?_⟩
  rw[l]
  exact(rel.val k).getD rfl
end
def tDGet1 (td ty:TE):TE:=fun σ H Q=>td σ H fun x H1=>∃ a,x=.ref a/\IsD H1 a/\ty σ H1 fun y H2=>∃ o,DGet H2 a y o/\Q (o.getD .non) H2
section
variable {X:Cx}{o e f:Expr}{apos cpos:Pos}{td ty tx:TE}
theorem pe_dget1 (hu:X.A.units+1<cLine) (ho:PE X o td) (he:PE X e ty) (m:M1 X o "get" apos e cpos):PE X (.Call (.Attribute o "get" apos) [e] [] cpos) (tDGet1 td ty):=by
 intro pins s σ H Q I h
 refine wpAny_Call_method m.base m.few m.line PySem.F.plainAttrs_dict PySem.F.slot_dict_get PySem.F.type_dict_get (thn (ho pins s σ H _ I h) fun u s1 ⟨x,H1,I1,rx,a,ex,d,q1⟩=>?_)
 subst ex
 obtain rfl:u=Value.ref a:=rx
 obtain⟨t1,t2,_⟩:=isD_at I1 d
 refine⟨t1,t2,?_⟩
 rw[m.trees]
 refine Calls.callWith_builtin rfl (Calls.evalArgs_plain (Calls.spliced_cons (thn (he pins s1 σ H1 _ I1 q1) fun iv s2 ⟨y,H2,I2,ry,ov,g,q2⟩=>Calls.spliced_nil ?_)))
 exact d_get1 hu I2 g ry fun w' s3 I3 rw'=>⟨_,H2,I3,rw',q2⟩
end
section
variable {X:Cx}{pins:List (Addr×Obj)}{σ:St}{H:Hp}{s:Shared}{a:Addr}{kvs:List (Key×V)}{A:Around}{E:Value->Shared->Prop}
end
section
variable {X:Cx}{pins:List (Addr×Obj)}{σ:St}{H:Hp}{s:Shared}{a:Addr}{y:V}{u:Value}{A:Around}{E:Value->Shared->Prop}
end
end L2
namespace L2
open PySem PySem.Spec PyProof.Rows
section
variable {κ:Type} [DecidableEq κ]
theorem valV_not {kvs:List (κ×V)}{k:κ}(h:cR kvs k=none):¬ k∈kvs.map (·.1):=by
 intro m
 obtain⟨p,hp,e⟩:=List.mem_map.mp m
 have q:(kvs.any fun kv=>decide (kv.1=k))=true:=List.any_eq_true.mpr ⟨p,hp,decide_eq_true e⟩
 rw[hV,h] at q
 exact absurd q (by simp)
end
end L2
namespace Ow
open PySem PySem.Spec PyProof.Rows L2
section
variable {X:Cx}{pins:List (Addr×Obj)}{σ:L2.St}{H:Hp}{s:Shared}
theorem _root_.Internal.L2.Inv.freeze {a:Addr}{o:Obj}{kvs:List (Key×V)}(I:Inv X pins σ H s) (e:H a=some (.dK kvs)) (g:s.heap.get? a=some o):Inv X pins σ (upd H a (.frz o (.dK kvs))) s:=by
 have ok:=I.hok a _ e
 exact I.write (x:=a) (e:=a) (o:=.frz o (.dK kvs)) (h':=s.heap) (t':=s.toks) (by rw[e]; exact True.intro) (.inl rfl) (fun b u _ q=>q) ⟨_,g⟩ ⟨g,ok⟩
theorem _root_.Internal.L2.Inv.thaw {a:Addr}{o:Obj}{kvs:List (Key×V)}(I:Inv X pins σ H s) (e:H a=some (.frz o (.dK kvs))) (h0:∀ o u,X.H₀ a≠some (.frz o u)):Inv X pins σ (upd H a (.dK kvs)) s:=by
 have up:∀ b u,H b=some u->(∀ o u',u≠.frz o u')->upd H a (.dK kvs) b=some u:=fun b u q hn=>by
  rw[au (fun z=>by rw[z,e] at q; cases q; exact hn _ _ rfl)]; exact q
 have upn:∀ b,H b=none->upd H a (.dK kvs) b=none:=fun b q=>by
  rw[au (fun z=>by rw[z,e] at q; cases q)]; exact q
 refine⟨I.ok,I.os,I.bare,⟨I.base.keep,I.base.slot,fun b o' q n hx=>upn b (I.base.free b o' q n hx),I.base.there,fun b xs q=>up b _ (I.base.tups b xs q) (fun _ _ z=>nomatch z),fun b o' u q=>?_,fun b ps q=>?_⟩,I.loc,I.cell,upn _ I.free,fun x c q=>upn c (I.freeC x c q),fun p hp=>?_,fun b ob q=>?_,I.len⟩
 ·have:=I.base.frzs b o' u q
  rw[au (fun z=>h0 _ _ (z ▸ q))]; exact this
 ·obtain⟨m,z⟩:=I.base.tbls b ps q
  exact⟨m,up b _ z (fun _ _ z=>nomatch z)⟩
 ·obtain⟨g,n,r⟩:=I.pin p hp
  exact⟨g,upn _ n,r⟩
 ·by_cases hb:b=a
  ·subst hb
   rw[ae] at q
   cases q
   exact(I.hok b _ e).2
  ·rw[au hb] at q
   refine(I.hok b ob q).stay (fun c v hc z=>z) (fun c z=>?_) fun c xs z=>?_
   ·exact up c _ z (fun _ _ z=>nomatch z)
   ·exact up c _ z (fun _ _ z=>nomatch z)
end
def Itk (a:Addr) (o:Obj) (kvs:List (Key×V)):It :=
 ⟨fun i H=>H a=some (.frz o (.dK kvs))/\i<kvs.length,fun i H x H'=>H'=H/\∃ kv,kvs[i]?=some kv/\x=kV kv.1,fun i H=>H a=some (.frz o (.dK kvs))/\i=kvs.length⟩
theorem key_rel {P:Program}{w:World}{k:Key}{u:Value}(h:(ba P w).is k u=true):RelV (kV k) u:=by
 rcases bq h with ⟨i,t,rfl,rfl⟩ | ⟨x,t,rfl,rfl⟩
 ·exact⟨t,rfl⟩
 ·exact⟨t,rfl⟩
theorem KV.at' {kvs:List (Key×V)}{vs:List (Key×Value)}(r:KV kvs vs) {i:Nat}(h:i<kvs.length):∃ kv v,kvs[i]?=some kv/\vs[i]?=some (kv.1,v):=by
 have e:=r.keys
 have hl:=r.length
 refine⟨kvs[i],(vs[i]'(by lia)).2,List.getElem?_eq_getElem h,?_⟩
 have z:=congrArg (fun l=>l[i]?) e
 simp only[List.getElem?_map,List.getElem?_eq_getElem h,List.getElem?_eq_getElem (show i<vs.length by lia),Option.map_some] at z
 rw[List.getElem?_eq_getElem (show i<vs.length by lia),Option.some.inj z]
theorem sQ {P:Program}{w:World}{K:Frag}{tg:Expr}(a it:Addr) (o:Obj) (kvs:List (Key×V)) (es:Array DictEntry) (ep:Nat) (ho:o.data=.dict es ep):Turn P w K tg (Itk a o kvs) [it] it (fun i h=>h.IsKeyIter it a i kvs.length ep) where
 mem:=by simp
 obj:=fun i h st b hb=>by
  have e:b=it:=by simpa using hb
  subst e
  obtain⟨o,e,c,d⟩:=st
  exact⟨o,e,fun v z=>by rw[d] at z; cases z⟩
 keep:=fun i h h' st k=>st.at fun o e=>k it (by simp) o e
 item:=by
  intro X hP hw hK hc i pins s σ H E I hf st hg
  subst hP hw hK
  obtain⟨hq,hi⟩:=hg
  obtain⟨g,hl,hs,vs,kv,o2,es2,ep2,g2,ed,dt,ko,pr,nd⟩:=I.hok a _ hq
  rw[g] at g2
  cases g2
  rw[ho] at dt
  cases dt
  obtain⟨kx,vx,hk,hv⟩:=KV.at' kv hi
  obtain⟨f0,f1,f2,f3,f4,f5⟩:=hf it (by simp)
  have hln:=kv.length
  refine wpAny_pyNext_dict_item (knd:=ba X.prog X.w) (by rw[<- hln]; exact st) ⟨o,es,g,ed,ho,ko,pr,nd⟩ hv fun key h' ke st' sb=>?_
  have I1:Inv X pins σ H { s with heap:=h' }:=I.turned (t':=s.toks) (fun b o hb e=>(sb.2 b hb).trans e) f0 f1 f3 f4 f5
  obtain⟨o3,e,c,d⟩:=id st'
  exact⟨key,rfl,go_of (s:={ s with heap:=h' }) e c d (by decide) ⟨kV kx.1,H,I1,key_rel ke,⟨rfl,kx,hk,rfl⟩,by rw[hln]; exact st',fun b hb=>(hf b hb).1⟩⟩
 done:=by
  intro X hP hw hK hc i pins s σ H E I hf st hg
  subst hP hw hK
  obtain⟨hq,hi⟩:=hg
  obtain⟨g,hl,hs,vs,kv,o2,es2,ep2,g2,ed,dt,ko,pr,nd⟩:=I.hok a _ hq
  rw[g] at g2
  cases g2
  rw[ho] at dt
  cases dt
  obtain⟨f0,f1,f2,f3,f4,f5⟩:=hf it (by simp)
  have hln:=kv.length
  exact wpAny_pyNext_dict_end (knd:=ba X.prog X.w) (I.ok.hd hc) (by rw[<- hln]; exact st) ⟨o,es,g,ed,ho,ko,pr,nd⟩ (List.getElem?_eq_none (by lia)) fun h' eb=>⟨rfl,I.turned (t':=s.toks) (fun b o hb e=>eb b o hb e) f0 f1 f3 f4 f5⟩
 self:=fun _ _ _ _ _ st h=>wpAny_pyIter_keyiter st h
section
variable {X:Cx}{tg:Expr}
def iDict (tl:TE):TI:=fun σ H R=>tl σ H fun x H1=>∃ a kvs,x=.ref a/\H1 a=some (.dK kvs)/\∀ o,R (Itk a o kvs) (upd H1 a (.frz o (.dK kvs)))
theorem rV {l:Expr}{tl:TE}(hl:PE X l tl):PI X tg l (iDict tl):=by
 intro pins s σ H R I h
 refine thn (hl pins s σ H _ I h) fun v s1 ⟨x,H1,I1,r1,q1⟩=>?_
 obtain⟨a,kvs,e,hq,q⟩:=q1
 subst e
 cases r1
 obtain⟨hz,hs,vs,kv,o,es,ep,g,ed,dt,ko,pr,nd⟩:=I1.hok a _ hq
 have hln:=kv.length
 refine wpAny_pyIter_dict (knd:=ba X.prog X.w) hs ⟨o,es,g,ed,dt,ko,pr,nd⟩ ?_
 have I2:=I1.freeze hq g
 refine⟨s1.heap.objs.size,[s1.heap.objs.size],_,_,_,rfl,I2.kept (t':=s1.toks) fun b o e=>Heap.get?_push_of_some _ e,sQ a _ o kvs es ep dt,⟨_,Heap.get?_push_size _ rfl,rfl,by rw[hln]; rfl⟩,fun b hb=>?_,q o⟩
 have e:b=s1.heap.objs.size:=by simpa using hb
 subst e
 exact I2.fpOk (Nat.le_refl _) (I2.hok.fresh (Nat.le_refl _))
def tThaw (H₀:Hp) (te:TE):TE:=fun σ H Q=>te σ H fun v H1=>∃ a o kvs,H1 a=some (.frz o (.dK kvs))/\(∀ o u,H₀ a≠some (.frz o u))/\Q v (upd H1 a (.dK kvs))
theorem pe_thaw {e:Expr}{te:TE}(he:PE X e te):PE X e (tThaw X.H₀ te):=by
 intro pins s σ H Q I h
 exact thn (he pins s σ H _ I h) fun v s1 ⟨x,H1,I1,r1,a,o,kvs,hq,h0,q⟩=>⟨x,_,I1.thaw hq h0,r1,q⟩
def sThaw (H₀:Hp) (ts:TS):TS:=fun D σ H=>ts { D with nx:=fun σ' H1=>∃ a o kvs,H1 a=some (.frz o (.dK kvs))/\(∀ o u,H₀ a≠some (.frz o u))/\D.nx σ' (upd H1 a (.dK kvs)) } σ H
theorem ps_thaw {st:Stmt}{ts:TS}(h:PS X st ts):PS X st (sThaw X.H₀ ts):=by
 intro pins s σ H D I q
 refine wpAny_mono (h pins s σ H _ I q) (fun fl s1 z=>?_) fun _ _ z=>z
 cases fl with
 | next=>obtain⟨σ',H1,I1,a,o,kvs,hq,h0,q⟩:=z; exact⟨σ',_,I1.thaw hq h0,q⟩
 | brk=>exact z
 | cont=>exact z
 | ret u=>exact z
theorem tT {a:Addr}{o:Obj}{kvs:List (Key×V)}{D:Addr}{te':TE}{tl:L2.St}{G:Hp->Prop}{H1:Hp}(Pv:Nat->Hp->Prop) (h0:Pv 0 (upd H1 D (.lst [])))
  (hf:∀ i H,i<=kvs.length->Pv i H->H a=some (.frz o (.dK kvs)))
  (hs:∀ (i:Nat) (kv:Key×V) H,i<kvs.length->kvs[i]?=some kv->Pv i H->te' (some (kV kv.1)::tl) H fun y H2=>∃ ys,H2 D=some (.lst ys)/\ys.length<sizeLine/\∃ m',m'<kvs.length-i/\m'=kvs.length-(i+1)/\i+1<=kvs.length/\Pv (i+1) (upd H2 D (.lst (ys++[y]))))
  (hd:∀ H,Pv kvs.length H->G H) :
  ∃ W:Nat->Nat->Hp->Prop,(∃ m,W 0 m (upd H1 D (.lst [])))/\∀ i m H,W i m H ->
   ((Itk a o kvs).stop i H/\G H)\/((Itk a o kvs).go i H/\∀ x H',(Itk a o kvs).yld i H x H'->te' (some x::tl) H' fun y H2=>∃ ys,H2 D=some (.lst ys)/\ys.length<sizeLine/\∃ m',m'<m/\W (i+1) m' (upd H2 D (.lst (ys++[y])))):=by
 refine⟨fun i m H=>m=kvs.length-i/\i<=kvs.length/\Pv i H,⟨kvs.length,by simp,zero_le _,h0⟩,?_⟩
 rintro i m H ⟨rfl,hi,p⟩
 by_cases hlt:i<kvs.length
 ·refine .inr ⟨⟨hf i H hi p,hlt⟩,?_⟩
  rintro x H' ⟨rfl,kv,hk,rfl⟩
  exact hs i kv _ hlt hk p
 ·have e:i=kvs.length:=by lia
  subst e
  exact .inl ⟨⟨hf _ H hi p,rfl⟩,hd H p⟩
end
theorem call_sum {X:Cx}(hc:X.calm=true):fP X (.builtin "sum") (fun xs H Q=>∃ (a:Addr) (ns:List Int),xs=[.ref a]/\SqL X.K H a (ns.map V.int)/\Q (.int ns.sum) H):=by
 intro pins s σ H xs us Q I r h
 obtain⟨a,ns,rfl,hq,q⟩:=h
 obtain⟨u,rfl,rx⟩:=pf r
 cases rx
 obtain⟨its,rv,pl,hz⟩:=I.list hq
 have hl:=rv.length
 rw[length_map] at hl
 refine call_sum_walkG (wpAny_pyIter_list pl.isList ?_)
 have hne:a≠s.heap.objs.size:=by
  obtain⟨o,ho,_⟩:=pl.isList
  exact Nat.ne_of_lt (Heap.lt_size ho)
 refine⟨s.heap.objs.size,_,_,_,_,_,fun j=>ns.getD j 0,rfl,Walks.list (A:=X.A.in1) (I.ok.hd hc) s.heap.objs.size a hne its.toArray,⟨⟨_,Heap.get?_push_size _ rfl,rfl,rfl⟩,Heap.IsList.push pl.isList _⟩,?_,?_,?_⟩
 ·intro b hb
  show b<(s.heap.push _).objs.size
  rw[Heap.size_push]
  rcases List.mem_cons.mp hb with rfl | hb
  ·exact lt_succ_self _
  ·rw[List.mem_singleton.mp hb]
   obtain⟨o,ho,_⟩:=pl.isList
   exact lt_succ_of_lt (Heap.lt_size ho)
 ·intro i v hP
  have hP':its[i]?=some v:=by simpa using hP
  have hi:i<its.length:=(List.getElem?_eq_some_iff.mp hP').1
  have hb:(ns.map V.int)[i]?=some (V.int (ns.getD i 0)):=by
   rw[List.getElem?_map,getD_eq_getElem?_getD,List.getElem?_eq_getElem (by lia)]
   rfl
  obtain⟨u',hu',t,ru'⟩:=rv.get hb
  rw[hP'] at hu'
  cases hu'
  exact⟨t,ru'⟩
 ·intro h' tk t' hk
  have e0:∀ (l:List Int) (m:Nat),m<=l.length->preSum (fun j=>l.getD j 0) m=(l.take m).sum:=by
   intro l m
   induction m with
   | zero=>intro _; simp[preSum]
   | succ m ih =>
    intro hm
    rw[take_add_one,List.sum_append,<- ih (by lia),List.getElem?_eq_getElem (by lia)]
    simp[preSum,getD_eq_getElem?_getD,List.getElem?_eq_getElem (show m<l.length by lia)]
  have e1:preSum (fun j=>ns.getD j 0) its.toArray.size=ns.sum:=by
   rw[size_toArray,<- hl,e0 ns ns.length (Nat.le_refl _),take_length]
  rw[e1]
  exact⟨.int _,H,I.kept (t':=tk) fun b o e=>hk b o (fun z=>by
   have z':b=s.heap.objs.size:=by simpa using z
   exact absurd (Heap.lt_size e) (by rw[z']; exact lt_irrefl _)) (Heap.get?_push_of_some _ e),⟨t',rfl⟩,q⟩
theorem nu:∀ (ys:List Str) (k:Nat),Vals (ys.map V.str) (strsFrom k ys)
 | [],_=>.nil
 | y::r,k=>.cons ⟨_,rfl⟩ (nu r (k+1))
theorem mt_split {X:Cx}:MtM X "str.split" (fun x vs H Q=>∃ z:Str,x=.str z/\vs=[]/\z.length<=sizeLine/\(Builtin.Str.spaceWords z (z.length+1)).length<=sizeLine/\(Builtin.Str.spaceWords z (z.length+1) == [(0,z.length)])=false/\(wordsOf z).length<=sizeLine /\
  ∀ l,H l=none->Q (.ref l) (upd H l (.lst ((wordsOf z).map V.str)))):=by
 intro pins s σ H x vs v us Q I rx rv h
 obtain⟨z,rfl,rfl,h1,h2,h3,h4,q⟩:=h
 obtain⟨t,rfl⟩:=rx
 cases rv
 refine call_meets F.slot_str_split (typeIs_str s z t) F.entry_str_split (F.args_str_split_1 _) (meets_str_split_space z t h1 h2) ?_
 rw[h3,if_neg (by decide)]
 exact⟨.ref s.heap.objs.size,_,I.laid (t':=_) (fun b o e=>Heap.get?_push_of_some _ e) (Nat.le_refl _) (show ObjOk X.prog X.w _ _ _ (.lst _) from ⟨by rw[length_map]; exact h4,_,0,nu _ _,Heap.get?_push_size _ rfl⟩),rfl,q _ (I.hok.fresh (Nat.le_refl _))⟩
structure GD (K:Frag) (P:Program) (w:World) (a:Addr) (vs:List (Key×Value)):Prop where
 ex:∃ o es ep,K.lookup a=some o/\o.ExactDict/\o.data=.dict es ep/\PySem.KeysOf (ba P w) es/\Pairs (ba P w) es.toList vs/\(vs.map (·.1)).Nodup
def gEnt (p:Params) (x:Str×Tok×Addr):DictEntry:=⟨PyData.keyHash p x.1,.str x.1 x.2.1,.ref x.2.2⟩
def gVal (x:Str×Tok×Addr):Key×Value:=(.inr x.1,.ref x.2.2)
theorem gd_mk {K:Frag}{P:Program}{w:World}{a:Addr}{ents:List (Str×Tok×Addr)}{ep:Nat}{sl:Array (Option Value)}(h:K.lookup a=some ⟨.type "dict",none,.dict (ents.map (gEnt w.params)).toArray ep,sl⟩) (nd:(ents.map (·.1)).Nodup) (hx:(⟨.type "dict",none,.dict (ents.map (gEnt w.params)).toArray ep,sl⟩:Obj).ExactDict) :
  GD K P w a (ents.map gVal):=by
 refine⟨_,_,_,h,hx,rfl,fun e he=>?_,?_,?_⟩
 ·obtain⟨x,_,rfl⟩:=List.mem_map.mp (List.mem_toArray.mp he)
  refine⟨.inr x.1,?_,?_⟩
  ·show Value.isStrOf x.1 (.str x.1 x.2.1)=true
   exact beq_self_eq_true _
  ·rfl
 ·show Pairs _ (ents.map (gEnt w.params)) _
  clear h nd hx
  induction ents with
  | nil=>exact .nil
  | cons x r ih =>
   refine .cons ?_ rfl ih
   show Value.isStrOf x.1 (.str x.1 x.2.1)=true
   exact beq_self_eq_true _
 ·have e:(ents.map gVal).map (·.1)=(ents.map (·.1)).map (Sum.inr (α:=Int)):=by
   rw[map_map,map_map]
   rfl
  rw[e]
  unfold List.Nodup
  rw[List.pairwise_map]
  exact List.Pairwise.imp (fun h z=>h (Sum.inr.inj z)) nd
def tGD (a:Addr) (vs:List (Key×Value)) (tO ti:TE):TE:=fun σ H Q=>tO σ H fun x H1=>ti σ H1 fun y H2=>∃ k b,x=.ref a/\y=.str k/\valueAt vs (.inr k)=some (.ref b)/\Q (.ref b) H2
theorem pe_gdget {X:Cx}{a:Addr}{vs:List (Key×Value)}{o i:Expr}{tO ti:TE}{pos:Pos}(g:GD X.K X.prog X.w a vs) (ho:PE X o tO) (hi:PE X i ti) (hs:NoSl i):PE X (.Subscript o i pos) (tGD a vs tO ti):=by
 intro pins s σ H Q I h
 refine sB PySem.F.slot_dict_getitem.lookup hs (thn (ho pins s σ H _ I h) fun u s1 ⟨x,H1,I1,rx,q1⟩=>thn (hi pins s1 σ H1 _ I1 q1) fun iv s2 ⟨y,H2,I2,ry,k,b,ex,ey,hv,q2⟩=>?_)
 subst ex ey
 obtain rfl:u=Value.ref a:=rx
 obtain⟨oo,es,ep,lk,xd,dt,ko,pr,nd⟩:=g.ex
 have dd:s2.heap.DictOf (ba X.prog X.w) a vs:=⟨oo,es,ep,I2.kIn _ _ lk,xd,dt,ko,pr,nd⟩
 exact⟨dd.typeIs,wpAny_getItem_of (qY (k:=.inr k) ry) dd.mapOf hv ⟨.ref b,H2,I2.tok _,rfl,q2⟩⟩
section
variable {X:Cx}
theorem pps_nilS {pos:Pos}:Sl (PPs X pos [] [] []):=⟨pps_nil⟩
theorem eT {pos:Pos}{k v:Expr}{ks:List (Option Expr)}{vs:List Expr}{tk tv:TE}{trs:List (TE×TE)}(hk:PE X k tk) (hv:Sl (PE X v tv)) (hr:Sl (PPs X pos ks vs trs)):Sl (PPs X pos (some k::ks) (v::vs) ((tk,tv)::trs)):=⟨pps_cons hk hv.out hr.out⟩
theorem pe_dispS {pos:Pos}{keys:List (Option Expr)}{values:List Expr}{trs:List (TE×TE)}(h:Sl (PPs X pos keys values trs)) (hall:keys.all (·.isSome)=true) (hl:keys.length=values.length) (h0:keys≠[]) (h15:keys.length<=15):Sl (PE X (.Dict keys values pos) (tDisp trs)):=⟨pe_disp h.out hall hl h0 h15⟩
theorem pe_dgetS {o i:Expr}{td ty:TE}{pos:Pos}(hu:X.A.units+1<cLine) (ho:Sl (PE X o td)) (hi:PE X i ty) (hs:NoSl i):Sl (PE X (.Subscript o i pos) (tDGet td ty)):=⟨iQ hu ho.out hi hs⟩
end
theorem tH {X:Cx}{d:Nat}(hu:X.A.units+d+1<cLine):OpR X (compareOp .NotEq) (rEqTD X.K d true):=by
 intro pins s σ H x y v u Q I rx ry h
 obtain⟨p,q,xs,ys,e,rfl,rfl,hp,hq,he,k⟩:=h
 cases rx
 cases ry
 obtain⟨its,r,pl,_⟩:=I.tuple hp
 obtain⟨its2,r2,pl2,_⟩:=I.tuple hq
 have hl:=r.length
 have hl2:=r2.length
 refine SeqAt.RcNeAt.tuples (e:=e) pl pl2 (by lia) (fun j h1 h2=>?_) X.prog X.w X.xe _ ⟨.bl _,H,I,rfl,?_⟩
 ·have h1':j<its.length:=by simpa using h1
  have h2':j<its2.length:=by simpa using h2
  have z:=(he j (by lia) (by lia)).at I (cO r h1') (cO r2 h2') (A:=X.A.in1) (by show X.A.units+1+d<_; lia)
  simpa using z
 ·simp only[size_toArray,<- hl,<- hl2]
  exact k
theorem slO {p:Prop}(h:Sl p):p:=h.out
end Ow
namespace Ow
open PySem PyProof.Rows
class KeyC where
 ky:Keyed->Int
 isIn:Keyed->Prop
 kd:SortKind
abbrev ky [KeyC] (p:Keyed):Int:=KeyC.ky p
abbrev qh [KeyC] (p:Keyed):Prop:=KeyC.isIn p
class KeyL [KeyC] (prog:Program) (w:World) (A:Around) (s:Shared):Prop where
 lt:∀ {E:Value->Shared->Prop} {st:SortSt} {x y:Keyed} {Q:Option Bool->SortSt->Prop},kindOf st=KeyC.kd->qh x->qh y->Q (some (decide (ky x<ky y))) st->wpS (model prog w) A E s (lt' x y) Q st
variable [KeyC]
def bX:Bool->Keyed->Array Keyed->Nat->Nat->Nat->StateT SortSt Sem (Option Nat):=sortPriv% PySem.Builtin.gallop
noncomputable def byd (left:Bool) (key:Keyed) (arr:Array Keyed) (base i:Nat):StateT SortSt Sem (Option Bool):=do
 let x <- elem' arr (base+i)
 if left then lt' x key else return (<- lt' key x).map (!·)
theorem qN (left:Bool) (key:Keyed) (arr:Array Keyed) (base n hint:Nat):bX left key arr base n hint=(do
 let mut lastofs:=0
 let mut ofs:=1
 let mut lo:=0
 let mut hi:=0
 let some right <- byd left key arr base hint | return none
 if right then
  let maxofs:=n-hint
  for _ in [0:n] do
   if ofs ≥ maxofs then break
   let some more <- byd left key arr base (hint+ofs) | return none
   if !more then break
   lastofs:=ofs
   ofs:=2*ofs+1
  lo:=hint+lastofs+1
  hi:=hint+min ofs maxofs
 else
  let maxofs:=hint+1
  for _ in [0:n] do
   if ofs ≥ maxofs then break
   let some found <- byd left key arr base (hint-ofs) | return none
   if found then break
   lastofs:=ofs
   ofs:=2*ofs+1
  lo:=hint+1-min ofs maxofs
  hi:=hint-lastofs
 for _ in [0:n] do
  if lo ≥ hi then break
  let m:=lo+(hi-lo)/2
  let some more <- byd left key arr base m | return none
  if more then lo:=m+1 else hi:=m
 return some hi):=rfl
section
variable {prog:Program}{w:World}{A:Around}{E:Value->Shared->Prop}{s:Shared} [KeyL prog w A s]
theorem mT {st:SortSt}{x y:Keyed}{Q:Option Bool->SortSt->Prop}(hk:kindOf st=KeyC.kd) (hx:qh x) (hy:qh y) (h:Q (some (decide (ky x<ky y))) st):wpS (model prog w) A E s (lt' x y) Q st:=KeyL.lt hk hx hy h
theorem aW {st:SortSt}{arr:Array Keyed}{i:Nat}{x:Keyed}{Q:Keyed->SortSt->Prop}(e:arr[i]?=some x) (h:Q x st):wpS (model prog w) A E s (elem' arr i) Q st:=by
 rw[elem'_eq,e]
 exact wpS_pure h
noncomputable def bydB (left:Bool) (key x:Keyed):Bool:=if left then decide (ky x<ky key) else !decide (ky key<ky x)
theorem um {st:SortSt}{left:Bool}{key x:Keyed}{arr:Array Keyed}{base i:Nat}{Q:Option Bool->SortSt->Prop}(hk:kindOf st=KeyC.kd) (ik:qh key) (e:arr[base+i]?=some x) (ix:qh x) (h:Q (some (bydB left key x)) st) :
  wpS (model prog w) A E s (byd left key arr base i) Q st:=by
 unfold byd
 refine wpS_bind (aW e ?_)
 unfold bydB at h
 cases left with
 | true=>exact mT hk ix ik h
 | false=>exact wpS_bind (mT hk ik ix (wpS_pure h))
theorem lH {st:SortSt}{left:Bool}{key:Keyed}{arr:Array Keyed}{base n hint:Nat}{Q:Option Nat->SortSt->Prop}(b:Nat->Bool)
  (hb:∀ i,i<n->∀ R:Option Bool->SortSt->Prop,R (some (b i)) st->wpS (model prog w) A E s (byd left key arr base i) R st)
  (anti:∀ i j,i<=j->j<n->b j=true->b i=true) (hn:hint<n)
  (h:∀ k,k<=n->(∀ i,i<k->b i=true)->(∀ i,k<=i->i<n->b i=false)->Q (some k) st):wpS (model prog w) A E s (bX left key arr base n hint) Q st:=by
 have down:∀ i j,i<=j->j<n->b i=false->b j=false:=fun i j hij hj hi=>by
  cases e:b j with
  | false=>rfl
  | true=>rw[anti i j hij hj e] at hi; cases hi
 have third:∀ lo hi:Nat,lo<=hi->hi<=n->(∀ i,i<lo->b i=true)->(∀ i,hi<=i->i<n->b i=false)->wpS (model prog w) A E s (do
   let mut lo:=lo
   let mut hi:=hi
   for _ in [0:n] do
    if lo ≥ hi then break
    let m:=lo+(hi-lo)/2
    let some more <- byd left key arr base m | return none
    if more then lo:=m+1 else hi:=m
   return some hi) Q st:=by
  intro lo hi hlh hhn h1 h2
  dsimp only
  refine wpS_bind (wpS_mono (wpS_forRange (I:=fun x c st'=>st'=st/\∃ l r,c=(none,l,r)/\l<=r/\r<=n/\r-l<=n-x/\(∀ i,i<l->b i=true)/\(∀ i,r<=i->i<n->b i=false))
   (Q:=fun c st'=>st'=st/\∃ l r,c=(none,l,r)/\l=r/\r<=n/\(∀ i,i<l->b i=true)/\(∀ i,r<=i->i<n->b i=false)) ?_ ?_ ⟨rfl,lo,hi,rfl,hlh,hhn,by lia,h1,h2⟩) ?_)
  ·rintro x c st' _ hx ⟨rfl,l,r,rfl,lr,rn,lm,g1,g2⟩
   dsimp only
   by_cases hge:l ≥ r
   ·rw[if_pos hge]
    exact wpS_pure ⟨rfl,l,r,rfl,by lia,rn,g1,g2⟩
   ·rw[if_neg hge]
    refine wpS_bind (hb _ (by lia) _ ?_)
    dsimp only
    cases e:b (l+(r-l)/2) with
    | true =>
     rw[if_pos rfl]
     exact wpS_pure ⟨rfl,_,r,rfl,by lia,rn,by lia,fun i hi=>anti i _ (by lia) (by lia) e,g2⟩
    | false =>
     rw[if_neg (by decide)]
     exact wpS_pure ⟨rfl,l,_,rfl,by lia,by lia,by lia,g1,fun i h3 h4=>down _ i h3 h4 e⟩
  ·rintro c st' ⟨rfl,l,r,rfl,lr,rn,lm,g1,g2⟩
   exact⟨rfl,l,r,rfl,by lia,rn,g1,g2⟩
  ·rintro c st' ⟨rfl,l,r,rfl,rfl,rn,g1,g2⟩
   exact wpS_pure (h l rn g1 g2)
 rw[qN]
 dsimp only
 refine wpS_bind (hb hint hn _ ?_)
 dsimp only
 cases e:b hint with
 | true =>
  rw[if_pos rfl]
  refine wpS_bind (wpS_mono (wpS_forRange (I:=fun x c st'=>st'=st/\∃ l o,c=(none,l,o)/\l<o/\x<o/\hint+l<n/\b (hint+l)=true)
   (Q:=fun c st'=>st'=st/\∃ l o,c=(none,l,o)/\l<o/\hint+l<n/\b (hint+l)=true/\(n-hint<=o\/(hint+o<n/\b (hint+o)=false))) ?_ ?_ ⟨rfl,0,1,rfl,by lia,by lia,by lia,e⟩) ?_)
  ·rintro x c st' _ hx ⟨rfl,l,o,rfl,lo,xo,ln,bl⟩
   dsimp only
   by_cases hge:o ≥ n-hint
   ·rw[if_pos hge]
    exact wpS_pure ⟨rfl,l,o,rfl,lo,ln,bl,.inl hge⟩
   ·rw[if_neg hge]
    refine wpS_bind (hb _ (by lia) _ ?_)
    dsimp only
    cases e2:b (hint+o) with
    | false =>
     rw[if_pos (show (!false)=true from rfl)]
     exact wpS_pure ⟨rfl,l,o,rfl,lo,ln,bl,.inr ⟨by lia,e2⟩⟩
    | true =>
     rw[if_neg (show ¬ (!true)=true by decide)]
     exact wpS_pure ⟨rfl,o,_,rfl,by lia,by lia,by lia,e2⟩
  ·rintro c st' ⟨rfl,l,o,rfl,lo,xo,ln,bl⟩
   exact⟨rfl,l,o,rfl,lo,ln,bl,.inl (by lia)⟩
  ·rintro c st' ⟨rfl,l,o,rfl,lo,ln,bl,ho⟩
   dsimp only
   refine third (hint+l+1) (hint+min o (n-hint)) (by lia) (by lia) (fun i hi=>anti i _ (by lia) ln bl) fun i h1 h2=>?_
   rcases ho with ho | ⟨ho,bo⟩
   ·lia
   ·exact down _ i (by lia) h2 bo
 | false =>
  rw[if_neg (by decide)]
  refine wpS_bind (wpS_mono (wpS_forRange (I:=fun x c st'=>st'=st/\∃ l o,c=(none,l,o)/\l<o/\x<o/\l<=hint/\b (hint-l)=false)
   (Q:=fun c st'=>st'=st/\∃ l o,c=(none,l,o)/\l<o/\l<=hint/\b (hint-l)=false/\(hint+1<=o\/(o<=hint/\b (hint-o)=true))) ?_ ?_ ⟨rfl,0,1,rfl,by lia,by lia,by lia,e⟩) ?_)
  ·rintro x c st' _ hx ⟨rfl,l,o,rfl,lo,xo,ln,bl⟩
   dsimp only
   by_cases hge:o ≥ hint+1
   ·rw[if_pos hge]
    exact wpS_pure ⟨rfl,l,o,rfl,lo,ln,bl,.inl hge⟩
   ·rw[if_neg hge]
    refine wpS_bind (hb _ (by lia) _ ?_)
    dsimp only
    cases e2:b (hint-o) with
    | true =>
     rw[if_pos rfl]
     exact wpS_pure ⟨rfl,l,o,rfl,lo,ln,bl,.inr ⟨by lia,e2⟩⟩
    | false =>
     rw[if_neg (by decide)]
     exact wpS_pure ⟨rfl,o,_,rfl,by lia,by lia,by lia,e2⟩
  ·rintro c st' ⟨rfl,l,o,rfl,lo,xo,ln,bl⟩
   exact⟨rfl,l,o,rfl,lo,ln,bl,.inl (by lia)⟩
  ·rintro c st' ⟨rfl,l,o,rfl,lo,ln,bl,ho⟩
   dsimp only
   refine third (hint+1-min o (hint+1)) (hint-l) (by lia) (by lia) (fun i hi=>?_) fun i h1 h2=>down _ i h1 h2 bl
   rcases ho with ho | ⟨ho,bo⟩
   ·lia
   ·exact anti i (hint-o) (by lia) (by lia) bo
end
end Ow
namespace Ow
open PySem PyProof.Rows
variable [KeyC]
def fA (k:Int) (p:Keyed):Bool:=ky p == k
def Srt (l:List Keyed):Prop:=l.Pairwise (fun x y=>ky x<=ky y)
theorem bD {l:List Keyed}(s:Srt l) {i j:Nat}(h:i<=j) {x y:Keyed}(ex:l[i]?=some x) (ey:l[j]?=some y):ky x<=ky y:=by
 obtain⟨hi,e1⟩:=List.getElem?_eq_some_iff.mp ex
 obtain⟨hj,e2⟩:=List.getElem?_eq_some_iff.mp ey
 by_cases e:i=j
 ·subst e
  rw[ex] at ey
  cases ey
  exact Int.le_refl _
 ·have:=List.pairwise_iff_getElem.mp s i j hi hj (by lia)
  rw[e1,e2] at this
  exact this
theorem bQ (a:Array Keyed) (i:Nat):a[i]?=a.toList[i]?:=by simp
theorem dP {l:List Keyed}{n:Nat}{x:Keyed}(h:x∈l.take n):∃ i,i<n/\l[i]?=some x:=by
 obtain⟨i,e⟩:=List.getElem?_of_mem h
 have hi:i<n:=by
  have:=(List.getElem?_eq_some_iff.mp e).1
  rw[length_take] at this
  lia
 exact⟨i,hi,by rw[List.getElem?_take_of_lt hi] at e; exact e⟩
theorem bS {l:List Keyed}{n:Nat}{x:Keyed}(h:l[n]?=some x):l.take (n+1)=l.take n++[x]:=by
 rw[take_add_one,h]; rfl
theorem jH {l m n:List Keyed}(h:∀ k,l.filter (fA k)=m.filter (fA k)++n.filter (fA k)) {x:Keyed}(hx:x∈l):x∈m\/x∈n:=by
 have:x∈l.filter (fA (ky x)):=List.mem_filter.mpr ⟨hx,by unfold fA; simp⟩
 rw[h,mem_append] at this
 rcases this with h1 | h1
 ·exact .inl (List.mem_filter.mp h1).1
 ·exact .inr (List.mem_filter.mp h1).1
theorem i6 {l:List Keyed}{k:Int}(h:∀ x∈l,ky x≠k):l.filter (fA k)=[]:=List.filter_eq_nil_iff.mpr fun x hx=>by
 unfold fA
 rw[beq_iff_eq]
 exact h x hx
structure MS (a b out:Array Keyed) (ia ib:Nat):Prop where
 srt:Srt out.toList
 fil:∀ k,out.toList.filter (fA k)=(a.toList.take ia).filter (fA k)++(b.toList.take ib).filter (fA k)
 s3:∀ i j x y,ia<=i->j<ib->a.toList[i]?=some x->b.toList[j]?=some y->ky y<ky x
 s4:∀ i j x y,i<ia->ib<=j->a.toList[i]?=some x->b.toList[j]?=some y->ky x<=ky y
section
variable {a b out:Array Keyed}{ia ib:Nat}
theorem MS.pushA (m:MS a b out ia ib) (sa:Srt a.toList) (sb:Srt b.toList) {x:Keyed}(ex:a.toList[ia]?=some x) (h:∀ y,b.toList[ib]?=some y->ky x<=ky y):MS a b (out.push x) (ia+1) ib:=by
 refine⟨?_,fun k=>?_,fun i j u v h1 h2=>m.s3 i j u v (by lia) h2,fun i j u v h1 h2 eu ev=>?_⟩
 ·rw[Array.toList_push]
  refine List.pairwise_append.mpr ⟨m.srt,List.pairwise_singleton _ _,fun z hz w hw=>?_⟩
  cases List.mem_singleton.mp hw
  rcases jH m.fil hz with hz | hz
  ·obtain⟨i,hi,e⟩:=dP hz
   exact bD sa (by lia) e ex
  ·obtain⟨j,hj,e⟩:=dP hz
   exact Int.le_of_lt (m.s3 ia j x z (Nat.le_refl _) hj ex e)
 ·rw[Array.toList_push,filter_append,m.fil,bS ex,filter_append]
  by_cases hk:ky x=k
  ·rw[i6 (l:=b.toList.take ib) fun y hy=>by
    obtain⟨j,hj,e⟩:=dP hy
    have:=m.s3 ia j x y (Nat.le_refl _) hj ex e
    lia,append_nil,append_nil]
  ·rw[i6 (l:=[x]) fun y hy=>by cases List.mem_singleton.mp hy; exact hk,append_nil,append_nil]
 ·by_cases e:i<ia
  ·exact m.s4 i j u v e h2 eu ev
  ·obtain rfl:i=ia:=by lia
   rw[ex] at eu
   cases eu
   have hl:=(List.getElem?_eq_some_iff.mp ev).1
   have e0:b.toList[ib]?=some b.toList[ib]:=List.getElem?_eq_getElem (by lia)
   exact Int.le_trans (h _ e0) (bD sb h2 e0 ev)
theorem MS.pushB (m:MS a b out ia ib) (sa:Srt a.toList) (sb:Srt b.toList) {y:Keyed}(ey:b.toList[ib]?=some y) (h:∀ x,a.toList[ia]?=some x->ky y<ky x):MS a b (out.push y) ia (ib+1):=by
 refine⟨?_,fun k=>?_,fun i j u v h1 h2 eu ev=>?_,fun i j u v h1 h2=>m.s4 i j u v h1 (by lia)⟩
 ·rw[Array.toList_push]
  refine List.pairwise_append.mpr ⟨m.srt,List.pairwise_singleton _ _,fun z hz w hw=>?_⟩
  cases List.mem_singleton.mp hw
  rcases jH m.fil hz with hz | hz
  ·obtain⟨i,hi,e⟩:=dP hz
   exact m.s4 i ib z y hi (Nat.le_refl _) e ey
  ·obtain⟨j,hj,e⟩:=dP hz
   exact bD sb (by lia) e ey
 ·rw[Array.toList_push,filter_append,m.fil,bS ey,filter_append,append_assoc]
 ·by_cases e:j<ib
  ·exact m.s3 i j u v h1 e eu ev
  ·obtain rfl:j=ib:=by lia
   rw[ey] at ev
   cases ev
   have hl:=(List.getElem?_eq_some_iff.mp eu).1
   have e0:a.toList[ia]?=some a.toList[ia]:=List.getElem?_eq_getElem (by lia)
   exact Int.lt_of_lt_of_le (h _ e0) (bD sa h1 e0 eu)
theorem pQ {a:Array Keyed}{i k:Nat}(h:i+k<a.size):a.extract i (i+(k+1))=(a.extract i (i+k)).push a[i+k]:=by
 apply Array.toList_inj.mp
 rw[Array.toList_push,Array.toList_extract,Array.toList_extract,extract_eq_take_drop,extract_eq_take_drop]
 rw[show i+(k+1)-i=k+1 by lia,show i+k-i=k by lia,take_add_one]
 congr 1
 rw[List.getElem?_drop,<- bQ,getElem?_pos a (i+k) h]
 rfl
theorem fh {a:Array Keyed}{i:Nat}:a.extract i (i+0)=#[]:=by
 apply Array.toList_inj.mp
 rw[Array.toList_extract,extract_eq_take_drop]
 simp
theorem MS.moreA (sa:Srt a.toList) (sb:Srt b.toList) (m:MS a b out ia ib):∀ (k:Nat),ia+k<=a.size->(∀ i x y,ia<=i->i<ia+k->a.toList[i]?=some x->b.toList[ib]?=some y->ky x<=ky y)->MS a b (out++a.extract ia (ia+k)) (ia+k) ib
 | 0,_,_=>by rw[fh,Array.append_empty]; exact m
 | k+1,hk,h=>by
  have ih:=MS.moreA sa sb m k (by lia) fun i x y h1 h2=>h i x y h1 (by lia)
  have e:a.toList[ia+k]?=some a[ia+k]:=by rw[<- bQ]; exact getElem?_pos a _ (by lia)
  rw[pQ (by lia),Array.append_push]
  exact ih.pushA sa sb e fun y ey=>h _ _ _ (by lia) (by lia) e ey
theorem MS.moreB (sa:Srt a.toList) (sb:Srt b.toList) (m:MS a b out ia ib):∀ (k:Nat),ib+k<=b.size->(∀ j x y,ib<=j->j<ib+k->a.toList[ia]?=some x->b.toList[j]?=some y->ky y<ky x)->MS a b (out++b.extract ib (ib+k)) ia (ib+k)
 | 0,_,_=>by rw[fh,Array.append_empty]; exact m
 | k+1,hk,h=>by
  have ih:=MS.moreB sa sb m k (by lia) fun i x y h1 h2=>h i x y h1 (by lia)
  have e:b.toList[ib+k]?=some b[ib+k]:=by rw[<- bQ]; exact getElem?_pos b _ (by lia)
  rw[pQ (by lia),Array.append_push]
  exact ih.pushB sa sb e fun x ex=>h _ _ _ (by lia) (by lia) ex e
def Mgd (a b m:Array Keyed):Prop:=Srt m.toList/\∀ k,m.toList.filter (fA k)=a.toList.filter (fA k)++b.toList.filter (fA k)
theorem MS.all (m:MS a b out a.size b.size):Mgd a b out:=⟨m.srt,fun k=>by
 have:=m.fil k
 rwa [List.take_of_length_le (by simp),List.take_of_length_le (by simp)] at this⟩
theorem jh {a:Array Keyed}{i:Nat}(h:a.size<=i):a.toList[i]?=none:=List.getElem?_eq_none (by simpa using h)
theorem MS.endB (sa:Srt a.toList) (sb:Srt b.toList) (m:MS a b out ia b.size) (h:ia<=a.size):Mgd a b (out++a.extract ia a.size++b.extract b.size b.size):=by
 have z:=m.moreA sa sb (a.size-ia) (by lia) fun i x y _ _ _ e=>by rw[jh (Nat.le_refl _)] at e; cases e
 rw[show ia+(a.size-ia)=a.size by lia] at z
 have z2:=z.moreB sa sb 0 (by lia) fun j x y h1 h2=>by lia
 exact z2.all
theorem MS.endA (sa:Srt a.toList) (sb:Srt b.toList) (m:MS a b out a.size ib) (h:ib<=b.size):Mgd a b (out++a.extract a.size a.size++b.extract ib b.size):=by
 have z:=m.moreA sa sb 0 (by lia) fun i x y h1 h2=>by lia
 have z2:=z.moreB sa sb (b.size-ib) (by lia) fun j x y _ _ e=>by rw[Nat.add_zero,jh (Nat.le_refl _)] at e; cases e
 rw[show ib+(b.size-ib)=b.size by lia] at z2
 exact z2.all
theorem MS.lastA (sa:Srt a.toList) (sb:Srt b.toList) (m:MS a b out ia ib) (h:ib<=b.size) (e:ia+1=a.size) (lst:∀ (j:Nat) x y,a.toList[a.size-1]?=some x->b.toList[j]?=some y->ky y<ky x):Mgd a b (out++b.extract ib b.size++a.extract ia a.size):=by
 have z:=m.moreB sa sb (b.size-ib) (by lia) fun j x y _ _ ex ey=>lst j x y (by rw[show a.size-1=ia by lia]; exact ex) ey
 rw[show ib+(b.size-ib)=b.size by lia] at z
 have z2:=z.moreA sa sb (a.size-ia) (by lia) fun i x y _ _ _ e=>by rw[jh (Nat.le_refl _)] at e; cases e
 rw[show ia+(a.size-ia)=a.size by lia] at z2
 exact z2.all
end
def Ints (a:Array Keyed):Prop:=∀ p∈a.toList,qh p
theorem Ints.at {a:Array Keyed}(h:Ints a) {i:Nat}(hi:i<a.size):∃ x,a[i]?=some x/\a.toList[i]?=some x/\qh x:=⟨a[i],getElem?_pos a i hi,by rw[<- bQ]; exact getElem?_pos a i hi,h _ (by simp)⟩
section
variable {prog:Program}{w:World}{A:Around}{E:Value->Shared->Prop}{s:Shared} [KeyL prog w A s]
theorem lY {st:SortSt}{key:Keyed}{arr:Array Keyed}{base n hint:Nat}{Q:Option Nat->SortSt->Prop}(hk:kindOf st=KeyC.kd) (ik:qh key) (ia:Ints arr) (hs:∀ i j x y,base<=i->i<=j->j<base+n->arr.toList[i]?=some x->arr.toList[j]?=some y->ky x<=ky y) (hz:base+n<=arr.size) (hn:hint<n)
  (h:∀ k,k<=n->(∀ i x,base<=i->i<base+k->arr.toList[i]?=some x->ky x<=ky key)->(∀ i x,base+k<=i->i<base+n->arr.toList[i]?=some x->ky key<ky x)->Q (some k) st):wpS (model prog w) A E s (bX false key arr base n hint) Q st:=by
 have g:∀ i,i<n->∃ x,arr[base+i]?=some x/\arr.toList[base+i]?=some x/\qh x:=fun i hi=>ia.at (by lia)
 refine lH (fun i=>match arr[base+i]? with | some x=>bydB false key x | none=>false) (fun i hi R hR=>?_) (fun i j hij hj=>?_) hn fun k hk' h1 h2=>h k hk' (fun i x a1 a2 ex=>?_) fun i x a1 a2 ex=>?_
 ·obtain⟨x,e1,e2,ix⟩:=g i hi
  try dsimp only at hR
  rw[e1] at hR
  exact um hk ik e1 ix hR
 ·obtain⟨x,e1,e2,ix⟩:=g i (by lia)
  obtain⟨y,f1,f2,iy⟩:=g j hj
  try dsimp only
  rw[e1,f1]
  show (!decide (ky key<ky y))=true->(!decide (ky key<ky x))=true
  have:=hs (base+i) (base+j) x y (by lia) (by lia) (by lia) e2 f2
  simp
  lia
 ·have z:=h1 (i-base) (by lia)
  try dsimp only at z
  rw[show base+(i-base)=i by lia,bQ,ex] at z
  have z:(!decide (ky key<ky x))=true:=z
  simp at z
  lia
 ·have z:=h2 (i-base) (by lia) (by lia)
  try dsimp only at z
  rw[show base+(i-base)=i by lia,bQ,ex] at z
  have z:(!decide (ky key<ky x))=false:=z
  simp at z
  lia
theorem mO {st:SortSt}{key:Keyed}{arr:Array Keyed}{base n hint:Nat}{Q:Option Nat->SortSt->Prop}(hk:kindOf st=KeyC.kd) (ik:qh key) (ia:Ints arr) (hs:∀ i j x y,base<=i->i<=j->j<base+n->arr.toList[i]?=some x->arr.toList[j]?=some y->ky x<=ky y) (hz:base+n<=arr.size) (hn:hint<n)
  (h:∀ k,k<=n->(∀ i x,base<=i->i<base+k->arr.toList[i]?=some x->ky x<ky key)->(∀ i x,base+k<=i->i<base+n->arr.toList[i]?=some x->ky key<=ky x)->Q (some k) st):wpS (model prog w) A E s (bX true key arr base n hint) Q st:=by
 have g:∀ i,i<n->∃ x,arr[base+i]?=some x/\arr.toList[base+i]?=some x/\qh x:=fun i hi=>ia.at (by lia)
 refine lH (fun i=>match arr[base+i]? with | some x=>bydB true key x | none=>false) (fun i hi R hR=>?_) (fun i j hij hj=>?_) hn fun k hk' h1 h2=>h k hk' (fun i x a1 a2 ex=>?_) fun i x a1 a2 ex=>?_
 ·obtain⟨x,e1,e2,ix⟩:=g i hi
  try dsimp only at hR
  rw[e1] at hR
  exact um hk ik e1 ix hR
 ·obtain⟨x,e1,e2,ix⟩:=g i (by lia)
  obtain⟨y,f1,f2,iy⟩:=g j hj
  try dsimp only
  rw[e1,f1]
  show decide (ky y<ky key)=true->decide (ky x<ky key)=true
  have:=hs (base+i) (base+j) x y (by lia) (by lia) (by lia) e2 f2
  simp
  lia
 ·have z:=h1 (i-base) (by lia)
  try dsimp only at z
  rw[show base+(i-base)=i by lia,bQ,ex] at z
  have z:decide (ky x<ky key)=true:=z
  simp at z
  lia
 ·have z:=h2 (i-base) (by lia) (by lia)
  try dsimp only at z
  rw[show base+(i-base)=i by lia,bQ,ex] at z
  have z:decide (ky x<ky key)=false:=z
  simp at z
  lia
end
end Ow
namespace Ow
open PySem PyProof.Rows
variable [KeyC]
abbrev oj (st:SortSt) (g:Nat):SortSt:=SortSt.mk' (kindOf st) (arrOf st) (pendingOf st) g (failedOf st)
def bw:Nat->StateT SortSt Sem Unit:=sortPriv% PySem.Builtin.setMinGallop
theorem bL (g:Nat):bw g=modify fun st=>oj st g:=rfl
def mR:Array Keyed->Array Keyed->StateT SortSt Sem (Array Keyed):=sortPriv% PySem.Builtin.mergeLo
theorem pH (a b:Array Keyed):mR a b=(do
 rule "list.sort.merge-lo"
 let total:=a.size+b.size
 let done (out:Array Keyed) (ia ib:Nat):=out++a.extract ia a.size++b.extract ib b.size
 let lastOfA (out:Array Keyed) (ia ib:Nat):=out++b.extract ib b.size++a.extract ia a.size
 let mut out:Array Keyed:=#[<- elem' b 0]
 let mut ia:=0
 let mut ib:=1
 if ib == b.size then return done out ia ib
 if ia+1 == a.size then return lastOfA out ia ib
 let mut minGallop:=gallopOf (<- get)
 for _ in [0:total] do
  let mut acount:=0
  let mut bcount:=0
  for _ in [0:total] do
   let some bWins <- lt' (<- elem' b ib) (<- elem' a ia) | return done out ia ib
   if bWins then
    out:=out.push (<- elem' b ib); ib:=ib+1; bcount:=bcount+1; acount:=0
    if ib == b.size then return done out ia ib
    if bcount ≥ minGallop then break
   else
    out:=out.push (<- elem' a ia); ia:=ia+1; acount:=acount+1; bcount:=0
    if ia+1 == a.size then return lastOfA out ia ib
    if acount ≥ minGallop then break
  rule "list.sort.gallop"
  minGallop:=minGallop+1
  for _ in [0:total] do
   if minGallop > 1 then minGallop:=minGallop-1
   bw minGallop
   let some k <- bX false (<- elem' b ib) a ia (a.size-ia) 0 | return done out ia ib
   acount:=k
   if k > 0 then
    out:=out++a.extract ia (ia+k); ia:=ia+k
    if ia+1 == a.size then return lastOfA out ia ib
    if ia == a.size then return done out ia ib
   out:=out.push (<- elem' b ib); ib:=ib+1
   if ib == b.size then return done out ia ib
   let some k <- bX true (<- elem' a ia) b ib (b.size-ib) 0 | return done out ia ib
   bcount:=k
   if k > 0 then
    out:=out++b.extract ib (ib+k); ib:=ib+k
    if ib == b.size then return done out ia ib
   out:=out.push (<- elem' a ia); ia:=ia+1
   if ia+1 == a.size then return lastOfA out ia ib
   if acount<7&&bcount<7 then break
  minGallop:=minGallop+1
  bw minGallop
 unsupported "internal:list.sort.merge-bound"):=rfl
structure Sim (st st':SortSt):Prop where
 kind:kindOf st'=kindOf st
 arr:arrOf st'=arrOf st
 pend:pendingOf st'=pendingOf st
 failed:failedOf st'=failedOf st
theorem Sim.refl (st:SortSt):Sim st st:=⟨rfl,rfl,rfl,rfl⟩
theorem Sim.set {st st':SortSt}(h:Sim st st') (g:Nat):Sim st (oj st' g):=⟨h.kind,h.arr,h.pend,h.failed⟩
theorem lG {a b:Nat}(h:a=b):(a == b)=true:=by rw[h]; simp
theorem lJ {a b:Nat}(h:a≠b):¬ (a == b)=true:=by simpa using h
theorem ms0 {a b:Array Keyed}:MS a b #[] 0 0:=⟨List.Pairwise.nil,fun k=>rfl,fun i j x y h1 h2=>by lia,fun i j x y h1 h2=>by lia⟩
abbrev LoT:=Option (Array Keyed)×Array Keyed×Nat×Nat×Nat×Nat×Nat
noncomputable def loZ (a b o:Array Keyed) (i j g k k1:Nat):StateT SortSt Sem (ForInStep LoT):=do
 let l <- elem' a i
 if i+1+1 == a.size then pure (.done (some (o.push l++b.extract j b.size++a.extract (i+1) a.size),o.push l,i+1,j,g,k,k1))
 else if (decide (k<7)&&decide (k1<7))=true then pure (.done (none,o.push l,i+1,j,g,k,k1))
 else pure (.yield (none,o.push l,i+1,j,g,k,k1))
noncomputable def loY (a b o:Array Keyed) (i j g k bc:Nat):StateT SortSt Sem (ForInStep LoT):=do
 let l <- elem' b j
 if j+1 == b.size then pure (.done (some (o.push l++a.extract i a.size++b.extract (j+1) b.size),o.push l,i,j+1,g,k,bc))
 else do
  let x <- elem' a i
  let r <- bX true x b (j+1) (b.size-(j+1)) 0
  match r with
  | some k1 =>
   if k1 > 0 then
    if j+1+k1 == b.size then pure (.done (some (o.push l++b.extract (j+1) (j+1+k1)++a.extract i a.size++b.extract (j+1+k1) b.size),o.push l++b.extract (j+1) (j+1+k1),i,j+1+k1,g,k,k1))
    else loZ a b (o.push l++b.extract (j+1) (j+1+k1)) i (j+1+k1) g k k1
   else loZ a b (o.push l) i (j+1) g k k1
  | _=>pure (.done (some (o.push l++a.extract i a.size++b.extract (j+1) b.size),o.push l,i,j+1,g,k,bc))
noncomputable def loX (a b o:Array Keyed) (i j g ac bc:Nat):StateT SortSt Sem (ForInStep LoT):=do
 bw g
 let y <- elem' b j
 let r <- bX false y a i (a.size-i) 0
 match r with
 | some k =>
  if k > 0 then
   if i+k+1 == a.size then pure (.done (some (o++a.extract i (i+k)++b.extract j b.size++a.extract (i+k) a.size),o++a.extract i (i+k),i+k,j,g,k,bc))
   else if i+k == a.size then pure (.done (some (o++a.extract i (i+k)++a.extract (i+k) a.size++b.extract j b.size),o++a.extract i (i+k),i+k,j,g,k,bc))
   else loY a b (o++a.extract i (i+k)) (i+k) j g k bc
  else loY a b o i j g k bc
 | _=>pure (.done (some (o++a.extract i a.size++b.extract j b.size),o,i,j,g,ac,bc))
section
variable {prog:Program}{w:World}{A:Around}{E:Value->Shared->Prop}{s:Shared} [KeyL prog w A s]
structure LoP (st:SortSt) (a b:Array Keyed) (n:Nat) (P:ForInStep LoT->SortSt->Prop):Prop where
 dn:∀ m d st',Sim st st'->Mgd a b m->P (.done (some m,d)) st'
 go:∀ o i j g k k1 st',Sim st st'->MS a b o i j->i+1<a.size->j<b.size->n<=i+j->P (.done (none,o,i,j,g,k,k1)) st'/\P (.yield (none,o,i,j,g,k,k1)) st'
section
variable {st st':SortSt}{a b o:Array Keyed}{i j g k k1 bc ac n:Nat}{P:ForInStep LoT->SortSt->Prop}
theorem sL (hp:LoP st a b n P) (sm:Sim st st') (sa:Srt a.toList) (sb:Srt b.toList) (na:Ints a) (lst:∀ (j:Nat) x y,a.toList[a.size-1]?=some x->b.toList[j]?=some y->ky y<ky x) (ms:MS a b o i j) (hi:i+1<a.size) (hj:j<b.size) (le:∀ x y,a.toList[i]?=some x->b.toList[j]?=some y->ky x<=ky y) (hn:n<=i+1+j) :
  wpS (model prog w) A E s (loZ a b o i j g k k1) P st':=by
 unfold loZ
 obtain⟨x,a1,a2,ix⟩:=na.at (show i<a.size by lia)
 refine wpS_bind (aW a1 ?_)
 have ms2:=ms.pushA sa sb a2 fun y ey=>le x y a2 ey
 by_cases c3:i+1+1=a.size
 ·rw[if_pos (lG c3)]
  exact wpS_pure (hp.dn _ _ _ sm (ms2.lastA sa sb (by lia) c3 lst))
 rw[if_neg (lJ c3)]
 split
 ·exact wpS_pure (hp.go _ _ _ _ _ _ _ sm ms2 (by lia) hj (by lia)).1
 ·exact wpS_pure (hp.go _ _ _ _ _ _ _ sm ms2 (by lia) hj (by lia)).2
theorem rS (hk:kindOf st=KeyC.kd) (hp:LoP st a b n P) (sm:Sim st st') (sa:Srt a.toList) (sb:Srt b.toList) (na:Ints a) (nb:Ints b) (lst:∀ (j:Nat) x y,a.toList[a.size-1]?=some x->b.toList[j]?=some y->ky y<ky x) (ms:MS a b o i j) (hi:i+1<a.size) (hj:j<b.size) (lt:∀ x y,a.toList[i]?=some x->b.toList[j]?=some y->ky y<ky x) (hn:n<=i+1+j) :
  wpS (model prog w) A E s (loY a b o i j g k bc) P st':=by
 unfold loY
 obtain⟨y,b1,b2,iy⟩:=nb.at hj
 obtain⟨x,a1,a2,ix⟩:=na.at (show i<a.size by lia)
 refine wpS_bind (aW b1 ?_)
 have ms2:=ms.pushB sa sb b2 fun x ex=>lt x y ex b2
 by_cases c3:j+1=b.size
 ·rw[if_pos (lG c3)]
  rw[c3] at ms2 ⊢
  exact wpS_pure (hp.dn _ _ _ sm (ms2.endB sa sb (by lia)))
 rw[if_neg (lJ c3)]
 refine wpS_bind (aW a1 (wpS_bind (mO (by rw[sm.kind]; exact hk) ix nb (fun i j x y _ h1 _ e1 e2=>bD sb h1 e1 e2) (by lia) (by lia) fun k2 hk2 g1 g2=>?_)))
 dsimp only
 have ms3:=ms2.moreB sa sb k2 (by lia) fun j' x' y' h1 h2 ex ey=>by rw[a2] at ex; cases ex; exact g1 j' y' h1 h2 ey
 have le3:∀ x' y',a.toList[i]?=some x'->b.toList[j+1+k2]?=some y'->ky x'<=ky y':=fun x' y' ex ey=>by
  rw[a2] at ex
  cases ex
  exact g2 _ y' (Nat.le_refl _) (by have:=(List.getElem?_eq_some_iff.mp ey).1; rw[Array.length_toList] at this; lia) ey
 by_cases c4:k2 > 0
 ·rw[if_pos c4]
  by_cases c5:j+1+k2=b.size
  ·rw[if_pos (lG c5)]
   rw[c5] at ms3 ⊢
   exact wpS_pure (hp.dn _ _ _ sm (ms3.endB sa sb (by lia)))
  ·rw[if_neg (lJ c5)]
   exact sL hp sm sa sb na lst ms3 hi (by lia) le3 (by lia)
 ·rw[if_neg c4]
  obtain rfl:k2=0:=by lia
  exact sL hp sm sa sb na lst ms2 hi (by lia) le3 (by lia)
theorem sS (hk:kindOf st=KeyC.kd) (hp:LoP st a b n P) (sm:Sim st st') (sa:Srt a.toList) (sb:Srt b.toList) (na:Ints a) (nb:Ints b) (lst:∀ (j:Nat) x y,a.toList[a.size-1]?=some x->b.toList[j]?=some y->ky y<ky x) (ms:MS a b o i j) (hi:i+1<a.size) (hj:j<b.size) (hn:n<=i+1+j) :
  wpS (model prog w) A E s (loX a b o i j g ac bc) P st':=by
 unfold loX
 rw[bL]
 refine wpS_bind (wpS_modify ?_)
 obtain⟨y,b1,b2,iy⟩:=nb.at hj
 have sm2:=sm.set g
 refine wpS_bind (aW b1 (wpS_bind (lY (by rw[sm2.kind]; exact hk) iy na (fun i j x y _ h1 _ e1 e2=>bD sa h1 e1 e2) (by lia) (by lia) fun k2 hk2 g1 g2=>?_)))
 dsimp only
 have ms3:=ms.moreA sa sb k2 (by lia) fun i' x' y' h1 h2 ex ey=>by rw[b2] at ey; cases ey; exact g1 i' x' h1 h2 ex
 have lt3:∀ x' y',a.toList[i+k2]?=some x'->b.toList[j]?=some y'->ky y'<ky x':=fun x' y' ex ey=>by
  rw[b2] at ey
  cases ey
  exact g2 _ x' (Nat.le_refl _) (by have:=(List.getElem?_eq_some_iff.mp ex).1; rw[Array.length_toList] at this; lia) ex
 by_cases c4:k2 > 0
 ·rw[if_pos c4]
  by_cases c5:i+k2+1=a.size
  ·rw[if_pos (lG c5)]
   exact wpS_pure (hp.dn _ _ _ sm2 (ms3.lastA sa sb (by lia) c5 lst))
  rw[if_neg (lJ c5)]
  by_cases c6:i+k2=a.size
  ·rw[if_pos (lG c6)]
   rw[c6] at ms3 ⊢
   exact wpS_pure (hp.dn _ _ _ sm2 (ms3.endA sa sb (by lia)))
  ·rw[if_neg (lJ c6)]
   exact rS hk hp sm2 sa sb na nb lst ms3 (by lia) hj lt3 (by lia)
 ·rw[if_neg c4]
  obtain rfl:k2=0:=by lia
  exact rS hk hp sm2 sa sb na nb lst ms hi hj lt3 hn
end
theorem pA {st:SortSt}{a b:Array Keyed}{Q:Array Keyed->SortSt->Prop}(hk:kindOf st=KeyC.kd) (sa:Srt a.toList) (sb:Srt b.toList) (na:Ints a) (nb:Ints b) (za:0<a.size) (zb:0<b.size)
  (fst:∀ x y,a.toList[0]?=some x->b.toList[0]?=some y->ky y<ky x) (lst:∀ (j:Nat) x y,a.toList[a.size-1]?=some x->b.toList[j]?=some y->ky y<ky x)
  (h:∀ m st',Sim st st'->Mgd a b m->Q m st'):wpS (model prog w) A E s (mR a b) Q st:=by
 have srtA:∀ (base n:Nat) (i j:Nat) x y,base<=i->i<=j->j<base+n->a.toList[i]?=some x->a.toList[j]?=some y->ky x<=ky y:=fun _ _ i j x y _ h1 _ e1 e2=>bD sa h1 e1 e2
 have srtB:∀ (base n:Nat) (i j:Nat) x y,base<=i->i<=j->j<base+n->b.toList[i]?=some x->b.toList[j]?=some y->ky x<=ky y:=fun _ _ i j x y _ h1 _ e1 e2=>bD sb h1 e1 e2
 rw[pH]
 refine wpS_bind (wpS_lift (wpAny_rule ⟨rfl,?_⟩))
 obtain⟨y0,e1,e2,iy⟩:=nb.at zb
 refine wpS_bind (aW e1 ?_)
 dsimp only
 have m0:MS a b #[y0] 0 1:=ms0.pushB sa sb e2 fun x ex=>fst x y0 ex e2
 by_cases c1:1=b.size
 ·rw[if_pos (lG c1)]
  refine wpS_pure (h _ _ (Sim.refl _) ?_)
  rw[c1]
  rw[c1] at m0
  exact m0.endB sa sb (by lia)
 rw[if_neg (lJ c1)]
 by_cases c2:0+1=a.size
 ·rw[if_pos (lG c2)]
  exact wpS_pure (h _ _ (Sim.refl _) (m0.lastA sa sb (by lia) c2 lst))
 rw[if_neg (lJ c2)]
 refine wpS_bind (wpS_get ?_)
 refine wpS_bind (wpS_mono (wpS_forRange
  (I:=fun x c st'=>Sim st st'/\∃ out i j g,c=(none,out,i,j,g)/\MS a b out i j/\i+1<a.size/\j<b.size/\x+1<=i+j)
  (Q:=fun c st'=>Sim st st'/\∃ m d,c=(some m,d)/\Mgd a b m) ?_ ?_ ⟨Sim.refl _,_,_,_,_,rfl,m0,by lia,by lia,by lia⟩) ?_)
 ·rintro x c st' _ hx ⟨sm,out,i,j,g,rfl,ms,hi,hj,px⟩
  dsimp only
  refine wpS_bind (wpS_mono (wpS_forRange
   (I:=fun y c st''=>Sim st st''/\∃ out i' j' ac bc,c=(none,out,i',j',ac,bc)/\MS a b out i' j'/\i'+1<a.size/\j'<b.size/\i+j+y<=i'+j')
   (Q:=fun c st''=>Sim st st''/\((∃ m d,c=(some m,d)/\Mgd a b m)\/∃ out i' j' ac bc,c=(none,out,i',j',ac,bc)/\MS a b out i' j'/\i'+1<a.size/\j'<b.size/\i+j+1<=i'+j')) ?_ ?_ ⟨sm,_,_,_,_,_,rfl,ms,hi,hj,by lia⟩) ?_)
  ·rintro y c st'' _ hy ⟨sm,out,i',j',ac,bc,rfl,ms,hi,hj,py⟩
   dsimp only
   obtain⟨yb,b1,b2,ib⟩:=nb.at hj
   obtain⟨xa,a1,a2,ia⟩:=na.at (show i'<a.size by lia)
   refine wpS_bind (aW b1 (wpS_bind (aW a1 (wpS_bind (mT (by rw[sm.kind]; exact hk) ib ia ?_)))))
   dsimp only
   by_cases cw:ky yb<ky xa
   ·rw[if_pos (decide_eq_true cw)]
    refine wpS_bind (aW b1 ?_)
    try dsimp only
    have ms2:=ms.pushB sa sb b2 fun x ex=>by rw[a2] at ex; cases ex; exact cw
    by_cases c3:j'+1=b.size
    ·rw[if_pos (lG c3)]
     rw[c3] at ms2 ⊢
     exact wpS_pure ⟨sm,.inl ⟨_,_,rfl,ms2.endB sa sb (by lia)⟩⟩
    rw[if_neg (lJ c3)]
    split
    ·exact wpS_pure ⟨sm,.inr ⟨_,_,_,_,_,rfl,ms2,hi,by lia,by lia⟩⟩
    ·exact wpS_pure ⟨sm,_,_,_,_,_,rfl,ms2,hi,by lia,by lia⟩
   ·rw[if_neg (by rw[decide_eq_true_eq]; exact cw)]
    refine wpS_bind (aW a1 ?_)
    try dsimp only
    have ms2:=ms.pushA sa sb a2 fun y ey=>by rw[b2] at ey; cases ey; lia
    by_cases c3:i'+1+1=a.size
    ·rw[if_pos (lG c3)]
     exact wpS_pure ⟨sm,.inl ⟨_,_,rfl,ms2.lastA sa sb (by lia) c3 lst⟩⟩
    rw[if_neg (lJ c3)]
    split
    ·exact wpS_pure ⟨sm,.inr ⟨_,_,_,_,_,rfl,ms2,by lia,hj,by lia⟩⟩
    ·exact wpS_pure ⟨sm,_,_,_,_,_,rfl,ms2,by lia,hj,by lia⟩
  ·rintro c st'' ⟨sm,out,i',j',ac,bc,rfl,ms,hi,hj,py⟩
   lia
  ·rintro c st'' ⟨sm,⟨m,d,rfl,hm⟩ | ⟨out,i',j',ac,bc,rfl,ms,hi,hj,py⟩⟩
   ·dsimp only
    exact wpS_pure ⟨sm,m,_,rfl,hm⟩
   dsimp only
   refine wpS_bind (wpS_lift (wpAny_rule ⟨rfl,?_⟩))
   refine wpS_bind (wpS_mono (wpS_forRange
    (I:=fun y c st''=>Sim st st''/\∃ out i2 j2 g ac bc,c=(none,out,i2,j2,g,ac,bc)/\MS a b out i2 j2/\i2+1<a.size/\j2<b.size/\i'+j'+y<=i2+j2)
    (Q:=fun c st''=>Sim st st''/\((∃ m d,c=(some m,d)/\Mgd a b m)\/∃ out i2 j2 g ac bc,c=(none,out,i2,j2,g,ac,bc)/\MS a b out i2 j2/\i2+1<a.size/\j2<b.size/\i'+j'<=i2+j2)) ?_ ?_ ⟨sm,_,_,_,_,_,_,rfl,ms,hi,hj,by lia⟩) ?_)
   ·rintro y c st3 _ hy ⟨sm,out,i2,j2,g,ac,bc,rfl,ms,hi,hj,py⟩
    dsimp only
    show wpS _ _ _ _ (if g > 1 then loX a b out i2 j2 (g-1) ac bc else loX a b out i2 j2 g ac bc) _ _
    have hp:LoP st a b (i'+j'+y+1) (fun r st'_1=>match r with
     | ForInStep.done c'=>Sim st st'_1/\((∃ m d,c'=(some m,d)/\Mgd a b m)\/∃ out i2 j2 g ac bc,c'=(none,out,i2,j2,g,ac,bc)/\MS a b out i2 j2/\i2+1<a.size/\j2<b.size/\i'+j'<=i2+j2)
     | ForInStep.yield c'=>Sim st st'_1/\∃ out i2 j2 g ac bc,c'=(none,out,i2,j2,g,ac,bc)/\MS a b out i2 j2/\i2+1<a.size/\j2<b.size/\i'+j'+(y+1)<=i2+j2) :=
     ⟨fun m d st' q1 q2=>⟨q1,.inl ⟨m,d,rfl,q2⟩⟩,fun o i j g k k1 st' q1 q2 q3 q4 q5=>⟨⟨q1,.inr ⟨o,i,j,g,k,k1,rfl,q2,q3,q4,by lia⟩⟩,⟨q1,o,i,j,g,k,k1,rfl,q2,q3,q4,by lia⟩⟩⟩
    split
    ·exact wpS_mono (sS (n:=i'+j'+y+1) hk hp sm sa sb na nb lst ms hi hj (by lia)) fun r st' z=>by cases r <;> exact z
    ·exact wpS_mono (sS (n:=i'+j'+y+1) hk hp sm sa sb na nb lst ms hi hj (by lia)) fun r st' z=>by cases r <;> exact z
   ·rintro c st3 ⟨sm,out,i2,j2,g,ac,bc,rfl,ms,hi,hj,py⟩
    lia
   ·rintro c st3 ⟨sm,⟨m,d,rfl,hm⟩ | ⟨out,i2,j2,g,ac,bc,rfl,ms,hi,hj,py⟩⟩
    ·dsimp only
     exact wpS_pure ⟨sm,m,_,rfl,hm⟩
    dsimp only
    rw[bL]
    exact wpS_bind (wpS_modify (wpS_pure ⟨sm.set _,_,_,_,_,rfl,ms,hi,hj,by lia⟩))
 ·rintro c st' ⟨sm,out,i,j,g,rfl,ms,hi,hj,px⟩
  lia
 ·rintro c st' ⟨sm,m,d,rfl,hm⟩
  dsimp only
  exact wpS_pure (h m st' sm hm)
end
end Ow
namespace Ow
open PySem PyProof.Rows
variable [KeyC]
def mC:Array Keyed->Array Keyed->StateT SortSt Sem (Array Keyed):=sortPriv% PySem.Builtin.mergeHi
theorem oP (a b:Array Keyed):mC a b=(do
 rule "list.sort.merge-hi"
 let total:=a.size+b.size
 let done (out:Array Keyed) (na nb:Nat):=a.extract 0 na++b.extract 0 nb++out.reverse
 let firstOfB (out:Array Keyed) (na nb:Nat):=b.extract 0 nb++a.extract 0 na++out.reverse
 let mut na:=a.size-1
 let mut nb:=b.size
 let mut out:Array Keyed:=#[<- elem' a na]
 if na == 0 then return done out na nb
 if nb == 1 then return firstOfB out na nb
 let mut minGallop:=gallopOf (<- get)
 for _ in [0:total] do
  let mut acount:=0
  let mut bcount:=0
  for _ in [0:total] do
   let some aWins <- lt' (<- elem' b (nb-1)) (<- elem' a (na-1)) | return done out na nb
   if aWins then
    na:=na-1; out:=out.push (<- elem' a na); acount:=acount+1; bcount:=0
    if na == 0 then return done out na nb
    if acount ≥ minGallop then break
   else
    nb:=nb-1; out:=out.push (<- elem' b nb); bcount:=bcount+1; acount:=0
    if nb == 1 then return firstOfB out na nb
    if bcount ≥ minGallop then break
  rule "list.sort.gallop"
  minGallop:=minGallop+1
  for _ in [0:total] do
   if minGallop > 1 then minGallop:=minGallop-1
   bw minGallop
   let some at_ <- bX false (<- elem' b (nb-1)) a 0 na (na-1) | return done out na nb
   let k:=na-at_
   acount:=k
   if k > 0 then
    out:=out++(a.extract at_ na).reverse; na:=at_
    if na == 0 then return done out na nb
   nb:=nb-1; out:=out.push (<- elem' b nb)
   if nb == 1 then return firstOfB out na nb
   let some at_ <- bX true (<- elem' a (na-1)) b 0 nb (nb-1) | return done out na nb
   let k:=nb-at_
   bcount:=k
   if k > 0 then
    out:=out++(b.extract at_ nb).reverse; nb:=at_
    if nb == 1 then return firstOfB out na nb
    if nb == 0 then return done out na nb
   na:=na-1; out:=out.push (<- elem' a na)
   if na == 0 then return done out na nb
   if acount<7&&bcount<7 then break
  minGallop:=minGallop+1
  bw minGallop
 unsupported "internal:list.sort.merge-bound"):=rfl
structure MH (a b out:Array Keyed) (na nb:Nat):Prop where
 srt:Srt out.toList.reverse
 fil:∀ k,out.toList.reverse.filter (fA k)=(a.toList.drop na).filter (fA k)++(b.toList.drop nb).filter (fA k)
 s3:∀ i j x y,na<=i->j<nb->a.toList[i]?=some x->b.toList[j]?=some y->ky y<ky x
 s4:∀ i j x y,i<na->nb<=j->a.toList[i]?=some x->b.toList[j]?=some y->ky x<=ky y
theorem fj {l:List Keyed}{n:Nat}{x:Keyed}(h:x∈l.drop n):∃ i,n<=i/\l[i]?=some x:=by
 obtain⟨i,e⟩:=List.getElem?_of_mem h
 rw[List.getElem?_drop] at e
 exact⟨n+i,by lia,e⟩
theorem cZ {l:List Keyed}{n:Nat}{x:Keyed}(h:l[n]?=some x):l.drop n=x::l.drop (n+1):=by
 obtain⟨hn,e⟩:=List.getElem?_eq_some_iff.mp h
 rw[List.drop_eq_getElem_cons hn,e]
section
variable {a b out:Array Keyed}{na nb:Nat}
theorem MH.pushA (m:MH a b out (na+1) nb) (sa:Srt a.toList) (sb:Srt b.toList) {x:Keyed}(ex:a.toList[na]?=some x) (h:∀ j y,j<nb->b.toList[j]?=some y->ky y<ky x):MH a b (out.push x) na nb:=by
 refine⟨?_,fun k=>?_,fun i j u v h1 h2 eu ev=>?_,fun i j u v h1 h2=>m.s4 i j u v (by lia) h2⟩
 ·rw[Array.toList_push,reverse_append]
  refine List.pairwise_cons.mpr ⟨fun z hz=>?_,m.srt⟩
  rcases jH m.fil hz with hz | hz
  ·obtain⟨i,hi,e⟩:=fj hz
   exact bD sa (by lia) ex e
  ·obtain⟨j,hj,e⟩:=fj hz
   exact m.s4 na j x z (by lia) hj ex e
 ·rw[Array.toList_push,reverse_append,cZ ex]
  show (x::out.toList.reverse).filter (fA k)=_
  rw[filter_cons,filter_cons,m.fil]
  split <;> rfl
 ·by_cases e:na+1<=i
  ·exact m.s3 i j u v e h2 eu ev
  ·obtain rfl:i=na:=by lia
   rw[ex] at eu
   cases eu
   exact h j v h2 ev
theorem MH.pushB (m:MH a b out na (nb+1)) (sa:Srt a.toList) (sb:Srt b.toList) {y:Keyed}(ey:b.toList[nb]?=some y) (h:∀ i x,i<na->a.toList[i]?=some x->ky x<=ky y):MH a b (out.push y) na nb:=by
 refine⟨?_,fun k=>?_,fun i j u v h1 h2=>m.s3 i j u v h1 (by lia),fun i j u v h1 h2 eu ev=>?_⟩
 ·rw[Array.toList_push,reverse_append]
  refine List.pairwise_cons.mpr ⟨fun z hz=>?_,m.srt⟩
  rcases jH m.fil hz with hz | hz
  ·obtain⟨i,hi,e⟩:=fj hz
   exact Int.le_of_lt (m.s3 i nb z y hi (by lia) e ey)
  ·obtain⟨j,hj,e⟩:=fj hz
   exact bD sb (by lia) ey e
 ·rw[Array.toList_push,reverse_append,cZ ey]
  show (y::out.toList.reverse).filter (fA k)=_
  rw[filter_cons,filter_cons,m.fil]
  split
  ·rename_i hk
   have hk':ky y=k:=by unfold fA at hk; exact beq_iff_eq.mp hk
   rw[i6 (l:=a.toList.drop na) fun z hz=>by
    obtain⟨i,hi,e⟩:=fj hz
    have:=m.s3 i nb z y hi (by lia) e ey
    lia]
   rfl
  ·rfl
 ·by_cases e:nb+1<=j
  ·exact m.s4 i j u v h1 e eu ev
  ·obtain rfl:j=nb:=by lia
   rw[ey] at ev
   cases ev
   exact h i u h1 eu
theorem pV {a:Array Keyed}{i j:Nat}(h:i<j) (hj:j<=a.size):(a.extract i j).reverse=(a.extract (i+1) j).reverse.push a[i]:=by
 apply Array.toList_inj.mp
 rw[Array.toList_push,Array.toList_reverse,Array.toList_reverse,Array.toList_extract,Array.toList_extract,extract_eq_take_drop,extract_eq_take_drop]
 have e:a.toList[i]?=some a[i]:=by rw[<- bQ]; exact getElem?_pos a i (by lia)
 rw[cZ e,show j-i=(j-(i+1))+1 by lia,List.take_succ_cons,List.reverse_cons]
theorem MH.moreA (sa:Srt a.toList) (sb:Srt b.toList) {top:Nat}(m:MH a b out top nb) (ht:top<=a.size):∀ (k at':Nat),at'+k=top->(∀ i j x y,at'<=i->i<top->j<nb->a.toList[i]?=some x->b.toList[j]?=some y->ky y<ky x)->MH a b (out++(a.extract at' top).reverse) at' nb
 | 0,at',e,_=>by
  obtain rfl:at'=top:=by lia
  rw[show a.extract at' at'=#[] by have:=fh (a:=a) (i:=at'); rwa [Nat.add_zero] at this]
  simpa using m
 | k+1,at',e,h=>by
  have ih:=MH.moreA sa sb m ht k (at'+1) (by lia) fun i j x y h1=>h i j x y (by lia)
  have ea:a.toList[at']?=some a[at']:=by rw[<- bQ]; exact getElem?_pos a _ (by lia)
  rw[pV (by lia) ht,Array.append_push]
  exact ih.pushA sa sb ea fun j y hj ey=>h at' j _ y (Nat.le_refl _) (by lia) hj ea ey
theorem MH.moreB (sa:Srt a.toList) (sb:Srt b.toList) {top:Nat}(m:MH a b out na top) (ht:top<=b.size):∀ (k at':Nat),at'+k=top->(∀ i j x y,at'<=j->j<top->i<na->a.toList[i]?=some x->b.toList[j]?=some y->ky x<=ky y)->MH a b (out++(b.extract at' top).reverse) na at'
 | 0,at',e,_=>by
  obtain rfl:at'=top:=by lia
  rw[show b.extract at' at'=#[] by have:=fh (a:=b) (i:=at'); rwa [Nat.add_zero] at this]
  simpa using m
 | k+1,at',e,h=>by
  have ih:=MH.moreB sa sb m ht k (at'+1) (by lia) fun i j x y h1=>h i j x y (by lia)
  have eb:b.toList[at']?=some b[at']:=by rw[<- bQ]; exact getElem?_pos b _ (by lia)
  rw[pV (by lia) ht,Array.append_push]
  exact ih.pushB sa sb eb fun i x hi ex=>h i at' x _ (Nat.le_refl _) (by lia) hi ex eb
theorem MH.all (m:MH a b out 0 0):Mgd a b out.reverse:=by
 refine⟨by rw[Array.toList_reverse]; exact m.srt,fun k=>?_⟩
 have:=m.fil k
 rw[Array.toList_reverse]
 simpa using this
theorem MH.endA (sa:Srt a.toList) (sb:Srt b.toList) (m:MH a b out 0 nb) (h:nb<=b.size):Mgd a b (a.extract 0 0++b.extract 0 nb++out.reverse):=by
 have z:=(m.moreB sa sb h nb 0 (by lia) fun i j x y _ _ h=>by lia).all
 rw[Array.reverse_append,Array.reverse_reverse] at z
 have e:a.extract 0 0=#[]:=fh (a:=a) (i:=0)
 rw[e,Array.empty_append]
 exact z
theorem MH.endB (sa:Srt a.toList) (sb:Srt b.toList) (m:MH a b out na 0) (h:na<=a.size):Mgd a b (a.extract 0 na++b.extract 0 0++out.reverse):=by
 have z:=(m.moreA sa sb h na 0 (by lia) fun i j x y _ _ h=>by lia).all
 rw[Array.reverse_append,Array.reverse_reverse] at z
 have e:b.extract 0 0=#[]:=fh (a:=b) (i:=0)
 rw[e,Array.append_empty]
 exact z
theorem MH.firstB (sa:Srt a.toList) (sb:Srt b.toList) (m:MH a b out na 1) (h:na<=a.size) (hb:1<=b.size) (fst:∀ x y,a.toList[0]?=some x->b.toList[0]?=some y->ky y<ky x):Mgd a b (b.extract 0 1++a.extract 0 na++out.reverse):=by
 have z:=m.moreA sa sb h na 0 (by lia) fun i j x y _ h1 h2 ex ey=>by
  obtain rfl:j=0:=by lia
  have hl0:0<a.toList.length:=by rw[Array.length_toList]; lia
  have e0:a.toList[0]?=some a.toList[0]:=List.getElem?_eq_getElem hl0
  exact Int.lt_of_lt_of_le (fst _ _ e0 ey) (bD sa (by lia) e0 ex)
 have z2:=(z.moreB sa sb hb 1 0 (by lia) fun i j x y _ _ h=>by lia).all
 rw[Array.reverse_append,Array.reverse_reverse,Array.reverse_append,Array.reverse_reverse,<- Array.append_assoc] at z2
 exact z2
end
abbrev nY (a b out:Array Keyed) (na nb:Nat):Array Keyed:=a.extract 0 na++b.extract 0 nb++out.reverse
abbrev hiFst (a b out:Array Keyed) (na nb:Nat):Array Keyed:=b.extract 0 nb++a.extract 0 na++out.reverse
noncomputable def hiZ (a b o:Array Keyed) (na nb g k k1:Nat):StateT SortSt Sem (ForInStep (Option (Array Keyed)×Nat×Nat×Array Keyed×Nat×Nat×Nat)):=do
 let l <- elem' a (na-1)
 if na-1 == 0 then pure (.done (some (nY a b (o.push l) (na-1) nb),na-1,nb,o.push l,g,k,k1))
 else if (decide (k<7)&&decide (k1<7))=true then pure (.done (none,na-1,nb,o.push l,g,k,k1))
 else pure (.yield (none,na-1,nb,o.push l,g,k,k1))
noncomputable def hiY (a b o:Array Keyed) (na nb g k bc:Nat):StateT SortSt Sem (ForInStep (Option (Array Keyed)×Nat×Nat×Array Keyed×Nat×Nat×Nat)):=do
 let l <- elem' b (nb-1)
 if nb-1 == 1 then pure (.done (some (hiFst a b (o.push l) na (nb-1)),na,nb-1,o.push l,g,k,bc))
 else do
  let x <- elem' a (na-1)
  let r <- bX true x b 0 (nb-1) (nb-1-1)
  match r with
  | some at' =>
   if nb-1-at' > 0 then
    if at' == 1 then pure (.done (some (hiFst a b (o.push l++(b.extract at' (nb-1)).reverse) na at'),na,at',o.push l++(b.extract at' (nb-1)).reverse,g,k,nb-1-at'))
    else if at' == 0 then pure (.done (some (nY a b (o.push l++(b.extract at' (nb-1)).reverse) na at'),na,at',o.push l++(b.extract at' (nb-1)).reverse,g,k,nb-1-at'))
    else hiZ a b (o.push l++(b.extract at' (nb-1)).reverse) na at' g k (nb-1-at')
   else hiZ a b (o.push l) na (nb-1) g k (nb-1-at')
  | _=>pure (.done (some (nY a b (o.push l) na (nb-1)),na,nb-1,o.push l,g,k,bc))
noncomputable def hiX (a b o:Array Keyed) (na nb g ac bc:Nat):StateT SortSt Sem (ForInStep (Option (Array Keyed)×Nat×Nat×Array Keyed×Nat×Nat×Nat)):=do
 bw g
 let y <- elem' b (nb-1)
 let r <- bX false y a 0 na (na-1)
 match r with
 | some at' =>
  if na-at' > 0 then
   if at' == 0 then pure (.done (some (nY a b (o++(a.extract at' na).reverse) at' nb),at',nb,o++(a.extract at' na).reverse,g,na-at',bc))
   else hiY a b (o++(a.extract at' na).reverse) at' nb g (na-at') bc
  else hiY a b o na nb g (na-at') bc
 | _=>pure (.done (some (nY a b o na nb),na,nb,o,g,ac,bc))
abbrev HiT:=Option (Array Keyed)×Nat×Nat×Array Keyed×Nat×Nat×Nat
section
variable {prog:Program}{w:World}{A:Around}{E:Value->Shared->Prop}{s:Shared} [KeyL prog w A s]
structure HiP (st:SortSt) (a b:Array Keyed) (n:Nat) (P:ForInStep HiT->SortSt->Prop):Prop where
 dn:∀ m d st',Sim st st'->Mgd a b m->P (.done (some m,d)) st'
 go:∀ o na nb g k k1 st',Sim st st'->MH a b o na nb->0<na->na<=a.size->1<nb->nb<=b.size->na+nb<=n->P (.done (none,na,nb,o,g,k,k1)) st'/\P (.yield (none,na,nb,o,g,k,k1)) st'
section
variable {st st':SortSt}{a b o:Array Keyed}{na nb g k k1 bc ac n:Nat}{P:ForInStep HiT->SortSt->Prop}
theorem rK (hp:HiP st a b n P) (sm:Sim st st') (sa:Srt a.toList) (sb:Srt b.toList) (ia:Ints a) (ms:MH a b o na nb) (h0:0<na) (h1:na<=a.size) (h2:1<nb) (h3:nb<=b.size) (lt:∀ j x y,j<nb->a.toList[na-1]?=some x->b.toList[j]?=some y->ky y<ky x) (hn:na-1+nb<=n) :
  wpS (model prog w) A E s (hiZ a b o na nb g k k1) P st':=by
 unfold hiZ
 obtain⟨x,a1,a2,ix⟩:=ia.at (show na-1<a.size by lia)
 refine wpS_bind (aW a1 ?_)
 have ms':MH a b o (na-1+1) nb:=by rw[show na-1+1=na by lia]; exact ms
 have ms2:=ms'.pushA sa sb a2 fun j y hj ey=>lt j x y hj a2 ey
 by_cases c3:na-1=0
 ·rw[if_pos (lG c3)]
  rw[c3] at ms2 ⊢
  exact wpS_pure (hp.dn _ _ _ sm (ms2.endA sa sb h3))
 rw[if_neg (lJ c3)]
 split
 ·exact wpS_pure (hp.go _ _ _ _ _ _ _ sm ms2 (by lia) (by lia) h2 h3 (by lia)).1
 ·exact wpS_pure (hp.go _ _ _ _ _ _ _ sm ms2 (by lia) (by lia) h2 h3 (by lia)).2
theorem ur (hk:kindOf st=KeyC.kd) (hp:HiP st a b n P) (sm:Sim st st') (sa:Srt a.toList) (sb:Srt b.toList) (ia:Ints a) (ib:Ints b) (fst:∀ x y,a.toList[0]?=some x->b.toList[0]?=some y->ky y<ky x) (ms:MH a b o na nb) (h0:0<na) (h1:na<=a.size) (h2:1<nb) (h3:nb<=b.size)
  (le:∀ i x y,i<na->a.toList[i]?=some x->b.toList[nb-1]?=some y->ky x<=ky y) (hn:na+nb<=n+1) :
  wpS (model prog w) A E s (hiY a b o na nb g k bc) P st':=by
 unfold hiY
 obtain⟨y,b1,b2,iy⟩:=ib.at (show nb-1<b.size by lia)
 obtain⟨x,a1,a2,ix⟩:=ia.at (show na-1<a.size by lia)
 refine wpS_bind (aW b1 ?_)
 have ms':MH a b o na (nb-1+1):=by rw[show nb-1+1=nb by lia]; exact ms
 have ms2:=ms'.pushB sa sb b2 fun i x hi ex=>le i x y hi ex b2
 by_cases c3:nb-1=1
 ·rw[if_pos (lG c3)]
  rw[c3] at ms2 ⊢
  exact wpS_pure (hp.dn _ _ _ sm (ms2.firstB sa sb h1 (by lia) fst))
 rw[if_neg (lJ c3)]
 refine wpS_bind (aW a1 (wpS_bind (mO (by rw[sm.kind]; exact hk) ix ib (fun i j x y _ h1 _ e1 e2=>bD sb h1 e1 e2) (by lia) (by lia) fun k2 hk2 g1 g2=>?_)))
 dsimp only
 have ms3:=ms2.moreB sa sb (by lia) (nb-1-k2) k2 (by lia) fun i j x' y' q1 q2 q3 ex ey=>Int.le_trans (bD sa (by lia) ex a2) (g2 j y' (by lia) (by lia) ey)
 have lt3:∀ (j:Nat) x' y',j<k2->a.toList[na-1]?=some x'->b.toList[j]?=some y'->ky y'<ky x':=fun j x' y' hj ex ey=>by
  rw[a2] at ex
  cases ex
  exact g1 j y' (by lia) (by lia) ey
 by_cases c4:nb-1-k2 > 0
 ·rw[if_pos c4]
  by_cases c5:k2=1
  ·rw[if_pos (lG c5)]
   rw[c5] at ms3 ⊢
   exact wpS_pure (hp.dn _ _ _ sm (ms3.firstB sa sb h1 (by lia) fst))
  rw[if_neg (lJ c5)]
  by_cases c6:k2=0
  ·rw[if_pos (lG c6)]
   rw[c6] at ms3 ⊢
   exact wpS_pure (hp.dn _ _ _ sm (ms3.endB sa sb h1))
  ·rw[if_neg (lJ c6)]
   exact rK hp sm sa sb ia ms3 h0 h1 (by lia) (by lia) lt3 (by lia)
 ·rw[if_neg c4]
  obtain rfl:k2=nb-1:=by lia
  exact rK hp sm sa sb ia ms2 h0 h1 (by lia) (by lia) lt3 (by lia)
theorem sC (hk:kindOf st=KeyC.kd) (hp:HiP st a b n P) (sm:Sim st st') (sa:Srt a.toList) (sb:Srt b.toList) (ia:Ints a) (ib:Ints b) (fst:∀ x y,a.toList[0]?=some x->b.toList[0]?=some y->ky y<ky x) (ms:MH a b o na nb) (h0:0<na) (h1:na<=a.size) (h2:1<nb) (h3:nb<=b.size) (hn:na+nb<=n+1) :
  wpS (model prog w) A E s (hiX a b o na nb g ac bc) P st':=by
 unfold hiX
 rw[bL]
 refine wpS_bind (wpS_modify ?_)
 obtain⟨y,b1,b2,iy⟩:=ib.at (show nb-1<b.size by lia)
 have sm2:=sm.set g
 refine wpS_bind (aW b1 (wpS_bind (lY (by rw[sm2.kind]; exact hk) iy ia (fun i j x y _ h1 _ e1 e2=>bD sa h1 e1 e2) (by lia) (by lia) fun k2 hk2 g1 g2=>?_)))
 dsimp only
 have ms3:=ms.moreA sa sb h1 (na-k2) k2 (by lia) fun i j x' y' q1 q2 q3 ex ey=>Int.lt_of_le_of_lt (bD sb (by lia) ey b2) (g2 i x' (by lia) (by lia) ex)
 have le3:∀ (i:Nat) x' y',i<k2->a.toList[i]?=some x'->b.toList[nb-1]?=some y'->ky x'<=ky y':=fun i x' y' hi ex ey=>by
  rw[b2] at ey
  cases ey
  exact g1 i x' (by lia) (by lia) ex
 by_cases c4:na-k2 > 0
 ·rw[if_pos c4]
  by_cases c5:k2=0
  ·rw[if_pos (lG c5)]
   rw[c5] at ms3 ⊢
   exact wpS_pure (hp.dn _ _ _ sm2 (ms3.endA sa sb h3))
  ·rw[if_neg (lJ c5)]
   exact ur hk hp sm2 sa sb ia ib fst ms3 (by lia) (by lia) h2 h3 le3 (by lia)
 ·rw[if_neg c4]
  obtain rfl:k2=na:=by lia
  exact ur hk hp sm2 sa sb ia ib fst ms h0 h1 h2 h3 le3 hn
end
theorem mh0 {a b:Array Keyed}:MH a b #[] a.size b.size:=⟨List.Pairwise.nil,fun k=>by rw[List.drop_of_length_le (by simp),List.drop_of_length_le (by simp)]; rfl,(fun i j x y h1 h2 e=>by rw[jh h1] at e; cases e),fun i j x y h1 h2 _ e=>by rw[jh h2] at e; cases e⟩
theorem pd {st:SortSt}{a b:Array Keyed}{Q:Array Keyed->SortSt->Prop}(hk:kindOf st=KeyC.kd) (sa:Srt a.toList) (sb:Srt b.toList) (ia:Ints a) (ib:Ints b) (za:0<a.size) (zb:0<b.size)
  (fst:∀ x y,a.toList[0]?=some x->b.toList[0]?=some y->ky y<ky x) (lst:∀ (j:Nat) x y,a.toList[a.size-1]?=some x->b.toList[j]?=some y->ky y<ky x)
  (h:∀ m st',Sim st st'->Mgd a b m->Q m st'):wpS (model prog w) A E s (mC a b) Q st:=by
 rw[oP]
 refine wpS_bind (wpS_lift (wpAny_rule ⟨rfl,?_⟩))
 obtain⟨x0,e1,e2,ix⟩:=ia.at (show a.size-1<a.size by lia)
 refine wpS_bind (aW e1 ?_)
 dsimp only
 have m00:MH a b #[] (a.size-1+1) b.size:=by rw[show a.size-1+1=a.size by lia]; exact mh0
 have m0:MH a b #[x0] (a.size-1) b.size:=m00.pushA sa sb e2 fun j y _ ey=>lst j x0 y e2 ey
 by_cases c1:a.size-1=0
 ·rw[if_pos (lG c1)]
  refine wpS_pure (h _ _ (Sim.refl _) ?_)
  rw[c1] at m0 ⊢
  exact m0.endA sa sb (Nat.le_refl _)
 rw[if_neg (lJ c1)]
 by_cases c2:b.size=1
 ·rw[if_pos (lG c2)]
  refine wpS_pure (h _ _ (Sim.refl _) ?_)
  rw[c2] at m0 ⊢
  exact m0.firstB sa sb (by lia) (by lia) fst
 rw[if_neg (lJ c2)]
 refine wpS_bind (wpS_get ?_)
 refine wpS_bind (wpS_mono (wpS_forRange
  (I:=fun x c st'=>Sim st st'/\∃ out i j g,c=(none,i,j,out,g)/\MH a b out i j/\0<i/\i<=a.size/\1<j/\j<=b.size/\i+j+x+1<=a.size+b.size)
  (Q:=fun c st'=>Sim st st'/\∃ m d,c=(some m,d)/\Mgd a b m) ?_ ?_ ⟨Sim.refl _,_,_,_,_,rfl,m0,by lia,by lia,by lia,by lia,by lia⟩) ?_)
 ·rintro x c st' _ hx ⟨sm,out,i,j,g,rfl,ms,h0,h1,h2,h3,px⟩
  dsimp only
  refine wpS_bind (wpS_mono (wpS_forRange
   (I:=fun y c st''=>Sim st st''/\∃ out i' j' ac bc,c=(none,i',j',out,ac,bc)/\MH a b out i' j'/\0<i'/\i'<=a.size/\1<j'/\j'<=b.size/\i'+j'+y<=i+j)
   (Q:=fun c st''=>Sim st st''/\((∃ m d,c=(some m,d)/\Mgd a b m)\/∃ out i' j' ac bc,c=(none,i',j',out,ac,bc)/\MH a b out i' j'/\0<i'/\i'<=a.size/\1<j'/\j'<=b.size/\i'+j'+1<=i+j)) ?_ ?_ ⟨sm,_,_,_,_,_,rfl,ms,h0,h1,h2,h3,by lia⟩) ?_)
  ·rintro y c st'' _ hy ⟨sm,out,i',j',ac,bc,rfl,ms,h0,h1,h2,h3,py⟩
   dsimp only
   obtain⟨yb,b1,b2,iyb⟩:=ib.at (show j'-1<b.size by lia)
   obtain⟨xa,a1,a2,ixa⟩:=ia.at (show i'-1<a.size by lia)
   refine wpS_bind (aW b1 (wpS_bind (aW a1 (wpS_bind (mT (by rw[sm.kind]; exact hk) iyb ixa ?_)))))
   dsimp only
   by_cases cw:ky yb<ky xa
   ·rw[if_pos (decide_eq_true cw)]
    refine wpS_bind (aW a1 ?_)
    try dsimp only
    have ms':MH a b out (i'-1+1) j':=by rw[show i'-1+1=i' by lia]; exact ms
    have ms2:=ms'.pushA sa sb a2 fun jj y hj ey=>Int.lt_of_le_of_lt (bD sb (by lia) ey b2) cw
    by_cases c3:i'-1=0
    ·rw[if_pos (lG c3)]
     rw[c3] at ms2 ⊢
     exact wpS_pure ⟨sm,.inl ⟨_,_,rfl,ms2.endA sa sb h3⟩⟩
    rw[if_neg (lJ c3)]
    split
    ·exact wpS_pure ⟨sm,.inr ⟨_,_,_,_,_,rfl,ms2,by lia,by lia,h2,h3,by lia⟩⟩
    ·exact wpS_pure ⟨sm,_,_,_,_,_,rfl,ms2,by lia,by lia,h2,h3,by lia⟩
   ·rw[if_neg (by rw[decide_eq_true_eq]; exact cw)]
    refine wpS_bind (aW b1 ?_)
    try dsimp only
    have ms':MH a b out i' (j'-1+1):=by rw[show j'-1+1=j' by lia]; exact ms
    have ms2:=ms'.pushB sa sb b2 fun ii x hi ex=>Int.le_trans (bD sa (by lia) ex a2) (by lia)
    by_cases c3:j'-1=1
    ·rw[if_pos (lG c3)]
     rw[c3] at ms2 ⊢
     exact wpS_pure ⟨sm,.inl ⟨_,_,rfl,ms2.firstB sa sb h1 (by lia) fst⟩⟩
    rw[if_neg (lJ c3)]
    split
    ·exact wpS_pure ⟨sm,.inr ⟨_,_,_,_,_,rfl,ms2,h0,h1,by lia,by lia,by lia⟩⟩
    ·exact wpS_pure ⟨sm,_,_,_,_,_,rfl,ms2,h0,h1,by lia,by lia,by lia⟩
  ·rintro c st'' ⟨sm,out,i',j',ac,bc,rfl,ms,h0,h1,h2,h3,py⟩
   lia
  ·rintro c st'' ⟨sm,⟨m,d,rfl,hm⟩ | ⟨out,i',j',ac,bc,rfl,ms,h0,h1,h2,h3,py⟩⟩
   ·dsimp only
    exact wpS_pure ⟨sm,m,_,rfl,hm⟩
   dsimp only
   refine wpS_bind (wpS_lift (wpAny_rule ⟨rfl,?_⟩))
   refine wpS_bind (wpS_mono (wpS_forRange
    (I:=fun y c st''=>Sim st st''/\∃ out i2 j2 g ac bc,c=(none,i2,j2,out,g,ac,bc)/\MH a b out i2 j2/\0<i2/\i2<=a.size/\1<j2/\j2<=b.size/\i2+j2+y<=i'+j')
    (Q:=fun c st''=>Sim st st''/\((∃ m d,c=(some m,d)/\Mgd a b m)\/∃ out i2 j2 g ac bc,c=(none,i2,j2,out,g,ac,bc)/\MH a b out i2 j2/\0<i2/\i2<=a.size/\1<j2/\j2<=b.size/\i2+j2<=i'+j')) ?_ ?_ ⟨sm,_,_,_,_,_,_,rfl,ms,h0,h1,h2,h3,by lia⟩) ?_)
   ·rintro y c st3 _ hy ⟨sm,out,i2,j2,g,ac,bc,rfl,ms,h0,h1,h2,h3,py⟩
    dsimp only
    show wpS _ _ _ _ (if g > 1 then hiX a b out i2 j2 (g-1) ac bc else hiX a b out i2 j2 g ac bc) _ _
    have hp:HiP st a b (i'+j'-y-1) (fun r st'_1=>match r with
     | ForInStep.done c'=>Sim st st'_1/\((∃ m d,c'=(some m,d)/\Mgd a b m)\/∃ out i2 j2 g ac bc,c'=(none,i2,j2,out,g,ac,bc)/\MH a b out i2 j2/\0<i2/\i2<=a.size/\1<j2/\j2<=b.size/\i2+j2<=i'+j')
     | ForInStep.yield c'=>Sim st st'_1/\∃ out i2 j2 g ac bc,c'=(none,i2,j2,out,g,ac,bc)/\MH a b out i2 j2/\0<i2/\i2<=a.size/\1<j2/\j2<=b.size/\i2+j2+(y+1)<=i'+j') :=
     ⟨fun m d st' q1 q2=>⟨q1,.inl ⟨m,d,rfl,q2⟩⟩,fun o i j g k k1 st' q1 q2 q3 q4 q5 q6 q7=>⟨⟨q1,.inr ⟨o,i,j,g,k,k1,rfl,q2,q3,q4,q5,q6,by lia⟩⟩,⟨q1,o,i,j,g,k,k1,rfl,q2,q3,q4,q5,q6,by lia⟩⟩⟩
    split
    ·exact wpS_mono (sC (n:=i'+j'-y-1) hk hp sm sa sb ia ib fst ms h0 h1 h2 h3 (by lia)) fun r st' z=>by cases r <;> exact z
    ·exact wpS_mono (sC (n:=i'+j'-y-1) hk hp sm sa sb ia ib fst ms h0 h1 h2 h3 (by lia)) fun r st' z=>by cases r <;> exact z
   ·rintro c st3 ⟨sm,out,i2,j2,g,ac,bc,rfl,ms,h0,h1,h2,h3,py⟩
    lia
   ·rintro c st3 ⟨sm,⟨m,d,rfl,hm⟩ | ⟨out,i2,j2,g,ac,bc,rfl,ms,h0,h1,h2,h3,py⟩⟩
    ·dsimp only
     exact wpS_pure ⟨sm,m,_,rfl,hm⟩
    dsimp only
    rw[bL]
    exact wpS_bind (wpS_modify (wpS_pure ⟨sm.set _,_,_,_,_,rfl,ms,h0,h1,h2,h3,by lia⟩))
 ·rintro c st' ⟨sm,out,i,j,g,rfl,ms,h0,h1,h2,h3,px⟩
  lia
 ·rintro c st' ⟨sm,m,d,rfl,hm⟩
  dsimp only
  exact wpS_pure (h m st' sm hm)
end
end Ow
namespace Ow
open PySem PyProof.Rows
variable [KeyC]
theorem oR (i:Nat):mergeAt' i=(do
 let s <- get
 let (some (sa,na,power),some (sb,nb,_)):=((pendingOf s)[i]?,(pendingOf s)[i+1]?) | unsupported "internal:list.sort.pending"
 set (setPending s (((pendingOf s).setIfInBounds i (sa,na+nb,power)).eraseIdxIfInBounds (i+1)))
 let some k <- bX false (<- elem' (arrOf s) sb) (arrOf s) sa na 0 | return false
 let (sa,na):=(sa+k,na-k)
 if na == 0 then return true
 let some nb <- bX true (<- elem' (arrOf s) (sa+na-1)) (arrOf s) sb nb (nb-1) | return false
 if nb == 0 then return true
 let x:=(arrOf s).extract sa sb
 let y:=(arrOf s).extract sb (sb+nb)
 let merged <- if na<=nb then mR x y else mC x y
 modify fun s=>setArr s (merged.toList.zipIdx.foldl (fun a (p,j)=>a.setIfInBounds (sa+j) p) (arrOf s))
 return (failedOf (<- get)).isNone):=rfl
noncomputable def putAt (sa:Nat):List Keyed->Nat->Array Keyed->Array Keyed
 | [],_,a=>a
 | p::ps,j,a=>putAt sa ps (j+1) (a.setIfInBounds (sa+j) p)
theorem qt (sa:Nat):∀ (l:List Keyed) (j:Nat) (a:Array Keyed),(l.zipIdx j).foldl (fun a (p:Keyed×Nat)=>a.setIfInBounds (sa+p.2) p.1) a=putAt sa l j a
 | [],_,_=>rfl
 | p::ps,j,a=>by rw[List.zipIdx_cons,List.foldl_cons]; exact qt sa ps (j+1) _
theorem lA (sa:Nat):∀ (l:List Keyed) (j:Nat) (a:Array Keyed),sa+j+l.length<=a.size->(putAt sa l j a).toList=a.toList.take (sa+j)++l++a.toList.drop (sa+j+l.length)
 | [],j,a,_=>by simp[putAt]
 | p::ps,j,a,h=>by
  rw[length_cons] at h
  unfold putAt
  rw[lA sa ps (j+1) _ (by rw[Array.size_setIfInBounds]; lia),Array.toList_setIfInBounds]
  have hl:sa+j<a.toList.length:=by rw[Array.length_toList]; lia
  rw[length_cons]
  have e1:(a.toList.set (sa+j) p).take (sa+(j+1))=a.toList.take (sa+j)++[p]:=by
   rw[show sa+(j+1)=sa+j+1 by lia,List.take_succ_eq_append_getElem (by rw[List.length_set]; exact hl),List.getElem_set_self,List.take_set_of_le (Nat.le_refl _)]
  have e2:(a.toList.set (sa+j) p).drop (sa+(j+1)+ps.length)=a.toList.drop (sa+j+(ps.length+1)):=by
   rw[List.drop_set_of_lt (by lia)]
   congr 1
   lia
  rw[e1,e2]
  simp
noncomputable def seg (a:Array Keyed) (i n:Nat):List Keyed:=(a.toList.drop i).take n
theorem jV {a:Array Keyed}{i n j:Nat}(h:j<n):(seg a i n)[j]?=a.toList[i+j]?:=by
 unfold seg
 rw[List.getElem?_take_of_lt h,List.getElem?_drop]
theorem t4 {a:Array Keyed}{i j:Nat}:(a.extract i j).toList=seg a i (j-i):=by
 unfold seg
 rw[Array.toList_extract,extract_eq_take_drop]
theorem seg_app {a:Array Keyed}{i n m:Nat}:seg a i (n+m)=seg a i n++seg a (i+n) m:=by
 unfold seg
 rw[List.take_add,List.drop_drop]
theorem cs {a:Array Keyed}{i n:Nat}(h:Srt (seg a i n)) {p q:Nat}{x y:Keyed}(h1:i<=p) (h2:p<=q) (h3:q<i+n) (ex:a.toList[p]?=some x) (ey:a.toList[q]?=some y):ky x<=ky y:=by
 refine bD h (i:=p-i) (j:=q-i) (by lia) ?_ ?_
 ·rw[jV (by lia),show i+(p-i)=p by lia]; exact ex
 ·rw[jV (by lia),show i+(q-i)=q by lia]; exact ey
theorem nj {a:Array Keyed}{i n:Nat}(h:∀ p q x y,i<=p->p<=q->q<i+n->a.toList[p]?=some x->a.toList[q]?=some y->ky x<=ky y):Srt (seg a i n):=by
 refine List.pairwise_iff_getElem.mpr fun p q hp hq hpq=>?_
 have hl:(seg a i n).length<=n:=by unfold seg; rw[length_take]; lia
 have e1:(seg a i n)[p]?=some (seg a i n)[p]:=List.getElem?_eq_getElem hp
 have e2:(seg a i n)[q]?=some (seg a i n)[q]:=List.getElem?_eq_getElem hq
 rw[jV (by lia)] at e1 e2
 exact h _ _ _ _ (by lia) (by lia) (by lia) e1 e2
end Ow
namespace Ow
open PySem PyProof.Rows
variable [KeyC]
def FilEq (a b:Array Keyed):Prop:=∀ k,a.toList.filter (fA k)=b.toList.filter (fA k)
theorem gF {l m:List Keyed}(h:∀ k,l.filter (fA k)=m.filter (fA k)):l.Perm m:=by
 haveI:DecidableEq Keyed:=fun a b=>Classical.propDecidable (a=b)
 refine List.perm_iff_count.mpr fun p=>?_
 have e:fA (ky p) p=true:=by unfold fA; simp
 rw[<- List.count_filter e,<- List.count_filter (l:=m) e,h]
theorem FilEq.perm {a b:Array Keyed}(h:FilEq a b):a.toList.Perm b.toList:=gF h
theorem FilEq.size {a b:Array Keyed}(h:FilEq a b):a.size=b.size:=by
 have:=h.perm.length_eq
 rwa [Array.length_toList,Array.length_toList] at this
theorem FilEq.ints {a b:Array Keyed}(h:FilEq a b) (i:Ints b):Ints a:=fun p hp=>i p (h.perm.mem_iff.mp hp)
theorem FilEq.trans {a b c:Array Keyed}(h:FilEq a b) (g:FilEq b c):FilEq a c:=fun k=>(h k).trans (g k)
def Out (a b:Array Keyed) (i j:Nat):Prop:=∀ p,p<i\/j<=p->a.toList[p]?=b.toList[p]?
theorem split3 {l:List Keyed}{i j:Nat}(h:i<=j):l=l.take i++(l.drop i).take (j-i)++l.drop j:=by
 have e:l.drop j=(l.drop i).drop (j-i):=by rw[List.drop_drop]; congr 1; lia
 rw[e,append_assoc,take_append_drop,take_append_drop]
theorem put_back {a m:Array Keyed}{i j:Nat}(hij:i<=j) (hj:j<=a.size) (hl:m.size=j-i) (hf:∀ k,m.toList.filter (fA k)=(seg a i (j-i)).filter (fA k)) :
  FilEq (putAt i m.toList 0 a) a/\Out (putAt i m.toList 0 a) a i j/\∀ p,i<=p->p<j->(putAt i m.toList 0 a).toList[p]?=m.toList[p-i]?:=by
 have hm:m.toList.length=j-i:=by rw[Array.length_toList]; exact hl
 have e:=lA i m.toList 0 a (by lia)
 rw[Nat.add_zero,hm,show i+(j-i)=j by lia] at e
 have li:(a.toList.take i).length=i:=by rw[length_take,Array.length_toList]; lia
 refine⟨fun k=>?_,fun p hp=>?_,fun p h1 h2=>?_⟩
 ·have e2:=split3 (l:=a.toList) hij
  rw[e]
  conv=>rhs; rw[e2]
  rw[filter_append,filter_append,filter_append,filter_append,hf]
  rfl
 ·rw[e]
  rcases hp with hp | hp
  ·rw[append_assoc,List.getElem?_append_left (by lia),List.getElem?_take_of_lt hp]
  ·rw[List.getElem?_append_right (by rw[length_append]; lia),length_append,li,hm,List.getElem?_drop]
   congr 1
   lia
 ·rw[e,append_assoc,List.getElem?_append_right (by lia),li,List.getElem?_append_left (by lia)]
section
variable {prog:Program}{w:World}{A:Around}{E:Value->Shared->Prop}{s:Shared} [KeyL prog w A s]
theorem wpS_set {σ:Type}{M:Model}{st st':σ}{Q:PUnit->σ->Prop}(h:Q ⟨⟩ st'):wpS M A E s (set st':StateT σ Sem PUnit) Q st:=by
 unfold wpS
 rw[StateT.run_set]
 exact wpAny_pure ⟨rfl,h⟩
theorem oQ {st:SortSt}{i sa na pw sb nb pw2:Nat}{Q:Bool->SortSt->Prop}(hk:kindOf st=KeyC.kd) (hf:failedOf st=none) (nI:Ints (arrOf st)) (p1:(pendingOf st)[i]?=some (sa,na,pw)) (p2:(pendingOf st)[i+1]?=some (sb,nb,pw2)) (hb:sb=sa+na) (za:0<na) (zb:0<nb) (hz:sb+nb<=(arrOf st).size)
  (s1:Srt (seg (arrOf st) sa na)) (s2:Srt (seg (arrOf st) sb nb))
  (h:∀ st',kindOf st'=KeyC.kd->failedOf st'=none->pendingOf st'=((pendingOf st).setIfInBounds i (sa,na+nb,pw)).eraseIdxIfInBounds (i+1)->FilEq (arrOf st') (arrOf st)->Out (arrOf st') (arrOf st) sa (sb+nb)->Srt (seg (arrOf st') sa (na+nb))->Q true st') :
  wpS (model prog w) A E s (mergeAt' i) Q st:=by
 subst hb
 rw[oR]
 refine wpS_bind (wpS_get ?_)
 rw[p1,p2]
 dsimp only
 refine wpS_bind (wpS_set ?_)
 have at':∀ p,p<(arrOf st).size->∃ x,(arrOf st)[p]?=some x/\(arrOf st).toList[p]?=some x/\qh x:=fun p hp=>nI.at hp
 obtain⟨kb,kb1,kb2,ikb⟩:=at' (sa+na) (by lia)
 have stay:(∀ p q x y,sa<=p->p<sa+na->sa+na<=q->q<sa+na+nb->(arrOf st).toList[p]?=some x->(arrOf st).toList[q]?=some y->ky x<=ky y)->Srt (seg (arrOf st) sa (na+nb)):=fun hx=>by
  refine nj fun p q x y h1 h2 h3 ex ey=>?_
  by_cases c1:q<sa+na
  ·exact cs s1 h1 h2 c1 ex ey
  ·by_cases c2:sa+na<=p
   ·exact cs s2 c2 h2 (by lia) ex ey
   ·exact hx p q x y h1 (by lia) (by lia) (by lia) ex ey
 refine wpS_bind (aW kb1 (wpS_bind (lY hk ikb nI (fun i j x y q1 q2 q3 e1 e2=>cs s1 q1 q2 q3 e1 e2) (by lia) za fun k hk1 g1 g2=>?_)))
 dsimp only
 by_cases c0:na-k=0
 ·rw[if_pos (lG c0)]
  refine wpS_pure (h _ hk hf rfl (fun _=>rfl) (fun _ _=>rfl) (stay fun p q x y q1 q2 q3 q4 ex ey=>?_))
  exact Int.le_trans (g1 p x q1 (by lia) ex) (cs s2 (Nat.le_refl _) q3 q4 kb2 ey)
 rw[if_neg (lJ c0)]
 rw[show sa+k+(na-k)-1=sa+na-1 by lia]
 obtain⟨ka,ka1,ka2,ika⟩:=at' (sa+na-1) (by lia)
 refine wpS_bind (aW ka1 (wpS_bind (mO hk ika nI (fun i j x y q1 q2 q3 e1 e2=>cs s2 q1 q2 q3 e1 e2) (by lia) (by lia) fun n2 hn2 f1 f2=>?_)))
 dsimp only
 by_cases c1:n2=0
 ·rw[if_pos (lG c1)]
  refine wpS_pure (h _ hk hf rfl (fun _=>rfl) (fun _ _=>rfl) (stay fun p q x y q1 q2 q3 q4 ex ey=>?_))
  exact Int.le_trans (cs s1 q1 (by lia) (by lia) ex ka2) (f2 q y (by lia) (by lia) ey)
 rw[if_neg (lJ c1)]
 have ex1:((arrOf st).extract (sa+k) (sa+na)).toList=seg (arrOf st) (sa+k) (na-k):=by rw[t4]; congr 1; lia
 have ey1:((arrOf st).extract (sa+na) (sa+na+n2)).toList=seg (arrOf st) (sa+na) n2:=by rw[t4]; congr 1; lia
 have zx:((arrOf st).extract (sa+k) (sa+na)).size=na-k:=by rw[Array.size_extract]; lia
 have zy:((arrOf st).extract (sa+na) (sa+na+n2)).size=n2:=by rw[Array.size_extract]; lia
 have xs:Srt ((arrOf st).extract (sa+k) (sa+na)).toList:=by rw[ex1]; exact nj fun p q x y q1 q2 q3 e1 e2=>cs s1 (by lia) q2 (by lia) e1 e2
 have ys:Srt ((arrOf st).extract (sa+na) (sa+na+n2)).toList:=by rw[ey1]; exact nj fun p q x y q1 q2 q3 e1 e2=>cs s2 q1 q2 (by lia) e1 e2
 have mem:∀ {i n:Nat} {x:Keyed},x∈seg (arrOf st) i n->∃ p,i<=p/\p<i+n/\(arrOf st).toList[p]?=some x:=fun {i n x} hx=>by
  obtain⟨p,hp,e⟩:=dP hx
  rw[List.getElem?_drop] at e
  exact⟨i+p,by lia,by lia,e⟩
 have nx:Ints ((arrOf st).extract (sa+k) (sa+na)):=fun p hp=>by
  rw[ex1] at hp
  obtain⟨q,_,_,e⟩:=mem hp
  exact nI p (mem_of_getElem? e)
 have ny:Ints ((arrOf st).extract (sa+na) (sa+na+n2)):=fun p hp=>by
  rw[ey1] at hp
  obtain⟨q,_,_,e⟩:=mem hp
  exact nI p (mem_of_getElem? e)
 have fst:∀ x y,((arrOf st).extract (sa+k) (sa+na)).toList[0]?=some x->((arrOf st).extract (sa+na) (sa+na+n2)).toList[0]?=some y->ky y<ky x:=fun x y e1 e2=>by
  rw[ex1,jV (by lia)] at e1
  rw[ey1,jV (by lia),Nat.add_zero,kb2] at e2
  cases e2
  exact g2 _ x (by lia) (by lia) e1
 have lst:∀ (j:Nat) x y,((arrOf st).extract (sa+k) (sa+na)).toList[((arrOf st).extract (sa+k) (sa+na)).size-1]?=some x->((arrOf st).extract (sa+na) (sa+na+n2)).toList[j]?=some y->ky y<ky x:=fun j x y e1 e2=>by
  rw[zx,ex1,jV (by lia),show sa+k+(na-k-1)=sa+na-1 by lia,ka2] at e1
  cases e1
  have hj:j<n2:=by have:=(List.getElem?_eq_some_iff.mp e2).1; rw[Array.length_toList,zy] at this; exact this
  rw[ey1,jV hj] at e2
  exact f1 _ y (by lia) (by lia) e2
 have fin:∀ (m:Array Keyed) (st2:SortSt),Sim (setPending st (((pendingOf st).setIfInBounds i (sa,na+nb,pw)).eraseIdxIfInBounds (i+1))) st2->Mgd ((arrOf st).extract (sa+k) (sa+na)) ((arrOf st).extract (sa+na) (sa+na+n2)) m ->
   wpS (model prog w) A E s (do
    modify fun s=>setArr s (m.toList.zipIdx.foldl (fun a (x:Keyed×Nat)=>a.setIfInBounds (sa+k+x.2) x.1) (arrOf s))
    return (failedOf (<- get)).isNone) Q st2:=fun m st2 sm mg=>by
  refine wpS_bind (wpS_modify (wpS_bind (wpS_get (wpS_pure ?_))))
  have e0:arrOf st2=arrOf st:=sm.arr
  have hfil:∀ kk,m.toList.filter (fA kk)=(seg (arrOf st) (sa+k) (sa+na+n2-(sa+k))).filter (fA kk):=fun kk=>by
   rw[mg.2 kk,ex1,ey1,show sa+na+n2-(sa+k)=(na-k)+n2 by lia,seg_app,filter_append,show sa+k+(na-k)=sa+na by lia]
  have hm:m.size=sa+na+n2-(sa+k):=by
   have:=(gF hfil).length_eq
   rw[Array.length_toList] at this
   rw[this]
   unfold seg
   rw[length_take,List.length_drop,Array.length_toList]
   lia
  have pb:=put_back (a:=arrOf st) (m:=m) (i:=sa+k) (j:=sa+na+n2) (by lia) (by lia) hm hfil
  rw[<- qt,<- e0] at pb
  obtain⟨pb1,pb2,pb3⟩:=pb
  rw[e0] at pb1 pb2
  have fl:(failedOf (setArr st2 (m.toList.zipIdx.foldl (fun a (x:Keyed×Nat)=>a.setIfInBounds (sa+k+x.2) x.1) (arrOf st2)))).isNone=true:=by
   show (failedOf st2).isNone=true
   rw[sm.failed]
   show (failedOf st).isNone=true
   rw[hf]
   rfl
  rw[fl]
  refine h _ (sm.kind.trans hk) (sm.failed.trans hf) sm.pend (by rw[e0]; exact pb1) (by rw[e0]; exact fun p hp=>pb2 p (by lia)) ?_
  have pbI:∀ p x,sa+k<=p->p<sa+na+n2->m.toList[p-(sa+k)]?=some x->ky kb<=ky x/\ky x<=ky ka:=fun p x q1 q2 e=>by
   rcases jH mg.2 (mem_of_getElem? e) with hx | hx
   ·rw[ex1] at hx
    obtain⟨q,r1,r2,e⟩:=mem hx
    exact⟨Int.le_of_lt (g2 q x (by lia) (by lia) e),cs s1 (by lia) (by lia) (by lia) e ka2⟩
   ·rw[ey1] at hx
    obtain⟨q,r1,r2,e⟩:=mem hx
    exact⟨cs s2 (Nat.le_refl _) r1 (by lia) kb2 e,Int.le_of_lt (f1 q x r1 r2 e)⟩
  refine nj fun p q x y q1 q2 q3 e1 e2=>?_
  rw[e0] at pb3
  have e1':(setArr st2 (m.toList.zipIdx.foldl (fun a (x:Keyed×Nat)=>a.setIfInBounds (sa+k+x.2) x.1) (arrOf st2)) |> arrOf).toList[p]?=some x:=e1
  have e2':(setArr st2 (m.toList.zipIdx.foldl (fun a (x:Keyed×Nat)=>a.setIfInBounds (sa+k+x.2) x.1) (arrOf st2)) |> arrOf).toList[q]?=some y:=e2
  have o1:p<sa+k\/sa+na+n2<=p->(arrOf st).toList[p]?=some x:=fun hp=>by rw[<- pb2 p hp,<- e0]; exact e1'
  have o2:q<sa+k\/sa+na+n2<=q->(arrOf st).toList[q]?=some y:=fun hq=>by rw[<- pb2 q hq,<- e0]; exact e2'
  have i1:sa+k<=p->p<sa+na+n2->m.toList[p-(sa+k)]?=some x:=fun r1 r2=>by rw[<- pb3 p r1 r2,<- e0]; exact e1'
  have i2:sa+k<=q->q<sa+na+n2->m.toList[q-(sa+k)]?=some y:=fun r1 r2=>by rw[<- pb3 q r1 r2,<- e0]; exact e2'
  by_cases d1:p<sa+k
  ·have a1:=g1 p x q1 (by lia) (o1 (.inl d1))
   by_cases d2:q<sa+k
   ·exact cs s1 q1 q2 (by lia) (o1 (.inl d1)) (o2 (.inl d2))
   ·by_cases d3:q<sa+na+n2
    ·exact Int.le_trans a1 (pbI q y (by lia) d3 (i2 (by lia) d3)).1
    ·exact Int.le_trans a1 (cs s2 (Nat.le_refl _) (by lia) (by lia) kb2 (o2 (.inr (by lia))))
  ·by_cases d2:p<sa+na+n2
   ·by_cases d3:q<sa+na+n2
    ·exact bD mg.1 (by lia) (i1 (by lia) d2) (i2 (by lia) d3)
    ·exact Int.le_trans (pbI p x (by lia) d2 (i1 (by lia) d2)).2 (f2 q y (by lia) (by lia) (o2 (.inr (by lia))))
   ·exact cs s2 (by lia) q2 (by lia) (o1 (.inr (by lia))) (o2 (.inr (by lia)))
 by_cases c2:na-k<=n2
 ·rw[if_pos c2]
  exact wpS_bind (pA hk xs ys nx ny (by lia) (by lia) fst lst fin)
 ·rw[if_neg c2]
  exact wpS_bind (pd hk xs ys nx ny (by lia) (by lia) fst lst fin)
end
end Ow
namespace Ow
open PySem PyProof.Rows
variable [KeyC]
theorem pK {xs:Array Keyed}{X Y Z:List Keyed}(e:xs.toList=X++Y++Z) {i j:Nat}(hi:i=X.length) (hj:j=X.length+Y.length):(mirror xs i j ((j-i)/2)).toList=X++Y.reverse++Z:=by
 subst hi hj
 have hz:X.length+Y.length<=xs.size:=by rw[<- Array.length_toList,e]; simp
 apply List.ext_getElem?
 intro k
 rw[<- bQ,getElem?_mirror_all hz,bQ,bQ,e]
 by_cases h1:X.length<=k/\k<X.length+Y.length
 ·rw[if_pos h1,append_assoc,List.getElem?_append_right (by lia),List.getElem?_append_left (by lia),append_assoc,List.getElem?_append_right (by lia),List.getElem?_append_left (by rw[length_reverse]; lia),List.getElem?_reverse (by lia)]
  congr 1
  lia
 ·rw[if_neg h1]
  by_cases h2:k<X.length
  ·rw[append_assoc,List.getElem?_append_left h2,append_assoc,List.getElem?_append_left h2]
  ·rw[List.getElem?_append_right (by rw[length_append]; lia),List.getElem?_append_right (by rw[length_append,length_reverse]; lia)]
   simp
theorem pD {xs:Array Keyed}{X Y W:List Keyed}{z:Keyed}(e:xs.toList=X++Y++z::W) {src d:Nat}(hs:src=X.length+Y.length) (hd:d=Y.length):(bubble xs src d).toList=X++z::(Y++W):=by
 subst hs hd
 have hz:X.length+Y.length<xs.size:=by rw[<- Array.length_toList,e]; simp
 apply List.ext_getElem?
 intro k
 rw[<- bQ,getElem?_bubble hz _ (by lia),bQ,bQ,bQ,e,show X.length+Y.length-Y.length=X.length by lia]
 by_cases h1:k=X.length
 ·subst h1
  rw[if_pos rfl,List.getElem?_append_right (by rw[length_append]; lia),length_append,Nat.sub_self,List.getElem?_append_right (Nat.le_refl _),Nat.sub_self]
  rfl
 ·rw[if_neg h1]
  by_cases h2:X.length<k/\k<=X.length+Y.length
  ·rw[if_pos h2,append_assoc,List.getElem?_append_right (by lia),List.getElem?_append_left (by lia),List.getElem?_append_right (by lia)]
   obtain⟨m,hm⟩:∃ m,k-X.length=m+1:=⟨k-X.length-1,by lia⟩
   rw[hm,List.getElem?_cons_succ,List.getElem?_append_left (by lia)]
   congr 1
   lia
  ·rw[if_neg h2]
   by_cases h3:k<X.length
   ·rw[append_assoc,List.getElem?_append_left h3,List.getElem?_append_left h3]
   ·rw[List.getElem?_append_right (by rw[length_append]; lia),length_append,List.getElem?_append_right (by lia)]
    obtain⟨m,hm⟩:∃ m,k-(X.length+Y.length)=m+1:=⟨k-(X.length+Y.length)-1,by lia⟩
    obtain⟨m2,hm2⟩:∃ m,k-X.length=m+1:=⟨k-X.length-1,by lia⟩
    rw[hm,hm2,List.getElem?_cons_succ,List.getElem?_cons_succ,List.getElem?_append_right (by lia)]
    congr 1
    lia
structure Ar (p:Array (Nat×Nat×Nat)) (st:SortSt) (l:List Keyed):Prop where
 kind:kindOf st=KeyC.kd
 failed:failedOf st=none
 pend:pendingOf st=p
 arr:(arrOf st).toList=l
def rh (l:List Keyed):Prop:=∀ x∈l,qh x
section
variable {prog:Program}{w:World}{A:Around}{E:Value->Shared->Prop}{s:Shared} [KeyL prog w A s] {p:Array (Nat×Nat×Nat)}
theorem Ar.set {st:SortSt}{l l':List Keyed}{xs:Array Keyed}(h:Ar p st l) (e:xs.toList=l'):Ar p (setArr st xs) l':=⟨h.kind,h.failed,h.pend,e⟩
theorem jm {st:SortSt}{l:List Keyed}{i j:Nat}{x y:Keyed}{Q:Option Bool->SortSt->Prop}(h:Ar p st l) (nI:rh l) (ex:l[i]?=some x) (ey:l[j]?=some y) (hq:Q (some (decide (ky x<ky y))) st):wpS (model prog w) A E s (ltAt' i j) Q st:=by
 rw[ltAt'_eq]
 refine wpS_bind (wpS_get ?_)
 show wpS _ _ _ _ (do let x <- elem' (arrOf st) i; let y <- elem' (arrOf st) j; lt' x y) Q st
 refine wpS_bind (aW (x:=x) (by rw[bQ,h.arr]; exact ex) (wpS_bind (aW (x:=y) (by rw[bQ,h.arr]; exact ey) ?_)))
 exact mT h.kind (nI x (mem_of_getElem? ex)) (nI y (mem_of_getElem? ey)) hq
theorem mh {st:SortSt}{X Y Z:List Keyed}{i j:Nat}{Q:PUnit->SortSt->Prop}(h:Ar p st (X++Y++Z)) (hi:i=X.length) (hj:j=X.length+Y.length) (hq:∀ st',Ar p st' (X++Y.reverse++Z)->Q ⟨⟩ st'):wpS (model prog w) A E s (reverseSlice' i j) Q st:=by
 rw[reverseSlice'_eq]
 exact wpS_modify (hq _ (h.set (pK h.arr hi hj)))
theorem wpS_down {st:SortSt}{X Y W:List Keyed}{z:Keyed}{src dst:Nat}{Q:PUnit->SortSt->Prop}(h:Ar p st (X++Y++z::W)) (hs:src=X.length+Y.length) (hd:dst=X.length) (hq:∀ st',Ar p st' (X++z::(Y++W))->Q ⟨⟩ st'):wpS (model prog w) A E s (moveDown' src dst) Q st:=by
 rw[moveDown'_eq]
 exact wpS_modify (hq _ (h.set (pD h.arr hs (by lia))))
end
def StS (m l:List Keyed):Prop:=Srt l/\∀ k,l.filter (fA k)=m.filter (fA k)
theorem StS.len {m l:List Keyed}(h:StS m l):l.length=m.length:=(gF h.2).length_eq
theorem StS.mem {m l:List Keyed}(h:StS m l) {x:Keyed}(hx:x∈l):x∈m:=(gF h.2).mem_iff.mp hx
theorem hasK_iff {k:Int}{x:Keyed}:fA k x=true ↔ ky x=k:=by unfold fA; exact beq_iff_eq
theorem StS.ins {m X Y:List Keyed}{z:Keyed}(h:StS m (X++Y)) (h1:∀ x∈X,ky x<=ky z) (h2:∀ y∈Y,ky z<ky y):StS (m++[z]) (X++z::Y):=by
 obtain⟨s,f⟩:=h
 have s':Srt (X++Y):=s
 obtain⟨sx,sy,sxy⟩:=List.pairwise_append.mp s'
 refine⟨List.pairwise_append.mpr ⟨sx,List.pairwise_cons.mpr ⟨fun y hy=>Int.le_of_lt (h2 y hy),sy⟩,fun x hx y hy=>?_⟩,fun k=>?_⟩
 ·rcases List.mem_cons.mp hy with rfl | hy
  ·exact h1 x hx
  ·exact sxy x hx y hy
 ·rw[filter_append,filter_append,<- f k,filter_append,filter_cons,filter_cons]
  split
  ·rename_i hk
   have e:=hasK_iff.mp hk
   rw[i6 (l:=Y) fun y hy=>by have:=h2 y hy; lia]
   simp
  ·simp
section
variable {prog:Program}{w:World}{A:Around}{E:Value->Shared->Prop}{s:Shared} [KeyL prog w A s] {p:Array (Nat×Nat×Nat)}
theorem dh {l:List Keyed}{n:Nat}(h:n<l.length):∃ x,l[n]?=some x/\l=l.take n++x::l.drop (n+1):=⟨l[n],List.getElem?_eq_getElem h,by rw[<- List.drop_eq_getElem_cons h,take_append_drop]⟩
theorem ox {st:SortSt}{T M R:List Keyed}{lo n ok:Nat}{Q:Bool->SortSt->Prop}(ht:T.length=lo) (hn:n<=M.length) (hok:ok<=n) (h0:1<=ok) (nI:rh (T++M)) (hR:StS (M.take ok) R) (h:Ar p st (T++R++M.drop ok))
  (hq:∀ st' R',StS (M.take n) R'->Ar p st' (T++R'++M.drop n)->Q true st'):wpS (model prog w) A E s (binarySort' lo n ok) Q st:=by
 rw[binarySort'_eq,show max ok 1=ok by lia]
 refine wpS_bind (wpS_mono (wpS_forRange (I:=fun k c st'=>c=(none,())/\k<=n/\∃ R',StS (M.take k) R'/\Ar p st' (T++R'++M.drop k))
  (Q:=fun c st'=>c=(none,())/\∃ R',StS (M.take n) R'/\Ar p st' (T++R'++M.drop n)) ?_ ?_ ⟨rfl,hok,R,hR,h⟩) ?_)
 ·rintro k c st' hk1 hk2 ⟨rfl,_,R',hs,ha⟩
  obtain⟨z,ez,es⟩:=dh (l:=M) (n:=k) (by lia)
  have hl:R'.length=k:=by rw[hs.len,length_take]; lia
  have ed:M.drop k=z::M.drop (k+1):=cZ ez
  have nL:rh (T++R'++M.drop k):=fun x hx=>by
   rcases List.mem_append.mp hx with hx | hx
   ·rcases List.mem_append.mp hx with hx | hx
    ·exact nI x (mem_append_left _ hx)
    ·exact nI x (mem_append_right _ (List.mem_of_mem_take (hs.mem hx)))
   ·exact nI x (mem_append_right _ (List.mem_of_mem_drop hx))
  have az:(T++R'++M.drop k)[lo+k]?=some z:=by rw[List.getElem?_append_right (by rw[length_append]; lia),length_append,ht,hl,Nat.sub_self,ed]; rfl
  have ar:∀ i,i<k->∀ x,R'[i]?=some x->(T++R'++M.drop k)[lo+i]?=some x:=fun i hi x ex=>by rw[append_assoc,List.getElem?_append_right (by lia),ht,List.getElem?_append_left (by lia),show lo+i-lo=i by lia]; exact ex
  refine wpS_bind (wpS_mono (wpS_forRange (I:=fun x c st''=>st''=st'/\∃ l r,c=(none,l,r)/\l<=r/\r<=k/\r-l<=k-x/\(∀ i y,i<l->R'[i]?=some y->ky y<=ky z)/\(∀ i y,r<=i->R'[i]?=some y->ky z<ky y))
   (Q:=fun c st''=>st''=st'/\∃ l r,c=(none,l,r)/\l<=k/\(∀ i y,i<l->R'[i]?=some y->ky y<=ky z)/\(∀ i y,l<=i->R'[i]?=some y->ky z<ky y)) ?_ ?_ ⟨rfl,0,k,rfl,by lia,by lia,by lia,fun i y hi=>by lia,fun i y hi e=>by have:=(List.getElem?_eq_some_iff.mp e).1; lia⟩) ?_)
  ·rintro x c st'' _ hx ⟨rfl,l,r,rfl,lr,rk,lm,g1,g2⟩
   dsimp only
   by_cases hge:l ≥ r
   ·rw[if_pos hge]
    obtain rfl:l=r:=by lia
    exact wpS_pure ⟨rfl,l,l,rfl,rk,g1,g2⟩
   ·rw[if_neg hge]
    obtain⟨y,ey,_⟩:=dh (l:=R') (n:=(l+r)/2) (by lia)
    refine wpS_bind (jm ha nL az (ar _ (by lia) y ey) ?_)
    dsimp only
    by_cases cw:ky z<ky y
    ·rw[if_pos (decide_eq_true cw)]
     exact wpS_pure ⟨rfl,l,_,rfl,by lia,by lia,by lia,g1,fun i y' hi e=>Int.lt_of_lt_of_le cw (bD hs.1 hi ey e)⟩
    ·rw[if_neg (by rw[decide_eq_true_eq]; exact cw)]
     exact wpS_pure ⟨rfl,_,r,rfl,by lia,by lia,by lia,fun i y' hi e=>Int.le_trans (bD hs.1 (by lia) e ey) (by lia),g2⟩
  ·rintro c st'' ⟨rfl,l,r,rfl,lr,rk,lm,g1,g2⟩
   obtain rfl:l=r:=by lia
   exact⟨rfl,l,l,rfl,rk,g1,g2⟩
  ·rintro c st'' ⟨rfl,l,r,rfl,lk,g1,g2⟩
   show wpS _ _ _ _ (do moveDown' (lo+k) (lo+l); pure (ForInStep.yield (none,()))) _ _
   have e1:T++R'++M.drop k=(T++R'.take l)++R'.drop l++z::M.drop (k+1):=by rw[ed,append_assoc T (R'.take l),take_append_drop]
   rw[e1] at ha
   refine wpS_bind (wpS_down ha (by rw[length_append,length_take,List.length_drop]; lia) (by rw[length_append,length_take]; lia) fun st3 h3=>wpS_pure ⟨rfl,by lia,R'.take l++z::R'.drop l,?_,?_⟩)
   ·rw[bS ez]
    refine StS.ins (by rw[take_append_drop]; exact hs) (fun x hx=>?_) fun y hy=>?_
    ·obtain⟨i,hi,e⟩:=dP hx
     exact g1 i x hi e
    ·obtain⟨i,hi,e⟩:=fj hy
     exact g2 i y hi e
   ·have e2:T++R'.take l++z::(R'.drop l++M.drop (k+1))=T++(R'.take l++z::R'.drop l)++M.drop (k+1):=by simp
    rw[<- e2]
    exact h3
 ·rintro c st' ⟨rfl,hkn,R',hs,ha⟩
  rw[show max ok n=n by lia] at hs ha
  exact⟨rfl,R',hs,ha⟩
 ·rintro c st' ⟨rfl,R',hs,ha⟩
  exact wpS_pure (hq st' R' hs ha)
end
end Ow
namespace Ow
open PySem PyProof.Rows
variable [KeyC]
noncomputable def ascL (lo a nrem:Nat):StateT SortSt Sem AscSt :=
 forIn [a:nrem] ((none,a):AscSt) fun _ __s=>do
  let __x <- ltAt' (lo+__s.snd) (lo+__s.snd-1)
  match __x with
  | some smaller=>if smaller=true then pure (ForInStep.done (none,__s.snd)) else pure (ForInStep.yield (none,__s.snd+1))
  | _=>pure (ForInStep.done (some none,__s.snd))
noncomputable def tG (lo n nrem:Nat):StateT SortSt Sem (Option Nat):=do
 reverseSlice' lo (lo+n)
 let __s <- ascL lo n nrem
 match __s.fst with
 | some r=>pure r
 | none=>pure (some __s.snd)
noncomputable def descL (lo n nrem:Nat):StateT SortSt Sem DescSt :=
 forIn [n:nrem] ((none,n,0):DescSt) fun _ __s=>do
  let __x <- ltAt' (lo+__s.snd.fst) (lo+__s.snd.fst-1)
  match __x with
  | some smaller =>
   if smaller=true then
    if __s.snd.snd > 0 then do
     reverseSlice' (lo+__s.snd.fst-(__s.snd.snd+1)) (lo+__s.snd.fst)
     pure (ForInStep.yield (none,__s.snd.fst+1,0))
    else pure (ForInStep.yield (none,__s.snd.fst+1,0))
   else do
    let __x <- ltAt' (lo+__s.snd.fst-1) (lo+__s.snd.fst)
    match __x with
    | some larger =>
     if larger=true then pure (ForInStep.done (none,__s.snd.fst,__s.snd.snd))
     else pure (ForInStep.yield (none,__s.snd.fst+1,__s.snd.snd+1))
    | _=>pure (ForInStep.done (some none,__s.snd.fst,__s.snd.snd))
  | _=>pure (ForInStep.done (some none,__s.snd.fst,__s.snd.snd))
noncomputable def uf (lo n nrem:Nat):StateT SortSt Sem (Option Nat):=do
 liftM (rule "list.sort.descending-run")
 let __s <- descL lo (n+1) nrem
 match __s.fst with
 | some r=>pure r
 | none =>
  if __s.snd.snd > 0 then do
   reverseSlice' (lo+__s.snd.fst-(__s.snd.snd+1)) (lo+__s.snd.fst)
   tG lo __s.snd.fst nrem
  else tG lo __s.snd.fst nrem
local macro_rules | `(tactic| walk_at "tailL_eq")=>`(tactic| (funext s3; obtain⟨r3,n3⟩:=s3; cases r3 <;> rfl))
local macro_rules | `(tactic| walk_at "t3L_eq")=>`(tactic| (congr 1; funext _w; congr 1; walk_at "tailL_eq"))
local macro_rules | `(tactic| walk_at "descL_eq")=>`(tactic| (congr 1; funext _u; congr 1; congr 1; funext s2; obtain⟨r2,n2,q2⟩:=s2; cases r2 with
 | some r2=>rfl
 | none=>(dsimp only; split; (congr 1; funext _v; walk_at "t3L_eq"); walk_at "t3L_eq")))
theorem tX (lo nrem:Nat):countRun' lo nrem=(do
  let __s <- ascL lo 1 nrem
  match __s.fst with
  | some r=>pure r
  | none =>
   if (__s.snd == nrem)=true then pure (some __s.snd)
   else if __s.snd > 1 then do
    let __x <- ltAt' lo (lo+__s.snd-1)
    match __x with
    | some rose=>if rose=true then pure (some __s.snd) else do
      reverseSlice' lo (lo+__s.snd)
      uf lo __s.snd nrem
    | _=>pure none
   else uf lo __s.snd nrem):=by
 rw[countRun'_eq]
 unfold uf tG descL ascL
 dsimp only
 congr 1
 funext __s
 obtain⟨r,n⟩:=__s
 cases r with
 | some r=>rfl
 | none =>
  dsimp only
  split
  ·rfl
  ·split
   ·congr 1
    funext x
    cases x with
    | none=>rfl
    | some rose =>
     dsimp only
     split
     ·rfl
     ·congr 1
      funext _r
      walk_at "descL_eq"
   ·walk_at "descL_eq"
theorem at_in {T R D:List Keyed}{i j:Nat}{x:Keyed}(e:R[i]?=some x) (hj:j=T.length+i):(T++R++D)[j]?=some x:=by
 have hi:=(List.getElem?_eq_some_iff.mp e).1
 subst hj
 rw[append_assoc,List.getElem?_append_right (by lia),List.getElem?_append_left (by lia),show T.length+i-T.length=i by lia]
 exact e
theorem tY {T R D:List Keyed}{j:Nat}{z:Keyed}(hj:j=T.length+R.length):(T++R++z::D)[j]?=some z:=by
 subst hj
 rw[List.getElem?_append_right (by rw[length_append]; lia),length_append,Nat.sub_self]
 rfl
theorem StS.srtL {m l:List Keyed}(h:StS m l) {i:Nat}{y:Keyed}(ey:l[i]?=some y) (hi:l.length=i+1):∀ x∈l,ky x<=ky y:=by
 intro x hx
 obtain⟨j,hj⟩:=List.getElem?_of_mem hx
 have:=(List.getElem?_eq_some_iff.mp hj).1
 exact bD h.1 (by lia) hj ey
theorem StS.one (x:Keyed):StS [x] [x]:=⟨List.pairwise_singleton _ _,fun _=>rfl⟩
def DI (M' P G:List Keyed) (e:Int):Prop:=StS M' (G++P.reverse)/\(∀ x∈G,ky x=e)/\(∀ x∈P,e<ky x)
section
variable {prog:Program}{w:World}{A:Around}{E:Value->Shared->Prop}{s:Shared} [KeyL prog w A s] {p:Array (Nat×Nat×Nat)}
theorem uA {T M R:List Keyed}{k:Nat}(nI:rh (T++M)) (hR:∀ x∈R,x∈M.take k):rh (T++R++M.drop k):=fun x hx=>by
 rcases List.mem_append.mp hx with hx | hx
 ·rcases List.mem_append.mp hx with hx | hx
  ·exact nI x (mem_append_left _ hx)
  ·exact nI x (mem_append_right _ (List.mem_of_mem_take (hR x hx)))
 ·exact nI x (mem_append_right _ (List.mem_of_mem_drop hx))
theorem qf {st:SortSt}{T M R:List Keyed}{lo a nrem:Nat}{Q:AscSt->SortSt->Prop}(ht:T.length=lo) (hn:nrem<=M.length) (ha:1<=a) (han:a<=nrem) (nI:rh (T++M)) (hR:StS (M.take a) R) (h:Ar p st (T++R++M.drop a))
  (hq:∀ n R',a<=n->n<=nrem->StS (M.take n) R'->Ar p st (T++R'++M.drop n)->(n=nrem\/∃ z y,M[n]?=some z/\R'[n-1]?=some y/\ky z<ky y)->Q (none,n) st):wpS (model prog w) A E s (ascL lo a nrem) Q st:=by
 unfold ascL
 refine wpS_forRange (I:=fun x c st'=>st'=st/\c=(none,x)/\∃ R',StS (M.take x) R'/\Ar p st (T++R'++M.drop x)) ?_ ?_ ⟨rfl,rfl,R,hR,h⟩
 ·rintro x c st' hax hxn ⟨rfl,rfl,R',hs,hA⟩
  dsimp only
  obtain⟨z,ez,es⟩:=dh (l:=M) (n:=x) (by lia)
  have ed:M.drop x=z::M.drop (x+1):=cZ ez
  have hl:R'.length=x:=by rw[hs.len,length_take]; lia
  obtain⟨y,ey,_⟩:=dh (l:=R') (n:=x-1) (by lia)
  have nL:=uA nI fun u hu=>hs.mem hu
  have az:(T++R'++M.drop x)[lo+x]?=some z:=by rw[ed]; exact tY (by lia)
  have ay:(T++R'++M.drop x)[lo+x-1]?=some y:=at_in ey (by lia)
  refine wpS_bind (jm hA nL az ay ?_)
  dsimp only
  by_cases c:ky z<ky y
  ·rw[if_pos (decide_eq_true c)]
   exact wpS_pure (hq x R' hax (by lia) hs hA (.inr ⟨z,y,ez,ey,c⟩))
  ·rw[if_neg (by rw[decide_eq_true_eq]; exact c)]
   refine wpS_pure ⟨rfl,rfl,R'++[z],?_,?_⟩
   ·rw[bS ez]
    exact StS.ins (Y:=[]) (by rw[append_nil]; exact hs) (fun u hu=>Int.le_trans (hs.srtL ey (by lia) u hu) (by lia)) (fun _ hy=>absurd hy (not_mem_nil))
   ·have e2:T++R'++M.drop x=T++(R'++[z])++M.drop (x+1):=by rw[ed]; simp
    rw[<- e2]
    exact hA
 ·rintro c st' ⟨rfl,rfl,R',hs,hA⟩
  rw[show max a nrem=nrem by lia] at hs hA ⊢
  exact hq nrem R' han (Nat.le_refl _) hs hA (.inl rfl)
theorem mU {st:SortSt}{T M L:List Keyed}{lo n nrem:Nat}{Q:Option Nat->SortSt->Prop}(ht:T.length=lo) (hn:nrem<=M.length) (h1:1<=n) (hnn:n<=nrem) (nI:rh (T++M)) (hL:StS (M.take n) L.reverse) (h:Ar p st (T++L++M.drop n))
  (hq:∀ m st' R',1<=m->m<=nrem->StS (M.take m) R'->Ar p st' (T++R'++M.drop m)->Q (some m) st'):wpS (model prog w) A E s (tG lo n nrem) Q st:=by
 unfold tG
 have hl:L.length=n:=by rw[<- length_reverse,hL.len,length_take]; lia
 refine wpS_bind (mh h (by lia) (by lia) fun st' h'=>?_)
 refine wpS_bind (qf ht hn h1 hnn nI hL h' fun m R' hm1 hm2 hs hA _=>wpS_pure (hq m st' R' (by lia) hm2 hs hA))
theorem uj {st:SortSt}{T M P:List Keyed}{z0:Keyed}{lo n nrem:Nat}{Q:DescSt->SortSt->Prop}(ht:T.length=lo) (hn:nrem<=M.length) (h1:1<=n) (hnn:n<=nrem) (nI:rh (T++M)) (hD:DI (M.take n) P [z0] (ky z0)) (h:Ar p st (T++(P++[z0])++M.drop n))
  (hq:∀ m st' P' G e,n<=m->m<=nrem->1<=G.length->DI (M.take m) P' G e->Ar p st' (T++(P'++G)++M.drop m)->Q (none,m,G.length-1) st'):wpS (model prog w) A E s (descL lo n nrem) Q st:=by
 unfold descL
 refine wpS_forRange (I:=fun x c st'=>∃ P' G e,1<=G.length/\c=(none,x,G.length-1)/\DI (M.take x) P' G e/\Ar p st' (T++(P'++G)++M.drop x)) ?_ ?_ ⟨P,[z0],_,Nat.le_refl 1,rfl,hD,h⟩
 ·rintro x c st' hax hxn ⟨P',G,e,hg,rfl,hD',hA⟩
  dsimp only
  obtain⟨z,ez,es⟩:=dh (l:=M) (n:=x) (by lia)
  have ed:M.drop x=z::M.drop (x+1):=cZ ez
  have hl:P'.length+G.length=x:=by
   have:=hD'.1.len
   rw[length_append,length_reverse,length_take] at this
   lia
  obtain⟨y,ey,_⟩:=dh (l:=G) (n:=G.length-1) (by lia)
  have yG:y∈G:=mem_of_getElem? ey
  have ye:ky y=e:=hD'.2.1 y yG
  have nL:rh (T++(P'++G)++M.drop x):=uA nI fun u hu=>hD'.1.mem (by
   rcases List.mem_append.mp hu with hu | hu
   ·exact mem_append_right _ (List.mem_reverse.mpr hu)
   ·exact mem_append_left _ hu)
  have az:(T++(P'++G)++M.drop x)[lo+x]?=some z:=by rw[ed]; exact tY (by rw[length_append]; lia)
  have ay:(T++(P'++G)++M.drop x)[lo+x-1]?=some y:=at_in (i:=x-1) (by rw[List.getElem?_append_right (by lia),show x-1-P'.length=G.length-1 by lia]; exact ey) (by lia)
  refine wpS_bind (jm hA nL az ay ?_)
  dsimp only
  by_cases c:ky z<ky y
  ·rw[if_pos (decide_eq_true c)]
   have hD2:DI (M.take (x+1)) (P'++G.reverse) [z] (ky z):=by
    refine⟨?_,fun u hu=>by rw[List.mem_singleton.mp hu],fun u hu=>?_⟩
    ·rw[bS ez,reverse_append,List.reverse_reverse]
     refine StS.ins (X:=[]) (Y:=G++P'.reverse) hD'.1 (fun _ hx=>absurd hx not_mem_nil) fun u hu=>?_
     rcases List.mem_append.mp hu with hu | hu
     ·rw[hD'.2.1 u hu]; lia
     ·have:=hD'.2.2 u (List.mem_reverse.mp hu); lia
    ·rcases List.mem_append.mp hu with hu | hu
     ·have:=hD'.2.2 u hu; lia
     ·rw[hD'.2.1 u (List.mem_reverse.mp hu)]; lia
   have fin:∀ st2,Ar p st2 (T++(P'++G.reverse)++M.drop x)->Ar p st2 (T++(P'++G.reverse++[z])++M.drop (x+1)):=fun st2 h2=>by
    have e2:T++(P'++G.reverse)++M.drop x=T++(P'++G.reverse++[z])++M.drop (x+1):=by rw[ed]; simp
    rw[<- e2]
    exact h2
   by_cases hng:G.length-1 > 0
   ·rw[if_pos hng]
    have hA2:Ar p st' ((T++P')++G++M.drop x):=by rw[append_assoc T P' G]; exact hA
    refine wpS_bind (mh hA2 (by rw[length_append]; lia) (by rw[length_append]; lia) fun st2 h2=>wpS_pure ⟨P'++G.reverse,[z],ky z,Nat.le_refl 1,rfl,hD2,fin st2 ?_⟩)
    rw[<- append_assoc T P']
    exact h2
   ·rw[if_neg hng]
    refine wpS_pure ⟨P'++G.reverse,[z],ky z,Nat.le_refl 1,rfl,hD2,fin _ ?_⟩
    obtain⟨g,rfl⟩:=List.length_eq_one_iff.mp (show G.length=1 by lia)
    exact hA
  ·rw[if_neg (by rw[decide_eq_true_eq]; exact c)]
   refine wpS_bind (jm hA nL ay az ?_)
   dsimp only
   by_cases c2:ky y<ky z
   ·rw[if_pos (decide_eq_true c2)]
    exact wpS_pure (hq x st' P' G e hax (by lia) hg hD' hA)
   ·rw[if_neg (by rw[decide_eq_true_eq]; exact c2)]
    have ez2:ky z=e:=by lia
    refine wpS_pure ⟨P',G++[z],e,by rw[length_append]; lia,?_,⟨?_,fun u hu=>?_,hD'.2.2⟩,?_⟩
    ·rw[length_append,List.length_singleton,show G.length-1+1=G.length+1-1 by lia]
    ·rw[bS ez,append_assoc]
     exact StS.ins (X:=G) (Y:=P'.reverse) hD'.1 (fun u hu=>by rw[hD'.2.1 u hu]; lia) fun u hu=>by have:=hD'.2.2 u (List.mem_reverse.mp hu); lia
    ·rcases List.mem_append.mp hu with hu | hu
     ·exact hD'.2.1 u hu
     ·rw[List.mem_singleton.mp hu]; exact ez2
    ·have e2:T++(P'++G)++M.drop x=T++(P'++(G++[z]))++M.drop (x+1):=by rw[ed]; simp
     rw[<- e2]
     exact hA
 ·rintro c st' ⟨P',G,e,hg,rfl,hD',hA⟩
  rw[show max n nrem=nrem by lia] at hD' hA ⊢
  exact hq nrem st' P' G e hnn (Nat.le_refl _) hg hD' hA
theorem nW {st:SortSt}{T M R:List Keyed}{z:Keyed}{lo n nrem:Nat}{Q:Option Nat->SortSt->Prop}(ht:T.length=lo) (hn:nrem<=M.length) (h1:1<=n) (hnn:n+1<=nrem) (nI:rh (T++M)) (hR:StS (M.take n) R) (ez:M[n]?=some z) (hz:∀ x∈R,ky z<ky x) (h:Ar p st (T++R.reverse++M.drop n))
  (hq:∀ m st' R',1<=m->m<=nrem->StS (M.take m) R'->Ar p st' (T++R'++M.drop m)->Q (some m) st'):wpS (model prog w) A E s (uf lo n nrem) Q st:=by
 unfold uf
 refine wpS_bind (wpS_lift (wpAny_rule ⟨rfl,?_⟩))
 have ed:M.drop n=z::M.drop (n+1):=cZ ez
 have hD:DI (M.take (n+1)) R.reverse [z] (ky z):=by
  refine⟨?_,fun u hu=>by rw[List.mem_singleton.mp hu],fun u hu=>hz u (List.mem_reverse.mp hu)⟩
  rw[bS ez,List.reverse_reverse]
  exact StS.ins (X:=[]) (Y:=R) hR (fun _ hx=>absurd hx not_mem_nil) hz
 have hA:Ar p st (T++(R.reverse++[z])++M.drop (n+1)):=by
  have e2:T++R.reverse++M.drop n=T++(R.reverse++[z])++M.drop (n+1):=by rw[ed]; simp
  rw[<- e2]
  exact h
 refine wpS_bind (uj ht hn (by lia) hnn nI hD hA fun m st' P' G e hm1 hm2 hg hD' hA'=>?_)
 dsimp only
 have hl:P'.length+G.length=m:=by
  have:=hD'.1.len
  rw[length_append,length_reverse,length_take] at this
  lia
 have hL:StS (M.take m) (P'++G.reverse).reverse:=by rw[reverse_append,List.reverse_reverse]; exact hD'.1
 by_cases hng:G.length-1 > 0
 ·rw[if_pos hng]
  have hA2:Ar p st' ((T++P')++G++M.drop m):=by rw[append_assoc T P' G]; exact hA'
  refine wpS_bind (mh hA2 (by rw[length_append]; lia) (by rw[length_append]; lia) fun st2 h2=>?_)
  exact mU ht hn (by lia) hm2 nI hL (by rw[<- append_assoc T P']; exact h2) hq
 ·rw[if_neg hng]
  obtain⟨g,rfl⟩:=List.length_eq_one_iff.mp (show G.length=1 by lia)
  exact mU ht hn (by lia) hm2 nI hL hA' hq
theorem qP {st:SortSt}{T M:List Keyed}{lo nrem:Nat}{Q:Option Nat->SortSt->Prop}(ht:T.length=lo) (hn:nrem<=M.length) (h1:1<=nrem) (nI:rh (T++M)) (h:Ar p st (T++M))
  (hq:∀ m st' R',1<=m->m<=nrem->StS (M.take m) R'->Ar p st' (T++R'++M.drop m)->Q (some m) st'):wpS (model prog w) A E s (countRun' lo nrem) Q st:=by
 rw[tX]
 obtain⟨a,ea,es⟩:=dh (l:=M) (n:=0) (by lia)
 have hR:StS (M.take 1) [a]:=by
  rw[show (1:Nat)=0+1 from rfl,bS ea]
  exact StS.one a
 have hA:Ar p st (T++[a]++M.drop 1):=by
  have e2:T++M=T++[a]++M.drop 1:=by
   rw[append_assoc]
   congr 1
  rw[<- e2]
  exact h
 refine wpS_bind (qf ht hn (Nat.le_refl 1) h1 nI hR hA fun n R' hn1 hn2 hs hA' hor=>?_)
 dsimp only
 by_cases hnn:n=nrem
 ·rw[if_pos (by simpa using hnn)]
  exact wpS_pure (hq n st R' hn1 hn2 hs hA')
 ·rw[if_neg (by simpa using hnn)]
  obtain⟨z,y,ez,ey,hzy⟩:=hor.resolve_left hnn
  have hl:R'.length=n:=by rw[hs.len,length_take]; lia
  have nL:=uA nI fun u hu=>hs.mem hu
  by_cases hgt:n > 1
  ·rw[if_pos hgt]
   obtain⟨b,eb,_⟩:=dh (l:=R') (n:=0) (by lia)
   refine wpS_bind (jm hA' nL (at_in eb (by lia)) (at_in ey (by lia)) ?_)
   dsimp only
   by_cases c:ky b<ky y
   ·rw[if_pos (decide_eq_true c)]
    exact wpS_pure (hq n st R' hn1 hn2 hs hA')
   ·rw[if_neg (by rw[decide_eq_true_eq]; exact c)]
    refine wpS_bind (mh hA' (by lia) (by lia) fun st2 h2=>?_)
    refine nW ht hn hn1 (by lia) nI hs ez (fun u hu=>?_) h2 hq
    obtain⟨j,hj⟩:=List.getElem?_of_mem hu
    have:=bD hs.1 (zero_le j) eb hj
    lia
  ·rw[if_neg hgt]
   obtain⟨b,rfl⟩:=List.length_eq_one_iff.mp (show R'.length=1 by lia)
   refine nW ht hn hn1 (by lia) nI hs ez (fun u hu=>?_) hA' hq
   have:=hs.srtL ey (by lia) y (mem_of_getElem? ey)
   rw[List.mem_singleton.mp hu]
   rw[List.mem_singleton.mp (mem_of_getElem? ey)] at hzy
   exact hzy
end
end Ow
namespace Ow
open PySem PyProof.Rows
variable [KeyC]
def Chn (a:Array Keyed):Nat->List (Nat×Nat×Nat)->Nat->Prop
 | lo,[],hi=>lo=hi
 | lo,(s,n,_)::r,hi=>s=lo/\0<n/\Srt (seg a s n)/\Chn a (lo+n) r hi
theorem Chn.le {a:Array Keyed}:∀ {l:List (Nat×Nat×Nat)}{lo hi:Nat},Chn a lo l hi->lo+l.length<=hi
 | [],_,_,h=>Nat.le_of_eq h
 | (s,n,w)::r,lo,hi,h=>by have:=h.2.2.2.le; have:=h.2.1; rw[length_cons]; lia
theorem qk {a a':Array Keyed}{i n:Nat}(h:Srt (seg a i n)) (e:∀ p,i<=p->p<i+n->a'.toList[p]?=a.toList[p]?):Srt (seg a' i n) :=
 nj fun p q x y h1 h2 h3 ex ey=>cs h h1 h2 h3 (by rw[<- e p h1 (by lia)]; exact ex) (by rw[<- e q (by lia) h3]; exact ey)
theorem Chn.same {a a':Array Keyed}:∀ {l:List (Nat×Nat×Nat)}{lo hi:Nat},Chn a lo l hi->(∀ p,lo<=p->p<hi->a'.toList[p]?=a.toList[p]?)->Chn a' lo l hi
 | [],_,_,h,_=>h
 | (s,n,w)::r,lo,hi,h,e=>by
  have hl:=h.2.2.2.le
  obtain⟨rfl,hn,hs,hr⟩:=h
  exact⟨rfl,hn,qk hs fun p h1 h2=>e p h1 (by lia),hr.same fun p h1 h2=>e p (by lia) h2⟩
theorem Chn.get {a:Array Keyed}{sa na pw sb nb pw2:Nat}{B:List (Nat×Nat×Nat)}:∀ {A:List (Nat×Nat×Nat)}{lo hi:Nat},Chn a lo (A++(sa,na,pw)::(sb,nb,pw2)::B) hi->lo<=sa/\sb=sa+na/\0<na/\0<nb/\Srt (seg a sa na)/\Srt (seg a sb nb)/\sb+nb<=hi
 | [],lo,hi,h=>by
  obtain⟨rfl,h1,h2,rfl,h3,h4,h5⟩:=h
  have:=h5.le
  exact⟨Nat.le_refl _,rfl,h1,h3,h2,h4,by lia⟩
 | (s,n,w)::A,lo,hi,h=>by
  obtain⟨g1,g⟩:=Chn.get (A:=A) h.2.2.2
  exact⟨by lia,g⟩
theorem Chn.merge {a a':Array Keyed}{sa na pw sb nb pw2:Nat}{B:List (Nat×Nat×Nat)}(o:Out a' a sa (sb+nb)) (hs:Srt (seg a' sa (na+nb))):∀ {A:List (Nat×Nat×Nat)}{lo hi:Nat},Chn a lo (A++(sa,na,pw)::(sb,nb,pw2)::B) hi->Chn a' lo (A++(sa,na+nb,pw)::B) hi
 | [],lo,hi,h=>by
  obtain⟨rfl,h1,h2,rfl,h3,h4,h5⟩:=h
  refine⟨rfl,by lia,hs,?_⟩
  rw[<- Nat.add_assoc]
  exact h5.same fun p g1 g2=>o p (.inr g1)
 | (s,n,w)::A,lo,hi,h=>by
  obtain⟨g1,_⟩:=Chn.get (A:=A) h.2.2.2
  obtain⟨rfl,h1,h2,h3⟩:=h
  exact⟨rfl,h1,qk h2 fun p q1 q2=>o p (.inl (by lia)),Chn.merge o hs (A:=A) h3⟩
theorem Chn.mod {a:Array Keyed}{pw:Nat}{f:Nat×Nat×Nat->Nat×Nat×Nat}(hf:∀ s n w,f (s,n,w)=(s,n,pw)) {X:List (Nat×Nat×Nat)}:∀ {l:List (Nat×Nat×Nat)}{i lo hi:Nat},Chn a lo (l++X) hi->Chn a lo (l.modify i f++X) hi
 | [],i,lo,hi,h=>by cases i <;> exact h
 | (s,n,w)::r,0,lo,hi,h=>by rw[List.modify_zero_cons,hf]; exact h
 | (s,n,w)::r,i+1,lo,hi,h=>by rw[List.modify_succ_cons]; exact⟨h.1,h.2.1,h.2.2.1,Chn.mod hf h.2.2.2⟩
theorem Chn.add {a:Array Keyed}{s n w:Nat}(h:0<n) (hs:Srt (seg a s n)):∀ {l:List (Nat×Nat×Nat)}{lo:Nat},Chn a lo l s->Chn a lo (l++[(s,n,w)]) (s+n)
 | [],lo,e=>by cases e; exact⟨rfl,h,hs,rfl⟩
 | (_,_,_)::r,lo,e=>⟨e.1,e.2.1,e.2.2.1,Chn.add h hs e.2.2.2⟩
theorem two_at {l:List (Nat×Nat×Nat)}{i:Nat}(h:i+1<l.length):∃ sa na pw sb nb pw2,l[i]?=some (sa,na,pw)/\l[i+1]?=some (sb,nb,pw2)/\l=l.take i++(sa,na,pw)::(sb,nb,pw2)::l.drop (i+2) :=
 ⟨l[i].1,l[i].2.1,l[i].2.2,l[i+1].1,l[i+1].2.1,l[i+1].2.2,List.getElem?_eq_getElem _,List.getElem?_eq_getElem _,by
  show l=l.take i++l[i]::l[i+1]::l.drop (i+2)
  rw[<- List.drop_eq_getElem_cons h,<- List.drop_eq_getElem_cons (by lia),take_append_drop]⟩
theorem erased {l:List (Nat×Nat×Nat)}{A B:List (Nat×Nat×Nat)}{x y z:Nat×Nat×Nat}{i:Nat}(e:l=A++x::y::B) (hi:i=A.length):(l.set i z).eraseIdx (i+1)=A++z::B:=by
 subst e hi
 rw[List.set_append_right _ _ (Nat.le_refl _),Nat.sub_self,List.set_cons_zero,List.eraseIdx_append_of_length_le (by lia),show A.length+1-A.length=0+1 by lia]
 rfl
section
variable {prog:Program}{w:World}{A:Around}{E:Value->Shared->Prop}{s:Shared} [KeyL prog w A s]
structure SI (a₀:Array Keyed) (X:List (Nat×Nat×Nat)) (hi:Nat) (st:SortSt):Prop where
 kind:kindOf st=KeyC.kd
 failed:failedOf st=none
 fil:FilEq (arrOf st) a₀
 chn:Chn (arrOf st) 0 ((pendingOf st).toList++X) hi
theorem ly {a₀:Array Keyed}{X:List (Nat×Nat×Nat)}{hi i:Nat}{st:SortSt}{Q:Bool->SortSt->Prop}(h:SI a₀ X hi st) (nI:Ints a₀) (hz:hi<=a₀.size) (hp:i+1<(pendingOf st).size) (hq:∀ st',SI a₀ X hi st'->(pendingOf st').size+1=(pendingOf st).size->Q true st'):wpS (model prog w) A E s (mergeAt' i) Q st:=by
 obtain⟨sa,na,pw,sb,nb,pw2,e1,e2,es⟩:=two_at (l:=(pendingOf st).toList) (i:=i) (by rw[Array.length_toList]; exact hp)
 have c:=h.chn
 rw[es,append_assoc] at c
 obtain⟨g1,g2,g3,g4,g5,g6,g7⟩:=Chn.get c
 refine oQ h.kind h.failed (h.fil.ints nI) (by rw[<- Array.getElem?_toList]; exact e1) (by rw[<- Array.getElem?_toList]; exact e2) g2 g3 g4 (by rw[h.fil.size]; lia) g5 g6 fun st' k1 k2 k3 k4 k5 k6=>?_
 have ep:(pendingOf st').toList=(pendingOf st).toList.take i++(sa,na+nb,pw)::(pendingOf st).toList.drop (i+2):=by
  rw[k3,Array.toList_eraseIdxIfInBounds,Array.toList_setIfInBounds]
  exact erased es (by rw[length_take,Array.length_toList]; lia)
 refine hq st' ⟨k1,k2,k4.trans h.fil,?_⟩ ?_
 ·rw[ep,append_assoc]
  exact Chn.merge k5 k6 c
 ·have:=congrArg List.length ep
  rw[Array.length_toList,length_append,length_cons,length_take,List.length_drop,Array.length_toList] at this
  lia
noncomputable def restL (size lo n:Nat):StateT SortSt Sem (ForInStep (Option PUnit×Nat)):=do
 let st <- get
 match (pendingOf st).back? with
 | some (s1,n1,_)=>do
  let r <- forIn [:size] ((none,()):Option PUnit×PUnit) fun _ _=>do
   let st <- get
   match (if (pendingOf st).size > 1 then (pendingOf st)[(pendingOf st).size-2]? else none) with
   | some (_,_,older)=>if older<=power' size (2*s1+n1) (2*s1+n1+n1+n) size then pure (ForInStep.done (none,())) else do
     let b <- mergeAt' ((pendingOf st).size-2)
     if (!b)=true then pure (ForInStep.done (some (),())) else pure (ForInStep.yield (none,()))
   | _=>pure (ForInStep.done (none,()))
  match r.fst with
  | some r=>pure (ForInStep.done (some r,lo))
  | none=>do
   modify fun s=>setPending s ((pendingOf s).modify ((pendingOf s).size-1) fun x=>(x.fst,x.2.fst,power' size (2*s1+n1) (2*s1+n1+n1+n) size))
   modify fun s=>setPending s ((pendingOf s).push (lo,n,0))
   pure (ForInStep.yield (none,lo+n))
 | _=>do
  modify fun s=>setPending s ((pendingOf s).push (lo,n,0))
  pure (ForInStep.yield (none,lo+n))
theorem qo {a₀:Array Keyed}{lo n:Nat}{st:SortSt}{Q:ForInStep (Option PUnit×Nat)->SortSt->Prop}(nI:Ints a₀) (hz:lo+n<=a₀.size) (h:SI a₀ [(lo,n,0)] (lo+n) st) (hq:∀ st',SI a₀ [] (lo+n) st'->Q (ForInStep.yield (none,lo+n)) st'):wpS (model prog w) A E s (restL a₀.size lo n) Q st:=by
 have goon:∀ (st2:SortSt),SI a₀ [(lo,n,0)] (lo+n) st2->wpS (model prog w) A E s (do
   modify fun s=>setPending s ((pendingOf s).push (lo,n,0))
   pure (ForInStep.yield ((none,lo+n):Option PUnit×Nat))) Q st2:=fun st2 hs=>by
  refine wpS_bind (wpS_modify (wpS_pure (hq _ ⟨hs.kind,hs.failed,hs.fil,?_⟩)))
  rw[append_nil]
  show Chn _ _ ((pendingOf st2).push (lo,n,0)).toList _
  rw[Array.toList_push]
  exact hs.chn
 unfold restL
 refine wpS_bind (wpS_get ?_)
 rcases hb:(pendingOf st).back? with _ | ⟨s1,n1,w1⟩
 ·exact goon st h
 ·dsimp only
  refine wpS_bind (wpS_mono (wpS_forRange (I:=fun _ c st'=>c=(none,())/\SI a₀ [(lo,n,0)] (lo+n) st') (Q:=fun c st'=>c=(none,())/\SI a₀ [(lo,n,0)] (lo+n) st') ?_ (fun _ _ hh=>hh) ⟨rfl,h⟩) ?_)
  ·rintro x c st2 _ hx ⟨rfl,hS⟩
   refine wpS_bind (wpS_get ?_)
   by_cases hp:(pendingOf st2).size > 1
   ·rw[if_pos hp]
    rcases hg:(pendingOf st2)[(pendingOf st2).size-2]? with _ | ⟨s2,n2,w2⟩
    ·exact wpS_pure ⟨rfl,hS⟩
    ·dsimp only
     split
     ·exact wpS_pure ⟨rfl,hS⟩
     ·exact wpS_bind (ly hS nI hz (by lia) fun st3 hS3 _=>wpS_pure ⟨rfl,hS3⟩)
   ·rw[if_neg hp]
    exact wpS_pure ⟨rfl,hS⟩
  ·rintro c st2 ⟨rfl,hS⟩
   dsimp only
   refine wpS_bind (wpS_modify ?_)
   refine goon _ ⟨hS.kind,hS.failed,hS.fil,?_⟩
   show Chn _ _ (((pendingOf st2).modify _ _).toList++_) _
   rw[Array.toList_modify]
   exact Chn.mod (fun _ _ _=>rfl) hS.chn
local macro_rules | `(tactic| walk_at "rest_eq")=>`(tactic| (
 unfold restL
 refine congrArg (bind get) (funext fun st4=>?_)
 rcases(pendingOf st4).back? with _ | ⟨s1,n1,w1⟩
 ·rfl
 ·dsimp only
  refine congr (congrArg bind (congrArg (forIn _ _) (funext fun _=>funext fun _=>congrArg (bind get) (funext fun st5=>?_)))) (funext fun r=>?_)
  ·rcases(if (pendingOf st5).size > 1 then (pendingOf st5)[(pendingOf st5).size-2]? else none) with _ | ⟨_,_,_⟩ <;> rfl
  ·rcases r with ⟨_ | _,_⟩ <;> rfl))
theorem j6 {st:SortSt}{Q:PUnit->SortSt->Prop}(hk:kindOf st=KeyC.kd) (hf:failedOf st=none) (hp:pendingOf st=#[]) (nI:Ints (arrOf st))
  (hq:∀ st',failedOf st'=none->StS (arrOf st).toList (arrOf st').toList->Q ⟨⟩ st'):wpS (model prog w) A E s sortRuns' Q st:=by
 generalize ha:arrOf st=a₀ at nI hq
 rw[sortRuns'_eq]
 refine wpS_bind (wpS_get ?_)
 dsimp only
 rw[ha]
 refine wpS_bind (wpS_mono (wpS_forRange (I:=fun x c st'=>∃ lo,c=(none,lo)/\x<=lo/\lo<=a₀.size/\SI a₀ [] lo st') (Q:=fun c st'=>c=(none,a₀.size)/\SI a₀ [] a₀.size st') ?_ ?_ ⟨0,rfl,Nat.le_refl 0,zero_le _,hk,hf,by rw[ha]; exact fun _=>rfl,by rw[hp]; exact rfl⟩) ?_)
 ·rintro x c st1 _ hx ⟨lo,rfl,hxl,hl,hS⟩
  dsimp only
  by_cases hge:lo ≥ a₀.size
  ·rw[if_pos hge]
   obtain rfl:lo=a₀.size:=by lia
   exact wpS_pure ⟨rfl,hS⟩
  rw[if_neg hge]
  have hsz:(arrOf st1).toList.length=a₀.size:=by rw[Array.length_toList,hS.fil.size]
  have nI1:=hS.fil.ints nI
  have hsp:(arrOf st1).toList=(arrOf st1).toList.take lo++(arrOf st1).toList.drop lo:=(take_append_drop _ _).symm
  have ht:((arrOf st1).toList.take lo).length=lo:=by rw[length_take]; lia
  have hm:((arrOf st1).toList.drop lo).length=a₀.size-lo:=by rw[List.length_drop,hsz]
  have nL:rh ((arrOf st1).toList.take lo++(arrOf st1).toList.drop lo):=by rw[<- hsp]; exact fun u hu=>nI1 u hu
  generalize (arrOf st1).toList.take lo=T at hsp ht nL
  generalize (arrOf st1).toList.drop lo=M at hsp hm nL
  have after:∀ (n:Nat) (R:List Keyed) (st2:SortSt),1<=n->n<=a₀.size-lo->StS (M.take n) R->Ar (pendingOf st1) st2 (T++R++M.drop n)->SI a₀ [(lo,n,0)] (lo+n) st2:=fun n R st2 h1 h2 hs hA=>by
   have hR:R.length=n:=by rw[hs.len,length_take]; lia
   have eL:∀ p,p<lo->(arrOf st2).toList[p]?=(arrOf st1).toList[p]?:=fun p hp=>by
    rw[hA.arr,hsp,append_assoc,List.getElem?_append_left (by lia),List.getElem?_append_left (by lia)]
   refine⟨hA.kind,hA.failed,FilEq.trans (fun k=>?_) hS.fil,?_⟩
   ·rw[hA.arr,hsp,filter_append,filter_append,hs.2 k,append_assoc,<- filter_append,take_append_drop,<- filter_append]
   ·have hc:=hS.chn
    rw[append_nil,<- hA.pend] at hc
    refine Chn.add (by lia) ?_ (hc.same fun p _ h2=>eL p h2)
    unfold seg
    rw[hA.arr,append_assoc,List.drop_append_of_le_length (by lia),List.drop_of_length_le (by lia),List.nil_append,List.take_append_of_le_length (by lia),List.take_of_length_le (by lia)]
    exact hs.1
  refine wpS_bind (qP ht (by lia) (by lia) nL ⟨hS.kind,hS.failed,rfl,hsp⟩ fun m st2 R h1 h2 hs hA=>?_)
  dsimp only
  by_cases hlt:m<minRun' a₀.size a₀.size 0
  ·rw[if_pos hlt]
   refine wpS_bind (wpS_lift (wpAny_rule ⟨rfl,?_⟩))
   refine wpS_bind (ox ht (by lia) (by lia) h1 nL hs hA fun st3 R' hs' hA'=>?_)
   rw[if_neg (by decide)]
   refine Eq.mp (congrArg (fun m=>wpS (model prog w) A E s m _ _) ?_) (qo (n:=min (a₀.size-lo) (minRun' a₀.size a₀.size 0)) nI (by lia) (after _ R' st3 (by lia) (by lia) hs' hA') fun st' h'=>⟨_,rfl,by lia,by lia,h'⟩)
   walk_at "rest_eq"
  ·rw[if_neg hlt]
   refine Eq.mp (congrArg (fun m=>wpS (model prog w) A E s m _ _) ?_) (qo (n:=m) nI (by lia) (after m R st2 h1 h2 hs hA) fun st' h'=>⟨_,rfl,by lia,by lia,h'⟩)
   walk_at "rest_eq"
 ·rintro c st' ⟨lo,rfl,h1,h2,hS⟩
  obtain rfl:lo=a₀.size:=by lia
  exact⟨rfl,hS⟩
 ·rintro c st1 ⟨rfl,hS⟩
  dsimp only
  refine wpS_bind (wpS_mono (wpS_forRange (I:=fun x c st'=>c=(none,())/\SI a₀ [] a₀.size st'/\((pendingOf st').size<=1\/(pendingOf st').size+x<=a₀.size)) (Q:=fun c st'=>c=(none,())/\SI a₀ [] a₀.size st'/\(pendingOf st').size<=1) ?_ ?_ ⟨rfl,hS,.inr ?_⟩) ?_)
  ·rintro x c st2 _ hx ⟨rfl,hS2,hor⟩
   refine wpS_bind (wpS_get ?_)
   by_cases hle:(pendingOf st2).size<=1
   ·rw[if_pos hle]
    exact wpS_pure ⟨rfl,hS2,hle⟩
   ·rw[if_neg hle]
    refine wpS_bind (ly hS2 nI (Nat.le_refl _) ?_ fun st3 hS3 hz=>?_)
    ·have q:∀ (b:Prop) [Decidable b],(if b then (pendingOf st2).size-2-1 else (pendingOf st2).size-2)+1<(pendingOf st2).size:=fun b _=>by split <;> lia
     exact q _
    ·exact wpS_pure ⟨rfl,hS3,.inr (by lia)⟩
  ·rintro c st2 ⟨rfl,hS2,hor⟩
   exact⟨rfl,hS2,by lia⟩
  ·have:=hS.chn.le
   rw[append_nil,Array.length_toList] at this
   lia
  ·rintro c st2 ⟨rfl,hS2,hle⟩
   refine wpS_pure (hq st2 hS2.failed ⟨?_,hS2.fil⟩)
   have hc:=hS2.chn
   rw[append_nil] at hc
   have hl:(pendingOf st2).toList.length<=1:=by rw[Array.length_toList]; exact hle
   have hz:=hS2.fil.size
   rcases hpl:(pendingOf st2).toList with _ | ⟨⟨s0,n0,w0⟩,r⟩
   ·rw[hpl] at hc
    have e0:0=a₀.size:=hc
    have:(arrOf st2).toList=[]:=List.eq_nil_of_length_eq_zero (by rw[Array.length_toList]; lia)
    rw[this]
    exact List.Pairwise.nil
   ·rw[hpl] at hc hl
    rw[length_cons] at hl
    have:r=[]:=List.eq_nil_of_length_eq_zero (by lia)
    subst this
    obtain⟨rfl,h1,h2,h3⟩:=hc
    have h3':0+n0=a₀.size:=h3
    unfold seg at h2
    rw[List.drop_zero,List.take_of_length_le (by rw[Array.length_toList]; lia)] at h2
    exact h2
end
end Ow
namespace Ow
open PySem PySem.Spec PyProof.Rows L2
noncomputable abbrev intC:KeyC:=⟨fun p=>numOf p.1,fun p=>∃ n t,p.1=.int n t,oneType'⟩
theorem intL {prog:Program}{w:World}{A:Around}{s:Shared}:@KeyL intC prog w A s:=@KeyL.mk intC prog w A s (by
 intro E st x y Q hk hx hy h
 obtain⟨a,t,e1⟩:=hx
 obtain⟨b,u,e2⟩:=hy
 have ka:numOf x.1=a:=by rw[e1]; rfl
 have kb:numOf y.1=b:=by rw[e2]; rfl
 have h':Q (some (decide (numOf x.1<numOf y.1))) st:=h
 rw[ka,kb] at h'
 rw[lt'_eq]
 refine wpS_bind (wpS_get ?_)
 rw[show kindOf st=oneType' from hk,keyLt'_oneType,e1,e2]
 refine wpS_bind (wpS_lift (wpAny_attempt (oneLt_int ⟨rfl,?_⟩)))
 exact wpS_pure h')
section
variable {prog:Program}{w:World}{A:Around}{E:Value->Shared->Prop}{s:Shared}
end
section
variable {prog:Program}{w:World}{A:Around}{E:Value->Shared->Prop}{s:Shared}{S:Addr}{o:Obj}{ks:List Int}
end
end Ow
namespace L2
open PySem PySem.Spec PyProof.Rows
end L2
namespace L2
open PySem PySem.Spec PyProof.Rows
theorem om:∀ {ps:List Addr}{us:List Value},Vals (ps.map V.ref) us->us=ps.map Value.ref
 | [],_,.nil=>rfl
 | p::ps,_,.cons (b:=u) r rs=>by
  have e:u=Value.ref p:=r
  rw[e,om (ps:=ps) rs]
  rfl
section
variable {X:Cx}{pins:List (Addr×Obj)}{σ:St}{H:Hp}{s:Shared}{l q Ia S:Addr}{ps:List Addr}{kf:Nat->Int}
theorem Inv.refs (I:Inv X pins σ H s) (h:H l=some (.lst (ps.map V.ref))):s.heap.IsList l (ps.map Value.ref).toArray:=by
 obtain⟨its,r,pl,_⟩:=I.list (SqL.of h)
 rw[<- om r]
 exact pl.isList
theorem Inv.mine {t':Nat}{h':Heap}(I:Inv X pins σ H s) (f:kF X pins H Ia) (k:∀ b o,b≠Ia->s.heap.get? b=some o->h'.get? b=some o):Inv X pins σ H { s with heap:=h',toks:=t' } :=
 I.turned k f.1 f.2.1 f.2.2.2.1 f.2.2.2.2.1 f.2.2.2.2.2
theorem Inv.hold {oI oS:Obj}(I:Inv X pins σ H s) (fI:kF X pins H Ia) (fS:kF X pins H S) (hI:s.heap.get? Ia=some oI) (hS:s.heap.get? S=some oS) (nI:∀ v,oI.data≠.cell v) (nS:∀ v,oS.data≠.cell v):Inv X ((Ia,oI)::(S,oS)::pins) σ H s :=
 I.pins_of fun p hp=>by
  rcases List.mem_cons.mp hp with rfl | hp
  ·exact⟨hI,fI.1,fI.2.1,fI.2.2.1,nI⟩
  ·rcases List.mem_cons.mp hp with rfl | hp
   ·exact⟨hS,fS.1,fS.2.1,fS.2.2.1,nS⟩
   ·exact I.pin p (mem_append_right _ hp)
theorem Inv.drop2 {oI oS:Obj}(I:Inv X ((Ia,oI)::(S,oS)::pins) σ H s):Inv X pins σ H s/\s.heap.get? Ia=some oI/\s.heap.get? S=some oS :=
 ⟨I.pins_of fun p hp=>I.pin p (mem_append_right _ (mem_cons_of_mem _ (mem_cons_of_mem _ hp))),(I.pin _ (mem_append_right _ (mem_cons_self ..))).1,(I.pin _ (mem_append_right _ (mem_cons_of_mem _ (mem_cons_self ..)))).1⟩
end
end L2
namespace L2
open PySem PySem.Spec PyProof.Rows
noncomputable def Cx.inF (X:Cx):Cx:={ X with A:=X.A.in1,xe:=fun _ _=>False }
theorem Inv.inF {X:Cx}{pins:List (Addr×Obj)}{σ:St}{H:Hp}{s:Shared}(I:Inv X pins σ H s):Inv X.inF pins σ H s :=
 ⟨⟨I.ok.mod,I.ok.kind,I.ok.glob,I.ok.blt,I.ok.above,I.ok.inj,I.ok.has,I.ok.cab,I.ok.hd,I.ok.frames,I.ok.stk,I.ok.exf,I.ok.bs,I.ok.bsz,I.ok.noex,I.ok.exfs,I.ok.funs,I.ok.frf⟩,I.os,I.bare,I.base,I.loc,I.cell,I.free,I.freeC,I.pin,I.hok,I.len⟩
theorem Inv.outF {X:Cx}{pins:List (Addr×Obj)}{σ:St}{H:Hp}{s:Shared}(I:Inv X.inF pins σ H s):Inv X pins σ H s :=
 ⟨⟨I.ok.mod,I.ok.kind,I.ok.glob,I.ok.blt,I.ok.above,I.ok.inj,I.ok.has,I.ok.cab,I.ok.hd,I.ok.frames,I.ok.stk,I.ok.exf,I.ok.bs,I.ok.bsz,I.ok.noex,I.ok.exfs,I.ok.funs,I.ok.frf⟩,I.os,I.bare,I.base,I.loc,I.cell,I.free,I.freeC,I.pin,I.hok,I.len⟩
end L2
namespace Ow
open PySem PySem.Spec PyProof.Rows L2
section
variable {X:Cx}{N:List Str}{qual:Str}{scope:Scope}{f:Addr}{cd:Value}{cl:List (Str×Addr)}{s₀:Shared}{H₀:Hp}{E:XK}
end
section
variable {X:Cx}{pins:List (Addr×Obj)}{σ:L2.St}{H:Hp}{s:Shared}{cl:List (Str×Addr)}{ns:List Str}{vals:List V}
end
section
variable {X:Cx}{E:XK}{k:Nat}{x:Str}{ps:List Str}{sp:Sp}{p pos apos:Pos}{e o:Expr}{es:List Expr}{ta:TE}{t:TA}
end
end Ow
namespace L2
open PySem PySem.Spec PyProof.Rows
def TabA (P:Addr) (qual:Str) (H:Hp):Prop:=∃ ps:Array Value,H P=some (.tbl ps)/\TriplesOk ps.toList /\
 ∀ pos:Pos,codeAmong pos ps.toList=none\/∃ c',codeAmong pos ps.toList=some (.ref c')/\H c'=some (.ext fun h=>h.CodeRec (.ref c') qual)
theorem lK {pos pos':Pos}{c:Value}:∀ (l:List Value),TriplesOk l->codeAmong pos' (l++[rawInt pos.line,rawInt pos.col,c])=(codeAmong pos' l).or (if (pos.line:Int) == pos'.line&&(pos.col:Int) == pos'.col then some c else none)
 | [],_=>by
  show (if _ then _ else codeAmong pos' [])=_
  rfl
 | .int a _::.int b _::x::r,h=>by
  show (if a == pos'.line&&b == pos'.col then some x else codeAmong pos' (r++_))=(if a == pos'.line&&b == pos'.col then some x else codeAmong pos' r).or _
  rw[lK (pos:=pos) (c:=c) r h]
  split <;> rfl
def tLamA (P:Addr) (qual:Str) (params:Arguments) (body:Expr) (scope:Scope) (cl:List (Str×Addr)):TE:=fun _ H Q=>TabA P qual H /\
 ∀ f H',(∀ a u,a≠P->H a=some u->H' a=some u)->H f=none->Clo "<lambda>" qual params body scope cl H' f->TabA P qual H'->Q (.ref f) H'
section
variable {X:Cx}
theorem oT {params:Arguments}{body:Expr}{scope:Scope}{pos:Pos}{c P:Addr}{cl:List (Str×Addr)}{qual:Str}(B:LamBase X.mg X.base c P) (hcode:X.env.code=.ref c) (hcl:closureFor scope X.env=pure cl) (hq:X.env.qual++"<lambda>"=qual)
  (hdef:defaultsOf params X.env=([],[]):=by rfl):PE X (.Lambda params body scope pos) (tLamA P qual params body scope cl):=by
 intro pins s σ H Q I h
 obtain⟨⟨ps,eP,ht,hit⟩,h⟩:=h
 have hP:s.heap.get? P=some (PySem.W.tabObj ps):=I.hok P _ eP
 have hg:s.heap.Ns mainGlobals X.mg:=I.mod.glob.keeps I.bk
 have C:PySem.W.CodeHd s.heap c P:=B.code.keeps I.bk
 have hgP:mainGlobals≠P:=fun q=>by
  obtain⟨o,es,ep,e,hd,_⟩:=hg
  rw[q,hP] at e; cases e; cases hd
 have hb:s.heap.BuiltinsAt X.mg P:=by
  obtain⟨bm,ob,b1,b2,b3,b4,b5,b6⟩:=B.bm
  refine⟨bm,ob,b1,b2,fun q=>?_,fun q=>?_,I.bk _ _ b3,b4,b5,b6⟩
  ·obtain⟨o,es,ep,e,hd,_⟩:=I.mod.glob
   rw[q,e] at b3; cases b3; rw[hd] at b6; cases b6
  ·have e:=I.bk _ _ b3
   rw[q,hP] at e; cases e; cases b4
 refine PySem.W.kla_eval hdef ?_
 rw[hq]
 have hP1:P<s.heap.objs.size:=Heap.lt_size hP
 rcases hit pos with hnf | ⟨c',hf,ec⟩
 ·refine PySem.W.kla_makeFunction hcl I.ok.glob hg hcode C hP ht hnf hgP hb fun c' ctv h' tk hx hge hlt hrec htb=>?_
  have hsz:s.heap.objs.size<=h'.objs.size:=Nat.le_trans hge (Nat.le_of_lt hlt)
  have nc:H c'=none:=I.hok.fresh hge
  have nf:H h'.objs.size=none:=I.hok.fresh hsz
  have ncf:c'≠h'.objs.size:=Nat.ne_of_lt hlt
  have ncP:c'≠P:=fun z=>absurd hP1 (by rw[<- z]; exact Nat.not_lt.mpr hge)
  have nfP:h'.objs.size≠P:=fun z=>absurd hP1 (by rw[<- z]; exact Nat.not_lt.mpr hsz)
  generalize hps:ps++#[rawInt pos.line,rawInt pos.col,.ref c']=ps' at htb
  let H':Hp:=upd (upd (upd H P (.tbl ps')) c' (.ext fun h=>h.CodeRec (.ref c') qual)) h'.objs.size (.ext fun h=>h.get? h'.objs.size=some (PySem.W.kla_obj "<lambda>" qual params body scope cl ((X.mg "__name__").getD .none) c' ctv))
  have u1:∀ a,a≠P->a≠c'->a≠h'.objs.size->H' a=H a:=fun a n1 n2 n3=>by
   show upd (upd (upd H P _) c' _) _ _ a=_
   rw[au n3,au n2,au n1]
  have u2:H' P=some (.tbl ps'):=by
   show upd (upd (upd H P _) c' _) _ _ P=_
   rw[au (Ne.symm nfP),au (Ne.symm ncP),ae]
  have u3:H' c'=some (.ext fun h=>h.CodeRec (.ref c') qual):=by
   show upd (upd (upd H P _) c' _) _ _ c'=_
   rw[au ncf,ae]
  have u4:H' h'.objs.size=some (.ext fun h=>h.get? h'.objs.size=some (PySem.W.kla_obj "<lambda>" qual params body scope cl ((X.mg "__name__").getD .none) c' ctv)):=ae
  have keepH:∀ a u,a≠P->H a=some u->H' a=some u:=fun a u n e=>by
   rw[u1 a n (aE e nc) (aE e nf)]; exact e
  let o':=PySem.W.kla_obj "<lambda>" qual params body scope cl ((X.mg "__name__").getD .none) c' ctv
  have k1:∀ b o,b≠P->s.heap.get? b=some o->(h'.push o').get? b=some o:=fun b o n e=>Heap.get?_push_of_some _ (hx b o n e)
  have nP:∀ b,H b=none->b≠P:=fun b n z=>by rw[z,eP] at n; cases n
  have un:Un X.fs [] H H' s.heap (h'.push o'):=⟨fun b o e n _ _=>k1 b o (nP b n) e,fun b o e n _ _=>⟨o.slots,k1 b o (nP b n) e⟩,
   fun b o e n _=>by
    have hb:=Heap.lt_size e
    rw[u1 b (nP b n) (fun z=>absurd hb (by rw[z]; exact Nat.not_lt.mpr hge)) (fun z=>absurd hb (by rw[z]; exact Nat.not_lt.mpr hsz))]; exact n,
   fun b o e _=>by
    by_cases z:b=P
    ·rw[z]; exact⟨_,Heap.get?_push_of_some _ htb⟩
    ·exact⟨o,k1 b o z e⟩,
   fun b xs e=>keepH b _ (fun z=>by rw[z,eP] at e; cases e) e,fun b o u e=>keepH b _ (fun z=>by rw[z,eP] at e; cases e) e,
   fun b qs e=>by
    by_cases z:b=P
    ·rw[z,eP] at e
     cases e
     refine⟨#[rawInt pos.line,rawInt pos.col,.ref c'],?_⟩
     rw[z,u2,hps]
    ·exact⟨#[],by rw[keepH b _ z e]; simp⟩⟩
  have hok:HOk X.prog X.w H' (h'.push o'):=fun b u e=>by
   by_cases z1:b=h'.objs.size
   ·subst z1
    rw[u4] at e; cases e
    exact⟨Heap.get?_push_size _ rfl,⟨_,Heap.get?_push_size _ rfl⟩,fun h1 h2 e1 kk=>kk _ e1⟩
   ·by_cases z2:b=c'
    ·subst z2
     rw[u3] at e; cases e
     obtain⟨c₂,oc,vs,t,e2,hoc,hd,hv⟩:=hrec
     cases e2
     refine⟨⟨_,oc,vs,t,rfl,Heap.get?_push_of_some _ hoc,hd,hv⟩,⟨oc,Heap.get?_push_of_some _ hoc⟩,fun h1 h2 ⟨c₂,oc,vs,t,e2,hoc,hd,hv⟩ kk=>?_⟩
     cases e2
     exact⟨_,oc,vs,t,rfl,kk _ hoc,hd,hv⟩
    ·by_cases z3:b=P
     ·subst z3
      rw[u2] at e; cases e
      exact Heap.get?_push_of_some _ htb
     ·rw[u1 b z3 z2 z1] at e
      refine(I.hok b u e).stay (fun d v hd q=>k1 d v (fun z=>?_) q) (fun d q=>keepH d _ (fun z=>by rw[z,eP] at q; cases q) q) fun d xs q=>keepH d _ (fun z=>by rw[z,eP] at q; cases q) q
      rcases hd with y | y
      ·exact z3 (y.symm.trans z)
      ·rw[z,eP] at y; cases y
  refine⟨.ref h'.objs.size,H',I.un (h':=h'.push o') (t':=tk) un hok,rfl,h _ H' keepH nf ⟨_,c',ctv,u4,u3⟩ ⟨ps',u2,?_,fun pos'=>?_⟩⟩
  ·rw[<- hps,Array.toList_append]
   exact iR _ ht
  ·rw[<- hps,Array.toList_append]
   have e1:=lK (pos:=pos) (pos':=pos') (c:=.ref c') _ ht
   show codeAmong pos' (ps.toList++[rawInt pos.line,rawInt pos.col,.ref c'])=none\/∃ d,codeAmong pos' (ps.toList++[rawInt pos.line,rawInt pos.col,.ref c'])=some (.ref d)/\_
   rw[e1]
   rcases hit pos' with z | ⟨d,z1,z2⟩
   ·rw[z]
    by_cases g:((pos.line:Int) == pos'.line&&(pos.col:Int) == pos'.col)=true
    ·rw[if_pos g]
     exact .inr ⟨c',rfl,u3⟩
    ·rw[if_neg g]
     exact .inl rfl
   ·rw[z1]
    exact .inr ⟨d,rfl,keepH _ _ (fun y=>by rw[y,eP] at z2; cases z2) z2⟩
 ·refine PySem.W.kla_makeFunctionHit hcl I.ok.glob hg hcode C hP ht hf hb fun ctv h' tk hk hsz=>?_
  have nf:H h'.objs.size=none:=I.hok.fresh hsz
  let o':=PySem.W.kla_obj "<lambda>" qual params body scope cl ((X.mg "__name__").getD .none) c' ctv
  let H':Hp:=upd H h'.objs.size (.ext fun h=>h.get? h'.objs.size=some o')
  have keepH:∀ a u,H a=some u->H' a=some u:=fun a u e=>by
   show upd H _ _ a=_
   rw[au (aE e nf)]; exact e
  have u4:H' h'.objs.size=some (.ext fun h=>h.get? h'.objs.size=some o'):=ae
  refine⟨.ref h'.objs.size,H',I.laid (h':=h'.push o') (t':=tk) (fun b o e=>Heap.get?_push_of_some _ (hk b o e)) hsz ?_,rfl,h _ H' (fun a u _ e=>keepH a u e) nf ⟨_,c',ctv,u4,keepH _ _ ec⟩ ⟨ps,keepH _ _ eP,ht,fun pos'=>?_⟩⟩
  ·exact⟨Heap.get?_push_size _ rfl,⟨_,Heap.get?_push_size _ rfl⟩,fun h1 h2 e1 kk=>kk _ e1⟩
  ·rcases hit pos' with z | ⟨d,z1,z2⟩
   ·exact .inl z
   ·exact .inr ⟨d,z1,keepH _ _ z2⟩
end
end L2
namespace Ow
open PySem PySem.Spec PyProof.Rows L2
abbrev Apart (l:List Addr):Prop:=l.Nodup
theorem pS {P:Addr}{q:Str}{H:Hp}(h:H P=some (.tbl #[])):TabA P q H:=⟨#[],h,trivial,fun _=>.inl rfl⟩
def Kp (H H':Hp):Prop:=∀ a u,(∀ ps,u≠.tbl ps)->H a=some u->H' a=some u
theorem Kp.trans {H H1 H2:Hp}(h1:Kp H H1) (h2:Kp H1 H2):Kp H H2:=fun a u n e=>h2 a u n (h1 a u n e)
theorem Kp.of {H H':Hp}(s:Same H H'):Kp H H':=fun a u _ e=>s a u e
theorem Kp.lam {P:Addr}{q:Str}{H H':Hp}(t:TabA P q H) (h:∀ a u,a≠P->H a=some u->H' a=some u):Kp H H':=fun a u n e=>h a u (fun z=>by
 obtain⟨ps,e1,_⟩:=t
 rw[z,e1] at e; cases e; exact n _ rfl) e
theorem _root_.Internal.L2.TabA.keep {P:Addr}{q:Str}{H H':Hp}(t:TabA P q H) (h:∀ ps,H P=some (.tbl ps)->H' P=some (.tbl ps)) (k:∀ a φ,H a=some (.ext φ)->H' a=some (.ext φ)):TabA P q H':=by
 obtain⟨ps,e,t1,z⟩:=t
 refine⟨ps,h _ e,t1,fun pos=>?_⟩
 rcases z pos with z | ⟨c',z1,z2⟩
 ·exact .inl z
 ·exact .inr ⟨c',z1,k _ _ z2⟩
theorem _root_.Internal.L2.TabA.same {P:Addr}{q:Str}{H H':Hp}(t:TabA P q H) (s:Same H H'):TabA P q H':=t.keep (fun _ e=>s _ _ e) fun _ _ e=>s _ _ e
theorem _root_.Internal.L2.TabA.other {P P':Addr}{q q':Str}{H H':Hp}(t:TabA P q H) (ne:P≠P') (t':TabA P' q' H) (h:∀ a u,a≠P'->H a=some u->H' a=some u):TabA P q H':=t.keep (fun _ e=>h _ _ ne e) fun a φ e=>h _ _ (fun z=>by
 obtain⟨ps,e1,_⟩:=t'
 rw[z,e1] at e; cases e) e
theorem _root_.Internal.L2.TabA.upd {P l:Addr}{q:Str}{H:Hp}{xs ys:List V}(t:TabA P q H) (hl:H l=some (.lst xs)):TabA P q (upd H l (.lst ys)):=t.keep (fun _ e=>by rw[au (fun z=>by rw[z,hl] at e; cases e)]; exact e) fun _ _ e=>by rw[au (fun z=>by rw[z,hl] at e; cases e)]; exact e
end Ow
namespace Ow
open PySem PySem.Spec PyProof.Rows L2
def FB (K:Frag) (x q:Str) (st:Stmt) (f:Addr):Prop:=∃ (oc kV dc pm cd ct:Value) (od an:Option Addr) (sl:Array (Option Value)),K.lookup f=some ⟨oc,od,.func (fnOf x q (cW st) (bH st) (ak st) .none kV dc pm an cd ct),sl⟩/\codeIn K cd q=true/\keepIn K (.ref f)=true
theorem FB.of {K:Frag}{x q:Str}{st:Stmt}{f:Addr}{oc kV dc pm cd ct:Value}{od an:Option Addr}{sl:Array (Option Value)}(a:K.lookup f=some ⟨oc,od,.func (fnOf x q (cW st) (bH st) (ak st) .none kV dc pm an cd ct),sl⟩) (b:codeIn K cd q=true) (c:keepIn K (.ref f)=true):FB K x q st f:=⟨oc,kV,dc,pm,cd,ct,od,an,sl,a,b,c⟩
theorem FB.fn {K:Frag}{x q:Str}{st:Stmt}{f:Addr}(h:FB K x q st f):∃ fd,Fun K x q st f fd/\keepIn K (.ref f)=true:=by
 obtain⟨oc,kV,dc,pm,cd,ct,od,an,sl,l,c,k⟩:=h
 exact⟨_,qp (st:=st) l c k,k⟩
end Ow
namespace Ow
def SrtBy (kf:Nat->Int) (n:Nat) (is:List Nat):Prop:=is.Perm (List.range n)/\is.Pairwise (fun i j=>kf i<kf j\/kf i=kf j/\i<j)
theorem SrtBy.uniq {kf:Nat->Int}{n:Nat}{a b:List Nat}(ha:SrtBy kf n a) (hb:SrtBy kf n b):a=b:=by
 refine List.Perm.eq_of_pairwise (le:=fun i j=>kf i<kf j\/kf i=kf j/\i<j) (fun x y _ _ h1 h2=>?_) ha.2 hb.2 (ha.1.trans hb.1.symm)
 lia
theorem SrtBy.len {kf:Nat->Int}{n:Nat}{a:List Nat}(h:SrtBy kf n a):a.length=n:=by rw[h.1.length_eq,length_range]
theorem SrtBy.lt {kf:Nat->Int}{n:Nat}{a:List Nat}(h:SrtBy kf n a):∀ i∈a,i<n:=fun i hi=>List.mem_range.mp (h.1.mem_iff.mp hi)
theorem SrtBy.congr {kf kg:Nat->Int}{n:Nat}{is:List Nat}(h:SrtBy kf n is) (e:∀ i,i<n->kf i=kg i):SrtBy kg n is :=
 ⟨h.1,h.2.imp_of_mem fun {i j} hi hj hh=>by
  have e1:=e i (h.lt i hi)
  have e2:=e j (h.lt j hj)
  lia⟩
def leB (kf:Nat->Int) (i j:Nat):Bool:=decide (kf i<kf j\/kf i=kf j/\i<=j)
theorem SrtBy.ex (kf:Nat->Int) (n:Nat):∃ is,SrtBy kf n is:=by
 have hp:((List.range n).mergeSort (leB kf)).Perm (List.range n):=List.mergeSort_perm ..
 refine⟨(List.range n).mergeSort (leB kf),hp,?_⟩
 have h:=List.pairwise_mergeSort (le:=leB kf) (fun a b c=>by simp only[leB,decide_eq_true_eq]; lia) (fun a b=>by simp only[leB,Bool.or_eq_true,decide_eq_true_eq]; lia) (List.range n)
 have nd:((List.range n).mergeSort (leB kf)).Nodup:=hp.nodup_iff.mpr List.nodup_range
 refine(List.Pairwise.and h nd).imp fun {i j} hh=>?_
 have h1:=of_decide_eq_true hh.1
 have h2:=hh.2
 lia
section
variable {α:Type}(ky:α->Int)
theorem j8:∀ {l m:List α},l.Pairwise (fun x y=>ky x<=ky y)->m.Pairwise (fun x y=>ky x<=ky y)->(∀ k,l.filter (fun x=>ky x == k)=m.filter (fun x=>ky x == k))->l=m
 | [],[],_,_,_=>rfl
 | [],y::m,_,_,h=>by
  have:=h (ky y)
  rw[filter_cons_of_pos (by simp)] at this
  cases this
 | x::l,[],_,_,h=>by
  have:=h (ky x)
  rw[filter_cons_of_pos (by simp)] at this
  cases this
 | x::l,y::m,hl,hm,h=>by
  obtain⟨hx,hl'⟩:=List.pairwise_cons.mp hl
  obtain⟨hy,hm'⟩:=List.pairwise_cons.mp hm
  have mem1:y∈x::l:=(List.mem_filter.mp ((h (ky y)) ▸ List.mem_filter.mpr ⟨mem_cons_self ..,by simp⟩:y∈(x::l).filter (fun z=>ky z == ky y))).1
  have mem2:x∈y::m:=(List.mem_filter.mp ((h (ky x)) ▸ List.mem_filter.mpr ⟨mem_cons_self ..,by simp⟩:x∈(y::m).filter (fun z=>ky z == ky x))).1
  have l1:ky x<=ky y:=by
   rcases List.mem_cons.mp mem1 with e | hm
   ·rw[e]; exact Int.le_refl _
   ·exact hx _ hm
  have l2:ky y<=ky x:=by
   rcases List.mem_cons.mp mem2 with e | hm
   ·rw[e]; exact Int.le_refl _
   ·exact hy _ hm
  have e:ky x=ky y:=Int.le_antisymm l1 l2
  have hxy:x=y:=by
   have:=h (ky x)
   rw[filter_cons_of_pos (by simp),filter_cons_of_pos (by simp[e])] at this
   injection this
  subst hxy
  rw[j8 hl' hm' fun k=>?_]
  have:=h k
  by_cases ek:ky x=k
  ·rw[filter_cons_of_pos (by simp[ek]),filter_cons_of_pos (by simp[ek])] at this
   injection this
  ·rw[List.filter_cons_of_neg (by simp[ek]),List.filter_cons_of_neg (by simp[ek])] at this
   exact this
theorem asc_same {a b:List Nat}(ha:a.Pairwise (·<·)) (hb:b.Pairwise (·<·)) (h:a.Perm b):a=b :=
 List.Perm.eq_of_pairwise (le:=(·<·)) (fun x y _ _ h1 h2=>by lia) ha hb h
theorem kZ {l m:List α}(d:α) (hs:l.Pairwise (fun x y=>ky x<=ky y)) (hf:∀ k,l.filter (fun x=>ky x == k)=m.filter (fun x=>ky x == k)) :
  ∃ is,SrtBy (fun i=>ky (m.getD i d)) m.length is/\l=is.map (fun i=>m.getD i d):=by
 obtain⟨is,h⟩:=SrtBy.ex (fun i=>ky (m.getD i d)) m.length
 refine⟨is,h,j8 ky hs ?_ fun k=>?_⟩
 ·rw[List.pairwise_map]
  exact h.2.imp fun {i j} hh=>by dsimp only at hh; lia
 ·rw[hf k]
  have em:m=(List.range m.length).map (fun i=>m.getD i d):=by
   refine List.ext_getElem (by simp) fun i h1 h2=>?_
   simp[h1]
  have e1:m.filter (fun x=>ky x == k)=((List.range m.length).filter ((fun x=>ky x == k) ∘ (fun i=>m.getD i d))).map (fun i=>m.getD i d):=by
   conv=>lhs; rw[em]
   rw[List.filter_map]
  rw[e1,List.filter_map]
  congr 1
  refine asc_same (List.Pairwise.filter _ List.pairwise_lt_range) ?_ (h.1.filter _).symm
  rw[List.pairwise_filter]
  refine h.2.imp fun {i j} hh hi hj=>?_
  dsimp only at hh
  have h1:ky (m.getD i d)=k:=by simpa using hi
  have h2:ky (m.getD j d)=k:=by simpa using hj
  lia
end
end Ow
namespace L2
open PySem PySem.Spec PyProof.Rows Ow
theorem Un.adopt {fs:List Addr}{H:Hp}{a:Addr}{o:HO}{h:Heap}(hn:H a=none):Un fs [a] H (upd H a o) h h where
 keep:=fun _ _ q _ _ _=>q
 slot:=fun _ u q _ _ _=>⟨u.slots,q⟩
 free:=fun b _ _ n hx=>by rw[au (fun z=>hx (by simp[z]))]; exact n
 there:=fun _ u q _=>⟨u,q⟩
 tups:=fun b xs q=>by rw[au (aE q hn)]; exact q
 frzs:=fun b u xs q=>by rw[au (aE q hn)]; exact q
 tbls:=fun b ps q=>⟨#[],by rw[au (aE q hn),q]; simp⟩
theorem Inv.adopt {X:Cx}{pins:List (Addr×Obj)}{σ:St}{H:Hp}{s:Shared}{a:Addr}{o:HO}(I:Inv X pins σ H s) (f:kF X pins H a) (new:ObjOk X.prog X.w (upd H a o) s.heap a o):Inv X pins σ (upd H a o) s :=
 I.call' (ch:=[a]) rfl (Un.adopt f.1) (fun b u e=>by
  by_cases hb:b=a
  ·subst hb; rw[ae] at e; cases e; exact new
  ·rw[au hb] at e
   exact(I.hok b u e).stay (fun c v _ q=>q) (fun c q=>by rw[au (aE q f.1)]; exact q) fun c xs q=>by rw[au (aE q f.1)]; exact q) I.bare fun b hb=>by
  obtain rfl:b=a:=by simpa using hb
  exact⟨f.2.2.2.1,f.2.1,f.2.2.2.2.1,f.2.2.2.2.2⟩
def lQ (X:Cx) (σ:St) (R:Hp->Prop) (q:Addr) (ps:List Addr) (kf:Nat->Int):Prop :=
 ∀ (i:Nat) (p:Addr) (pins:List (Addr×Obj)) (s:Shared) (H:Hp),ps[i]?=some p->R H->Inv X pins σ H s->wpAny (model X.prog X.w) X.A.in1.in1 (call (.ref q) [.ref p]) (fun x s'=>∃ t H',x=.int (kf i) t/\R H'/\Inv X pins σ H' s') (fun _ _=>False) s
section
variable {X:Cx}{pins:List (Addr×Obj)}{σ:St}{H:Hp}{s:Shared}{l q D kS:Addr}{ps:List Addr}{kf:Nat->Int}{A:Around}{E:Value->Shared->Prop}{P:PySem.Fin->Shared->Prop}{keys:Array Value}{e e1:Nat}
theorem cO:∀ (is:List Nat) (ps:List Addr),Vals (is.map fun i=>V.ref (ps.getD i 0)) (is.map fun i=>Value.ref (ps.getD i 0))
 | [],_=>.nil
 | _::is,ps=>.cons rfl (cO is ps)
theorem ug {arr:Array Keyed}(hk:IntsAre keys.toList ((List.range ps.length).map kf)) (hS:@StS intC (keys.zip (ps.map Value.ref).toArray).toList arr.toList) :
  ∃ is,SrtBy kf ps.length is/\arr.map (·.2)=(is.map fun i=>Value.ref (ps.getD i 0)).toArray:=by
 have hl:keys.toList.length=ps.length:=by rw[hk.length,length_map,length_range]
 have hz:(keys.zip (ps.map Value.ref).toArray).toList=keys.toList.zip (ps.map Value.ref):=ksk_zip keys _
 rw[hz] at hS
 have hm:(keys.toList.zip (ps.map Value.ref)).length=ps.length:=by rw[List.length_zip,hl,length_map,Nat.min_self]
 obtain⟨is,h1,h2⟩:=kZ (fun p:Keyed=>numOf p.1) (l:=arr.toList) (m:=keys.toList.zip (ps.map Value.ref)) (Value.none,Value.none) hS.1 hS.2
 rw[hm] at h1
 have at':∀ i,i<ps.length->numOf ((keys.toList.zip (ps.map Value.ref)).getD i (Value.none,Value.none)).1=kf i/\((keys.toList.zip (ps.map Value.ref)).getD i (Value.none,Value.none)).2=Value.ref (ps.getD i 0):=by
  intro i hi
  have hi2:i<keys.toList.length:=by rw[hl]; exact hi
  have e1:(keys.toList.zip (ps.map Value.ref)).getD i (Value.none,Value.none)=(keys.toList[i],Value.ref ps[i]):=by
   rw[getD_eq_getElem?_getD,List.getElem?_eq_getElem (by rw[hm]; exact hi),Option.getD_some,List.getElem_zip,List.getElem_map]
  rw[e1]
  refine⟨?_,?_⟩
  ·have hn:=hk.nums
   have:(keys.toList.map numOf)[i]?=((List.range ps.length).map kf)[i]?:=by rw[hn]
   rw[List.getElem?_map,List.getElem?_map,List.getElem?_eq_getElem hi2,List.getElem?_range hi] at this
   simpa using this
  ·rw[getD_eq_getElem?_getD,List.getElem?_eq_getElem hi]; rfl
 refine⟨is,h1.congr fun i hi=>(at' i hi).1,?_⟩
 rw[<- Array.toList_inj,Array.toList_map,h2,map_map]
 show _=is.map _
 exact List.map_congr_left fun i hi=>(at' i (h1.lt i hi)).2
theorem lN {st:SortSt}(I:Inv X pins σ H s) (fD:kF X pins H D) (fK:kF X pins H kS) (hne:kS≠D) (gK:s.heap.get? kS=some (seqObj "list" keys e)) (gD:s.heap.get? D=some (seqObj "list" #[] e1)) (hk:IntsAre keys.toList ((List.range ps.length).map kf)) (hz:ps.length<10000)
  (hf:failedOf st=none) (hS:@StS intC (keys.zip (ps.map Value.ref).toArray).toList (arrOf st).toList)
  (hP:∀ s' is c,Inv X pins σ H s'->SrtBy kf ps.length is->s'.heap.get? D=some (seqObj "list" (is.map fun i=>Value.ref (ps.getD i 0)).toArray c)->P (.done (.ret .none)) s') :
  wpAny (model X.prog X.w) A (ksk_tail D false e1 (.ref kS) st) P E s:=by
 obtain⟨is,h1,h2⟩:=ug hk hS
 have hl:keys.size=ps.length:=by rw[<- Array.length_toList,hk.length,length_map,length_range]
 have s1:=Heap.SameBut.update s.heap kS (Obj.mapSeq fun _=>(#[]:Array Value))
 have gD1:=(s1.2 D hne.symm).trans gD
 have J1:=I.mine (t':=s.toks) fK fun b o n e=>(s1.2 b n).trans e
 have s2:=Heap.SameBut.update (s.heap.update kS (Obj.mapSeq fun _=>(#[]:Array Value))) D (Obj.mapSeq fun _=>(is.map fun i=>Value.ref (ps.getD i 0)).toArray)
 obtain⟨c2,hc2⟩:∃ c2,((s.heap.update kS (Obj.mapSeq fun _=>(#[]:Array Value))).update D (Obj.mapSeq fun _=>(is.map fun i=>Value.ref (ps.getD i 0)).toArray)).get? D=some (seqObj "list" (is.map fun i=>Value.ref (ps.getD i 0)).toArray c2):=⟨_,get?_update_seq gD1 fun _=>(is.map fun i=>Value.ref (ps.getD i 0)).toArray⟩
 unfold ksk_tail
 dsimp only
 rw[h2]
 refine wpAny_bind (listUpdate_at gK rfl ?_ (by rw[hl,sizeLine_eq]; lia) (zero_le _))
 refine wpAny_bind (wpAny_letGo ?_)
 refine wpAny_bind (seqEpoch_at gD1 rfl ?_)
 simp only[Bool.false_eq_true,if_false]
 refine wpAny_bind (listUpdate_at gD1 rfl ?_ (zero_le _) (by rw[size_toArray,length_map,h1.len,sizeLine_eq]; lia))
 rw[hf]
 simp only[bne_self_eq_false,Bool.false_eq_true,if_false]
 exact wpAny_pure (hP _ is c2 (J1.mine (t':=s.toks) fD fun b o n e=>(s2.2 b n).trans e) h1 hc2)
theorem tE (I:Inv X pins σ H s) (fD:kF X pins H D) (fK:kF X pins H kS) (hne:kS≠D) (gK:s.heap.get? kS=some (seqObj "list" keys e)) (gD:s.heap.get? D=some (seqObj "list" #[] e1)) (hk:IntsAre keys.toList ((List.range ps.length).map kf)) (hz:ps.length<10000)
  (hP:∀ s' is c,Inv X pins σ H s'->SrtBy kf ps.length is->s'.heap.get? D=some (seqObj "list" (is.map fun i=>Value.ref (ps.getD i 0)).toArray c)->P (.done (.ret .none)) s') :
  wpAny (model X.prog X.w) A (ksk_end D false (ps.map Value.ref).toArray e1 (.ref kS) keys) P E s:=by
 have hl:keys.size=ps.length:=by rw[<- Array.length_toList,hk.length,length_map,length_range]
 have hsz:(ps.map Value.ref).toArray.size=ps.length:=by rw[size_toArray,length_map]
 unfold ksk_end
 dsimp only
 simp only[Bool.false_eq_true,if_false]
 by_cases h2:(ps.map Value.ref).toArray.size<2
 ·rw[if_pos h2,if_pos h2]
  refine wpAny_bind (wpAny_pure ?_)
  rw[StateT.run_pure]
  refine wpAny_bind (wpAny_pure ?_)
  dsimp only
  refine lN (st:=SortSt.mk' general' (keys.zip (ps.map Value.ref).toArray) #[] 7 none) I fD fK hne gK gD hk hz rfl ⟨?_,fun _=>rfl⟩ hP
  have hn:(keys.zip (ps.map Value.ref).toArray).toList.length<2:=by rw[Array.length_toList,Array.size_zip,hl,hsz,Nat.min_self]; lia
  show List.Pairwise _ (keys.zip (ps.map Value.ref).toArray).toList
  match (keys.zip (ps.map Value.ref).toArray).toList,hn with
  | [],_=>exact List.Pairwise.nil
  | [x],_=>exact List.pairwise_singleton _ _
  | _::_::_,hn=>exact absurd hn (by simp only[length_cons]; lia)
 ·rw[if_neg h2,if_neg h2,ksk_kind hk (by lia)]
  refine wpAny_bind (wpAny_pure ?_)
  have hik:@Ints intC (keys.zip (ps.map Value.ref).toArray):=fun p hp=>ksk_intKeys hk p hp
  refine wpAny_bind (wpAny_mono (@j6 intC X.prog X.w A (fun _ _=>False) _ intL (SortSt.mk' oneType' (keys.zip (ps.map Value.ref).toArray) #[] 7 none)
   (fun _ st'=>failedOf st'=none/\@StS intC (keys.zip (ps.map Value.ref).toArray).toList (arrOf st').toList)
   rfl rfl rfl hik fun st' a1 a2=>⟨a1,a2⟩) ?_ fun _ _ e=>e.elim)
  rintro ⟨⟨⟩,st'⟩ s' ⟨rfl,hf,hst⟩
  dsimp only
  exact lN I fD fK hne gK gD hk hz hf hst hP
theorem qS (I:Inv X pins σ H s) (fD:kF X pins H D) (fK:kF X pins H kS) (hne:kS≠D) (gK:s.heap.get? kS=some (seqObj "list" #[] 0)) (gD:s.heap.get? D=some (seqObj "list" #[] e1)) (hz:ps.length<10000) {R:Hp->Prop}(hR:R H) (turn:lQ X σ R q ps kf)
  (hP:∀ s' is c H',R H'->H' D=none->Inv X pins σ H' s'->SrtBy kf ps.length is->s'.heap.get? D=some (seqObj "list" (is.map fun i=>Value.ref (ps.getD i 0)).toArray c)->P (.done (.ret .none)) s') :
  wpAny (model X.prog X.w) X.A.in1.in1 (ksk_rest D (.ref q) false (ps.map Value.ref).toArray e1 (.ref kS)) P E s:=by
 unfold ksk_rest
 refine wpAny_bind (wpAny_rule ?_)
 rw[List.forIn_toArray]
 refine wpAny_bind (ksk_fold (fun i s'=>∃ kA e H1,R H1/\H1 kS=none/\H1 D=none/\Inv X pins σ H1 s'/\s'.heap.get? kS=some (seqObj "list" kA e)/\s'.heap.get? D=some (seqObj "list" #[] e1)/\IntsAre kA.toList (((List.range ps.length).map kf).take i)) (ps.map Value.ref) 0 s
  ⟨#[],0,H,hR,fK.1,fD.1,I,gK,gD,by simpa using IntsAre.nil⟩ ?step ?done)
 case step =>
  rintro j x s' hx ⟨kA,e,H1,r1,nK,nD,J,g1,g2,hk⟩
  simp only[Nat.zero_add] at hk ⊢
  rw[List.getElem?_map] at hx
  obtain⟨p,ep,rfl⟩:∃ p,ps[j]?=some p/\x=Value.ref p:=by
   cases q:ps[j]? with
   | none=>rw[q] at hx; cases hx
   | some p=>rw[q] at hx; cases hx; exact⟨p,rfl,rfl⟩
  have hj:j<ps.length:=(List.getElem?_eq_some_iff.mp ep).1
  have hsz:kA.size<=ps.length:=by
   have h1:=hk.length
   rw[Array.length_toList,length_take,length_map,length_range] at h1
   lia
  have JJ:=J.hold ⟨nK,fK.2⟩ ⟨nD,fD.2⟩ g1 g2 nofun nofun
  refine wpAny_bind (wpAny_attempt (wpAny_mono (turn j p _ _ H1 ep r1 JJ) (fun v s2 he=>?_) fun _ _ z=>z.elim))
  obtain⟨t2,H2,rfl,r2,J2⟩:=he
  have mK:H2 kS=none:=(J2.pin _ (mem_append_right _ (mem_cons_self ..))).2.1
  have mD:H2 D=none:=(J2.pin _ (mem_append_right _ (mem_cons_of_mem _ (mem_cons_self ..)))).2.1
  obtain⟨J2,g1',g2'⟩:=J2.drop2
  dsimp only
  have s1:=Heap.SameBut.update s2.heap kS (Obj.mapSeq (·.push (.int (kf j) t2)))
  obtain⟨c2,hc2⟩:∃ c2,(s2.heap.update kS (Obj.mapSeq (·.push (.int (kf j) t2)))).get? kS=some (seqObj "list" (kA.push (.int (kf j) t2)) c2):=⟨_,get?_update_seq g1' (·.push (.int (kf j) t2))⟩
  have ek:((List.range ps.length).map kf).take (j+1)=((List.range ps.length).map kf).take j++[kf j]:=by rw[take_add_one,List.getElem?_map,List.getElem?_range hj]; rfl
  have ea:(kA.push (Value.int (kf j) t2)).toList=kA.toList++[Value.int (kf j) t2]:=by simp
  refine wpAny_bind (listUpdate_at g1' rfl ?_ (by rw[sizeLine_eq]; lia) (Nat.le_trans (Nat.le_of_eq (Array.size_push ..)) (by rw[sizeLine_eq]; lia)))
  exact wpAny_pure ⟨rfl,kA.push (.int (kf j) t2),c2,H2,r2,mK,mD,J2.mine (t':=s2.toks) ⟨mK,fK.2⟩ fun b o n e=>(s1.2 b n).trans e,hc2,(s1.2 D hne.symm).trans g2',by rw[ea,ek]; exact ksk_snoc hk⟩
 case done =>
  rintro s' ⟨kA,e,H1,r1,nK,nD,J,g1,g2,hk⟩
  have hk':IntsAre kA.toList ((List.range ps.length).map kf):=by
   have e3:((List.range ps.length).map kf).take (0+(ps.map Value.ref).length)=(List.range ps.length).map kf:=List.take_of_length_le (by simp)
   rw[e3] at hk
   exact hk
  refine wpAny_bind (listItems_at g1 rfl ?_)
  exact tE J ⟨nD,fD.2⟩ ⟨nK,fK.2⟩ hne g1 g2 hk' hz fun s' is c=>hP s' is c H1 r1 nD
theorem qT {n:Nat}(I:Inv X pins σ H s) (fD:kF X pins H D) (gD:s.heap.get? D=some (seqObj "list" (ps.map Value.ref).toArray n)) (hz:ps.length<10000) {R:Hp->Prop}(hR:R H) (turn:lQ X σ R q ps kf)
  (hP:∀ s' is c H',R H'->H' D=none->Inv X pins σ H' s'->SrtBy kf ps.length is->s'.heap.get? D=some (seqObj "list" (is.map fun i=>Value.ref (ps.getD i 0)).toArray c)->P (.done (.ret .none)) s') :
  wpAny (model X.prog X.w) X.A.in1.in1 (ksk_tree D (.ref q) false) P E s:=by
 have hsz:(ps.map Value.ref).toArray.size=ps.length:=by rw[size_toArray,length_map]
 have s1:=Heap.SameBut.update s.heap D (Obj.mapSeq fun _=>(#[]:Array Value))
 obtain⟨e1,ho1⟩:∃ e1,(s.heap.update D (Obj.mapSeq fun _=>(#[]:Array Value))).get? D=some (seqObj "list" #[] e1):=⟨_,get?_update_seq gD fun _=>#[]⟩
 have J1:=I.mine (t':=s.toks) fD fun b o n e=>(s1.2 b n).trans e
 have lD:D<s.heap.objs.size:=Heap.lt_size gD
 have hkS:((s.heap.update D (Obj.mapSeq fun _=>(#[]:Array Value))).push (seqObj "tuple" (ps.map Value.ref).toArray 0)).objs.size=s.heap.objs.size+1:=by rw[size_push',Heap.size_update]
 unfold ksk_tree
 refine wpAny_bind (listItems_at gD rfl ?_)
 refine wpAny_bind (listUpdate_at gD rfl ?_ (by rw[hsz,sizeLine_eq]; lia) (zero_le _))
 refine wpAny_bind (seqEpoch_at ho1 rfl ?_)
 refine wpAny_bind (wpAny_newTuple ?_ (by rw[<- size_toArray]; show (ps.map Value.ref).toArray.size<=_; rw[hsz,sizeLine_eq]; lia))
 refine wpAny_bind (wpAny_newList ?_ (zero_le _))
 refine wpAny_holding ?_
 have J2:Inv X pins σ H { s with heap:=((s.heap.update D (Obj.mapSeq fun _=>(#[]:Array Value))).push (seqObj "tuple" (ps.map Value.ref).toArray 0)).push (seqObj "list" #[] 0) }:=J1.kept (t':=s.toks) fun b u e=>Heap.get?_push_of_some _ (Heap.get?_push_of_some _ e)
 refine qS (kS:=((s.heap.update D (Obj.mapSeq fun _=>(#[]:Array Value))).push (seqObj "tuple" (ps.map Value.ref).toArray 0)).objs.size) J2 fD (I.fpOk (by rw[hkS]; exact le_succ _) (I.hok.fresh (by rw[hkS]; exact le_succ _))) (by rw[hkS]; exact Nat.ne_of_gt (lt_succ_of_lt lD)) (Heap.get?_push_size _ rfl) (Heap.get?_push_of_some _ (Heap.get?_push_of_some _ ho1)) hz hR turn hP
theorem nE {Q:Value->Shared->Prop}(I:Inv X pins σ H s) (hl:H l=some (.lst (ps.map V.ref))) (hz:ps.length<10000) {R:Hp->Prop}(hR:R H) (turn:lQ X σ R q ps kf)
  (hQ:∀ D is s' H',R H'->H' D=none->SrtBy kf ps.length is->Inv X pins σ (upd H' D (.lst (is.map fun i=>V.ref (ps.getD i 0)))) s'->Q (.ref D) s'):wpAny (model X.prog X.w) X.A (call (.builtin "sorted") [.ref l] [(Str.ofString "key",.ref q)]) Q E s:=by
 have hls:=I.refs hl
 have hsz0:(ps.map Value.ref).length=ps.length:=length_map ..
 refine call_function_entry_kw kind_sorted plain_sorted entry_sorted (ksk_s1 _ _) ?_
 unfold Builtin.«sorted»
 refine wpAny_bind (m:=checkCount "sorted" 1 1 _) (wpAny_pure ?_)
 refine wpAny_bind (collect_list hls ?_ (by rw[hsz0,sizeLine_eq]; lia))
 refine wpAny_bind (wpAny_newList ?_ (by rw[hsz0,sizeLine_eq]; lia))
 have hsz:((s.heap.push (seqObj "list" #[] 0)).update s.heap.objs.size (Obj.mapSeq (·++(ps.map Value.ref).toArray))).objs.size=s.heap.objs.size+1:=by
  rw[Heap.size_update,size_push']
 have hoL:(((s.heap.push (seqObj "list" #[] 0)).update s.heap.objs.size (Obj.mapSeq (·++(ps.map Value.ref).toArray))).push (seqObj "list" (ps.map Value.ref).toArray 0)).get? (s.heap.objs.size+1)=some (seqObj "list" (ps.map Value.ref).toArray 0):=by
  rw[<- hsz]; exact Heap.get?_push_size _ rfl
 have keep:∀ b o,s.heap.get? b=some o->(((s.heap.push (seqObj "list" #[] 0)).update s.heap.objs.size (Obj.mapSeq (·++(ps.map Value.ref).toArray))).push (seqObj "list" (ps.map Value.ref).toArray 0)).get? b=some o:=fun b o q=>by
  have hlt:b<s.heap.objs.size:=Heap.lt_size q
  rw[Heap.get?_push_ne _ _ _ (by rw[hsz]; exact Nat.ne_of_lt (lt_succ_of_lt hlt)),Heap.get?_update_ne _ _ _ _ (Nat.ne_of_lt hlt),Heap.get?_push_ne _ _ _ (Nat.ne_of_lt hlt)]
  exact q
 show wpAny _ _ _ _ _ { s with heap:=((s.heap.push (seqObj "list" #[] 0)).update s.heap.objs.size (Obj.mapSeq (·++(ps.map Value.ref).toArray))).push (seqObj "list" (ps.map Value.ref).toArray 0) }
 rw[hsz]
 have fr:=I.hok.fresh (le_succ s.heap.objs.size)
 have fD:kF X pins H (s.heap.objs.size+1):=I.fpOk (le_succ _) fr
 refine wpAny_bind (wpAny_holding (wpAny_call_entry_kw slot_list_sort ⟨_,hoL,rfl⟩ entry_list_sort ?body (ksk_l1 _ _)))
 case body =>
  show wpAny (model X.prog X.w) X.A.in1.in1 (Builtin.«list.sort» ⟨[.ref (s.heap.objs.size+1)],[(Str.ofString "key",.ref q)]⟩) _ _ _
  rw[ksk_t1]
  refine qT (I.kept (t':=s.toks) keep) fD hoL hz hR turn fun s' is c H' r' n' J hS gD=>⟨_,rfl,wpAny_pure ⟨_,rfl,hQ _ is s' H' r' n' hS (J.adopt ⟨n',fD.2⟩ ?_)⟩⟩
  refine⟨by rw[length_map,hS.len,sizeLine_eq]; lia,_,c,?_,gD⟩
  exact cO is ps
end
end L2
namespace Ow
open PySem PySem.Spec PyProof.Rows L2
section
variable {prog:Program}{w:World}{A:Around}{E:Value->Shared->Prop}{s:Shared}
theorem j4 (C:KeyC) {a:Addr}{vs:List Value}{n:Nat}{P:PySem.Fin->Shared->Prop}(ho:s.heap.get? a=some (seqObj "list" vs.toArray n)) (hz:vs.length<100000) (nI:@Ints C (pairsOf vs))
  (hK:∀ h',(∀ b o,b≠a->s.heap.get? b=some o->h'.get? b=some o)->@KeyL C prog w A { s with heap:=h' }/\(2<=vs.length->∀ Q:SortKind->Shared->Prop,Q C.kd { s with heap:=h' }->wpAny (model prog w) A (keyKind' vs.toArray) Q E { s with heap:=h' }))
  (h:∀ arr:Array Keyed,@StS C (pairsOf vs).toList arr.toList->P (.done (.ret .none)) { s with heap:=sortedHeap s.heap a vs (arr.map (·.2)) }) :
  wpAny (model prog w) A (Builtin.«list.sort» ⟨[.ref a],[]⟩) P E s:=by
 rw[list_sort_plain]
 have ha:a<s.heap.objs.size:=Heap.lt_size ho
 have hz':vs.toArray.size<=sizeLine:=by rw[size_toArray,sizeLine_eq]; lia
 refine wpAny_bind (listItems_at ho rfl ?_)
 refine wpAny_bind (listUpdate_at ho rfl ?_ hz' (zero_le _))
 have s1:=Heap.SameBut.update s.heap a (Obj.mapSeq fun _=>(#[]:Array Value))
 obtain⟨e1,ho1⟩:∃ e1,(s.heap.update a (Obj.mapSeq fun _=>#[])).get? a=some (seqObj "list" #[] e1):=⟨_,get?_update_seq ho (fun _=>#[])⟩
 refine wpAny_bind (seqEpoch_at ho1 rfl ?_)
 refine wpAny_bind (wpAny_newTuple ?_ (by simpa using hz'))
 refine wpAny_bind (wpAny_newList ?_)
 refine wpAny_holding ?_
 have ho6:(((s.heap.update a (Obj.mapSeq fun _=>#[])).push (seqObj "tuple" vs.toArray 0)).push (seqObj "list" #[] 0)).get? a=some (seqObj "list" #[] e1):=Heap.get?_push_of_some _ (Heap.get?_push_of_some _ ho1)
 show wpAny (model prog w) A _ P E { s with heap:=((s.heap.update a (Obj.mapSeq fun _=>#[])).push (seqObj "tuple" vs.toArray 0)).push (seqObj "list" #[] 0) }
 dsimp only
 have hsz:vs.toArray.size=vs.length:=by simp
 obtain⟨kl,kk⟩:=hK (((s.heap.update a (Obj.mapSeq fun _=>#[])).push (seqObj "tuple" vs.toArray 0)).push (seqObj "list" #[] 0)) fun b o n e=>Heap.get?_push_of_some _ (Heap.get?_push_of_some _ ((s1.2 b n).trans e))
 by_cases h2:vs.toArray.size<2
 ·rw[if_pos h2,if_pos h2]
  refine wpAny_bind (wpAny_pure ?_)
  rw[StateT.run_pure]
  refine wpAny_bind (wpAny_pure ?_)
  dsimp only
  refine wpAny_bind (seqEpoch_at ho6 rfl ?_)
  refine wpAny_bind (listUpdate_at ho6 rfl ?_ (hsz2:=by rw[Array.size_map]; show (pairsOf vs).size<=_; rw[pairsOf_size,sizeLine_eq]; lia))
  simp only[bne_self_eq_false,Bool.false_eq_true,if_false]
  refine wpAny_pure (h (vs.toArray.zip vs.toArray) ⟨?_,fun _=>rfl⟩)
  have hn:(vs.toArray.zip vs.toArray).toList.length<2:=by
   have:=pairsOf_size vs
   rw[Array.length_toList]
   show (pairsOf vs).size<2
   lia
  show List.Pairwise _ (vs.toArray.zip vs.toArray).toList
  match (vs.toArray.zip vs.toArray).toList,hn with
  | [],_=>exact List.Pairwise.nil
  | [x],_=>exact List.pairwise_singleton _ _
  | _::_::_,hn=>exact absurd hn (by simp only[length_cons]; lia)
 ·rw[if_neg h2,if_neg h2]
  refine wpAny_bind (kk (by lia) _ ?_)
  refine wpAny_bind (wpAny_mono (@j6 C prog w A (fun _ _=>False) _ kl (SortSt.mk' C.kd (vs.toArray.zip vs.toArray) #[] 7 none)
   (fun _ st'=>failedOf st'=none/\@StS C (pairsOf vs).toList (arrOf st').toList)
   rfl rfl rfl nI fun st' a1 a2=>⟨a1,a2⟩) ?_ fun _ _ e=>e.elim)
  rintro ⟨⟨⟩,st'⟩ s' ⟨rfl,hf,hst⟩
  have hp:(arrOf st').Perm (pairsOf vs):=Array.perm_iff_toList_perm.mpr (@gF C _ _ hst.2)
  dsimp only
  refine wpAny_bind (seqEpoch_at ho6 rfl ?_)
  refine wpAny_bind (listUpdate_at ho6 rfl ?_ (hsz2:=by refine Nat.le_trans (Nat.le_of_eq ((Array.size_map ..).trans (hp.size_eq.trans (pairsOf_size _)))) ?_; rw[sizeLine_eq]; lia))
  rw[hf]
  simp only[bne_self_eq_false,Bool.false_eq_true,if_false]
  exact wpAny_pure (h (arrOf st') hst)
end
noncomputable def fL (h:Heap) (v:Value):Int:=match v with
 | .ref a=>match h.get? a with
  | some o=>match o.data with
   | .seq xs _=>numOf (xs.getD 0 .none)*100000+numOf (xs.getD 1 .none)
   | _=>0
  | none=>0
 | _=>0
def oX (h:Heap) (kf:Nat->Int) (p:Addr) (i:Nat):Prop:=∃ (o:Obj) (t1 t2:Tok) (n:Nat) (q:Addr),h.get? p=some o/\o.cls=.type "tuple"/\o.data=.seq #[.int (kf i) t1,.int i t2,.ref q] n
noncomputable abbrev rowC (h:Heap) (kf:Nat->Int) (ps:List Addr):KeyC:=⟨fun p=>fL h p.1,fun p=>∃ i,i<ps.length/\p.1=.ref (ps.getD i 0),tuples' true⟩
theorem im {h:Heap}{kf:Nat->Int}{p:Addr}{i:Nat}(r:oX h kf p i):fL h (.ref p)=kf i*100000+i:=by
 obtain⟨o,t1,t2,n,q,e1,e2,e3⟩:=r
 unfold fL
 simp only[e1,e3]
 rfl
theorem rowL {prog:Program}{w:World}{A:Around}{s:Shared}{h:Heap}{kf:Nat->Int}{ps:List Addr}(hr:∀ i,i<ps.length->oX s.heap kf (ps.getD i 0) i) (hr0:∀ i,i<ps.length->oX h kf (ps.getD i 0) i) (hz:ps.length<100000):@KeyL (rowC h kf ps) prog w A s:=@KeyL.mk (rowC h kf ps) prog w A s (by
 intro E st x y Q hk hx hy hq
 obtain⟨i,hi,e1⟩:=hx
 obtain⟨j,hj,e2⟩:=hy
 have hq':Q (some (decide (fL h x.1<fL h y.1))) st:=hq
 rw[e1,e2,im (hr0 i hi),im (hr0 j hj)] at hq'
 obtain⟨o1,t1,u1,n1,q1,a1,b1,c1⟩:=hr i hi
 obtain⟨o2,t2,u2,n2,q2,a2,b2,c2⟩:=hr j hj
 rw[lt'_eq]
 refine wpS_bind (wpS_get ?_)
 rw[show kindOf st=tuples' true from hk,e1,e2]
 refine wpS_bind (wpS_lift (wpAny_attempt (PySem.W.kat_lt a1 c1 a2 c2 ?_)))
 refine PySem.W.kat_cons (wpAny_eqBool_int ?_)
 by_cases hk:kf i=kf j
 ·rw[show (kf i == kf j)=true from by rw[hk]; exact beq_self_eq_true _]
  refine PySem.W.kat_yes (PySem.W.kat_cons (wpAny_eqBool_int ?_))
  by_cases hij:i=j
  ·subst hij
   rw[a1] at a2
   cases a2
   rw[c1] at c2
   injection c2 with c2 _
   have eq:Value.ref q1=Value.ref q2:=by
    have:=congrArg (fun l:Array Value=>l.getD 2 Value.none) c2
    exact this
   rw[show (((i:Nat):Int) == ((i:Nat):Int))=true from beq_self_eq_true _]
   refine PySem.W.kat_yes (PySem.W.kat_cons ?_)
   rw[eq]
   unfold eqBool
   refine wpAny_holding ?_
   show wpAny _ _ (if (Value.ref q2 == Value.ref q2)=true then _ else _) _ _ s
   rw[if_pos (by exact beq_self_eq_true _)]
   refine wpAny_bind (wpAny_rule (wpAny_pure (PySem.W.kat_yes (PySem.W.kat_nil ⟨rfl,wpS_pure ?_⟩))))
   rw[show decide (kf i*100000+((i:Nat):Int)<kf i*100000+((i:Nat):Int))=false from decide_eq_false (by lia)] at hq'
   exact hq'
  ·rw[show (((i:Nat):Int) == ((j:Nat):Int))=false from beq_eq_false_iff_ne.mpr (by lia)]
   refine PySem.W.kat_no (PySem.W.kat_one _ _ (lt_int ⟨rfl,wpS_pure ?_⟩))
   rw[show decide (kf i*100000+((i:Nat):Int)<kf j*100000+((j:Nat):Int))=decide (((i:Nat):Int)<((j:Nat):Int)) from decide_eq_decide.mpr (by rw[hk]; lia)] at hq'
   exact hq'
 ·rw[show (kf i == kf j)=false from beq_eq_false_iff_ne.mpr hk]
  refine PySem.W.kat_no (oneLt_int ⟨rfl,wpS_pure ?_⟩)
  rw[show decide (kf i*100000+((i:Nat):Int)<kf j*100000+((j:Nat):Int))=decide (kf i<kf j) from decide_eq_decide.mpr (by lia)] at hq'
  exact hq')
theorem ng {h:Heap}{kf:Nat->Int}:∀ (ps:List Addr) (k:Nat),(∀ i,i<ps.length->oX h kf (ps.getD i 0) (k+i))->∃ fs,PySem.W.KatTups h (ps.map Value.ref) fs/\fs.length=ps.length/\∀ v∈fs,∃ n t,v=Value.int n t
 | [],_,_=>⟨[],.nil,rfl,nofun⟩
 | p::ps,k,hr=>by
  obtain⟨fs,t,l,a⟩:=ng ps (k+1) fun i hi=>by
   have:=hr (i+1) (by simpa using hi)
   rw[show k+(i+1)=k+1+i from by lia] at this
   exact this
  obtain⟨o,t1,t2,n,q,e1,e2,e3⟩:=hr 0 (by simp)
  refine⟨.int (kf (k+0)) t1::fs,.cons e1 e2 e3 rfl t,by simp[l],fun v hv=>?_⟩
  rcases List.mem_cons.mp hv with rfl | hv
  ·exact⟨_,_,rfl⟩
  ·exact a v hv
theorem rows_out {h:Heap}{kf:Nat->Int}{ps:List Addr}{arr:Array Keyed}(hr:∀ i,i<ps.length->oX h kf (ps.getD i 0) i) (hz:ps.length<100000) (hS:@StS (rowC h kf ps) (pairsOf (ps.map Value.ref)).toList arr.toList) :
  ∃ is,SrtBy kf ps.length is/\arr.map (·.2)=(is.map fun i=>Value.ref (ps.getD i 0)).toArray:=by
 have hp:(pairsOf (ps.map Value.ref)).toList=(ps.map Value.ref).zip (ps.map Value.ref):=by
  show ((ps.map Value.ref).toArray.zip (ps.map Value.ref).toArray).toList=_
  simp
 rw[hp] at hS
 have hm:((ps.map Value.ref).zip (ps.map Value.ref)).length=ps.length:=by simp
 obtain⟨is,h1,h2⟩:=kZ (fun p:Keyed=>fL h p.1) (l:=arr.toList) (m:=(ps.map Value.ref).zip (ps.map Value.ref)) (Value.none,Value.none) hS.1 hS.2
 rw[hm] at h1
 have at':∀ i,i<ps.length->((ps.map Value.ref).zip (ps.map Value.ref)).getD i (Value.none,Value.none)=(Value.ref (ps.getD i 0),Value.ref (ps.getD i 0)):=by
  intro i hi
  have e0:ps.getD i 0=ps[i]:=by rw[getD_eq_getElem?_getD,List.getElem?_eq_getElem hi]; rfl
  rw[getD_eq_getElem?_getD,List.getElem?_eq_getElem (by rw[hm]; exact hi),Option.getD_some,List.getElem_zip,List.getElem_map,e0]
 refine⟨is,⟨h1.1,h1.2.imp_of_mem fun {i j} hi hj hh=>?_⟩,?_⟩
 ·have li:=h1.lt i hi
  have lj:=h1.lt j hj
  have hh':fL h (((ps.map Value.ref).zip (ps.map Value.ref)).getD i (Value.none,Value.none)).1<fL h (((ps.map Value.ref).zip (ps.map Value.ref)).getD j (Value.none,Value.none)).1\/fL h (((ps.map Value.ref).zip (ps.map Value.ref)).getD i (Value.none,Value.none)).1=fL h (((ps.map Value.ref).zip (ps.map Value.ref)).getD j (Value.none,Value.none)).1/\i<j:=hh
  rw[at' i li,at' j lj] at hh'
  dsimp only at hh'
  rw[im (hr i li),im (hr j lj)] at hh'
  lia
 ·rw[<- Array.toList_inj,Array.toList_map,h2,map_map]
  show _=is.map _
  exact List.map_congr_left fun i hi=>by
   show (((ps.map Value.ref).zip (ps.map Value.ref)).getD i (Value.none,Value.none)).2=_
   rw[at' i (h1.lt i hi)]
end Ow
namespace L2
open PySem PySem.Spec PyProof.Rows Ow
theorem iU {X:Cx}:fP X (.builtin "sorted") (fun xs H Q=>∃ (l:Addr) (ps:List Addr) (kf:Nat->Int),xs=[.ref l]/\H l=some (.lst (ps.map V.ref))/\ps.length<10000/\(∀ i p,ps[i]?=some p->∃ q,H p=some (.tup [.int (kf i),.int (i:Int),.ref q])) /\
  ∀ (D:Addr) (is:List Nat),H D=none->SrtBy kf ps.length is->Q (.ref D) (upd H D (.lst (is.map fun i=>V.ref (ps.getD i 0))))):=by
 intro pins s σ H xs us Q I r h
 obtain⟨l,ps,kf,rfl,hl,hz,hr,k⟩:=h
 obtain⟨u,rfl,ru⟩:=r.one
 cases (show u=Value.ref l from ru)
 have hls:=I.refs hl
 have hsz0:(ps.map Value.ref).length=ps.length:=length_map ..
 have rows:∀ i,i<ps.length->oX s.heap kf (ps.getD i 0) i:=fun i hi=>by
  obtain⟨q,hq⟩:=hr i _ (List.getElem?_eq_getElem hi)
  obtain⟨its,rv,⟨o,e1,e2,n,e3⟩,_⟩:=I.tuple (SqT.of hq)
  have e0:ps.getD i 0=ps[i]:=by rw[getD_eq_getElem?_getD,List.getElem?_eq_getElem hi]; rfl
  rw[e0]
  match its,rv with
  | [x,y,z],.cons (b:=_) r1 (.cons r2 (.cons r3 .nil)) =>
   obtain⟨t1,rfl⟩:=r1
   obtain⟨t2,rfl⟩:=r2
   obtain rfl:z=Value.ref q:=r3
   exact⟨o,t1,t2,n,q,e1,e2,e3⟩
 have lp:∀ i,i<ps.length->ps.getD i 0<s.heap.objs.size:=fun i hi=>by
  obtain⟨o,_,_,_,_,e1,_⟩:=rows i hi
  exact Heap.lt_size e1
 refine Calls.call_function_entry kind_sorted plain_sorted entry_sorted (args_sorted1 _) ?_
 unfold Builtin.«sorted»
 refine wpAny_bind (m:=checkCount "sorted" 1 1 _) (wpAny_pure ?_)
 refine wpAny_bind (collect_list hls ?_ (by rw[hsz0,sizeLine_eq]; lia))
 refine wpAny_bind (wpAny_newList ?_ (by rw[hsz0,sizeLine_eq]; lia))
 have hsz:((s.heap.push (seqObj "list" #[] 0)).update s.heap.objs.size (Obj.mapSeq (·++(ps.map Value.ref).toArray))).objs.size=s.heap.objs.size+1:=by
  rw[Heap.size_update,size_push']
 have hoL:(((s.heap.push (seqObj "list" #[] 0)).update s.heap.objs.size (Obj.mapSeq (·++(ps.map Value.ref).toArray))).push (seqObj "list" (ps.map Value.ref).toArray 0)).get? (s.heap.objs.size+1)=some (seqObj "list" (ps.map Value.ref).toArray 0):=by
  rw[<- hsz]; exact Heap.get?_push_size _ rfl
 have keep:∀ b o,s.heap.get? b=some o->(((s.heap.push (seqObj "list" #[] 0)).update s.heap.objs.size (Obj.mapSeq (·++(ps.map Value.ref).toArray))).push (seqObj "list" (ps.map Value.ref).toArray 0)).get? b=some o:=fun b o q=>by
  have hlt:b<s.heap.objs.size:=Heap.lt_size q
  rw[Heap.get?_push_ne _ _ _ (by rw[hsz]; exact Nat.ne_of_lt (lt_succ_of_lt hlt)),Heap.get?_update_ne _ _ _ _ (Nat.ne_of_lt hlt),Heap.get?_push_ne _ _ _ (Nat.ne_of_lt hlt)]
  exact q
 show wpAny _ _ _ _ _ { s with heap:=((s.heap.push (seqObj "list" #[] 0)).update s.heap.objs.size (Obj.mapSeq (·++(ps.map Value.ref).toArray))).push (seqObj "list" (ps.map Value.ref).toArray 0) }
 rw[hsz]
 have fr:=I.hok.fresh (le_succ s.heap.objs.size)
 have rowsH:∀ h':Heap,(∀ b o,s.heap.get? b=some o->h'.get? b=some o)->∀ i,i<ps.length->oX h' kf (ps.getD i 0) i:=fun h' kp i hi=>by
  obtain⟨o,t1,t2,n,q,e1,e2,e3⟩:=rows i hi
  exact⟨o,t1,t2,n,q,kp _ _ e1,e2,e3⟩
 refine wpAny_bind (wpAny_holding (wpAny_call_entry slot_list_sort ⟨_,hoL,rfl⟩ entry_list_sort (j4 (rowC s.heap kf ps) hoL (by rw[hsz0]; lia) (fun p hp=>?_) (fun h' kp=>?_) fun arr hS=>⟨_,rfl,?_⟩) (args_list_sort _)))
 ·have hp':p∈((ps.map Value.ref).toArray.zip (ps.map Value.ref).toArray).toList:=hp
  rw[show ((ps.map Value.ref).toArray.zip (ps.map Value.ref).toArray).toList=(ps.map Value.ref).zip (ps.map Value.ref) from by simp] at hp'
  obtain⟨x,y⟩:=p
  obtain⟨c,hc,e⟩:=List.mem_map.mp (List.of_mem_zip hp').1
  obtain⟨i,hi,e'⟩:=List.mem_iff_getElem.mp hc
  refine⟨i,hi,?_⟩
  rw[getD_eq_getElem?_getD,List.getElem?_eq_getElem hi,Option.getD_some,e']
  exact e.symm
 ·have kp':∀ b o,s.heap.get? b=some o->h'.get? b=some o:=fun b o e=>kp b o (Nat.ne_of_lt (lt_succ_of_lt (Heap.lt_size e))) (keep b o e)
  refine⟨rowL (rowsH h' kp') rows (by lia),fun h2 Q' hQ=>?_⟩
  obtain⟨fs,tt,ll,al⟩:=ng ps 0 fun i hi=>by rw[Nat.zero_add]; exact rowsH h' kp' i hi
  exact PySem.W.kat_kind (s:={ s with heap:=h' }) (T:=.type "int") tt (by rw[ll]; rw[hsz0] at h2; lia) (fun v hv=>by obtain⟨n,t,rfl⟩:=al v hv; exact .now) (by decide) hQ
 ·obtain⟨is,h1,h2⟩:=rows_out rows (by lia) hS
  rw[h2]
  obtain⟨m,gO⟩:=sortedHeap_at (out:=(is.map fun i=>Value.ref (ps.getD i 0)).toArray) hoL
  have kp:∀ b u,s.heap.get? b=some u->(sortedHeap (((s.heap.push (seqObj "list" #[] 0)).update s.heap.objs.size (Obj.mapSeq (·++(ps.map Value.ref).toArray))).push (seqObj "list" (ps.map Value.ref).toArray 0)) (s.heap.objs.size+1) (ps.map Value.ref) (is.map fun i=>Value.ref (ps.getD i 0)).toArray).get? b=some u:=fun b u q =>
   (sortedHeap_old (Nat.ne_of_lt (lt_succ_of_lt (Heap.lt_size q))) (Heap.lt_size (keep b u q))).trans (keep b u q)
  have I2:=I.call' (H':=upd H (s.heap.objs.size+1) (.lst (is.map fun i=>V.ref (ps.getD i 0)))) (s':={ s with heap:=sortedHeap (((s.heap.push (seqObj "list" #[] 0)).update s.heap.objs.size (Obj.mapSeq (·++(ps.map Value.ref).toArray))).push (seqObj "list" (ps.map Value.ref).toArray 0)) (s.heap.objs.size+1) (ps.map Value.ref) (is.map fun i=>Value.ref (ps.getD i 0)).toArray }) (ch:=[]) rfl (Un.laid kp (le_succ _) fr) (I.hok.laid kp (le_succ _) ⟨by rw[length_map,h1.len,sizeLine_eq]; lia,_,m,cO is ps,gO⟩) I.bare fun b z=>nomatch z
  exact wpAny_pure ⟨_,rfl,.ref _,_,I2,rfl,k _ is fr h1⟩
end L2
namespace L2
open PySem PySem.Spec PyProof.Rows Ow
def rM (P:Addr) (qual:Str) (j0:Nat) (te:TE) (σ:St) (Q:VK):V->Hp->Prop:=fun x H1=>∃ (l:Addr) (ps:List Addr) (kf:Nat->Int) (v0:V),x=.ref l/\H1 l=some (.lst (ps.map V.ref))/\ps.length<10000 /\
 σ[j0]?=some (some v0)/\TabA P qual H1/\∀ H',(∀ a u,a≠P->H1 a=some u->H' a=some u)->TabA P qual H'->∃ R:Hp->Prop,R H' /\
  (∀ i p G,ps[i]?=some p->R G->∀ Q':VK,(∀ G',R G'->(∀ a φ,G a=some (.ext φ)->G' a=some (.ext φ))->Q' (.int (kf i)) G')->te [some (.ref p),some v0] G Q') /\
  ∀ D is G,R G->G D=none->SrtBy kf ps.length is->Q (.ref D) (upd G D (.lst (is.map fun i=>V.ref (ps.getD i 0))))
def tSortK (P:Addr) (qual:Str) (te0:TE) (j0:Nat) (te:TE):TE:=fun σ H Q=>te0 σ H (rM P qual j0 te σ Q)
theorem qH {X:Cx}{k:Nat}{e:Expr}{te0 te:TE}{params:Arguments}{body:Expr}{scope:Scope}{lp kp p pos:Pos}{P:Addr}{cl:List (Str×Addr)}{qual x y0:Str}{j0:Nat}(hc:X.calm=true) (hr:Room (k+2) X.A) (hfn:∀ x,X.fn x=true)
  (hg:Gl X "sorted") (hm:X.mg "sorted"=none) (ha:PE X e te0) (hL:PE X (.Lambda params body scope lp) (tLamA P qual params body scope cl))
  (h0:X.N[j0]?=some y0) (k0:X.env.kindOf y0=some .cell) (c0:∃ c,cl.lookup y0=some c)
  (hsub:∀ x c,cl.lookup x=some c->X.env.cells.lookup x=some c)
  (hbind:∀ (pm ctv:Value) (c':Addr) (u:Value),bindArgs (PySem.W.kla_fn "<lambda>" qual params body scope cl pm (.ref c') ctv) ⟨[u],[]⟩=pure [(x,u)])
  (hco:scope.isCoroutine=false) (hgen:scope.isGenerator=false) (hcell:∀ y∈scope.names,y.2≠.cell)
  (hkind:scope.kind=.function) (hx:scope.names.lookup x=some .local) (hns:∀ y∈[y0],scope.names.lookup y=some .free)
  (hfree:∀ y,(scope.names.lookup y=some .cell\/scope.names.lookup y=some .free)->∃ c,cl.lookup y=some c)
  (hb:∀ f c' s H,PE (pC X.inF.inF [x,y0] qual scope f (.ref c') cl s H) body te)
  (he:starEach [e] X.env=(false,eval e X.env)::starEach [] X.env:=by rfl) (hpl:(backTo pos (starEach [e] X.env)).any (·.1)=false:=by rfl) :
  PE X (.Call (.Name "sorted" p) [e] [⟨some "key",.Lambda params body scope lp,kp⟩] pos) (tSortK P qual te0 j0 te):=by
 intro pins s σ H Q I h
 refine wpAny_Call_Name_kw (lF I hg hm PyProof.Rows.boot_sorted ?_ (by decide) (by decide))
 refine callWith_kw (thn ((aa ha ah he) pos pins s σ H (fun vs H1=>match vs with | [v]=>rM P qual j0 te σ Q v H1 | _=>False) I h) fun us s1 ⟨vs,H1,I1,rv,q1⟩=>?_) (by rw[he]; rfl) hpl
 match vs,us,rv,q1 with
 | [v],_,.cons (b:=u) r1 .nil,q1 =>
  obtain⟨l,ps,kf,v0,rfl,hl,hz,e0,to,q⟩:=q1
  obtain rfl:u=Value.ref l:=r1
  refine kws_cons (thn (hL pins s1 σ H1 (fun v H'=>∃ f,v=.ref f/\(∀ a u,a≠P->H1 a=some u->H' a=some u)/\Clo "<lambda>" qual params body scope cl H' f/\TabA P qual H') I1 ⟨to,fun f H' sx _ clo to'=>⟨f,rfl,sx,clo,to'⟩⟩) fun fv s2 ⟨fv',H2,I2,r2,f,ef,sx,clo,to2⟩=>kws_nil ?_)
  subst ef
  obtain rfl:fv=Value.ref f:=r2
  obtain⟨R,rR,q1,q2⟩:=q H2 sx to2
  have nlP:l≠P:=fun z=>by
   obtain⟨tb,eP,_⟩:=to
   rw[z,eP] at hl; cases hl
  have hl2:=sx _ _ nlP hl
  obtain⟨pm,c',ctv,z1,z2⟩:=clo
  refine nE I2 hl2 hz (kf:=kf) (R:=fun G=>R G/\∀ a φ,H2 a=some (.ext φ)->G a=some (.ext φ)) ⟨rR,fun _ _ e=>e⟩ (fun i p pins' s' G ep rG I'=>?_) fun D is s' G rG nD hS I'=>⟨.ref D,_,I',rfl,q2 D is G rG.1 nD hS⟩
  obtain⟨g1,_⟩:=I'.hok f _ (rG.2 _ _ z1)
  obtain⟨g2,_⟩:=I'.hok c' _ (rG.2 _ _ z2)
  have C:Cells s'.heap G (frs X.stack) cl [y0] [v0]:=I'.cells hfn hsub fun i y v a1 a2=>by
   match i,a1,a2 with
   | 0,a1,a2=>cases a1; cases a2; obtain⟨c,hc⟩:=c0; exact⟨j0,c,h0,e0,k0,hc⟩
   | n+1,a1,_=>simp at a1
  have run:=rY (X:=X.inF.inF) (pins:=pins') (Q:=fun v H'=>v=.int (kf i)/\R H'/\∀ a φ,H2 a=some (.ext φ)->H' a=some (.ext φ)) I'.inF.inF hc hr.in1.in1 g1 g2 (hbind pm ctv c' (.ref p)) hco hgen hcell hkind hx hns hfree C rfl (show RelV (.ref p) (.ref p) from rfl) (hb f c' s' G) (q1 i p G ep rG.1 _ fun G' rG' kx=>⟨rfl,rG',fun a φ e=>kx a φ (rG.2 a φ e)⟩)
  refine wpAny_mono run (fun z s3 hz=>?_) fun _ _ z=>z
  obtain⟨v',H',J,rv,rfl,rH,kH⟩:=hz
  obtain⟨t,rfl⟩:=rv
  exact⟨t,H',rfl,⟨rH,kH⟩,J.outF.outF⟩
end L2
namespace Ow
open PySem PySem.Spec PyProof.Rows L2
open Builtin.Int (intBits)
noncomputable def top (i:Nat):Stmt:=PySem.Challenge.pw_overwise_k37_whole_cheapest_signed_row.main.body.getD i (.Pass ⟨0,0,0,0⟩)
abbrev iE:Stmt:=top 7
theorem oN:FnScope ["thing"] ["thing"] (ak iE):=⟨rfl,rfl,rfl,by decide +kernel,rfl,by decide +kernel,by decide +kernel⟩
abbrev e9:Stmt:=top 8
theorem mB:FnScope ["thing","low","high"] ["thing","low","high"] (ak e9):=⟨rfl,rfl,rfl,by decide +kernel,rfl,by decide +kernel,by decide +kernel⟩
abbrev eM:Stmt:=top 9
theorem mt:FnScope ["width"] ["width"] (ak eM):=⟨rfl,rfl,rfl,by decide +kernel,rfl,by decide +kernel,by decide +kernel⟩
abbrev du:Stmt:=top 11
theorem jG:FnScope ["width","d"] ["width","d"] (ak du):=⟨rfl,rfl,rfl,by decide +kernel,rfl,by decide +kernel,by decide +kernel⟩
abbrev jw:Stmt:=top 12
theorem sc_twos_in:FnScope ["d","twos"] ["d"] (ak jw):=⟨rfl,rfl,rfl,by decide +kernel,rfl,by decide +kernel,by decide +kernel⟩
abbrev ki:Stmt:=top 13
theorem qF:FnScope ["reckoning","x"] ["reckoning","x"] (ak ki):=⟨rfl,rfl,rfl,by decide +kernel,rfl,by decide +kernel,by decide +kernel⟩
abbrev c8:Stmt:=aS (top 14) 0
theorem iZ:FnScope ["self","width","x"] ["self","width","x"] (ak c8):=⟨rfl,rfl,rfl,by decide +kernel,rfl,by decide +kernel,by decide +kernel⟩
abbrev cf:Stmt:=aS (top 15) 0
theorem ge:FnScope ["self","shift"] ["self","shift"] (ak cf):=⟨rfl,rfl,rfl,by decide +kernel,rfl,by decide +kernel,by decide +kernel⟩
abbrev di:Stmt:=aS (top 15) 1
theorem ju:FnScope ["self"] ["self"] (ak di):=⟨rfl,rfl,rfl,by decide +kernel,rfl,by decide +kernel,by decide +kernel⟩
abbrev dl:Stmt:=aS (top 15) 2
theorem jW:FnScope ["self"] ["self"] (ak dl):=⟨rfl,rfl,rfl,by decide +kernel,rfl,by decide +kernel,by decide +kernel⟩
abbrev bJ:Stmt:=aS (top 15) 3
theorem eZ:FnScope ["self","width"] ["self","width"] (ak bJ):=⟨rfl,rfl,rfl,by decide +kernel,rfl,by decide +kernel,by decide +kernel⟩
abbrev cE:Stmt:=aS (top 16) 0
theorem iw:FnScope ["self","factor","shift"] ["self","factor","shift"] (ak cE):=⟨rfl,rfl,rfl,by decide +kernel,rfl,by decide +kernel,by decide +kernel⟩
abbrev dN:Stmt:=aS (top 16) 1
theorem ku:FnScope ["self"] ["self"] (ak dN):=⟨rfl,rfl,rfl,by decide +kernel,rfl,by decide +kernel,by decide +kernel⟩
abbrev dW:Stmt:=aS (top 16) 2
theorem kW:FnScope ["self"] ["self"] (ak dW):=⟨rfl,rfl,rfl,by decide +kernel,rfl,by decide +kernel,by decide +kernel⟩
abbrev bP:Stmt:=aS (top 16) 3
theorem fu:FnScope ["self","width"] ["self","width"] (ak bP):=⟨rfl,rfl,rfl,by decide +kernel,rfl,by decide +kernel,by decide +kernel⟩
abbrev cQ:Stmt:=aS (top 17) 0
theorem iN:FnScope ["self","early","factor","shift"] ["self","early","factor","shift"] (ak cQ):=⟨rfl,rfl,rfl,by decide +kernel,rfl,by decide +kernel,by decide +kernel⟩
abbrev e7:Stmt:=aS (top 17) 1
theorem lU:FnScope ["self"] ["self"] (ak e7):=⟨rfl,rfl,rfl,by decide +kernel,rfl,by decide +kernel,by decide +kernel⟩
abbrev eY:Stmt:=aS (top 17) 2
theorem mE:FnScope ["self"] ["self"] (ak eY):=⟨rfl,rfl,rfl,by decide +kernel,rfl,by decide +kernel,by decide +kernel⟩
abbrev ci:Stmt:=aS (top 17) 3
theorem gp:FnScope ["self","width"] ["self","width"] (ak ci):=⟨rfl,rfl,rfl,by decide +kernel,rfl,by decide +kernel,by decide +kernel⟩
abbrev c7:Stmt:=aS (top 18) 0
theorem iW:FnScope ["self","factor","shift"] ["self","factor","shift"] (ak c7):=⟨rfl,rfl,rfl,by decide +kernel,rfl,by decide +kernel,by decide +kernel⟩
abbrev gE:Stmt:=aS (top 18) 1
theorem n6:FnScope ["self"] ["self"] (ak gE):=⟨rfl,rfl,rfl,by decide +kernel,rfl,by decide +kernel,by decide +kernel⟩
abbrev gn:Stmt:=aS (top 18) 2
theorem nN:FnScope ["self"] ["self"] (ak gn):=⟨rfl,rfl,rfl,by decide +kernel,rfl,by decide +kernel,by decide +kernel⟩
abbrev cA:Stmt:=aS (top 18) 3
theorem gN:FnScope ["self","width"] ["self","width"] (ak cA):=⟨rfl,rfl,rfl,by decide +kernel,rfl,by decide +kernel,by decide +kernel⟩
abbrev cU:Stmt:=aS (top 19) 0
theorem i4:FnScope ["self","factor","shift"] ["self","factor","shift"] (ak cU):=⟨rfl,rfl,rfl,by decide +kernel,rfl,by decide +kernel,by decide +kernel⟩
abbrev gy:Stmt:=aS (top 19) 1
theorem m4:FnScope ["self"] ["self"] (ak gy):=⟨rfl,rfl,rfl,by decide +kernel,rfl,by decide +kernel,by decide +kernel⟩
abbrev gj:Stmt:=aS (top 19) 2
theorem mV:FnScope ["self"] ["self"] (ak gj):=⟨rfl,rfl,rfl,by decide +kernel,rfl,by decide +kernel,by decide +kernel⟩
abbrev cF:Stmt:=aS (top 19) 3
theorem hU:FnScope ["self","width"] ["self","width"] (ak cF):=⟨rfl,rfl,rfl,by decide +kernel,rfl,by decide +kernel,by decide +kernel⟩
abbrev gt:Stmt:=top 20
theorem m8:FnScope ["thing"] ["thing"] (ak gt):=⟨rfl,rfl,rfl,by decide +kernel,rfl,by decide +kernel,by decide +kernel⟩
abbrev iJ:Stmt:=top 21
theorem oV:FnScope ["thing"] ["thing"] (ak iJ):=⟨rfl,rfl,rfl,by decide +kernel,rfl,by decide +kernel,by decide +kernel⟩
abbrev eG:Stmt:=top 22
theorem sc_corners_to:FnScope ["last","d","quotient","corners"] ["last","d"] (ak eG):=⟨rfl,rfl,rfl,by decide +kernel,rfl,by decide +kernel,by decide +kernel⟩
abbrev da:Stmt:=top 23
theorem sc_first_failing:FnScope ["last","holds","low","high","middle"] ["last","holds"] (ak da):=⟨rfl,rfl,rfl,by decide +kernel,rfl,by decide +kernel,by decide +kernel⟩
abbrev dX:Stmt:=top 26
theorem sc_need_prices:FnScope ["prices","table","word","price"] ["prices"] (ak dX):=⟨rfl,rfl,rfl,by decide +kernel,rfl,by decide +kernel,by decide +kernel⟩
abbrev jx:Stmt:=top 29
theorem qI:FnScope ["top","bottom"] ["top","bottom"] (ak jx):=⟨rfl,rfl,rfl,by decide +kernel,rfl,by decide +kernel,by decide +kernel⟩
abbrev eF:Stmt:=top 30
theorem sc_candidates:FnScope ["width","d","forms","length"] ["width","d"] (ak eF):=⟨rfl,rfl,rfl,by decide +kernel,rfl,by decide +kernel,by decide +kernel⟩
abbrev bM:Stmt:=top 31
theorem sc_scaled_candidates:FnScope ["width","d","forms","k","factor"] ["width","d"] (ak bM):=⟨rfl,rfl,rfl,by decide +kernel,rfl,by decide +kernel,by decide +kernel⟩
abbrev cg:Stmt:=top 32
theorem sc_early_candidates:FnScope ["width","d","twos"] ["width","d"] (ak cg):=⟨rfl,rfl,rfl,by decide +kernel,rfl,by decide +kernel,by decide +kernel⟩
abbrev cJ:Stmt:=top 33
theorem sc_more_candidates:FnScope ["width","d","forms","k","factor"] ["width","d"] (ak cJ):=⟨rfl,rfl,rfl,by decide +kernel,rfl,by decide +kernel,by decide +kernel⟩
abbrev eR:Stmt:=top 34
theorem sc_form_words:FnScope ["form","words","done"] ["form"] (ak eR):=⟨rfl,rfl,rfl,by decide +kernel,rfl,by decide +kernel,by decide +kernel⟩
abbrev dS:Stmt:=top 35
theorem sc_first_right:FnScope ["forms","wrong","refused","form","found"] ["forms","wrong"] (ak dS):=⟨rfl,rfl,rfl,by decide +kernel,rfl,by decide +kernel,by decide +kernel⟩
abbrev bC:Stmt:=top 37
theorem eo:FnScope ["width","d"] ["width","d"] (ak bC):=⟨rfl,rfl,rfl,by decide +kernel,rfl,by decide +kernel,by decide +kernel⟩
abbrev dD:Stmt:=top 38
theorem kj:FnScope ["x","d"] ["x","d"] (ak dD):=⟨rfl,rfl,rfl,by decide +kernel,rfl,by decide +kernel,by decide +kernel⟩
abbrev bT:Stmt:=aS (top 40) 0
theorem fW:FnScope ["self","factor","shift"] ["self","factor","shift"] (ak bT):=⟨rfl,rfl,rfl,by decide +kernel,rfl,by decide +kernel,by decide +kernel⟩
abbrev dj:Stmt:=aS (top 40) 1
theorem jk:FnScope ["self"] ["self"] (ak dj):=⟨rfl,rfl,rfl,by decide +kernel,rfl,by decide +kernel,by decide +kernel⟩
abbrev dE:Stmt:=aS (top 40) 2
theorem jE:FnScope ["self"] ["self"] (ak dE):=⟨rfl,rfl,rfl,by decide +kernel,rfl,by decide +kernel,by decide +kernel⟩
abbrev ck:Stmt:=aS (top 40) 3
theorem gc:FnScope ["self","width","x"] ["self","width","x"] (ak ck):=⟨rfl,rfl,rfl,by decide +kernel,rfl,by decide +kernel,by decide +kernel⟩
abbrev bU:Stmt:=aS (top 40) 4
theorem fU:FnScope ["self","width"] ["self","width"] (ak bU):=⟨rfl,rfl,rfl,by decide +kernel,rfl,by decide +kernel,by decide +kernel⟩
abbrev cm:Stmt:=aS (top 40) 5
theorem sc_Cutting_row_list:FnScope ["self","words"] ["self"] (ak cm):=⟨rfl,rfl,rfl,by decide +kernel,rfl,by decide +kernel,by decide +kernel⟩
abbrev cx:Stmt:=aS (top 41) 0
theorem g8:FnScope ["self","form"] ["self","form"] (ak cx):=⟨rfl,rfl,rfl,by decide +kernel,rfl,by decide +kernel,by decide +kernel⟩
abbrev dZ:Stmt:=aS (top 41) 1
theorem kB:FnScope ["self"] ["self"] (ak dZ):=⟨rfl,rfl,rfl,by decide +kernel,rfl,by decide +kernel,by decide +kernel⟩
abbrev d5:Stmt:=aS (top 41) 2
theorem kT:FnScope ["self"] ["self"] (ak d5):=⟨rfl,rfl,rfl,by decide +kernel,rfl,by decide +kernel,by decide +kernel⟩
abbrev cB:Stmt:=aS (top 41) 3
theorem h7:FnScope ["self","width","x"] ["self","width","x"] (ak cB):=⟨rfl,rfl,rfl,by decide +kernel,rfl,by decide +kernel,by decide +kernel⟩
abbrev cH:Stmt:=aS (top 41) 4
theorem ig:FnScope ["self","width"] ["self","width"] (ak cH):=⟨rfl,rfl,rfl,by decide +kernel,rfl,by decide +kernel,by decide +kernel⟩
abbrev cD:Stmt:=aS (top 41) 5
theorem g9:FnScope ["self"] ["self"] (ak cD):=⟨rfl,rfl,rfl,by decide +kernel,rfl,by decide +kernel,by decide +kernel⟩
abbrev bY:Stmt:=top 42
theorem gz:FnScope ["width","d","form"] ["width","d","form"] (ak bY):=⟨rfl,rfl,rfl,by decide +kernel,rfl,by decide +kernel,by decide +kernel⟩
abbrev bO:Stmt:=top 43
theorem sc_signed_corners_to:FnScope ["up","down","d","corners","multiple","below"] ["up","down","d"] (ak bO):=⟨rfl,rfl,rfl,by decide +kernel,rfl,by decide +kernel,by decide +kernel⟩
abbrev iF:Stmt:=top 44
theorem oO:FnScope ["width","d","form","counts"] ["width","d","form","counts"] (ak iF):=⟨rfl,rfl,rfl,by decide +kernel,rfl,by decide +kernel,by decide +kernel⟩
abbrev d7:Stmt:=top 45
theorem sc_right_about:FnScope ["width","d","form","far","up"] ["width","d","form","far"] (ak d7):=⟨rfl,rfl,rfl,by decide +kernel,rfl,by decide +kernel,by decide +kernel⟩
abbrev bV:Stmt:=top 46
theorem fT:FnScope ["width","d","form"] ["width","d","form"] (ak bV):=⟨rfl,rfl,rfl,by decide +kernel,rfl,by decide +kernel,by decide +kernel⟩
abbrev aV:Stmt:=top 47
theorem sc_signed_wrong:FnScope ["width","d","form","half","far"] ["width","d","form"] (ak aV):=⟨rfl,rfl,rfl,by decide +kernel,rfl,by decide +kernel,by decide +kernel⟩
abbrev bN:Stmt:=top 48
theorem sc_signed_candidates:FnScope ["width","d","forms","k","factor"] ["width","d"] (ak bN):=⟨rfl,rfl,rfl,by decide +kernel,rfl,by decide +kernel,by decide +kernel⟩
abbrev dz:Stmt:=top 49
theorem jM:FnScope ["form"] ["form"] (ak dz):=⟨rfl,rfl,rfl,by decide +kernel,rfl,by decide +kernel,by decide +kernel⟩
abbrev cC:Stmt:=top 50
theorem sc_price_of_signed:FnScope ["form","prices","table"] ["form","prices"] (ak cC):=⟨rfl,rfl,rfl,by decide +kernel,rfl,by decide +kernel,by decide +kernel⟩
abbrev aO:Stmt:=top 51
theorem sc_signed_choose:FnScope ["width","d","prices","forms","table","ordered"] ["width","d","prices"] (ak aO):=⟨rfl,rfl,rfl,by decide +kernel,rfl,by decide +kernel,by decide +kernel⟩
abbrev eI:Stmt:=top 53
theorem sc__law_start:FnScope ["_law_script","_law_k","_law_cell","_law_number"] ["_law_script","_law_k"] (ak eI):=⟨rfl,rfl,rfl,by decide +kernel,rfl,by decide +kernel,by decide +kernel⟩
abbrev fZ:Stmt:=top 54
theorem sc__law_draw:FnScope ["_law_state","_law_size","_law_number","_law_one","_law_two"] ["_law_state","_law_size"] (ak fZ):=⟨rfl,rfl,rfl,by decide +kernel,rfl,by decide +kernel,by decide +kernel⟩
abbrev fQ:Stmt:=top 55
theorem sc__law_twos:FnScope ["_law_d","_law_twos_here"] ["_law_d"] (ak fQ):=⟨rfl,rfl,rfl,by decide +kernel,rfl,by decide +kernel,by decide +kernel⟩
abbrev dr:Stmt:=top 56
theorem sc__law_divisor:FnScope ["_law_state","_law_width","_law_last","_law_kind","_law_half"] ["_law_state","_law_width"] (ak dr):=⟨rfl,rfl,rfl,by decide +kernel,rfl,by decide +kernel,by decide +kernel⟩
abbrev bF:Stmt:=top 57
theorem sc__law_signed_divisor:FnScope ["_law_state","_law_width","_law_half","_law_d"] ["_law_state","_law_width"] (ak bF):=⟨rfl,rfl,rfl,by decide +kernel,rfl,by decide +kernel,by decide +kernel⟩
abbrev eJ:Stmt:=top 58
theorem mM:FnScope ["_law_found"] ["_law_found"] (ak eJ):=⟨rfl,rfl,rfl,by decide +kernel,rfl,by decide +kernel,by decide +kernel⟩
abbrev dB:Stmt:=top 59
theorem sc__law_corners:FnScope ["_law_last","_law_d","_law_q","_law_found","_law_x"] ["_law_last","_law_d"] (ak dB):=⟨rfl,rfl,rfl,by decide +kernel,rfl,by decide +kernel,by decide +kernel⟩
abbrev dw:Stmt:=top 60
theorem sc__law_brought:FnScope ["_law_numbers_here","_law_x","_law_early","_law_factor","_law_addend","_law_total"] ["_law_numbers_here","_law_x"] (ak dw):=⟨rfl,rfl,rfl,by decide +kernel,rfl,by decide +kernel,by decide +kernel⟩
abbrev dq:Stmt:=top 62
theorem jB:FnScope ["_law_told","_law_width"] ["_law_told","_law_width"] (ak dq):=⟨rfl,rfl,rfl,by decide +kernel,rfl,by decide +kernel,by decide +kernel⟩
abbrev iP:Stmt:=top 63
theorem o5:FnScope ["_law_x","_law_d"] ["_law_x","_law_d"] (ak iP):=⟨rfl,rfl,rfl,by decide +kernel,rfl,by decide +kernel,by decide +kernel⟩
abbrev bz:Stmt:=top 64
theorem sc__law_signed_quotient:FnScope ["_law_told","_law_width","_law_x","_law_found"] ["_law_told","_law_width","_law_x"] (ak bz):=⟨rfl,rfl,rfl,by decide +kernel,rfl,by decide +kernel,by decide +kernel⟩
abbrev bE:Stmt:=top 65
theorem sc__law_signed_corners:FnScope ["_law_up_here","_law_down","_law_d","_law_found","_law_p","_law_x"] ["_law_up_here","_law_down","_law_d"] (ak bE):=⟨rfl,rfl,rfl,by decide +kernel,rfl,by decide +kernel,by decide +kernel⟩
abbrev cM:Stmt:=top 66
theorem sc__law_all_right:FnScope ["_law_told","_law_width","_law_d","_law_counts","_law_x"] ["_law_told","_law_width","_law_d","_law_counts"] (ak cM):=⟨rfl,rfl,rfl,by decide +kernel,rfl,by decide +kernel,by decide +kernel⟩
abbrev dm:Stmt:=top 67
theorem sc__law_nearest:FnScope ["_law_told","_law_width","_law_d","_law_count","_law_half","_law_up_here","_law_down"] ["_law_told","_law_width","_law_d","_law_count"] (ak dm):=⟨rfl,rfl,rfl,by decide +kernel,rfl,by decide +kernel,by decide +kernel⟩
abbrev jD:Stmt:=top 68
theorem qK:FnScope ["_law_top","_law_bottom"] ["_law_top","_law_bottom"] (ak jD):=⟨rfl,rfl,rfl,by decide +kernel,rfl,by decide +kernel,by decide +kernel⟩
abbrev iI:Stmt:=top 69
theorem sc__law_all:FnScope ["_law_width","_law_d","_law_words","_law_length","_law_t","_law_found","_law_k","_law_factor"] ["_law_width","_law_d"] (ak iI):=⟨rfl,rfl,rfl,by decide +kernel,rfl,by decide +kernel,by decide +kernel⟩
abbrev cG:Stmt:=top 70
theorem sc__law_all_signed:FnScope ["_law_width","_law_d","_law_found","_law_k","_law_factor","_law_told"] ["_law_width","_law_d"] (ak cG):=⟨rfl,rfl,rfl,by decide +kernel,rfl,by decide +kernel,by decide +kernel⟩
abbrev dC:Stmt:=top 71
theorem sc__law_made_of:FnScope ["_law_told","_law_shift","_law_words"] ["_law_told"] (ak dC):=⟨rfl,rfl,rfl,by decide +kernel,rfl,by decide +kernel,by decide +kernel⟩
abbrev bW:Stmt:=top 72
theorem gB:FnScope ["_law_told"] ["_law_told"] (ak bW):=⟨rfl,rfl,rfl,by decide +kernel,rfl,by decide +kernel,by decide +kernel⟩
abbrev cP:Stmt:=top 73
theorem iK:FnScope [] [] (ak cP):=⟨rfl,rfl,rfl,by decide +kernel,rfl,by decide +kernel,by decide +kernel⟩
abbrev d9:Stmt:=top 74
theorem sc__law_prices:FnScope ["_law_state","_law_kind","_law_words","_law_most","_law_table","_law_word"] ["_law_state"] (ak d9):=⟨rfl,rfl,rfl,by decide +kernel,rfl,by decide +kernel,by decide +kernel⟩
abbrev dU:Stmt:=top 75
theorem sc__law_ranked:FnScope ["_law_width","_law_d","_law_table","_law_rows","_law_told","_law_price","_law_word"] ["_law_width","_law_d","_law_table"] (ak dU):=⟨rfl,rfl,rfl,by decide +kernel,rfl,by decide +kernel,by decide +kernel⟩
abbrev cI:Stmt:=top 76
theorem sc__law_told_right:FnScope ["_law_width","_law_d","_law_ranked_here","_law_found","_law_ahead","_law_pair","_law_told"] ["_law_width","_law_d","_law_ranked_here","_law_found"] (ak cI):=⟨rfl,rfl,rfl,by decide +kernel,rfl,by decide +kernel,by decide +kernel⟩
abbrev gs:Stmt:=top 77
theorem sc__law_case:FnScope ["_law_state","_law_width","_law_d","_law_table","_law_kept","_law_ranked_here","_law_found"] ["_law_state"] (ak gs):=⟨rfl,rfl,rfl,by decide +kernel,rfl,by decide +kernel,by decide +kernel⟩
abbrev ma:Stmt:=top 78
theorem sc_law:FnScope ["_law_script","_law_k"] ["_law_script"] (ak ma):=⟨rfl,rfl,rfl,by decide +kernel,rfl,by decide +kernel,by decide +kernel⟩
structure Ad where
 Form:Addr
 Shifted:Addr
 Scaled:Addr
 Early:Addr
 More:Addr
 Wide:Addr
 Cutting:Addr
 Turned:Addr
 SignedForm:Addr
 ROW_WORDS:Addr
 ROWS_AHEAD:Addr
structure Txt (K:Frag) (mg:Str->Option Value) (c:Ad):Prop where
 n_isinstance:mg "isinstance"=none
 n_int:mg "int"=none
 n_bool:mg "bool"=none
 n_list:mg "list"=none
 n_tuple:mg "tuple"=none
 n_dict:mg "dict"=none
 n_len:mg "len"=none
 n_max:mg "max"=none
 n_min:mg "min"=none
 n_range:mg "range"=none
 n_sorted:mg "sorted"=none
 n_set:mg "set"=none
 n_all:mg "all"=none
 n_sum:mg "sum"=none
 n_zip:mg "zip"=none
 n_abs:mg "abs"=none
 g_Form:mg "Form"=some (.ref c.Form)
 cl_Form:Cls K c.Form
 g_Shifted:mg "Shifted"=some (.ref c.Shifted)
 cl_Shifted:Cls K c.Shifted
 na_Shifted_shift:NoAttr K c.Shifted "shift"
 g_Scaled:mg "Scaled"=some (.ref c.Scaled)
 cl_Scaled:Cls K c.Scaled
 na_Scaled_factor:NoAttr K c.Scaled "factor"
 na_Scaled_shift:NoAttr K c.Scaled "shift"
 g_Early:mg "Early"=some (.ref c.Early)
 cl_Early:Cls K c.Early
 na_Early_early:NoAttr K c.Early "early"
 na_Early_factor:NoAttr K c.Early "factor"
 na_Early_shift:NoAttr K c.Early "shift"
 g_More:mg "More"=some (.ref c.More)
 cl_More:Cls K c.More
 na_More_factor:NoAttr K c.More "factor"
 na_More_shift:NoAttr K c.More "shift"
 g_Wide:mg "Wide"=some (.ref c.Wide)
 cl_Wide:Cls K c.Wide
 na_Wide_factor:NoAttr K c.Wide "factor"
 na_Wide_shift:NoAttr K c.Wide "shift"
 g_Cutting:mg "Cutting"=some (.ref c.Cutting)
 cl_Cutting:Cls K c.Cutting
 na_Cutting_factor:NoAttr K c.Cutting "factor"
 na_Cutting_shift:NoAttr K c.Cutting "shift"
 g_Turned:mg "Turned"=some (.ref c.Turned)
 cl_Turned:Cls K c.Turned
 na_Turned_form:NoAttr K c.Turned "form"
 g_SignedForm:mg "SignedForm"=some (.ref c.SignedForm)
 cl_SignedForm:Cls K c.SignedForm
 g_ROW_WORDS:mg "ROW_WORDS"=some (.ref c.ROW_WORDS)
 q_ROW_WORDS:∀ H,SqT K H c.ROW_WORDS [.str "set",.str "copy",.str "sum",.str "gap",.str "low",.str "high",.str "left",.str "right",.str "slide",.str "and",.str "or",.str "unlike",.str "under",.str "pick",.str "mark",.str "turns"]
 g_ROWS_AHEAD:mg "ROWS_AHEAD"=some (.ref c.ROWS_AHEAD)
 kf_kc:isClsIn K c.Form=true
 kf_kt:typeIn K (.ref c.Form)=some (.type "type")
 kf_og:PySem.W.specialIn K (.builtin "object.__class__") "__get__"=some (some (.builtin "getset_descriptor.__get__"))
 kf_ot:PySem.W.takesIn K (.builtin "object.__class__")=some true
 kf_dc_Shifted:findIn K (.ref c.Shifted) "__class__"=some (some (.builtin "object.__class__"))
 kf_dc_Scaled:findIn K (.ref c.Scaled) "__class__"=some (some (.builtin "object.__class__"))
 kf_dc_Early:findIn K (.ref c.Early) "__class__"=some (some (.builtin "object.__class__"))
 kf_dc_More:findIn K (.ref c.More) "__class__"=some (some (.builtin "object.__class__"))
 kf_dc_Wide:findIn K (.ref c.Wide) "__class__"=some (some (.builtin "object.__class__"))
 kf_mo_Shifted:mroIn K c.Shifted (.type "object")=some true
 kf_mo_Scaled:mroIn K c.Scaled (.type "object")=some true
 kf_mo_Early:mroIn K c.Early (.type "object")=some true
 kf_mo_More:mroIn K c.More (.type "object")=some true
 kf_mo_Wide:mroIn K c.Wide (.type "object")=some true
 kf_ik_Shifted:mroIn K c.Shifted (.ref c.Form)=some true
 kf_ik_Scaled:mroIn K c.Scaled (.ref c.Form)=some true
 kf_ik_Early:mroIn K c.Early (.ref c.Form)=some true
 kf_ik_More:mroIn K c.More (.ref c.Form)=some true
 kf_ik_Wide:mroIn K c.Wide (.ref c.Form)=some true
 kf_dc_Cutting:findIn K (.ref c.Cutting) "__class__"=some (some (.builtin "object.__class__"))
 kf_mo_Cutting:mroIn K c.Cutting (.type "object")=some true
 kf_m_Cutting_SignedForm:mroIn K c.Cutting (.ref c.SignedForm)=some true
 kf_dc_Turned:findIn K (.ref c.Turned) "__class__"=some (some (.builtin "object.__class__"))
 kf_mo_Turned:mroIn K c.Turned (.type "object")=some true
 kf_m_Turned_SignedForm:mroIn K c.Turned (.ref c.SignedForm)=some true
 kf_kc_SignedForm:isClsIn K c.SignedForm=true
 kf_kt_SignedForm:typeIn K (.ref c.SignedForm)=some (.type "type")
theorem nR {a b:Nat}(h:a<=b):(2:Int)^a∣2^b:=by
 have e:b=a+(b-a):=by lia
 rw[e,pow_add]
 exact Int.dvd_mul_right _ _
def Tw (d t:Int):Prop:=0<=t/\d=d/2^t.toNat*2^t.toNat/\d/2^t.toNat%2=1
theorem ic {d t u:Int}(h:Tw d t) (k:Tw d u):t=u:=by
 have key:∀ {a b:Int},Tw d a->Tw d b->a<b->False:=by
  intro a b ha hb hlt
  obtain⟨a0,a1,a2⟩:=ha
  obtain⟨b0,b1,b2⟩:=hb
  have e:b.toNat=a.toNat+((b.toNat-a.toNat-1)+1):=by lia
  have p:=fB a.toNat
  have e2:(2:Int)^b.toNat=2^a.toNat*(2^(b.toNat-a.toNat-1)*2):=by
   conv=>lhs; rw[e]
   rw[pow_add,pow_succ]
  generalize d/2^b.toNat=f at b1 b2
  have e3:d/2^a.toNat=f*2^(b.toNat-a.toNat-1)*2:=by
   rw[b1,e2,mul_left_comm,Int.mul_ediv_cancel_left _ (Int.ne_of_gt p),Int.mul_assoc]
  lia
 rcases Int.lt_trichotomy t u with c | c | c
 ·exact(key h k c).elim
 ·exact c
 ·exact(key k h c).elim
theorem tM {d t:Int}(t0:0<=t) {D:Int}(hd:D=d*2^t.toNat) (he:d%2=0):D=d/2*2^(t+1).toNat:=by
 have e:(t+1).toNat=t.toNat+1:=by lia
 rw[e,pow_succ,hd]
 have:d=d/2*2:=by lia
 conv=>lhs; rw[this]
 rw[Int.mul_assoc,Int.mul_comm 2]
theorem sj {d t D:Int}(t0:0<=t) (hd:D=d*2^t.toNat) (he:¬ (d%2=0)):Tw D t:=by
 have p:=fB t.toNat
 have e:D/2^t.toNat=d:=by rw[hd]; exact Int.mul_ediv_cancel _ (Int.ne_of_gt p)
 refine⟨t0,?_,?_⟩
 ·rw[e]; exact hd
 ·rw[e]; lia
theorem aX {w:Int}(h1:4<=w) (h2:w<=32):16<=(2:Int)^w.toNat/\(2:Int)^w.toNat<=4294967296:=by
 have a:(2:Int)^4<=2^w.toNat:=fF (by lia)
 have b:(2:Int)^w.toNat<=2^32:=fF (by lia)
 exact⟨a,b⟩
theorem bK {m:Int}(h0:0<m) (h:m<2^80):m.natAbs.log2<9000:=by
 have h1:m.natAbs≠0:=by lia
 have h2:m.natAbs<2^80:=by lia
 have:=(Nat.log2_lt h1).mpr h2
 lia
theorem hX {w:Int}(h1:0<=w) (h2:w<=100000):CPow 1 w:=⟨h1,by lia,by decide⟩
theorem sW {x y:Int}(h0:0<=x) (h:x<2^64):CMul x y:=.inl ⟨by lia,h⟩
theorem sz2:(2:Nat)<=sizeLine:=by decide
def Bx (H:Hp) (p:Addr):Prop:=∃ r s:Int,H p=some (.lst [.int r,.int s])
theorem Bx.same {H H':Hp}{p:Addr}(b:Bx H p) (s:Same H H'):Bx H' p:=by
 obtain⟨r,s',h⟩:=b
 exact⟨r,s',s _ _ h⟩
def iH:Sp:=fun vs H Q _=>∃ i:Int,vs=[.int i]/\Q (.bl true) H
def cj:Sp:=fun vs H Q _=>∃ i lo hi:Int,vs=[.int i,.int lo,.int hi]/\lo<=i/\i<=hi/\Q (.bl true) H
def cV:Sp:=fun vs H Q _=>∃ i:Int,vs=[.int i]/\4<=i/\i<=32/\Q .non H
def pJ:Sp:=fun vs H Q _=>∃ w d:Int,vs=[.int w,.int d]/\4<=w/\w<=32/\1<=d/\d<2^w.toNat/\Q .non H
def oM (K:Frag):Sp:=fun vs H Q _=>∃ (a:Addr) (ns:List Int) (k:Int),vs=[.ref a,.int k]/\SqL K H a (ns.map V.int)/\0<=k/\k<=1000/\∀ p H',H p=none->Bx H' p->Same H H'->Q (.ref p) H'
def lE:Sp:=fun vs H Q _=>∃ (p:Addr) (m:Int),vs=[.ref p,.int m]/\Bx H p/\0<m/\m<2^80/\∀ (d:Int) H',0<=d->d<m->Bx H' p->SameX p H H'->Q (.int d) H'
def spDiv:Sp:=fun vs H Q _=>∃ (p:Addr) (w:Int),vs=[.ref p,.int w]/\Bx H p/\4<=w/\w<=32/\∀ (d:Int) H',1<=d->d<2^w.toNat->Bx H' p->SameX p H H'->Q (.int d) H'
def lenOf:Option HO->Nat
 | some (.lst ys)=>ys.length
 | _=>0
def jr:Sp:=fun vs H Q _=>∃ d:Int,vs=[.int d]/\1<=d/\∀ t:Int,Tw d t->Q (.int t) H
theorem tw_div {d t:Int}(d1:1<=d) (h:Tw d t):1<=d/2^t.toNat/\d/2^t.toNat<=d:=by
 obtain⟨t0,t1,t2⟩:=h
 have a:=ediv_nonneg (show 0<=d by lia) (Int.le_of_lt (fB t.toNat))
 have b:=Int.ediv_le_self (2^t.toNat) (show 0<=d by lia)
 lia
theorem eqV_int (i:Int):eqV (V.int i) (V.int i)=true:=by show (i == i)=true; exact beq_self_eq_true i
def CorM (last d x:Int):Prop:=x=0\/x=(if d-1<last then d-1 else last)\/x=last/d*d\/x=last\/(last/d≠0/\x=last/d*d-1)
def Cor (last d:Int) (zs:List Int):Prop:=zs.Pairwise (·<·)/\∀ x,x∈zs ↔ CorM last d x
noncomputable def brt (e f a t x:Int):Int:=(f*(x/2^e.toNat)+a)/2^t.toNat
theorem dv {n T k:Int}(hT:0<T):n/T=k ↔ k*T<=n/\n<k*T+T:=by
 constructor
 ·rintro rfl
  have h1:=Int.mul_ediv_add_emod n T
  have h2:=Int.emod_nonneg n (Int.ne_of_gt hT)
  have h3:=Int.emod_lt_of_pos n hT
  rw[Int.mul_comm] at h1
  lia
 ·rintro ⟨h1,h2⟩
  refine Int.le_antisymm ?_ ?_
  ·exact Int.le_of_lt_add_one (Int.ediv_lt_of_lt_mul hT (by rw[Int.add_mul,one_mul]; exact h2))
  ·exact Int.le_ediv_of_mul_le hT h1
theorem line {m c k q:Int}(h0:0<=k) (h1:k<=q) (a:0<=c) (b:0<=c+q*m):0<=c+k*m:=by
 by_cases hm:0<=m
 ·have:=mul_nonneg h0 hm
  lia
 ·have:q*m<=k*m:=Int.mul_le_mul_of_nonpos_right h1 (by lia)
  lia
theorem eO {last d e f a t:Int}(l0:0<=last) (d1:1<=d) (f0:0<=f) (a0:0<=a) (he:(2:Int)^e.toNat∣d)
  (h:∀ x,CorM last d x->brt e f a t x=x/d):∀ x,0<=x->x<=last->brt e f a t x=x/d:=by
 obtain⟨D,rfl⟩:=he
 have T0:0<(2:Int)^t.toNat:=pow_pos (by decide)
 have E0:0<(2:Int)^e.toNat:=pow_pos (by decide)
 unfold brt at h ⊢
 generalize (2:Int)^t.toNat=T at *
 generalize (2:Int)^e.toNat=E at *
 have D0:0<D:=Int.pos_of_mul_pos_right (show 0<E*D by lia) E0
 have dd:∀ x:Int,x/(E*D)=x/E/D:=fun x=>(Int.ediv_ediv_of_nonneg (Int.le_of_lt E0)).symm
 have at_:∀ x,CorM last (E*D) x->∀ y,x/E=y->∀ k,y/D=k->k*T<=f*y+a/\f*y+a<k*T+T:=fun x hx y hy k hk=>by
  have z:=h x hx
  rw[dd,hy,hk] at z
  exact(dv T0).mp z
 intro x x0 x1
 rw[dd]
 refine(dv T0).mpr ?_
 have hq:last/(E*D)=last/E/D:=dd last
 have q0:0<=last/(E*D):=ediv_nonneg l0 (by lia)
 have hk0:0<=x/E/D:=ediv_nonneg (ediv_nonneg x0 (by lia)) (by lia)
 have hkq:x/E/D<=last/(E*D):=by
  rw[hq]
  exact Int.ediv_le_ediv D0 (Int.ediv_le_ediv E0 x1)
 have ylast:x/E<=last/E:=Int.ediv_le_ediv E0 x1
 generalize hQ:last/(E*D)=q at *
 generalize hK:x/E/D=k at *
 generalize hY:x/E=y at *
 have yk:=(dv D0).mp hK
 have c1:(q*(E*D))/E=q*D:=by
  rw[mul_left_comm]
  exact Int.mul_ediv_cancel_left _ (Int.ne_of_gt E0)
 have c2:q*D/D=q:=Int.mul_ediv_cancel _ (Int.ne_of_gt D0)
 have k1:=at_ (q*(E*D)) (by unfold CorM; rw[hQ]; exact .inr (.inr (.inl rfl))) _ c1 _ c2
 have k0:=at_ 0 (.inl rfl) 0 (Int.zero_ediv _) 0 (Int.zero_ediv _)
 have kl:=at_ last (.inr (.inr (.inr (.inl rfl)))) _ rfl q (by rw[<- hq])
 have fD:∀ z:Int,f*(z*D)=z*(f*D):=fun z=>by rw[mul_left_comm]
 constructor
 ·-- from below
  have l1:=line (m:=f*D-T) (c:=a) hk0 hkq (by lia) (by
   have z:=k1.1
   rw[fD] at z
   rw[mul_sub]
   lia)
  rw[mul_sub,<- fD] at l1
  have mono:f*(k*D)<=f*y:=mul_le_mul_of_nonneg_left yk.1 f0
  lia
 ·-- from above
  by_cases hkk:k=q
  ·subst hkk
   have mono:f*y<=f*(last/E):=mul_le_mul_of_nonneg_left ylast f0
   lia
  ·have qpos:1<=q:=by lia
   have lastd:E*D<=last:=by
    have z:=(dv (show 0<E*D by lia)).mp hQ
    have:1*(E*D)<=q*(E*D):=Int.mul_le_mul_of_nonneg_right qpos (by lia)
    lia
   have c3:∀ z:Int,(z*(E*D)-1)/E=z*D-1:=fun z=>by
    refine(dv E0).mpr ?_
    have e1:z*(E*D)=z*D*E:=by rw[Int.mul_comm E D,Int.mul_assoc]
    rw[e1,sub_mul,one_mul]
    lia
   have c4:∀ z:Int,(z*D-1)/D=z-1:=fun z=>by
    refine(dv D0).mpr ?_
    rw[sub_mul,one_mul]
    lia
   have u0:=at_ (1*(E*D)-1) (.inr (.inl (by rw[one_mul,if_pos (by lia)]))) _ (c3 1) _ (c4 1)
   have uq:=at_ (q*(E*D)-1) (by unfold CorM; rw[hQ]; exact .inr (.inr (.inr (.inr ⟨by lia,rfl⟩)))) _ (c3 q) _ (c4 q)
   have v0:=u0.2
   have vq:=uq.2
   rw[mul_sub,fD,mul_one] at v0 vq
   have l2:=line (m:=T-f*D) (c:=T-f*D+f-a-1) (k:=k) (q:=q-1) hk0 (by lia) (by lia) (by
    rw[mul_sub,sub_mul,sub_mul,one_mul,one_mul]
    rw[sub_mul,one_mul] at vq
    lia)
   rw[mul_sub] at l2
   have mono:f*y<=f*(k*D+D-1):=mul_le_mul_of_nonneg_left (by lia) f0
   have e3:f*(k*D+D-1)=k*(f*D)+f*D-f:=by rw[mul_sub,Int.mul_add,fD,mul_one]
   lia
theorem lc {x:Int}(h1:-(2^200)<x) (h2:x<2^200):intBits x<=100000:=Nat.le_trans (intBits_le_iff.mpr (show x.natAbs<2^200 by lia)) (by decide)
theorem pY {x:Int}{fs:List Int}:inV (V.int x) (fs.map V.int)=decide (x∈fs):=by
 unfold inV
 rw[Bool.eq_iff_iff,decide_eq_true_iff,List.any_eq_true]
 constructor
 ·rintro ⟨y,hy,e⟩
  obtain⟨z,hz,rfl⟩:=List.mem_map.mp hy
  have:z=x:=beq_iff_eq.mp (show (z == x)=true from e)
  exact this ▸ hz
 ·intro h
  exact⟨V.int x,List.mem_map.mpr ⟨x,h,rfl⟩,eqV_int x⟩
theorem qj (fs:List Int):(fs.map V.int).all dG=true:=by
 rw[List.all_eq_true]
 intro x hx
 obtain⟨z,_,rfl⟩:=List.mem_map.mp hx
 rfl
def dJ:Sp:=fun vs H Q _=>∃ last d:Int,vs=[.int last,.int d]/\0<=last/\last<=18446744073709551616/\1<=d/\d<=18446744073709551616/\∀ (p:Addr) (zs:List Int) H',H p=none->H' p=some (.lst (zs.map V.int))->Same H H'->Cor last d zs->zs.length<=5->Q (.ref p) H'
theorem pw_of {zs:List Int}{fs:List Int}(pw:zs.Pairwise (·<=·)) (pm:zs.Perm fs) (nd:fs.Nodup):zs.Pairwise (·<·):=strict pw (pm.nodup_iff.mpr nd)
theorem ja {last d:Int}(l0:0<=last) (l1:last<=18446744073709551616) (d1:1<=d):0<=last/d/\last/d<=last/\0<=last/d*d/\last/d*d<=last/\(last/d≠0->1<=last/d*d):=by
 have h0:=ediv_nonneg l0 (show 0<=d by lia)
 have h1:=Int.ediv_le_self d l0
 have h2:=mul_nonneg h0 (show 0<=d by lia)
 have h3:=ediv_mul_le last (show d≠0 by lia)
 refine⟨h0,h1,h2,h3,fun hz=>?_⟩
 have:=mul_le_mul (show 1<=last/d by lia) d1 (by decide) h0
 lia
theorem len5 {zs ns:List Int}(pw:zs.Pairwise (·<·)) (mz:∀ x,x∈zs ↔ x∈ns) (len:ns.length<=5):zs.length<=5:=by
 have nd:zs.Nodup:=pw.imp fun h=>Int.ne_of_lt h
 exact Nat.le_trans (List.Nodup.length_le_of_subset nd fun x hx=>(mz x).mp hx) len
theorem mL {d t:Int}(d1:1<=d) (d2:d<=18446744073709551616) (h:Tw d t):t<=64:=by
 obtain⟨t0,t1,t2⟩:=h
 refine Classical.byContradiction fun z=>?_
 have a:(2:Int)^65<=2^t.toNat:=fF (by lia)
 have b:d/2^t.toNat=0:=Int.ediv_eq_zero_of_lt (by lia) (by lia)
 lia
theorem tw_dvd {d t y:Int}(h:Tw d t) (y0:0<=y) (hy:y<=t):(2:Int)^y.toNat∣d:=by
 obtain⟨t0,t1,t2⟩:=h
 have e:t.toNat=y.toNat+(t.toNat-y.toNat):=by lia
 refine⟨d/2^t.toNat*2^(t.toNat-y.toNat),?_⟩
 conv=>lhs; rw[t1]
 rw[mul_left_comm]
 congr 1
 conv=>lhs; rw[e]
 exact pow_add ..
theorem upd_upd {H:Hp}{l:Addr}{a b:HO}:upd (upd H l a) l b=upd H l b:=by
 funext c
 by_cases h:c=l
 ·rw[h,ae,ae]
 ·rw[au h,au h,au h]
theorem cY {x dx C:Addr}{H H':Hp}(hx:H x=none) (hd:H dx=none) (s:SameX x (upd (upd H dx (.own x)) x (.ins C dx [])) H'):Same H H':=fun b o h=>s b o (aE h hx) (by rw[au (aE h hx),au (aE h hd)]; exact h)
theorem CorM.range {last d x:Int}(l0:0<=last) (d1:1<=d) (h:CorM last d x):0<=x/\x<=last:=by
 have h0:=ediv_nonneg l0 (show 0<=d by lia)
 have h2:=mul_nonneg h0 (show 0<=d by lia)
 have h3:=ediv_mul_le last (show d≠0 by lia)
 rcases h with e | e | e | e | ⟨hz,e⟩
 ·lia
 ·rw[e]; split <;> lia
 ·lia
 ·lia
 ·have:=mul_le_mul (show 1<=last/d by lia) d1 (by decide) h0
  lia
theorem iteC {c A B:Prop} [Decidable c] (h1:c->A) (h2:¬ c->B):if decide c=true then A else B:=by
 by_cases h:c
 ·exact jd h (h1 h)
 ·exact bB h (h2 h)
theorem iteCN {c A B:Prop} [Decidable c] (h1:¬ c->A) (h2:c->B):if (!decide c)=true then A else B:=by
 by_cases h:c
 ·exact mw h (h2 h)
 ·exact iteN h (h1 h)
theorem iteI {a b:Int}{A B:Prop}(h1:a=b->A) (h2:a≠b->B):if decide (V.int a=V.int b)=true then A else B:=iteC (fun z=>h1 (by injection z)) (fun z=>h2 (fun e=>z (congrArg V.int e)))
theorem iteIN {a b:Int}{A B:Prop}(h1:a≠b->A) (h2:a=b->B):if (!decide (V.int a=V.int b))=true then A else B:=iteCN (fun z=>h1 (fun e=>z (congrArg V.int e))) (fun z=>h2 (by injection z))
local macro_rules | `(tactic| walk_at "s")=>`(tactic| first
 | lia | assumption | exact jS | exact rfl | (dsimp only; lia) | exact hX (by lia) (by lia) | exact⟨by decide,by decide⟩ | exact⟨by lia,bK (by lia) (by lia)⟩
 | exact .inr ⟨by decide,by decide⟩ | exact .inl ⟨by decide,by decide⟩ | exact .inl ⟨by lia,by lia⟩ | exact .inr ⟨by lia,by lia⟩ | exact⟨lc (by lia) (by lia),lc (by lia) (by lia)⟩
 | exact⟨by decide,by decide,by decide⟩ | exact Nat.le_of_ble_eq_true rfl)
local macro_rules | `(tactic| walk_at "q")=>`(tactic| first | exact SqT.of (by first | assumption | exact ae) | exact SqL.of (by first | assumption | exact ae) | assumption)
local macro_rules | `(tactic| walk_at "o")=>`(tactic| repeat (first
 | refine⟨_,rfl,?_⟩ | refine⟨_,_,rfl,rfl,?_⟩ | with_reducible refine db ?_ | with_reducible refine iteT ?_
 | refine⟨_,_,_,_,rfl,rfl,(by walk_at "q"),rfl,?_⟩
 | refine And.intro (by walk_at "s") ?_
 | refine⟨_,_,rfl,?_⟩ | refine⟨_,_,_,rfl,?_⟩
 | refine⟨_,_,_,_,_,rfl,rfl,TyOf.int _,gi _,?_⟩ | refine⟨_,_,_,_,_,rfl,rfl,TyOf.int _,eU _,?_⟩
 | refine⟨_,_,_,_,_,rfl,rfl,TyOf.bl _,rfl,?_⟩
 | refine⟨_,_,_,_,_,rfl,rfl,TyOf.tup (by assumption),rfl,?_⟩
 | refine⟨_,_,rfl,.inr (SqT.of (by assumption)),?_⟩ | refine⟨_,_,rfl,.inl (SqL.of (by assumption)),?_⟩
 | with_reducible refine jd (by lia) ?_ | with_reducible refine bB (by lia) ?_ | with_reducible refine iteN (by lia) ?_ | with_reducible refine mw (by lia) ?_
 | with_reducible refine mw rfl ?_))
local macro_rules | `(tactic| walk_at "c")=>`(tactic| first | with_reducible refine iteI ?_ ?_ | with_reducible refine iteIN ?_ ?_ | with_reducible refine iteC ?_ ?_ | with_reducible refine iteCN ?_ ?_ | refine ite2 ?_ ?_)
local macro_rules | `(tactic| walk_at "n")=>`(tactic| (intro z; injection z with z; revert z; decide +kernel))
theorem sz4:(4:Nat)<=sizeLine:=by decide
def AllG (e f a t d n:Int):Prop:=∀ x,0<=x->x<=n->brt e f a t x=x/d
theorem xdiv {x:Int}(x0:0<=x) (e:Int):0<=x/2^e.toNat/\x/2^e.toNat<=x:=⟨ediv_nonneg x0 (Int.le_of_lt (fB _)),Int.ediv_le_self _ x0⟩
theorem tw_le {d t e:Int}(h:Tw d t) (he:(2:Int)^e.toNat∣d) (e0:0<=e):e<=t:=by
 refine Classical.byContradiction fun z=>?_
 obtain⟨t0,hd,ho⟩:=h
 have a:(2:Int)^(t.toNat+1)∣2^e.toNat:=nR (by lia)
 obtain⟨k,hk⟩:=Int.dvd_trans a he
 have hp:=fB t.toNat
 have e2:d/2^t.toNat=2*k:=by rw[hk,pow_succ,Int.mul_assoc,Int.mul_ediv_cancel_left _ (by lia)]
 lia
def RG (e f a t:Int):Prop:=0<=e/\e<=64/\0<=f/\f<=1180591620717411303424/\0<=a/\a<=1180591620717411303424/\0<=t/\t<=130
def IsG (H:Hp) (r:Addr) (e f a t:Int):Prop:=H r=some (.tup [.int e,.int f,.int a,.int t])
noncomputable def fOf (c:Ad):Nat->Addr
 | 0=>c.Shifted
 | 1=>c.Scaled
 | 2=>c.Early
 | 3=>c.More
 | _=>c.Wide
noncomputable def tN:Nat->Int->Int->Int->List (Str×V)
 | 0,_,_,s=>[("shift",.int s)]
 | 2,e,f,s=>[("early",.int e),("factor",.int f),("shift",.int s)]
 | _,_,f,s=>[("factor",.int f),("shift",.int s)]
def FO (c:Ad) (H:Hp) (x:Addr) (kd:Nat) (e f s:Int):Prop:=∃ dx,H x=some (.ins (fOf c kd) dx (tN kd e f s))
structure Fm (kd:Nat) (e f s:Int):Prop where
 k:kd<5
 ea:0<=e
 eb:e<=64
 e0:kd≠2->e=0
 fa:0<=f
 fb:f<=4294967295
 sa:0<=s
 sb:s<=64
 s1:kd=4->1<=s
noncomputable def nF:Nat->Int->Int->Int
 | 0,_,_=>1
 | 4,w,f=>1*2^w.toNat+f
 | _,_,f=>f
def nA:Nat->Int->Int
 | 3,f=>f
 | _,_=>0
def nT:Nat->Int->Int->Int
 | 0,_,s=>s
 | _,w,s=>w+s
theorem Fm.rg {kd:Nat}{e f s w:Int}(h:Fm kd e f s) (h1:4<=w) (h2:w<=32):RG e (nF kd w f) (nA kd f) (nT kd w s):=by
 obtain⟨k,ea,eb,e0,fa,fb,sa,sb,s1⟩:=h
 have pb:=aX h1 h2
 rcases(by lia:kd=0\/kd=1\/kd=2\/kd=3\/kd=4) with rfl | rfl | rfl | rfl | rfl <;> refine⟨ea,eb,?_⟩ <;> simp only[nF,nA,nT] <;> lia
noncomputable def tlv:Nat->Int->Int->Int->List V
 | 0,_,_,s=>[.str "shifted",.int s]
 | 1,_,f,s=>[.str "scaled",.int f,.int s]
 | 2,e,f,s=>[.str "early",.int e,.int f,.int s]
 | 3,_,f,s=>[.str "more",.int f,.int s]
 | _,_,f,s=>[.str "wide",.int f,.int s]
theorem fl_num {kd:Nat}{e f s:Int}:(tN kd e f s).lookup ("numbers_in":Str)=none:=by
 unfold tN
 split <;> rfl
def ld:Sp:=fun vs H Q _=>∃ (r:Addr) (e f a t x:Int),vs=[.ref r,.int x]/\IsG H r e f a t/\RG e f a t/\0<=x/\x<=18446744073709551616/\Q (.int (brt e f a t x)) H
def pq:Sp:=fun vs H Q _=>∃ i:Int,vs=[.int i]/\0<=i/\i<=4294967295/\Q (.bl true) H
def oG:Sp:=fun vs H Q _=>∃ i:Int,vs=[.int i]/\0<=i/\i<=64/\Q (.bl true) H
def spI0 (c:Ad):Sp:=fun vs H Q _=>∃ (x dx:Addr) (s:Int),vs=[.ref x,.int s]/\H x=some (.ins (fOf c 0) dx [])/\0<=s/\s<=64/\∀ H',SameX x H H'->FO c H' x 0 0 0 s->Q .non H'
def spI2 (c:Ad) (kd:Nat) (lo:Int):Sp:=fun vs H Q _=>∃ (x dx:Addr) (f s:Int),vs=[.ref x,.int f,.int s]/\H x=some (.ins (fOf c kd) dx [])/\0<=f/\f<=4294967295/\lo<=s/\s<=64/\∀ H',SameX x H H'->FO c H' x kd 0 f s->Q .non H'
def spI3 (c:Ad):Sp:=fun vs H Q _=>∃ (x dx:Addr) (e f s:Int),vs=[.ref x,.int e,.int f,.int s]/\H x=some (.ins (fOf c 2) dx [])/\0<=e/\e<=64/\0<=f/\f<=4294967295/\0<=s/\s<=64/\∀ H',SameX x H H'->FO c H' x 2 e f s->Q .non H'
def dH (c:Ad) (kd:Nat):Sp:=fun vs H Q _=>∃ (x:Addr) (w e f s:Int),vs=[.ref x,.int w]/\FO c H x kd e f s/\Fm kd e f s/\4<=w/\w<=32/\∀ r H',H r=none->IsG H' r e (nF kd w f) (nA kd f) (nT kd w s)->Same H H'->Q (.ref r) H'
def sk:Sp:=fun vs H Q _=>∃ (r:Addr) (w:Int) (kd:Nat) (e f s:Int),vs=[.ref r,.int w]/\H r=some (.tup (tlv kd e f s))/\Fm kd e f s/\4<=w/\w<=32/\∀ p H',H p=none->IsG H' p e (nF kd w f) (nA kd f) (nT kd w s)->Same H H'->Q (.ref p) H'
theorem pow32:(2^(32:Int).toNat:Int)=4294967296:=by decide
theorem frX {p t:Addr}{H H':Hp}(hb:Bx H' p) (x:SameX p H H') (ht:H' t=none):H t=none:=by
 obtain⟨r1,r2,hb⟩:=hb
 cases e:H t with
 | none=>rfl
 | some o =>
  have:=x t o (fun z=>by rw[z,hb] at ht; cases ht) e
  rw[ht] at this
  cases this
theorem rJ {n T:Int}(hT:0<T):-n/T=-((n-1)/T)-1:=by
 obtain⟨a,b⟩:=(dv (n:=n-1) hT (k:=(n-1)/T)).mp rfl
 refine(dv hT).mpr ⟨?_,?_⟩
 ·rw[sub_mul,Int.neg_mul,one_mul]; lia
 ·rw[sub_mul,Int.neg_mul,one_mul]; lia
theorem oH {last d f t:Int}(l1:1<=last) (d1:1<=d) (h:∀ y,1<=y->CorM last d y->(f*y-1)/2^t.toNat=y/d):∀ y,1<=y->y<=last->(f*y-1)/2^t.toNat=y/d:=by
 have T0:0<(2:Int)^t.toNat:=pow_pos (by decide)
 generalize (2:Int)^t.toNat=T at *
 intro y y1 yl
 have q0:0<=last/d:=ediv_nonneg (by lia) (by lia)
 obtain⟨L1,L2⟩:=(dv T0).mp (h last l1 (.inr (.inr (.inr (.inl rfl)))))
 have f1:1<=f:=by
  refine Classical.byContradiction fun z=>?_
  have:f*last<=0:=Int.mul_nonpos_of_nonpos_of_nonneg (by lia) (by lia)
  have:0<=last/d*T:=mul_nonneg q0 (by lia)
  lia
 have k0:0<=y/d:=ediv_nonneg (by lia) (by lia)
 have kq:y/d<=last/d:=Int.ediv_le_ediv (by lia) yl
 have yd:=ediv_mul_le y (show d≠0 by lia)
 have yd2:y<(y/d+1)*d:=Int.lt_ediv_add_one_mul_self y (by lia)
 refine(dv T0).mpr ⟨?_,?_⟩
 ·by_cases kz:y/d=0
  ·rw[kz,Int.zero_mul]
   have:=mul_le_mul f1 y1 (by decide) (by lia)
   lia
  ·have qd1:1<=last/d*d:=by
    have:=mul_le_mul (show 1<=last/d by lia) d1 (by decide) q0
    lia
   obtain⟨a,_⟩:=(dv T0).mp (h (last/d*d) qd1 (.inr (.inr (.inl rfl))))
   rw[Int.mul_ediv_cancel _ (by lia)] at a
   have e1:f*(last/d*d)=last/d*(f*d):=by rw[mul_left_comm]
   rw[e1] at a
   have m1:1<=f*d-T:=by
    refine Classical.byContradiction fun z=>?_
    have:last/d*(f*d)<=last/d*T:=mul_le_mul_of_nonneg_left (by lia) q0
    lia
   have a2:y/d*(f*d)<=f*y:=by rw[mul_left_comm]; exact mul_le_mul_of_nonneg_left yd (by lia)
   have a3:y/d*1<=y/d*(f*d-T):=mul_le_mul_of_nonneg_left m1 k0
   rw[mul_sub] at a3
   lia
 ·by_cases kl:y/d=last/d
  ·rw[kl]
   have:f*y<=f*last:=mul_le_mul_of_nonneg_left yl (by lia)
   lia
  ·have up:0<=f+last/d*(T-f*d):=by
    have e1:f*(last/d*d-1)=last/d*(f*d)-f:=by rw[mul_sub,mul_one,mul_left_comm]
    by_cases qz:1<=last/d*d-1
    ·obtain⟨_,b⟩:=(dv T0).mp (h (last/d*d-1) qz (.inr (.inr (.inr (.inr ⟨by lia,rfl⟩)))))
     have e2:(last/d*d-1)/d=last/d-1:=(dv (show 0<d by lia)).mpr ⟨by rw[sub_mul,one_mul]; lia,by rw[sub_mul,one_mul]; lia⟩
     rw[e2,e1,sub_mul,one_mul] at b
     rw[mul_sub]
     lia
    ·have z1:1<=last/d*d:=by
      have:=mul_le_mul (show 1<=last/d by lia) d1 (by decide) q0
      lia
     have z2:last/d*d=1:=by lia
     rw[z2,Int.sub_self,Int.mul_zero] at e1
     have:=mul_nonneg q0 (show 0<=T by lia)
     rw[mul_sub]
     lia
   have u:=line (m:=T-f*d) (c:=f) (k:=y/d+1) (q:=last/d) (by lia) (by lia) (by lia) up
   have a4:f*y<=f*((y/d+1)*d-1):=mul_le_mul_of_nonneg_left (by lia) (by lia)
   rw[mul_sub (a:=f),mul_one,mul_left_comm] at a4
   rw[mul_sub] at u
   have e5:(y/d+1)*T=y/d*T+T:=by rw[Int.add_mul,one_mul]
   lia
def fG (x d:Int):Int:=if x<0 then -((-x)/d) else x/d
inductive SD where
 | cut (f k:Int)
 | turn (kd:Nat) (e f s:Int)
noncomputable def SD.q:SD->Int->Int->Int
 | .cut f k,w,x=>f*x/2^(w+k).toNat+(if x<0 then 1 else 0)
 | .turn kd e f s,w,x=>if x<0 then -(brt e (nF kd w f) (nA kd f) (nT kd w s) (-x)) else brt e (nF kd w f) (nA kd f) (nT kd w s) x
def SD.e:SD->Int
 | .cut _ _=>0
 | .turn _ e _ _=>e
def SD.ok:SD->Prop
 | .cut f k=>0<=f/\f<=4294967295/\0<=k/\k<=64
 | .turn kd e f s=>Fm kd e f s
def SCM (up down d x:Int):Prop:=(0<=up/\CorM up d x)\/(0<down/\x<0/\CorM down d (-x))
theorem brtz (f t x:Int):brt 0 f 0 t x=f*x/2^t.toNat:=by
 unfold brt
 show (f*(x/2^0)+0)/_=_
 rw[pow_zero,Int.ediv_one,Int.add_zero]
theorem oy {sd:SD}{w d up down:Int}(h0:0<=up) (d1:1<=d) (h1:4<=w) (h2:w<=32) (ok:sd.ok) (he:(2:Int)^sd.e.toNat∣d) (h:∀ x,SCM up down d x->sd.q w x=fG x d) :
  ∀ x,-down<=x->x<=up->sd.q w x=fG x d:=by
 intro x xl xu
 cases sd with
 | cut f k =>
  obtain⟨f0,f1,k0,k1⟩:=ok
  by_cases xn:x<0
  ·have key:∀ z:Int,z<0->((SD.cut f k).q w z=fG z d ↔ (f*-z-1)/2^(w+k).toNat=-z/d):=fun z hz=>by
    unfold SD.q fG; dsimp only
    rw[if_pos hz,if_pos hz]
    have e:f*z=-(f*-z):=by rw[Int.mul_neg,neg_neg]
    rw[e,rJ (fB _)]
    lia
   rw[key x xn]
   refine oH (last:=down) (by lia) d1 (fun y y1 cy=>?_) (-x) (by lia) (by lia)
   have:=(key (-y) (by lia)).mp (h (-y) (.inr ⟨by lia,by lia,by rw[neg_neg]; exact cy⟩))
   rw[neg_neg] at this
   exact this
  ·have key:∀ z:Int,0<=z->((SD.cut f k).q w z=fG z d ↔ brt 0 f 0 (w+k) z=z/d):=fun z hz=>by
    unfold SD.q fG; dsimp only
    rw[if_neg (by lia),if_neg (by lia),brtz,Int.add_zero]
   rw[key x (by lia)]
   exact eO h0 d1 f0 (by decide) he (fun z cz=>(key z (cz.range h0 d1).1).mp (h z (.inl ⟨h0,cz⟩))) x (by lia) xu
 | turn kd e f s =>
  have rg:=Fm.rg (w:=w) ok h1 h2
  have kp:∀ z:Int,0<=z->((SD.turn kd e f s).q w z=fG z d ↔ brt e (nF kd w f) (nA kd f) (nT kd w s) z=z/d):=fun z hz=>by
   unfold SD.q fG; dsimp only
   rw[if_neg (by lia),if_neg (by lia)]
  have kn:∀ z:Int,z<0->((SD.turn kd e f s).q w z=fG z d ↔ brt e (nF kd w f) (nA kd f) (nT kd w s) (-z)=-z/d):=fun z hz=>by
   unfold SD.q fG; dsimp only
   rw[if_pos hz,if_pos hz]
   lia
  by_cases xn:x<0
  ·rw[kn x xn]
   refine eO (last:=down) (by lia) d1 rg.2.2.1 rg.2.2.2.2.1 he (fun z cz=>?_) (-x) (by lia) (by lia)
   have rz:=cz.range (by lia) d1
   by_cases z0:z=0
   ·subst z0
    exact(kp 0 (by decide)).mp (h 0 (.inl ⟨h0,.inl rfl⟩))
   ·have:=(kn (-z) (by lia)).mp (h (-z) (.inr ⟨by lia,by lia,by rw[neg_neg]; exact cz⟩))
    rw[neg_neg] at this
    exact this
  ·rw[kp x (by lia)]
   exact eO h0 d1 rg.2.2.1 rg.2.2.2.2.1 he (fun z cz=>(kp z (cz.range h0 d1).1).mp (h z (.inl ⟨h0,cz⟩))) x (by lia) xu
theorem SCM.bounds {up down d x:Int}(d1:1<=d) (h0:0<=up) (hd:0<=down) (h:SCM up down d x):-down<=x/\x<=up:=by
 rcases h with ⟨h0,c⟩ | ⟨h0,n,c⟩
 ·have:=c.range h0 d1; lia
 ·have:=c.range (by lia) d1
  lia
structure SCor (up down d:Int) (zs:List Int):Prop where
 pw:zs.Pairwise (·<·)
 mem:∀ x,x∈zs ↔ SCM up down d x
theorem rW {down d y:Int}(hd:0<down) (d1:1<=d):(y∈[1-d,1-down/d*d,-(down/d*d),-down]/\-down<=y/\y<0) ↔ (y<0/\CorM down d (-y)):=by
 have h0:=ediv_nonneg (show 0<=down by lia) (show 0<=d by lia)
 have h3:=ediv_mul_le down (show d≠0 by lia)
 have h4:=mul_nonneg h0 (show 0<=d by lia)
 unfold CorM
 simp only[mem_cons,not_mem_nil,or_false]
 constructor
 ·rintro ⟨e | e | e | e,a,b⟩
  ·refine⟨b,?_⟩
   by_cases c:d-1<down
   ·rw[if_pos c]; lia
   ·lia
  ·refine⟨b,.inr (.inr (.inr (.inr ⟨fun z=>?_,by lia⟩)))⟩
   rw[z,Int.zero_mul] at e
   lia
  ·exact⟨b,.inr (.inr (.inl (by lia)))⟩
  ·exact⟨b,.inr (.inr (.inr (.inl (by lia))))⟩
 ·rintro ⟨b,e | e | e | e | ⟨z,e⟩⟩
  ·lia
  ·by_cases c:d-1<down
   ·rw[if_pos c] at e
    exact⟨.inl (by lia),by lia,b⟩
   ·rw[if_neg c] at e
    exact⟨.inr (.inr (.inr (by lia))),by lia,b⟩
  ·exact⟨.inr (.inr (.inl (by lia))),by lia,b⟩
  ·exact⟨.inr (.inr (.inr (by lia))),by lia,b⟩
  ·exact⟨.inr (.inl (by lia)),by lia,b⟩
def jg:Sp:=fun vs H Q _=>∃ w d:Int,vs=[.int w,.int d]/\4<=w/\w<=32/\1<=d/\d<=2^(w-1).toNat/\Q .non H
def spSC:Sp:=fun vs H Q _=>∃ up down d:Int,vs=[.int up,.int down,.int d]/\-1<=up/\up<=18446744073709551616/\-1<=down/\down<=18446744073709551616/\1<=d/\d<=18446744073709551616/\∀ (p:Addr) (zs:List Int) H',H p=none->H' p=some (.lst (zs.map V.int))->Same H H'->SCor up down d zs->zs.length<=9->Q (.ref p) H'
def uh:Sp:=fun vs H Q _=>∃ (p:Addr) (w:Int),vs=[.ref p,.int w]/\Bx H p/\4<=w/\w<=32/\∀ (d:Int) H',1<=d->d<=2^(w-1).toNat->Bx H' p->SameX p H H'->Q (.int d) H'
def STd (H:Hp) (r:Addr):SD->Prop
 | .cut f k=>H r=some (.tup [.str "cutting",.int f,.int k])
 | .turn kd e f s=>∃ u,H r=some (.tup [.str "turned",.ref u])/\H u=some (.tup (tlv kd e f s))
theorem STd.same {H H':Hp}{r:Addr}{sd:SD}(x:STd H r sd) (s:Same H H'):STd H' r sd:=by
 cases sd with
 | cut f k=>exact s _ _ x
 | turn kd e f t=>obtain⟨u,a,b⟩:=x; exact⟨u,s _ _ a,s _ _ b⟩
def pE:Sp:=fun vs H Q _=>∃ x d:Int,vs=[.int x,.int d]/\1<=d/\d<=18446744073709551616/\Q (.int (fG x d)) H
def spSQ:Sp:=fun vs H Q _=>∃ (r:Addr) (w x:Int) (sd:SD),vs=[.ref r,.int w,.int x]/\4<=w/\w<=32/\-4294967296<=x/\x<=4294967296/\STd H r sd/\sd.ok/\∀ H',Same H H'->Q (.int (sd.q w x)) H'
def tW:Sp:=fun vs H Q _=>∃ (r l:Addr) (w d:Int) (sd:SD) (xs:List Int),vs=[.ref r,.int w,.int d,.ref l]/\4<=w/\w<=32/\1<=d/\d<=18446744073709551616/\STd H r sd/\sd.ok/\H l=some (.lst (xs.map V.int))/\(∀ x∈xs,-4294967296<=x/\x<=4294967296)/\∀ (b:Bool) H',Same H H'->(b=true ↔ ∀ x∈xs,sd.q w x=fG x d)->Q (.bl b) H'
theorem cT {w:Int}(h1:4<=w) (h2:w<=32):8<=(2:Int)^(w-1).toNat/\(2:Int)^(w-1).toNat<=2147483648/\2*2^(w-1).toNat=(2:Int)^w.toNat:=by
 have a:(2:Int)^3<=2^(w-1).toNat:=fF (by lia)
 have b:(2:Int)^(w-1).toNat<=2^31:=fF (by lia)
 have e:w.toNat=(w-1).toNat+1:=by lia
 refine⟨a,b,?_⟩
 rw[e,pow_succ,Int.mul_comm]
theorem lenS {zs ns:List Int}{n:Nat}(pw:zs.Pairwise (·<·)) (mz:∀ x,x∈zs ↔ x∈ns) (len:ns.length<=n):zs.length<=n:=by
 have nd:zs.Nodup:=pw.imp fun h=>Int.ne_of_lt h
 exact Nat.le_trans (List.Nodup.length_le_of_subset nd fun x hx=>(mz x).mp hx) len
noncomputable def sOf (c:Ad):Nat->Addr
 | 0=>c.Cutting
 | _=>c.Turned
def SD.ix:SD->Nat
 | .cut _ _=>0
 | .turn _ _ _ _=>1
theorem SD.ix2:∀ sd:SD,sd.ix<2
 | .cut _ _=>(by decide:0<2)
 | .turn _ _ _ _=>(by decide:1<2)
def SFO (c:Ad) (H:Hp) (x:Addr):SD->Prop
 | .cut f k=>∃ dx,H x=some (.ins c.Cutting dx [("factor",.int f),("shift",.int k)])
 | .turn kd e f s=>∃ dx y,H x=some (.ins c.Turned dx [("form",.ref y)])/\FO c H y kd e f s
theorem SFO.same {c:Ad}{H H':Hp}{x:Addr}{sd:SD}(o:SFO c H x sd) (s:Same H H'):SFO c H' x sd:=by
 cases sd with
 | cut f k=>obtain⟨dx,h⟩:=o; exact⟨dx,s _ _ h⟩
 | turn kd e f t=>obtain⟨dx,y,h,dy,g⟩:=o; exact⟨dx,y,s _ _ h,dy,s _ _ g⟩
theorem SFO.ob {c:Ad}{H:Hp}{x:Addr}{sd:SD}(o:SFO c H x sd):∃ dx fs,H x=some (.ins (sOf c sd.ix) dx fs)/\fs.lookup ("quotient":Str)=none/\fs.lookup ("early_in":Str)=none:=by
 cases sd with
 | cut f k=>obtain⟨dx,h⟩:=o; exact⟨dx,_,h,rfl,rfl⟩
 | turn kd e f t=>obtain⟨dx,y,h,_⟩:=o; exact⟨dx,_,h,rfl,rfl⟩
theorem Txt.tyF {K:Frag}{mg:Str->Option Value}{c:Ad}{H:Hp}{x dx:Addr}{fs:List (Str×V)}(T:Txt K mg c) (kd:Nat) (hk:kd<5) (h:H x=some (.ins (fOf c kd) dx fs)):TyOf K H (.ref x) (.ref (fOf c kd)):=by
 rcases(by lia:kd=0\/kd=1\/kd=2\/kd=3\/kd=4) with rfl | rfl | rfl | rfl | rfl
 ·exact TyOf.ins h T.cl_Shifted T.kf_dc_Shifted T.kf_og T.kf_ot T.kf_mo_Shifted
 ·exact TyOf.ins h T.cl_Scaled T.kf_dc_Scaled T.kf_og T.kf_ot T.kf_mo_Scaled
 ·exact TyOf.ins h T.cl_Early T.kf_dc_Early T.kf_og T.kf_ot T.kf_mo_Early
 ·exact TyOf.ins h T.cl_More T.kf_dc_More T.kf_og T.kf_ot T.kf_mo_More
 ·exact TyOf.ins h T.cl_Wide T.kf_dc_Wide T.kf_og T.kf_ot T.kf_mo_Wide
theorem Txt.ikF {K:Frag}{mg:Str->Option Value}{c:Ad}(T:Txt K mg c) (kd:Nat) (hk:kd<5):kitOne K (.ref (fOf c kd)) (.ref c.Form)=some true:=by
 rcases(by lia:kd=0\/kd=1\/kd=2\/kd=3\/kd=4) with rfl | rfl | rfl | rfl | rfl
 ·exact jv T.kf_kc T.kf_kt T.kf_ik_Shifted
 ·exact jv T.kf_kc T.kf_kt T.kf_ik_Scaled
 ·exact jv T.kf_kc T.kf_kt T.kf_ik_Early
 ·exact jv T.kf_kc T.kf_kt T.kf_ik_More
 ·exact jv T.kf_kc T.kf_kt T.kf_ik_Wide
theorem fl_quo {kd:Nat}{e f s:Int}:(tN kd e f s).lookup ("quotient":Str)=none:=by
 unfold tN
 split <;> rfl
def spFQ (c:Ad):Sp:=fun vs H Q _=>∃ (y:Addr) (w x:Int) (kd:Nat) (e f s:Int),vs=[.ref y,.int w,.int x]/\FO c H y kd e f s/\Fm kd e f s/\4<=w/\w<=32/\0<=x/\x<=4294967296/\∀ H',Same H H'->Q (.int (brt e (nF kd w f) (nA kd f) (nT kd w s) x)) H'
def spIC (c:Ad):Sp:=fun vs H Q _=>∃ (x dx:Addr) (f s:Int),vs=[.ref x,.int f,.int s]/\H x=some (.ins c.Cutting dx [])/\0<=f/\f<=4294967295/\0<=s/\s<=64/\∀ H',SameX x H H'->SFO c H' x (.cut f s)->Q .non H'
def spIT (c:Ad):Sp:=fun vs H Q _=>∃ (x dx y:Addr) (kd:Nat) (e f s:Int),vs=[.ref x,.ref y]/\H x=some (.ins c.Turned dx [])/\FO c H y kd e f s/\kd<5/\y≠x/\∀ H',SameX x H H'->SFO c H' x (.turn kd e f s)->Q .non H'
def qB (c:Ad) (i:Nat):Sp:=fun vs H Q _=>∃ (x:Addr) (w n:Int) (sd:SD),vs=[.ref x,.int w,.int n]/\sd.ix=i/\SFO c H x sd/\sd.ok/\4<=w/\w<=32/\-4294967296<=n/\n<=4294967296/\∀ H',Same H H'->Q (.int (sd.q w n)) H'
def spEI (c:Ad) (i:Nat):Sp:=fun vs H Q _=>∃ (x:Addr) (w:Int) (sd:SD),vs=[.ref x,.int w]/\sd.ix=i/\SFO c H x sd/\sd.ok/\4<=w/\w<=32/\∀ H',Same H H'->Q (.int sd.e) H'
def mI (c:Ad):Sp:=fun vs H Q _=>∃ (w d:Int) (x:Addr) (sd:SD),vs=[.int w,.int d,.ref x]/\4<=w/\w<=32/\1<=d/\d<=2^(w-1).toNat/\SFO c H x sd/\sd.ok/\(2:Int)^sd.e.toNat∣d/\∀ H',Same H H'->Q .non H'
def spRAt (c:Ad):Sp:=fun vs H Q _=>∃ (w d:Int) (x l:Addr) (sd:SD) (xs:List Int),vs=[.int w,.int d,.ref x,.ref l]/\4<=w/\w<=32/\1<=d/\d<=18446744073709551616/\SFO c H x sd/\sd.ok/\H l=some (.lst (xs.map V.int))/\xs.length<=9/\(∀ x∈xs,-4294967296<=x/\x<=4294967296)/\∀ (b:Bool) H',Same H H'->(b=true ↔ ∀ x∈xs,sd.q w x=fG x d)->Q (.bl b) H'
def AllS (sd:SD) (w d lo hi:Int):Prop:=∀ x,lo<=x->x<=hi->sd.q w x=fG x d
def kM (a b:Int):Int:=if b<a then b else a
def rN (c:Ad):Sp:=fun vs H Q _=>∃ (w d:Int) (x:Addr) (far:Int) (sd:SD),vs=[.int w,.int d,.ref x,.int far]/\4<=w/\w<=32/\1<=d/\d<=18446744073709551616/\SFO c H x sd/\sd.ok/\(2:Int)^sd.e.toNat∣d/\0<=far/\far<=2^(w-1).toNat/\∀ (b:Bool) H',Same H H'->(b=true ↔ AllS sd w d (-far) (kM far (1*2^(w-1).toNat-1)))->Q (.bl b) H'
def spRFS (c:Ad):Sp:=fun vs H Q _=>∃ (w d:Int) (x:Addr) (sd:SD),vs=[.int w,.int d,.ref x]/\4<=w/\w<=32/\1<=d/\d<=2^(w-1).toNat/\SFO c H x sd/\sd.ok/\(2:Int)^sd.e.toNat∣d/\∀ (b:Bool) H',Same H H'->(b=true ↔ AllS sd w d (-(1*2^(w-1).toNat)) (1*2^(w-1).toNat-1))->Q (.bl b) H'
theorem SD.e_nn {sd:SD}(ok:sd.ok):0<=sd.e:=by
 cases sd with
 | cut f k=>exact Int.le_refl 0
 | turn kd e f s=>exact Fm.ea ok
theorem ceil_eq {a d:Int}(d1:1<=d):-(-a/d)=(a+d-1)/d:=by
 have h1:=Int.mul_ediv_add_emod (-a) d
 have h2:=Int.emod_nonneg (-a) (show d≠0 by lia)
 have h3:=Int.emod_lt_of_pos (-a) (show 0<d by lia)
 symm
 refine(dv (show 0<d by lia)).mpr ?_
 rw[Int.mul_comm d] at h1
 rw[Int.neg_mul]
 lia
theorem wide_div {A B d x:Int}(hA:0<A) (hB:0<B) (d1:1<=d) (d2:d<=B) (x0:0<=x) (x1:x<A):(A*B+d-1)/d*x/(A*B)=x/d:=by
 have AB:0<A*B:=Int.mul_pos hA hB
 have m1:=ediv_mul_le (A*B+d-1) (show d≠0 by lia)
 have m2:=Int.lt_ediv_add_one_mul_self (A*B+d-1) (show 0<d by lia)
 have q1:=ediv_mul_le x (show d≠0 by lia)
 have q2:=Int.lt_ediv_add_one_mul_self x (show 0<d by lia)
 have q0:0<=x/d:=ediv_nonneg x0 (by lia)
 have m0:0<=(A*B+d-1)/d:=ediv_nonneg (by lia) (by lia)
 generalize (A*B+d-1)/d=m at m0 m1 m2 ⊢
 generalize x/d=q at q0 q1 q2 ⊢
 generalize hT:A*B=T at AB m1 m2 ⊢
 rw[Int.add_mul,one_mul] at m2 q2
 refine(dv AB).mpr ⟨?_,?_⟩
 ·have a:q*T<=q*(m*d):=mul_le_mul_of_nonneg_left (by lia) q0
  have b:m*(q*d)<=m*x:=mul_le_mul_of_nonneg_left q1 m0
  rw[mul_left_comm] at a
  lia
 ·have a:m*d*x<=(T+d-1)*x:=Int.mul_le_mul_of_nonneg_right m1 x0
  have b:T*(x+1)<=T*(q*d+d):=mul_le_mul_of_nonneg_left (by lia) (by lia)
  have c:(d-1)*x<=(B-1)*(A-1):=mul_le_mul (by lia) (by lia) x0 (by lia)
  have e:(B-1)*(A-1)=T-A-B+1:=by rw[<- hT,sub_mul,mul_sub,mul_sub,Int.mul_comm B A]; lia
  have f:(T+d-1)*x=T*x+(d-1)*x:=by rw[show T+d-1=T+(d-1) by lia,Int.add_mul]
  have g:T*(x+1)=T*x+T:=by rw[Int.mul_add,mul_one]
  have h:m*x*d<(q*T+T)*d:=by
   have h1:m*x*d=m*d*x:=by rw[Int.mul_assoc,Int.mul_comm x d,<- Int.mul_assoc]
   have h2:(q*T+T)*d=T*(q*d+d):=by rw[Int.add_mul,Int.mul_add,Int.mul_right_comm,Int.mul_comm (q*d) T]
   rw[h1,h2]
   lia
  exact Int.lt_of_mul_lt_mul_right h (by lia)
theorem qm {A B d:Int}(hA:1<=A) (d1:1<=d) (d2:d<=B) (d3:B<=2*(d-1)) (d4:d<A):A<=(A*B+d-1)/d/\(A*B+d-1)/d<2*A:=by
 have a:A*d<=A*B:=mul_le_mul_of_nonneg_left d2 (by lia)
 have b:A*B<=A*(2*(d-1)):=mul_le_mul_of_nonneg_left d3 (by lia)
 have e:A*(2*(d-1))=2*(A*d)-2*A:=by rw[mul_left_comm,mul_sub,mul_one,mul_sub]
 refine⟨Int.le_ediv_of_mul_le (by lia) (by lia),Int.ediv_lt_of_lt_mul (by lia) ?_⟩
 rw[Int.mul_assoc]
 lia
theorem bl_le {d:Int}(d1:1<=d):d<=2^intBits (d-1):=by
 have h:(d-1).natAbs<2^intBits (d-1):=intBits_le_iff.mp (Nat.le_refl _)
 have e:((2^intBits (d-1):Nat):Int)=2^intBits (d-1):=by rw[Int.natCast_pow]; rfl
 lia
theorem bl_ge {d:Int}(d1:1<=d) (h0:0<intBits (d-1)):(2:Int)^intBits (d-1)<=2*(d-1):=by
 obtain⟨n,hn⟩:∃ n,intBits (d-1)=n+1:=⟨intBits (d-1)-1,by lia⟩
 have h:¬ intBits (d-1)<=n:=by lia
 rw[intBits_le_iff] at h
 have e:((2^n:Nat):Int)=2^n:=by rw[Int.natCast_pow]; rfl
 rw[hn,pow_succ]
 lia
theorem fE {d:Int}{w:Int}(w2:w<=32) (d1:1<=d) (d2:d<2^w.toNat):intBits (d-1)<=32/\intBits d<=32/\1<=intBits d:=by
 have:(2:Int)^w.toNat<=2^32:=fF (by lia)
 refine⟨intBits_le_iff.mpr (show (d-1).natAbs<2^32 by lia),intBits_le_iff.mpr (show d.natAbs<2^32 by lia),?_⟩
 refine Classical.byContradiction fun z=>?_
 have h:=(intBits_le_iff (m:=0) (x:=d)).mp (by lia)
 lia
theorem bl_0 {d:Int}(d1:1<=d):intBits (d-1)=0 ↔ d=1:=by
 constructor
 ·intro h
  have:=bl_le d1
  rw[h,pow_zero] at this
  lia
 ·rintro rfl
  rfl
structure Cd where
 kd:Nat
 e:Int
 f:Int
 s:Int
def upI (a b:Int):Int:=(a+b-1)/b
def cSc (kd:Nat) (e A d:Int) (n:Nat):List Cd:=(List.range n).filterMap fun (k:Nat)=>if upI (A*2^k) d<A then some ⟨kd,e,upI (A*2^k) d,(k:Int)⟩ else none
def cMo (A d:Int) (n:Nat):List Cd:=(List.range n).filterMap fun (k:Nat)=>if 1<=(A*2^k-1)/d/\(A*2^k-1)/d<A then some ⟨3,0,(A*2^k-1)/d,(k:Int)⟩ else none
noncomputable def cWi (A d:Int):List Cd:=if 0<intBits (d-1) then [⟨4,0,upI (A*2^intBits (d-1)) d-A,(intBits (d-1):Int)⟩] else []
noncomputable def cEa (A d t:Int):List Cd:=if 0<t then cSc 2 t A (d/2^t.toNat) (intBits (d/2^t.toNat-1)+1) else []
noncomputable def kY (A d t:Int):List Cd:=[⟨0,0,0,(intBits d:Int)-1⟩]++cSc 1 0 A d (intBits (d-1)+1)++cEa A d t++cMo A d (intBits (d-1)+1)++cWi A d
theorem de (kd:Nat) (e A d:Int) (n:Nat):cSc kd e A d (n+1)=cSc kd e A d n++(if upI (A*2^n) d<A then [⟨kd,e,upI (A*2^n) d,(n:Int)⟩] else []):=by
 unfold cSc
 rw[List.range_succ,List.filterMap_append]
 congr 1
 by_cases h:upI (A*2^n) d<A
 ·rw[if_pos h]; simp only[filterMap_cons,filterMap_nil,if_pos h]
 ·rw[if_neg h]; simp only[filterMap_cons,filterMap_nil,if_neg h]
theorem fe (A d:Int) (n:Nat):cMo A d (n+1)=cMo A d n++(if 1<=(A*2^n-1)/d/\(A*2^n-1)/d<A then [⟨3,0,(A*2^n-1)/d,(n:Int)⟩] else []):=by
 unfold cMo
 rw[List.range_succ,List.filterMap_append]
 congr 1
 by_cases h:1<=(A*2^n-1)/d/\(A*2^n-1)/d<A
 ·rw[if_pos h]; simp only[filterMap_cons,filterMap_nil,if_pos h]
 ·rw[if_neg h]; simp only[filterMap_cons,filterMap_nil,if_neg h]
theorem dY (kd:Nat) (e A d:Int) (n:Nat):(cSc kd e A d n).length<=n:=by
 have:=List.length_filterMap_le (fun (k:Nat)=>if upI (A*2^k) d<A then some (⟨kd,e,upI (A*2^k) d,(k:Int)⟩:Cd) else none) (List.range n)
 rw[length_range] at this
 exact this
theorem kc (A d:Int) (n:Nat):(cMo A d n).length<=n:=by
 have:=List.length_filterMap_le (fun (k:Nat)=>if 1<=(A*2^k-1)/d/\(A*2^k-1)/d<A then some (⟨3,0,(A*2^k-1)/d,(k:Int)⟩:Cd) else none) (List.range n)
 rw[length_range] at this
 exact this
theorem mr {a b:Int}(ha:1<=a) (hb:1<=b):1<=upI a b:=Int.le_ediv_of_mul_le (by lia) (by lia)
theorem t9 {kd:Nat}{e A d:Int}{n:Nat}(hk:kd=1\/kd=2) (he:kd≠2->e=0) (e0:0<=e) (e1:e<=64) (A1:1<=A) (A2:A<=4294967296) (d1:1<=d) (hn:n<=65):∀ x∈cSc kd e A d n,Fm x.kd x.e x.f x.s/\x.e=e:=by
 intro x hx
 obtain⟨k,hk1,hk2⟩:=List.mem_filterMap.mp hx
 have:=List.mem_range.mp hk1
 have P:0<A*2^k:=Int.mul_pos (by lia) (pow_pos (by decide))
 split at hk2
 ·cases hk2
  have:=mr (show 1<=A*2^k by lia) d1
  refine⟨⟨?_,e0,e1,he,?_,?_,?_,?_,?_⟩,rfl⟩ <;> dsimp only <;> lia
 ·cases hk2
theorem cMo_fm {A d:Int}{n:Nat}(A2:A<=4294967296) (hn:n<=65):∀ x∈cMo A d n,Fm x.kd x.e x.f x.s/\x.e=0:=by
 intro x hx
 obtain⟨k,hk1,hk2⟩:=List.mem_filterMap.mp hx
 have:=List.mem_range.mp hk1
 split at hk2
 ·cases hk2
  refine⟨⟨?_,?_,?_,fun _=>rfl,?_,?_,?_,?_,?_⟩,rfl⟩ <;> dsimp only <;> lia
 ·cases hk2
theorem cWi_fm {w d:Int}(w1:4<=w) (w2:w<=32) (d1:1<=d) (d2:d<2^w.toNat):∀ x∈cWi (1*2^w.toNat) d,Fm x.kd x.e x.f x.s/\x.e=0:=by
 intro x hx
 unfold cWi at hx
 split at hx
 ·next h =>
  cases List.mem_singleton.mp hx
  have b1:=bl_le d1
  have b2:=bl_ge d1 h
  have b3:=(fE w2 d1 d2).1
  have pb:=aX w1 w2
  have b4:=qm (A:=1*2^w.toNat) (B:=2^intBits (d-1)) (by lia) d1 b1 b2 (by lia)
  refine⟨⟨?_,?_,?_,fun _=>rfl,?_,?_,?_,?_,?_⟩,rfl⟩ <;> dsimp only [upI] <;> lia
 ·cases hx
theorem qE {w d t:Int}(w1:4<=w) (w2:w<=32) (d1:1<=d) (d2:d<2^w.toNat):∃ x∈kY (1*2^w.toNat) d t,x.e=0/\AllG x.e (nF x.kd w x.f) (nA x.kd x.f) (nT x.kd w x.s) d (1*2^w.toNat-1):=by
 have pb:=aX w1 w2
 by_cases h:0<intBits (d-1)
 ·refine⟨⟨4,0,upI (1*2^w.toNat*2^intBits (d-1)) d-1*2^w.toNat,(intBits (d-1):Int)⟩,mem_append_right _ (by unfold cWi; rw[if_pos h]; exact List.mem_singleton.mpr rfl),rfl,fun x x0 x1=>?_⟩
  have b1:=bl_le d1
  have z:=wide_div (A:=1*2^w.toNat) (B:=2^intBits (d-1)) (x:=x) (by lia) (pow_pos (by decide)) d1 b1 x0 (by lia)
  rw[<- z]
  show brt 0 (1*2^w.toNat+(upI (1*2^w.toNat*2^intBits (d-1)) d-1*2^w.toNat)) 0 (w+(intBits (d-1):Int)) x=_
  unfold brt upI
  rw[show (w+(intBits (d-1):Int)).toNat=w.toNat+intBits (d-1) by lia,pow_add,one_mul,show (0:Int).toNat=0 from rfl,pow_zero,Int.ediv_one,Int.add_zero]
  congr 2
  lia
 ·have e:=(bl_0 d1).mp (by lia)
  subst e
  exact⟨⟨0,0,0,(intBits 1:Int)-1⟩,mem_append_left _ (mem_append_left _ (mem_append_left _ (mem_append_left _ (List.mem_singleton.mpr rfl)))),rfl,fun x x0 x1=>by
   show (1*(x/2^0)+0)/2^0=x/1
   rw[pow_zero,Int.ediv_one,Int.ediv_one,one_mul,Int.add_zero]⟩
noncomputable def wdF:Nat->Str
 | 0=>"shifted"
 | 1=>"scaled"
 | 2=>"early"
 | 3=>"more"
 | _=>"wide"
def PL (R:Hp->Addr->Cd->Prop) (H:Hp) (ps:List Addr) (xs:List Cd):Prop:=ps.length=xs.length/\∀ (i:Nat) p x,ps[i]?=some p->xs[i]?=some x->R H p x
def FR (c:Ad) (H:Hp) (p:Addr) (x:Cd):Prop:=FO c H p x.kd x.e x.f x.s
def TR (H:Hp) (p:Addr) (x:Cd):Prop:=H p=some (.tup (tlv x.kd x.e x.f x.s))
theorem FR.same {c:Ad}{H H':Hp}{p:Addr}{x:Cd}(h:FR c H p x) (s:Same H H'):FR c H' p x:=let ⟨dx,hx⟩:=h; ⟨dx,s _ _ hx⟩
theorem TR.same {H H':Hp}{p:Addr}{x:Cd}(h:TR H p x) (s:Same H H'):TR H' p x:=s _ _ h
theorem PL.mono {R:Hp->Addr->Cd->Prop}{H H':Hp}{ps:List Addr}{xs:List Cd}(h:PL R H ps xs) (f:∀ p x,R H p x->R H' p x):PL R H' ps xs:=⟨h.1,fun i p x a b=>f _ _ (h.2 i p x a b)⟩
theorem PL.nil {R:Hp->Addr->Cd->Prop}{H:Hp}:PL R H [] []:=⟨rfl,fun i p x a b=>by simp at a⟩
theorem PL.append {R:Hp->Addr->Cd->Prop}{H:Hp}{ps qs:List Addr}{xs ys:List Cd}(h:PL R H ps xs) (g:PL R H qs ys):PL R H (ps++qs) (xs++ys):=by
 refine⟨by rw[length_append,length_append,h.1,g.1],fun i p x a b=>?_⟩
 by_cases hi:i<ps.length
 ·rw[List.getElem?_append_left hi] at a
  rw[List.getElem?_append_left (by rw[<- h.1]; exact hi)] at b
  exact h.2 i p x a b
 ·rw[List.getElem?_append_right (by lia)] at a
  rw[List.getElem?_append_right (by rw[<- h.1]; lia),<- h.1] at b
  exact g.2 _ p x a b
theorem PL.one {R:Hp->Addr->Cd->Prop}{H:Hp}{p:Addr}{x:Cd}(h:R H p x):PL R H [p] [x]:=⟨rfl,fun i q y a b=>by
 cases i with
 | zero=>cases a; cases b; exact h
 | succ n=>simp at a⟩
theorem PL.snoc {R:Hp->Addr->Cd->Prop}{H:Hp}{ps:List Addr}{xs:List Cd}{p:Addr}{x:Cd}(h:PL R H ps xs) (g:R H p x):PL R H (ps++[p]) (xs++[x]):=h.append (.one g)
def AL (R:Hp->Addr->Cd->Prop) (H:Hp) (a:Addr) (xs:List Cd):Prop:=∃ ps:List Addr,H a=some (.lst (ps.map V.ref))/\PL R H ps xs
theorem PL.updF {c:Ad}{H:Hp}{l:Addr}{zs ys:List V}{ps:List Addr}{xs:List Cd}(h:PL (FR c) H ps xs) (e:H l=some (.lst zs)):PL (FR c) (upd H l (.lst ys)) ps xs :=
 h.mono fun p x q=>by
  obtain⟨dx,hx⟩:=q
  exact⟨dx,by rw[au (fun z=>by rw[z,e] at hx; cases hx)]; exact hx⟩
theorem PL.updT {H:Hp}{l:Addr}{zs ys:List V}{ps:List Addr}{xs:List Cd}(h:PL TR H ps xs) (e:H l=some (.lst zs)):PL TR (upd H l (.lst ys)) ps xs :=
 h.mono fun p x q=>by
  show upd H l _ p=_
  rw[au (fun z=>by unfold TR at q; rw[z,e] at q; cases q)]
  exact q
theorem Same.updL {H H':Hp}{l:Addr}{o:HO}(s:Same H H') (hl:H l=none):Same H (upd H' l o):=fun b u e=>by rw[au (aE e hl)]; exact s b u e
theorem me {w:Int}{n:Nat}(w1:4<=w) (w2:w<=32) (hn:n<=32):1<=(1:Int)*2^w.toNat*2^n/\(1:Int)*2^w.toNat*2^n<=18446744073709551616:=by
 have pb:=aX w1 w2
 have np:(2:Int)^n<=2^32:=fF hn
 have n0:=fB n
 have a:(1:Int)*2^w.toNat*2^n<=4294967296*4294967296:=mul_le_mul (by lia) (by lia) (by lia) (by lia)
 have b:0<(1:Int)*2^w.toNat*2^n:=Int.mul_pos (by lia) n0
 lia
def nv (kd:Nat):Sp:=fun vs H Q _=>∃ x:Addr,vs=[.ref x]/\Q (.str (wdF kd)) H
def eg (c:Ad) (kd:Nat):Sp:=fun vs H Q _=>∃ (x:Addr) (e f s:Int),vs=[.ref x]/\FO c H x kd e f s/\∀ r H',H r=none->H' r=some (.tup (tlv kd e f s))->Same H H'->Q (.ref r) H'
def gm:Sp:=fun vs H Q _=>∃ a d:Int,vs=[.int a,.int d]/\1<=a/\a<=18446744073709551616/\1<=d/\d<=18446744073709551616/\Q (.int (upI a d)) H
def spScC (c:Ad):Sp:=fun vs H Q _=>∃ w d:Int,vs=[.int w,.int d]/\4<=w/\w<=32/\1<=d/\d<2^w.toNat/\∀ l H',H l=none->AL (FR c) H' l (cSc 1 0 (1*2^w.toNat) d (intBits (d-1)+1))->Same H H'->Q (.ref l) H'
def spEaC (c:Ad):Sp:=fun vs H Q _=>∃ w d:Int,vs=[.int w,.int d]/\4<=w/\w<=32/\1<=d/\d<2^w.toNat/\∀ (t:Int) l H',Tw d t->H l=none->AL (FR c) H' l (cEa (1*2^w.toNat) d t)->Same H H'->Q (.ref l) H'
def spMoC (c:Ad):Sp:=fun vs H Q _=>∃ w d:Int,vs=[.int w,.int d]/\4<=w/\w<=32/\1<=d/\d<2^w.toNat/\∀ l H',H l=none->AL (FR c) H' l (cMo (1*2^w.toNat) d (intBits (d-1)+1))->Same H H'->Q (.ref l) H'
def rC (c:Ad):Sp:=fun vs H Q _=>∃ w d:Int,vs=[.int w,.int d]/\4<=w/\w<=32/\1<=d/\d<2^w.toNat/\∀ (t:Int) l H',Tw d t->H l=none->AL (FR c) H' l (kY (1*2^w.toNat) d t)->Same H H'->Q (.ref l) H'
def ss:Sp:=fun vs H Q _=>∃ w d:Int,vs=[.int w,.int d]/\4<=w/\w<=32/\1<=d/\d<2^w.toNat/\∀ (t:Int) l H',Tw d t->H l=none->AL TR H' l (kY (1*2^w.toNat) d t)->Same H H'->Q (.ref l) H'
theorem pc (A d t:Int):(cEa A d t).length<=intBits (d/2^t.toNat-1)+1:=by
 unfold cEa
 split
 ·exact dY _ _ _ _ _
 ·exact zero_le _
theorem cSc_map (t A d:Int) (n:Nat):cSc 2 t A d n=(cSc 1 0 A d n).map fun x=>⟨2,t,x.f,x.s⟩:=by
 induction n with
 | zero=>rfl
 | succ n ih =>
  rw[de,de,map_append,ih]
  congr 1
  split <;> rfl
theorem cSc_k {kd:Nat}{e A d:Int}{n:Nat}:∀ x∈cSc kd e A d n,x.kd=kd:=by
 intro x hx
 obtain⟨k,_,hk2⟩:=List.mem_filterMap.mp hx
 split at hk2
 ·cases hk2; rfl
 ·cases hk2
theorem tm {w d t:Int}(w1:4<=w) (w2:w<=32) (d1:1<=d) (d2:d<2^w.toNat) (tw:Tw d t):∀ x∈kY (1*2^w.toNat) d t,Fm x.kd x.e x.f x.s/\(2:Int)^x.e.toNat∣d:=by
 have pb:=aX w1 w2
 have lb:=fE w2 d1 d2
 have tl:=mL d1 (by lia) tw
 have td:=tw_div d1 tw
 have lo:=(fE w2 td.1 (Int.lt_of_le_of_lt td.2 d2)).1
 have z:∀ e:Int,e=0->(2:Int)^e.toNat∣d:=fun e h=>by rw[h]; exact Int.one_dvd d
 intro x hx
 unfold kY at hx
 rcases List.mem_append.mp hx with hx | hx
 ·rcases List.mem_append.mp hx with hx | hx
  ·rcases List.mem_append.mp hx with hx | hx
   ·rcases List.mem_append.mp hx with hx | hx
    ·cases List.mem_singleton.mp hx
     refine⟨⟨(by show 0<5; decide),?_,?_,fun _=>rfl,?_,?_,?_,?_,?_⟩,z _ rfl⟩ <;> dsimp only <;> lia
    ·have f:=t9 (.inl rfl) (fun _=>rfl) (by decide) (by decide) (by lia) (by lia) d1 (by lia) x hx
     exact⟨f.1,z _ f.2⟩
   ·unfold cEa at hx
    split at hx
    ·have f:=t9 (.inr rfl) (fun h=>absurd rfl h) tw.1 tl (by lia) (by lia) td.1 (by lia) x hx
     refine⟨f.1,?_⟩
     rw[f.2]
     exact tw_dvd tw tw.1 (Int.le_refl _)
    ·cases hx
  ·have f:=cMo_fm (by lia) (by lia) x hx
   exact⟨f.1,z _ f.2⟩
 ·have f:=cWi_fm w1 w2 d1 d2 x hx
  exact⟨f.1,z _ f.2⟩
theorem lW {w d t:Int}(w1:4<=w) (w2:w<=32) (d1:1<=d) (d2:d<2^w.toNat) (tw:Tw d t):(kY (1*2^w.toNat) d t).length<=200/\1<=(kY (1*2^w.toNat) d t).length:=by
 have lb:=fE w2 d1 d2
 have td:=tw_div d1 tw
 have lo:=(fE w2 td.1 (Int.lt_of_le_of_lt td.2 d2)).1
 have a:=dY 1 0 (1*2^w.toNat) d (intBits (d-1)+1)
 have b:=pc (1*2^w.toNat) d t
 have c:=kc (1*2^w.toNat) d (intBits (d-1)+1)
 have e:(cWi (1*2^w.toNat) d).length<=1:=by unfold cWi; split <;> simp
 unfold kY
 rw[length_append,length_append,length_append,length_append,List.length_singleton]
 lia
def Tx (z:Str):Prop:=z.length<=20/\∀ c∈z.cps.toList,c<128
def FV (v:V):Prop:=v=.non\/(∃ b,v=.bl b)\/(∃ i:Int,v=.int i/\-(2^80)<i/\i<2^80)\/∃ x,v=.str x/\Tx x
noncomputable def rw16:List Str:=["set","copy","sum","gap","low","high","left","right","slide","and","or","unlike","under","pick","mark","turns"]
structure Tb (n:Nat) (kvs:List (Key×V)):Prop where
 ln:kvs.length<=n
 ok:∀ kv∈kvs,(∃ x,kv.1=.inr x/\Tx x)/\FV kv.2
theorem valV_mm {kvs:List (Key×V)}{k:Key}{v:V}(h:cR kvs k=some v):∃ kv∈kvs,kv.1=k/\kv.2=v:=by
 unfold cR at h
 obtain⟨kv,h1,h2⟩:=Option.map_eq_some_iff.mp h
 exact⟨kv,List.mem_of_find?_eq_some h1,by simpa using List.find?_some h1,h2⟩
theorem Tb.put {n:Nat}{kvs:List (Key×V)}{x:Str}{v:V}(t:Tb n kvs) (hx:Tx x) (hv:FV v):Tb (n+1) (dI kvs (.inr x) v):=by
 refine⟨Nat.le_trans (cX kvs _ v) (Nat.succ_le_succ t.ln),fun kv h=>?_⟩
 unfold dI at h
 split at h
 ·obtain⟨p,hp,rfl⟩:=List.mem_map.mp h
  split
  ·next e=>exact⟨⟨x,e,hx⟩,hv⟩
  ·exact t.ok p hp
 ·rcases List.mem_append.mp h with h | h
  ·exact t.ok kv h
  ·cases List.mem_singleton.mp h
   exact⟨⟨x,rfl,hx⟩,hv⟩
theorem Tb.le {n m:Nat}{kvs:List (Key×V)}(t:Tb n kvs) (h:n<=m):Tb m kvs:=⟨Nat.le_trans t.ln h,t.ok⟩
def PrOk (o:Option V):Prop:=∃ i:Int,o=some (.int i)/\0<=i/\i<=1000
def GoodD (kvs:List (Key×V)):Prop:=∀ x∈rw16,PrOk (cR kvs (.inr x))
noncomputable def pz (kvs:List (Key×V)) (x:Str):Int:=match cR kvs (.inr x) with | some (.int i)=>i | _=>0
def rO (kvs:List (Key×V)) (l:List Str):Int:=(l.map (pz kvs)).sum
theorem GoodD.at {kvs:List (Key×V)}(g:GoodD kvs) {x:Str}(hx:x∈rw16):cR kvs (.inr x)=some (.int (pz kvs x))/\0<=pz kvs x/\pz kvs x<=1000:=by
 obtain⟨i,e,h⟩:=g x hx
 unfold pz
 rw[e]
 exact⟨rfl,h⟩
theorem GoodD.put {kvs:List (Key×V)}(g:GoodD kvs) {x:Str}{i:Int}(h0:0<=i) (h1:i<=1000):GoodD (dI kvs (.inr x) (.int i)):=fun y hy=>by
 rw[ij]
 split
 ·exact⟨i,rfl,h0,h1⟩
 ·exact g y hy
theorem GoodD.more {kvs:List (Key×V)}(g:GoodD kvs) {x:Str}{v:V}(h:x∉rw16):GoodD (dI kvs (.inr x) v):=fun y hy=>by
 rw[ij,if_neg (fun z=>h (by injection z with z; exact z ▸ hy))]
 exact g y hy
theorem tx_rw:∀ x∈rw16,Tx x:=by
 have:∀ x∈rw16,x.length<=20/\∀ c∈x.cps.toList,c<128:=by decide +kernel
 exact this
theorem qr {i:Int}(h0:-(2^80)<i) (h1:i<2^80):FV (.int i):=.inr (.inr (.inl ⟨i,rfl,h0,h1⟩))
noncomputable def rA:Nat->List Str
 | 0=>[]
 | 1=>["set","high"]
 | 2=>["right","set","high"]
 | 3=>["set","low","sum","high","sum"]
 | _=>["set","high","gap","right","sum"]
def dn (kd:Nat):Int:=if kd=4 then 1 else 0
noncomputable def fw (kd:Nat) (s:Int):List Str:=rA kd++(if dn kd<s then [("right":Str)] else [])
theorem fw_mem {kd:Nat}{s:Int}:∀ x∈fw kd s,x∈rw16:=by
 intro x h
 unfold fw at h
 rcases List.mem_append.mp h with h | h
 ·have:∀ x∈rA kd,x∈rw16:=by
   unfold rA
   split <;> decide +kernel
  exact this x h
 ·split at h
  ·cases List.mem_singleton.mp h; decide +kernel
  ·cases h
theorem rD {kd:Nat}{s:Int}:(fw kd s).length<=6:=by
 unfold fw
 rw[length_append]
 have:(rA kd).length<=5:=by unfold rA; split <;> decide
 split <;> simp <;> lia
noncomputable def ents (t:Nat->Tok) (b:Nat->Addr):List (Str×Tok×Addr):=[("shifted",t 0,b 0),("scaled",t 1,b 1),("early",t 2,b 2),("more",t 3,b 3),("wide",t 4,b 4)]
def RowsA (K:Frag) (P:Program) (w:World) (a:Addr):Prop:=∃ (t:Nat->Tok) (b:Nat->Addr),GD K P w a ((ents t b).map gVal)/\∀ i,i<5->∀ H,SqT K H (b i) ((rA i).map V.str)
def spFW (c:Ad):Sp:=fun vs H Q _=>∃ (x:Addr) (kd:Nat) (e f s:Int),vs=[.ref x]/\FO c H x kd e f s/\Fm kd e f s/\∀ l H',H l=none->H' l=some (.lst ((fw kd s).map V.str))->Same H H'->Q (.ref l) H'
def spRW:Sp:=fun vs H Q _=>vs=[]/\∀ l,H l=none->Q (.ref l) (upd H l (.lst (rw16.map V.str)))
def spPr:Sp:=fun vs H Q _=>∃ p:Addr,vs=[.ref p]/\Bx H p/\∀ (a:Addr) (kvs:List (Key×V)) H',H a=none->H' a=some (.dK kvs)->GoodD kvs->Tb 40 kvs->Bx H' p->SameX p H H'->Q (.ref a) H'
def spMO:Sp:=fun vs H Q _=>∃ (r:Addr) (kd:Nat) (e f s:Int),vs=[.ref r]/\H r=some (.tup (tlv kd e f s))/\Fm kd e f s/\∀ l H',H l=none->H' l=some (.lst ((fw kd s).map V.str))->Same H H'->Q (.ref l) H'
theorem oW (K:Frag):kitOne K (.type "dict") (.type "dict")=some true:=by with_unfolding_all rfl
theorem oA (K:Frag):kitOne K (.type "list") (.type "list")=some true:=by with_unfolding_all rfl
theorem rows_at {t:Nat->Tok}{b:Nat->Addr}{kd:Nat}(h:kd<5):valueAt ((ents t b).map gVal) (.inr (wdF kd))=some (.ref (b kd)):=by
 rcases(by lia:kd=0\/kd=1\/kd=2\/kd=3\/kd=4) with rfl | rfl | rfl | rfl | rfl <;> rfl
theorem Txt.shf {K:Frag}{mg:Str->Option Value}{c:Ad}(T:Txt K mg c) {kd:Nat}(h:kd<5):Cls K (fOf c kd)/\NoAttr K (fOf c kd) "shift":=by
 rcases(by lia:kd=0\/kd=1\/kd=2\/kd=3\/kd=4) with rfl | rfl | rfl | rfl | rfl
 ·exact⟨T.cl_Shifted,T.na_Shifted_shift⟩
 ·exact⟨T.cl_Scaled,T.na_Scaled_shift⟩
 ·exact⟨T.cl_Early,T.na_Early_shift⟩
 ·exact⟨T.cl_More,T.na_More_shift⟩
 ·exact⟨T.cl_Wide,T.na_Wide_shift⟩
theorem rF {kd:Nat}{e f s:Int}:(tN kd e f s).lookup ("word":Str)=none:=by
 unfold tN
 split <;> rfl
theorem fl_shift {kd:Nat}{e f s:Int}:(tN kd e f s).lookup ("shift":Str)=some (.int s):=by
 unfold tN
 split <;> rfl
def QL {α:Type}(R:Hp->Addr->α->Prop) (H:Hp) (ps:List Addr) (xs:List α):Prop:=ps.length=xs.length/\∀ (i:Nat) p x,ps[i]?=some p->xs[i]?=some x->R H p x
theorem QL.mono {α:Type}{R:Hp->Addr->α->Prop}{H H':Hp}{ps:List Addr}{xs:List α}(h:QL R H ps xs) (f:∀ p x,R H p x->R H' p x):QL R H' ps xs:=⟨h.1,fun i p x a b=>f _ _ (h.2 i p x a b)⟩
theorem QL.nil {α:Type}{R:Hp->Addr->α->Prop}{H:Hp}:QL R H [] ([]:List α):=⟨rfl,fun i p x a b=>by simp at a⟩
theorem QL.append {α:Type}{R:Hp->Addr->α->Prop}{H:Hp}{ps qs:List Addr}{xs ys:List α}(h:QL R H ps xs) (g:QL R H qs ys):QL R H (ps++qs) (xs++ys):=by
 refine⟨by rw[length_append,length_append,h.1,g.1],fun i p x a b=>?_⟩
 by_cases hi:i<ps.length
 ·rw[List.getElem?_append_left hi] at a
  rw[List.getElem?_append_left (by rw[<- h.1]; exact hi)] at b
  exact h.2 i p x a b
 ·rw[List.getElem?_append_right (by lia)] at a
  rw[List.getElem?_append_right (by rw[<- h.1]; lia),<- h.1] at b
  exact g.2 _ p x a b
theorem QL.one {α:Type}{R:Hp->Addr->α->Prop}{H:Hp}{p:Addr}{x:α}(h:R H p x):QL R H [p] [x]:=⟨rfl,fun i q y a b=>by
 cases i with
 | zero=>cases a; cases b; exact h
 | succ n=>simp at a⟩
theorem QL.snoc {α:Type}{R:Hp->Addr->α->Prop}{H:Hp}{ps:List Addr}{xs:List α}{p:Addr}{x:α}(h:QL R H ps xs) (g:R H p x):QL R H (ps++[p]) (xs++[x]):=h.append (.one g)
def BL {α:Type}(R:Hp->Addr->α->Prop) (H:Hp) (a:Addr) (xs:List α):Prop:=∃ ps:List Addr,H a=some (.lst (ps.map V.ref))/\QL R H ps xs
theorem SFO.updL {c:Ad}{H:Hp}{l x:Addr}{zs ys:List V}{sd:SD}(o:SFO c H x sd) (e:H l=some (.lst zs)):SFO c (upd H l (.lst ys)) x sd:=by
 cases sd with
 | cut f k=>obtain⟨dx,h⟩:=o; exact⟨dx,by rw[au (fun z=>by rw[z,e] at h; cases h)]; exact h⟩
 | turn kd e' f t=>obtain⟨dx,y,h,dy,g⟩:=o; exact⟨dx,y,by rw[au (fun z=>by rw[z,e] at h; cases h)]; exact h,dy,by rw[au (fun z=>by rw[z,e] at g; cases g)]; exact g⟩
theorem STd.updL {H:Hp}{l x:Addr}{zs ys:List V}{sd:SD}(o:STd H x sd) (e:H l=some (.lst zs)):STd (upd H l (.lst ys)) x sd:=by
 cases sd with
 | cut f k =>
  have h:H x=_:=o
  show upd H l _ x=_
  rw[au (fun z=>by rw[z,e] at h; cases h)]; exact h
 | turn kd e' f t=>obtain⟨y,h,g⟩:=o; exact⟨y,by rw[au (fun z=>by rw[z,e] at h; cases h)]; exact h,by rw[au (fun z=>by rw[z,e] at g; cases g)]; exact g⟩
def cCu (A d:Int) (n:Nat):List SD:=(List.range n).filterMap fun (k:Nat)=>if A*2^k/d+1<A then some (.cut (A*2^k/d+1) (k:Int)) else none
theorem jb (A d:Int) (n:Nat):cCu A d (n+1)=cCu A d n++(if A*2^n/d+1<A then [.cut (A*2^n/d+1) (n:Int)] else []):=by
 unfold cCu
 rw[List.range_succ,List.filterMap_append]
 congr 1
 by_cases h:A*2^n/d+1<A
 ·rw[if_pos h]; simp only[filterMap_cons,filterMap_nil,if_pos h]
 ·rw[if_neg h]; simp only[filterMap_cons,filterMap_nil,if_neg h]
theorem jO (A d:Int) (n:Nat):(cCu A d n).length<=n:=by
 have:=List.length_filterMap_le (fun (k:Nat)=>if A*2^k/d+1<A then some (SD.cut (A*2^k/d+1) (k:Int)) else none) (List.range n)
 rw[length_range] at this
 exact this
def toS (x:Cd):SD:=.turn x.kd x.e x.f x.s
noncomputable def mF (A d t:Int):List SD:=cCu A d (intBits (d-1)+1)++(kY A d t).map toS
theorem cCu_ok {A d:Int}{n:Nat}(hA:0<A) (hA2:A<=4294967296) (d1:1<=d) (hn:n<=64):∀ x∈cCu A d n,x.ok/\x.e=0:=by
 intro x hx
 obtain⟨k,hk,e⟩:=List.mem_filterMap.mp hx
 have hk':=List.mem_range.mp hk
 split at e
 ·next h =>
  cases e
  have:0<=A*2^k/d:=ediv_nonneg (mul_nonneg (by lia) (by have:=fB k; lia)) (by lia)
  exact⟨⟨by lia,by lia,by lia,by lia⟩,rfl⟩
 ·cases e
theorem jc {w d t:Int}(w1:4<=w) (w2:w<=32) (d1:1<=d) (d2:d<2^w.toNat) (tw:Tw d t):(mF (1*2^w.toNat) d t).length<=300/\0<(mF (1*2^w.toNat) d t).length:=by
 have l1:=jO (1*2^w.toNat) d (intBits (d-1)+1)
 have l2:=lW w1 w2 d1 d2 tw
 have lb:=(fE w2 d1 d2).1
 unfold mF
 rw[length_append,length_map]
 lia
theorem qG {x:Cd}{w d:Int}(h:AllG x.e (nF x.kd w x.f) (nA x.kd x.f) (nT x.kd w x.s) d (1*2^w.toNat-1)) {z:Int}(z0:-(1*2^w.toNat-1)<=z) (z1:z<=1*2^w.toNat-1):(toS x).q w z=fG z d:=by
 unfold toS SD.q fG
 dsimp only
 by_cases n:z<0
 ·rw[if_pos n,if_pos n,h (-z) (by lia) (by lia)]
 ·rw[if_neg n,if_neg n,h z (by lia) z1]
theorem qL {w d t:Int}(w1:4<=w) (w2:w<=32) (d1:1<=d) (d2:d<2^w.toNat):∃ x∈mF (1*2^w.toNat) d t,∀ z,-(1*2^w.toNat-1)<=z->z<=1*2^w.toNat-1->x.q w z=fG z d:=by
 obtain⟨x,hx,_,h⟩:=qE (t:=t) w1 w2 d1 d2
 exact⟨toS x,mem_append_right _ (List.mem_map.mpr ⟨x,hx,rfl⟩),fun z z0 z1=>qG h z0 z1⟩
theorem eK {w d:Int}(w1:4<=w) (d2:d<=2^(w-1).toNat):d<2^w.toNat/\(2:Int)^w.toNat=2*2^(w-1).toNat:=by
 have e:w.toNat=(w-1).toNat+1:=by lia
 have:=fB (w-1).toNat
 rw[e,pow_succ]
 lia
noncomputable def sw:SD->List Str
 | .cut _ k=>(["set","high","right","gap","and","gap"]:List Str)++((if k=0 then ([]:List Str) else ["slide"])++(["sum"]:List Str))
 | .turn kd _ _ s=>(["right","gap","unlike","gap"]:List Str)++fw kd s++(["unlike","gap"]:List Str)
theorem qd {sd:SD}:∀ x∈sw sd,x∈rw16:=by
 intro x h
 cases sd with
 | cut f k =>
  have:∀ x∈(["set","high","right","gap","and","gap"]:List Str)++((if k=0 then ([]:List Str) else ["slide"])++(["sum"]:List Str)),x∈rw16:=by
   by_cases hk:k=0
   ·rw[if_pos hk]; decide +kernel
   ·rw[if_neg hk]; decide +kernel
  exact this x h
 | turn kd e f s =>
  unfold sw at h
  rcases List.mem_append.mp h with h | h
  ·rcases List.mem_append.mp h with h | h
   ·exact(show ∀ x∈(["right","gap","unlike","gap"]:List Str),x∈rw16 by decide +kernel) x h
   ·exact fw_mem x h
  ·exact(show ∀ x∈(["unlike","gap"]:List Str),x∈rw16 by decide +kernel) x h
theorem sw_len {sd:SD}:(sw sd).length<=12:=by
 cases sd with
 | cut f k =>
  show ((["set","high","right","gap","and","gap"]:List Str)++((if k=0 then ([]:List Str) else ["slide"])++(["sum"]:List Str))).length<=12
  by_cases hk:k=0
  ·rw[if_pos hk]; decide
  ·rw[if_neg hk]; decide
 | turn kd e f s =>
  have:=rD (kd:=kd) (s:=s)
  unfold sw
  simp only[length_append,length_cons,List.length_nil]
  lia
noncomputable def wdS:Nat->Str
 | 0=>"cutting"
 | _=>"turned"
def rb (i:Nat):Sp:=fun vs H Q _=>∃ x:Addr,vs=[.ref x]/\Q (.str (wdS i)) H
def jn (c:Ad) (i:Nat):Sp:=fun vs H Q _=>∃ (x:Addr) (sd:SD),vs=[.ref x]/\sd.ix=i/\SFO c H x sd/\sd.ok/\∀ r H',H r=none->STd H' r sd->Same H H'->Q (.ref r) H'
def spRL (c:Ad) (i:Nat):Sp:=fun vs H Q _=>∃ (x:Addr) (sd:SD),vs=[.ref x]/\sd.ix=i/\SFO c H x sd/\sd.ok/\∀ l H',H l=none->H' l=some (.lst ((sw sd).map V.str))->Same H H'->Q (.ref l) H'
def spSWd (c:Ad):Sp:=fun vs H Q _=>∃ (x:Addr) (sd:SD),vs=[.ref x]/\SFO c H x sd/\sd.ok/\∀ l H',H l=none->H' l=some (.lst ((sw sd).map V.str))->Same H H'->Q (.ref l) H'
def oB (c:Ad):Sp:=fun vs H Q _=>∃ w d:Int,vs=[.int w,.int d]/\4<=w/\w<=32/\1<=d/\d<=2^(w-1).toNat/\∀ (t:Int) l H',Tw d t->H l=none->BL (SFO c) H' l (mF (1*2^w.toNat) d t)->Same H H'->Q (.ref l) H'
def oE:Sp:=fun vs H Q _=>∃ w d:Int,vs=[.int w,.int d]/\4<=w/\w<=32/\1<=d/\d<=2^(w-1).toNat/\∀ (t:Int) l H',Tw d t->H l=none->BL STd H' l (mF (1*2^w.toNat) d t)->Same H H'->Q (.ref l) H'
def spMS:Sp:=fun vs H Q _=>∃ (r:Addr) (sd:SD),vs=[.ref r]/\STd H r sd/\sd.ok/\∀ l H',H l=none->H' l=some (.lst ((sw sd).map V.str))->Same H H'->Q (.ref l) H'
noncomputable def lamAs (st:Stmt) (i j:Nat):Expr:=match (bH st).getD i (.Pass ⟨0,0,0,0⟩) with
 | .Assign _ (.Call _ args _ _) _=>args.getD j (.Constant .none 0 ⟨0,0,0,0⟩)
 | _=>.Constant .none 0 ⟨0,0,0,0⟩
abbrev lm:Expr:=lamAs aV 2 1
noncomputable abbrev lmQ:Str:=("signed_wrong":Str)++".<locals>."++"<lambda>"
noncomputable abbrev clOf (n:Nat):List (Str×Addr):=[("width",n+1),("form",n+1+1+1),("d",n+1+1)]
abbrev TO (PT0:Addr) (H:Hp):Prop:=TabA PT0 lmQ H
theorem _root_.Internal.L2.TabA.x {P p:Addr}{q:Str}{H H':Hp}(x:TabA P q H) (hb:Bx H p) (s:SameX p H H'):TabA P q H':=by
 obtain⟨r1,r2,h⟩:=hb
 exact x.keep (fun _ e=>s _ _ (fun z=>by rw[z,h] at e; cases e) e) fun a φ e=>s _ _ (fun z=>by rw[z,h] at e; cases e) e
theorem SFO.q {P:Addr}{qual:Str}{c:Ad}{H H':Hp}{x:Addr}{sd:SD}(o:SFO c H x sd) (t:TabA P qual H) (s:SameX P H H'):SFO c H' x sd:=by
 obtain⟨ps,e,_⟩:=t
 cases sd with
 | cut f k=>obtain⟨dx,h⟩:=o; exact⟨dx,s _ _ (fun z=>by rw[z,e] at h; cases h) h⟩
 | turn kd e' f t=>obtain⟨dx,y,h,dy,g⟩:=o; exact⟨dx,y,s _ _ (fun z=>by rw[z,e] at h; cases h) h,dy,s _ _ (fun z=>by rw[z,e] at g; cases g) g⟩
abbrev hf (w:Int):Int:=1*2^(w-1).toNat
def AllN (sd:SD) (w d n:Int):Prop:=AllS sd w d (-n) (kM n (hf w-1))
theorem d8 {a b:Int}:kM a b<=a/\kM a b<=b/\(kM a b=a\/kM a b=b):=by unfold kM; split <;> lia
theorem AllN.mono {sd:SD}{w d m n:Int}(h:AllN sd w d n) (hm:m<=n):AllN sd w d m:=fun x x0 x1=>h x (by lia) (by
 have a:=d8 (a:=m) (b:=hf w-1)
 have b:=d8 (a:=n) (b:=hf w-1)
 lia)
def Nr (sd:SD) (w d x:Int):Prop:=-hf w<=x/\x<hf w/\sd.q w x≠fG x d/\(if x<0 then AllS sd w d (x+1) (kM (-x) (hf w-1)) else AllS sd w d (1-x) (x-1))
theorem Nr.right {sd:SD}{w d x y:Int}(a:Nr sd w d x) (y0:-hf w<=y) (y1:y<hf w) (h:(y.natAbs<x.natAbs)\/(x<0/\y=-x)):sd.q w y=fG y d:=by
 obtain⟨a0,a1,a2,a3⟩:=a
 by_cases xn:x<0
 ·rw[if_pos xn] at a3
  have m:=d8 (a:=-x) (b:=hf w-1)
  exact a3 y (by lia) (by lia)
 ·rw[if_neg xn] at a3
  exact a3 y (by lia) (by lia)
theorem Nr.uniq {sd:SD}{w d x y:Int}(a:Nr sd w d x) (b:Nr sd w d y):x=y:=by
 refine Classical.byContradiction fun n=>?_
 have a':=a
 have b':=b
 obtain⟨a0,a1,a2,a3⟩:=a
 obtain⟨b0,b1,b2,b3⟩:=b
 by_cases h:y.natAbs<x.natAbs
 ·exact b2 (a'.right b0 b1 (.inl h))
 ·by_cases h2:x.natAbs<y.natAbs
  ·exact a2 (b'.right a0 a1 (.inl h2))
  ·by_cases xn:x<0
   ·exact b2 (a'.right b0 b1 (.inr ⟨xn,by lia⟩))
   ·exact a2 (b'.right a0 a1 (.inr ⟨by lia,by lia⟩))
def LS (sd:SD) (w d:Int) (v:V):Prop:=(v=.non/\AllS sd w d (-hf w) (hf w-1))\/∃ x,v=.int x/\Nr sd w d x
theorem Nr.not {sd:SD}{w d x:Int}(a:Nr sd w d x):¬ AllS sd w d (-hf w) (hf w-1):=fun h=>a.2.2.1 (h x a.1 (by have:=a.2.1; lia))
theorem LS.uniq {sd:SD}{w d:Int}{v u:V}(x:LS sd w d v) (y:LS sd w d u):v=u:=by
 rcases x with ⟨rfl,a⟩ | ⟨i,rfl,a⟩ <;> rcases y with ⟨rfl,b⟩ | ⟨j,rfl,b⟩
 ·rfl
 ·exact absurd a b.not
 ·exact absurd b a.not
 ·rw[a.uniq b]
theorem near_up {sd:SD}{w d j:Int}(j0:0<=j) (j1:j<hf w) (al:∀ n,n<j->AllN sd w d n) (wr:sd.q w j≠fG j d):Nr sd w d j:=by
 refine⟨by lia,j1,wr,?_⟩
 rw[if_neg (by lia)]
 intro x x0 x1
 have m:=d8 (a:=j-1) (b:=hf w-1)
 exact al (j-1) (by lia) x (by lia) (by lia)
theorem nM {sd:SD}{w d j:Int}(j1:j<=hf w) (al:∀ n,n<j->AllN sd w d n) (na:¬ AllN sd w d j) (rt:j<hf w->0<=j->sd.q w j=fG j d) (j0:0<=j):Nr sd w d (-j)/\0<j:=by
 have m:=d8 (a:=j-1) (b:=hf w-1)
 have mj:=d8 (a:=j) (b:=hf w-1)
 have low:∀ x,-j<x->x<=kM j (hf w-1)->sd.q w x=fG x d:=fun x x0 x1=>by
  by_cases e:x=j
  ·rw[e]; exact rt (by lia) (by lia)
  ·exact al (j-1) (by lia) x (by lia) (by lia)
 have wj:sd.q w (-j)≠fG (-j) d:=fun z=>na fun x x0 x1=>by
  by_cases e:x=-j
  ·rw[e]; exact z
  ·exact low x (by lia) x1
 have jp:0<j:=by
  refine Classical.byContradiction fun z=>?_
  have e:j=0:=by lia
  subst e
  by_cases h:(0:Int)<hf w
  ·exact wj (rt h (by decide))
  ·exact na fun x x0 x1=>by lia
 refine⟨⟨by lia,by lia,wj,?_⟩,jp⟩
 rw[if_pos (by lia),neg_neg]
 intro x x0 x1
 exact low x (by lia) x1
theorem uk {x d:Int}(h:0<=x):fG x d=x/d:=by unfold fG; rw[if_neg (by lia)]
def spFF (c:Ad):List Env->Shared->Sp:=fun outer s vs H Q _=>∃ (last:Int) (g:Addr) (i d:Int) (x:Addr) (sd:SD) (cl:List (Str×Addr)),vs=[.int last,.ref g]/\4<=i/\i<=32/\last=hf i/\1<=d/\d<=18446744073709551616/\SFO c H x sd/\sd.ok/\(2:Int)^sd.e.toNat∣d /\
 Clo "<lambda>" lmQ (lamA lm) (lamB lm) (re lm) cl H g/\Cells s.heap H (frs outer) cl ["width","d","form"] [.int i,.int d,.ref x]/\(∀ y,((re lm).names.lookup y=some .cell\/(re lm).names.lookup y=some .free)->∃ c,cl.lookup y=some c) /\
 ∀ (j:Int) H',Same H H'->0<=j->j<=last->(∀ n,n<j->AllN sd i d n)->(j=last\/¬ AllN sd i d j)->Q (.int j) H'
def RFF (c:Ad) (n:Nat):L2.St->List V->Hp->VK->Prop:=fun σ vs H Q=>∃ (i last:Int) (g:Addr) (d:Int) (x:Addr) (sd:SD),σ=[some (.int i),some (.int d),some (.ref x),some (.int last),none]/\vs=[.int last,.ref g]/\4<=i/\i<=32/\last=hf i/\1<=d/\d<=18446744073709551616/\SFO c H x sd/\sd.ok/\(2:Int)^sd.e.toNat∣d /\
 Clo "<lambda>" lmQ (lamA lm) (lamB lm) (re lm) (clOf n) H g/\∀ (j:Int) H',Same H H'->0<=j->j<=last->(∀ n,n<j->AllN sd i d n)->(j=last\/¬ AllN sd i d j)->Q (.int j) H'
def spSW (c:Ad) (PT0:Addr):Sp:=fun vs H Q _=>∃ (w d:Int) (x:Addr) (sd:SD),vs=[.int w,.int d,.ref x]/\4<=w/\w<=32/\1<=d/\d<=2^(w-1).toNat/\SFO c H x sd/\sd.ok/\(2:Int)^sd.e.toNat∣d/\TO PT0 H/\∀ v H',SameX PT0 H H'->TO PT0 H'->LS sd w d v->Q v H'
def spNst:Sp:=fun vs H Q _=>∃ (r:Addr) (w d:Int) (sd:SD) (v:V),vs=[.ref r,.int w,.int d,v]/\4<=w/\w<=32/\1<=d/\d<=2^(w-1).toNat/\STd H r sd/\sd.ok/\(2:Int)^sd.e.toNat∣d/\LS sd w d v/\∀ H',Same H H'->Q (.bl true) H'
def spNP0 (c:Ad):Sp:=fun vs H Q _=>∃ (a:Addr) (kvs:List (Key×V)),vs=[.ref a]/\H a=some (.dK kvs)/\GoodD kvs/\∀ t tk H',H t=none->H' t=some (.dK tk)->(∀ y∈rw16,cR tk (.inr y)=cR kvs (.inr y))->Same H H'->Q (.ref t) H'
def spPS0 (c:Ad):Sp:=fun vs H Q _=>∃ (x:Addr) (sd:SD) (a:Addr) (kvs:List (Key×V)),vs=[.ref x,.ref a]/\SFO c H x sd/\sd.ok/\H a=some (.dK kvs)/\GoodD kvs/\∀ H',Same H H'->Q (.int (rO kvs (sw sd))) H'
section
variable {P:Program}{w:World}{K:Frag}{mg:Str->Option Value}{base:Heap}{c:Ad}{cT0 PT0 cT1 PT1:Addr}
theorem pF {f:Addr}{fd:FuncData}(F:Fun K "is_whole" "is_whole" iE f fd) (T:Txt K mg c) :FnOk P w K mg base CX0 1 f fd ["thing"] iH:=by
 refine F.ok oN (fun vs H Q E h=>?_) (fun cdv A outer s H vs Q E hr h=>?_)
 ·obtain⟨i,rfl,_⟩:=h
  rfl
 obtain⟨i,rfl,q⟩:=h
 refine⟨_,(aj (av (rB (aJ bf rfl T.n_isinstance boot_isinstance (aa (pv 0) (aa (nQ rfl T.n_int boot_int) ah))) (tV (pe_not (aJ bf rfl T.n_isinstance boot_isinstance (aa (pv 0) (aa (nQ rfl T.n_bool boot_bool) ah)))))))),?_⟩
 refine⟨_,rfl,_,_,_,_,_,rfl,rfl,TyOf.int _,gi _,_,rfl,iteT ?_⟩
 refine⟨_,rfl,_,_,_,_,_,rfl,rfl,TyOf.int _,eU _,_,rfl,?_⟩
 exact q
theorem mH {f:Addr}{fd:FuncData}(F:Fun K "is_between" "is_between" e9 f fd) (T:Txt K mg c) (H_is_whole:Has P w K mg base 1 "is_whole" ["thing"] iH):FnOk P w K mg base CX0 2 f fd ["thing","low","high"] cj:=by
 refine F.ok mB (fun vs H Q E h=>?_) (fun cdv A outer s H vs Q E hr h=>?_)
 ·obtain⟨i,lo,hi,rfl,_⟩:=h
  rfl
 obtain⟨i,lo,hi,rfl,h1,h2,q⟩:=h
 refine⟨_,(aj (av (rB (aH H_is_whole (hr.mono (by lia)) rfl (aa (pv 0) ah)) (tV (pe_chain qu qu (pv 1) (pv 0) (pv 2)))))),?_⟩
 refine⟨_,rfl,_,rfl,_,rfl,iteT ?_⟩
 refine⟨_,rfl,_,rfl,_,_,rfl,rfl,_,rfl,jd h1 ?_⟩
 refine⟨_,rfl,_,_,rfl,rfl,?_⟩
 exact ret_true h2 q
theorem lP {f:Addr}{fd:FuncData}(F:Fun K "need_width" "need_width" eM f fd) (T:Txt K mg c) (H_is_between:Has P w K mg base 2 "is_between" ["thing","low","high"] cj):FnOk P w K mg base CX0 3 f fd ["width"] cV:=by
 refine F.ok mt (fun vs H Q E h=>?_) (fun cdv A outer s H vs Q E hr h=>?_)
 ·obtain⟨i,rfl,_⟩:=h
  rfl
 obtain⟨i,rfl,h1,h2,q⟩:=h
 refine⟨_,(aj (aN (bj (bh (aH H_is_between (hr.mono (by lia)) rfl (aa (pv 0) (aa ag (aa ag ah))))))
   (aj bG)
   aw)),?_⟩
 refine⟨_,rfl,_,_,_,rfl,h1,h2,_,rfl,db ?_⟩
 exact q
theorem mP {f:Addr}{fd:FuncData}(F:Fun K "corners_to" "corners_to" eG f fd) (T:Txt K mg c) :FnOk P w K mg base CX0 1 f fd ["last","d"] dJ:=by
 refine F.ok sc_corners_to (fun vs H Q E h=>?_) (fun cdv A outer s H vs Q E hr h=>?_)
 ·obtain⟨last,d,rfl,_⟩:=h
  rfl
 obtain⟨last,d,rfl,l0,l1,d1,d2,q⟩:=h
 refine⟨_,(af (ax (i:=2) sc_corners_to.nd rfl (Or.inl rfl) (aq bi (pv 0) (pv 1)))
  (af (ax (i:=3) sc_corners_to.nd rfl (Or.inl rfl) (bu (aa ag (aa (aJ (eE rfl) rfl T.n_min boot_min (aa (aq aL (pv 1) ag) (aa (pv 0) ah))) (aa (aq cS (pv 2) (pv 1)) (aa (pv 0) ah))))))
  (bn (aN (aA o9 (pv 2) ag (aI _))
   (aj (aK (cN PySem.F.plainAttrs_list PySem.F.slot_list_append PySem.F.type_list_append aP (pv 3) (aa (aq aL (aq cS (pv 2) (pv 1)) ag) ah))))
   aw)
  (aj (av (aJ (eV hr.hd) rfl T.n_sorted boot_sorted (aa (hE (qg hr.hd) rfl T.n_set boot_set (aa (pv 3) ah)) ah))))))),?_⟩
 obtain⟨n0,n1,n2,n3,n4⟩:=ja l0 l1 d1
 have lg:=bK (m:=d) (by lia) (by lia)
 refine⟨_,rfl,_,rfl,_,_,rfl,rfl,⟨by lia,lg⟩,?_⟩
 refine⟨_,rfl,_,_,rfl,rfl,_,rfl,_,_,rfl,_,rfl,_,rfl,_,_,rfl,rfl,⟨lc (by lia) (by lia),lc (by lia) (by lia)⟩,_,rfl,(by show 4<=sizeLine; decide),fun l hl=>?_⟩
 refine⟨fun σ2 HZ=>∃ ns:List Int,σ2=[some (.int last),some (.int d),some (.int (last/d)),some (.ref l)]/\HZ=upd H l (.lst (ns.map V.int))/\ns.length<=5/\∀ x,x∈ns ↔ CorM last d x,?_,?_⟩
 ·have em:(if last<d-1 then last else d-1)=(if d-1<last then d-1 else last):=by
   split <;> split <;> lia
  refine⟨_,rfl,rfl,_,rfl,?_⟩
  by_cases hq:last/d=0
  ·refine mw (congrArg V.int hq) ⟨[0,if last<d-1 then last else d-1,last/d*d,last],rfl,rfl,(by show 4<=5; decide),fun x=>?_⟩
   rw[em]
   unfold CorM
   simp only[mem_cons,not_mem_nil,or_false,hq,ne_eq,not_true_eq_false,false_and]
  ·refine iteN (fun z=>hq (by injection z)) ?_
   refine⟨_,rfl,.inl ⟨rfl,_,SqL.of ae⟩,_,rfl,_,rfl,_,_,rfl,rfl,⟨lc (by lia) (by lia),lc (by lia) (by lia)⟩,_,_,rfl,rfl,l,_,_,rfl,rfl,ae,(by show 4<sizeLine; decide),?_⟩
   refine⟨[0,if last<d-1 then last else d-1,last/d*d,last,last/d*d-1],rfl,?_,(by show 5<=5; decide),fun x=>?_⟩
   ·rw[upd_upd]
    rfl
   ·rw[em]
    unfold CorM
    simp only[mem_cons,not_mem_nil,or_false,hq,ne_eq,not_false_eq_true,true_and]
 rintro σ2 HZ ⟨ns,rfl,rfl,len,mem⟩
 refine⟨_,rfl,l,ns,rfl,SqL.of ae,by lia,fun p hp=>?_⟩
 refine⟨p,ns,rfl,ae,by lia,fun r zs hr' pw mz=>?_⟩
 have s1:=ao hl (.lst (ns.map V.int))
 have s2:Same H (upd (upd H l (.lst (ns.map V.int))) p (sI w p ns)):=s1.trans (ao hp _)
 exact q r zs _ (s2.free hr') ae (s2.trans (ao hr' _)) ⟨pw,fun x=>(mz x).trans (mem x)⟩ (len5 pw mz len)
theorem et {f:Addr}{fd:FuncData}(F:Fun K "need_signed_divisor" "need_signed_divisor" bC f fd) (T:Txt K mg c) (H_need_width:Has P w K mg base 3 "need_width" ["width"] cV) (H_is_between:Has P w K mg base 2 "is_between" ["thing","low","high"] cj):FnOk P w K mg base CX0 4 f fd ["width","d"] jg:=by
 refine F.ok eo (fun vs H Q E h=>?_) (fun cdv A outer s H vs Q E hr h=>?_)
 ·obtain⟨i,d,rfl,_⟩:=h
  rfl
 obtain⟨i,d,rfl,h1,h2,d1,d2,q⟩:=h
 refine⟨_,(af (aK (aH H_need_width (hr.mono (by lia)) rfl (aa (pv 0) ah)))
  (aj (aN (bj (bh (aH H_is_between (hr.mono (by lia)) rfl (aa (pv 1) (aa ag (aa (aq br ag (aq aL (pv 0) ag)) ah))))))
   (aj bG)
   aw))),?_⟩
 refine⟨_,rfl,_,rfl,h1,h2,?_⟩
 refine⟨_,rfl,_,rfl,_,_,rfl,rfl,_,_,rfl,rfl,hX (by lia) (by lia),_,_,_,rfl,d1,by lia,_,rfl,db ?_⟩
 exact q
theorem fz {f:Addr}{fd:FuncData}(F:Fun K "signed_corners_to" "signed_corners_to" bO f fd) (T:Txt K mg c) (H_corners_to:Has P w K mg base 1 "corners_to" ["last","d"] dJ):FnOk P w K mg base CX0 2 f fd ["up","down","d"] spSC:=by
 refine F.ok sc_signed_corners_to (fun vs H Q E h=>?_) (fun cdv A outer s H vs Q E hr h=>?_)
 ·obtain⟨up,down,d,rfl,_⟩:=h
  rfl
 obtain⟨up,down,d,rfl,u0,u1,w0,w1,d1,d2,q⟩:=h
 refine⟨_,(bn (ax (i:=3) sc_signed_corners_to.nd rfl (Or.inl rfl) (ie (aA oh (pv 0) ag (aI _)) (aH H_corners_to (hr.mono (by lia)) rfl (aa (pv 0) (aa (pv 2) ah))) (bu ah)))
  (bn (aN (aA kK (pv 1) ag (aI _))
   (af (ax (i:=4) sc_signed_corners_to.nd rfl (Or.inl rfl) (aq cS (aq bi (pv 1) (pv 2)) (pv 2)))
   (af (ax (i:=5) sc_signed_corners_to.nd rfl (Or.inl rfl) (bu (aa (aq aL ag (pv 2)) (aa (aq aL ag (pv 4)) (aa (jF eN (pv 4)) (aa (jF eN (pv 1)) ah))))))
   (aj (aK (cN PySem.F.plainAttrs_list PySem.F.slot_list_extend PySem.F.type_list_extend e8 (pv 3) (aa (rL [1] ["down"] rfl (by first | rfl | with_unfolding_all rfl) (by rfl) (by exact(List.forall_mem_cons.mpr ⟨rfl,(fun _ h=>nomatch h)⟩)) (by decide +kernel) rfl (by decide +kernel) rfl (by decide +kernel) (by exact(List.forall_mem_cons.mpr ⟨⟨by first | exact Or.inl rfl | exact Or.inr rfl,rfl⟩,(fun _ h=>nomatch h)⟩)) rfl (by rfl) (cr (pv 5)) (fun C s2 H2 fp=>(jf qu eD (jF eN (pv 1)) (pv 0) ag)) (fun C s2 H2 fp=>(pv 0))) ah))))))
   aw)
  (aj (av (aJ (eV hr.hd) rfl T.n_sorted boot_sorted (aa (hE (qg hr.hd) rfl T.n_set boot_set (aa (pv 3) ah)) ah)))))),?_⟩
 have lg:=bK (m:=d) (by lia) (by lia)
 refine⟨fun σ2 HZ=>∃ (l:Addr) (ns:List Int),σ2=[some (.int up),some (.int down),some (.int d),some (.ref l),none,none]/\HZ l=some (.lst (ns.map V.int))/\H l=none/\Same H HZ/\ns.length<=5/\∀ x,x∈ns ↔ (0<=up/\CorM up d x),?_,?_⟩
 ·refine⟨_,rfl,_,_,rfl,rfl,_,rfl,?_⟩
  walk_at "c" <;> intro c0
  ·exact⟨_,rfl,_,rfl,_,_,rfl,c0,u1,d1,d2,fun p zs H' fp hp s1 cor ln=>⟨p,zs,rfl,hp,fp,s1,ln,fun x=>⟨fun h=>⟨c0,(cor.2 x).mp h⟩,fun h=>(cor.2 x).mpr h.2⟩⟩⟩
  ·exact⟨(by show 0<=sizeLine; decide),fun l hl=>⟨l,[],rfl,ae,hl,ao hl _,by decide,fun x=>⟨fun h=>(nomatch h),fun h=>absurd h.1 c0⟩⟩⟩
 rintro σ2 H1 ⟨l,ns,rfl,hl1,l0,s1,ln,mem⟩
 refine⟨fun σ2 HZ=>∃ (ns2:List Int) (z4 z5:Option V),σ2=[some (.int up),some (.int down),some (.int d),some (.ref l),z4,z5]/\HZ l=some (.lst (ns2.map V.int))/\Same H HZ/\ns2.length<=9/\∀ x,x∈ns2 ↔ SCM up down d x,?_,?_⟩
 ·refine⟨_,rfl,_,_,rfl,rfl,_,rfl,?_⟩
  walk_at "c" <;> intro c1
  ·obtain⟨n0,n1,n2,n3,n4⟩:=ja (last:=down) (by lia) (by lia) d1
   refine⟨_,rfl,_,rfl,_,_,rfl,rfl,⟨by lia,lg⟩,_,rfl,_,_,rfl,rfl,⟨lc (by lia) (by lia),lc (by lia) (by lia)⟩,?_⟩
   refine⟨_,rfl,_,_,rfl,rfl,_,rfl,_,_,rfl,rfl,_,rfl,_,rfl,_,rfl,_,rfl,(by show 4<=sizeLine; decide),fun b hb=>?_⟩
   have s2:=ao hb (.lst [.int (1-d),.int (1-down/d*d),.int (-(down/d*d)),.int (-down)])
   have hb2:upd H1 b (.lst [.int (1-d),.int (1-down/d*d),.int (-(down/d*d)),.int (-down)]) b=some (.lst ([1-d,1-down/d*d,-(down/d*d),-down].map V.int)):=ae
   have hl2:=s2 _ _ hl1
   generalize upd H1 b (.lst [.int (1-d),.int (1-down/d*d),.int (-(down/d*d)),.int (-down)])=H2 at s2 hb2 hl2 ⊢
   refine⟨_,rfl,.inl ⟨rfl,_,SqL.of hl2⟩,?_⟩
   refine⟨_,rfl,b,rfl,⟨_,SqL.of hb2⟩,fun D hD=>?_⟩
   generalize hbl:[1-d,1-down/d*d,-(down/d*d),-down]=bl at hb2 ⊢
   have l4:bl.length=4:=by rw[<- hbl]; rfl
   refine qA (K:=K) (a:=b) (xs:=bl.map V.int) (fun j H3=>Same H2 H3/\H3 D=some (.lst (((bl.take j).filter (fun x=>decide (-down<=x/\x<0))).map V.int))) ⟨ao hD _,ae⟩ (fun j H3 _ ⟨s3,_⟩=>SqL.of (s3 _ _ hb2)) ?_ ?_
   ·rintro j y H3 hj ⟨s3,hd3⟩
    rw[List.getElem?_map] at hj
    cases hz:bl[j]? with
    | none=>rw[hz] at hj; cases hj
    | some z =>
     rw[hz] at hj
     cases hj
     have hjl:=(List.getElem?_eq_some_iff.mp hz).1
     have tk:bl.take (j+1)=bl.take j++[z]:=by rw[take_add_one,hz]; rfl
     have hl2':(bl.map V.int).length=bl.length:=length_map _
     have flen:((bl.take j).filter (fun x=>decide (-down<=x/\x<0))).length<=4:=Nat.le_trans (List.length_filter_le _ _) (by rw[length_take]; lia)
     refine⟨_,rfl,_,rfl,_,rfl,_,_,rfl,rfl,_,rfl,?_⟩
     walk_at "c" <;> intro ca
     ·refine⟨_,_,rfl,rfl,_,rfl,?_⟩
      walk_at "c" <;> intro cb
      ·refine⟨_,rfl,_,hd3,?_,(bl.map V.int).length-(j+1),by lia,rfl,by lia,?_,?_⟩
       ·rw[length_map,sizeLine_eq]; lia
       ·exact fun b o h=>by rw[au (aE h hD)]; exact s3 b o h
       ·rw[ae,tk,filter_append,map_append,filter_cons,if_pos (decide_eq_true ⟨ca,cb⟩)]
        rfl
      ·refine⟨(bl.map V.int).length-(j+1),by lia,rfl,by lia,s3,?_⟩
       rw[hd3,tk,filter_append,filter_cons,if_neg (by rw[decide_eq_true_iff]; exact fun z=>cb z.2),List.filter_nil,append_nil]
     ·refine⟨_,rfl,db ⟨(bl.map V.int).length-(j+1),by lia,rfl,by lia,s3,?_⟩⟩
      rw[hd3,tk,filter_append,filter_cons,if_neg (by rw[decide_eq_true_iff]; exact fun z=>ca z.1),List.filter_nil,append_nil]
   ·rintro H3 ⟨s3,hd3⟩
    rw[length_map,take_length] at hd3
    have fl:(bl.filter (fun x=>decide (-down<=x/\x<0))).length<=4:=Nat.le_trans (List.length_filter_le _ _) (by lia)
    have hl3:=s3 _ _ hl2
    refine⟨l,D,_,_,rfl,rfl,hl3,hd3,by rw[length_map,length_map,sizeLine_eq]; lia,?_⟩
    refine⟨ns++bl.filter (fun x=>decide (-down<=x/\x<0)),_,_,rfl,by rw[ae,map_append],fun b o h=>?_,by rw[length_append]; lia,fun x=>?_⟩
    ·rw[au (aE h l0)]
     exact s3 _ _ (s2 _ _ (s1 _ _ h))
    ·rw[mem_append,mem x,List.mem_filter,decide_eq_true_iff,<- hbl,rW c1 d1]
     unfold SCM
     constructor
     ·rintro (h | h)
      ·exact .inl h
      ·exact .inr ⟨c1,h⟩
     ·rintro (h | ⟨_,h⟩)
      ·exact .inl h
      ·exact .inr h
  ·refine⟨ns,_,_,rfl,hl1,s1,by lia,fun x=>?_⟩
   rw[mem x]
   unfold SCM
   exact⟨.inl,fun h=>h.resolve_right fun z=>c1 z.1⟩
 rintro σ2 HZ ⟨ns2,z4,z5,rfl,hl2,s2,ln2,mem2⟩
 refine⟨_,rfl,l,ns2,rfl,SqL.of hl2,by lia,fun p hp=>?_⟩
 refine⟨p,ns2,rfl,ae,by lia,fun r zs hr' pw mz=>?_⟩
 have s3:Same H (upd HZ p (sI w p ns2)):=s2.trans (ao hp _)
 exact q r zs _ (s3.free hr') ae (s3.trans (ao hr' _)) ⟨pw,fun x=>(mz x).trans (mem2 x)⟩ (lenS pw mz ln2)
theorem mN {f:Addr}{fd:FuncData}(F:Fun K "_law_start" "_law_start" eI f fd) (T:Txt K mg c) :FnOk P w K mg base CX0 1 f fd ["_law_script","_law_k"] (oM K):=by
 refine F.ok sc__law_start (fun vs H Q E h=>?_) (fun cdv A outer s H vs Q E hr h=>?_)
 ·obtain⟨a,ns,k,rfl,_⟩:=h
  rfl
 obtain⟨a,ns,k,rfl,hS,k0,k1,q⟩:=h
 refine⟨_,(af (ax (i:=2) sc__law_start.nd rfl (Or.inl rfl) ag)
  (af (aN (aA (op_ne0 (Nat.lt_of_succ_lt (iM hr))) (pv 0) (bu ah) (aI _))
   (aj (ax (i:=2) sc__law_start.nd rfl (Or.inl rfl) (aY c9 (pv 0) (aq gR (pv 1) (aJ bv rfl T.n_len boot_len (aa (pv 0) ah))) (fun _ _=>rfl))))
   aw)
  (af (ax (i:=3) sc__law_start.nd rfl (Or.inl rfl) ag)
  (af (aN (aA oh (pv 2) (aq op_pow ag ag) (aI _))
   (aj (ax (i:=3) sc__law_start.nd rfl (Or.inl rfl) (pv 2)))
   aw)
  (aj (av (bu (aa (pv 3) (aa (aq aQ (aq gR (aq aQ (pv 2) (aq lf ag (pv 1))) ag) ag) ah))))))))),?_⟩
 have fin:∀ (c:Int) (H1:Hp),Same H H1->(∃ t:L2.TS,True)->True:=fun _ _ _ _=>trivial
 refine⟨_,rfl,(by show 0<=sizeLine; decide),fun l hl=>?_⟩
 have sl:=ao hl (.lst [])
 refine⟨a,l,_,rfl,rfl,sl.seq hS,SqL.of ae,_,rfl,?_⟩
 cases ns with
 | nil =>
  refine db ?_
  refine⟨_,rfl,_,_,rfl,rfl,⟨by decide,by decide,by decide⟩,_,_,rfl,rfl,_,rfl,bB (by decide) ?_⟩
  refine⟨_,rfl,_,rfl,_,rfl,_,_,rfl,rfl,sW (by decide) (by decide),_,_,rfl,rfl,_,_,rfl,rfl,(by show (0:Int)<2147483646; decide),_,_,rfl,rfl,sz2,fun p hp=>?_⟩
  exact q p _ (sl.free hp) ⟨_,_,ae⟩ (sl.trans (ao hp _))
 | cons n ns' =>
  refine iteT ?_
  have hl2:((n::ns').map V.int).length=(n::ns').length:=length_map _
  have hn:0<((((n::ns').map V.int).length:Nat):Int):=by rw[hl2,length_cons]; lia
  have j0:=Int.emod_nonneg k (show ((((n::ns').map V.int).length:Nat):Int)≠0 by lia)
  have j1:=Int.emod_lt_of_pos k hn
  have hj:(k%((((n::ns').map V.int).length:Nat):Int)).toNat<(n::ns').length:=by rw[<- hl2]; lia
  have g:=getI (n::ns') _ hj
  have e:k%((((n::ns').map V.int).length:Nat):Int)=(((k%((((n::ns').map V.int).length:Nat):Int)).toNat:Nat):Int):=by lia
  rw[<- e] at g
  refine⟨_,rfl,_,rfl,_,rfl,a,_,rfl,.inl (sl.seq hS),_,_,rfl,rfl,hn,a,_,_,_,rfl,rfl,sl.seq hS,g,?_⟩
  refine⟨_,rfl,_,_,rfl,rfl,⟨by decide,by decide,by decide⟩,_,_,rfl,rfl,_,rfl,?_⟩
  refine ite2 (fun _=>?_) (fun _=>?_)
  ·refine⟨_,rfl,?_⟩
   refine⟨_,rfl,_,rfl,_,rfl,_,_,rfl,rfl,sW (by decide) (by decide),_,_,rfl,rfl,_,_,rfl,rfl,(by show (0:Int)<2147483646; decide),_,_,rfl,rfl,sz2,fun p hp=>?_⟩
   exact q p _ (sl.free hp) ⟨_,_,ae⟩ (sl.trans (ao hp _))
  ·refine⟨_,rfl,_,rfl,_,rfl,_,_,rfl,rfl,sW (by decide) (by decide),_,_,rfl,rfl,_,_,rfl,rfl,(by show (0:Int)<2147483646; decide),_,_,rfl,rfl,sz2,fun p hp=>?_⟩
   exact q p _ (sl.free hp) ⟨_,_,ae⟩ (sl.trans (ao hp _))
theorem n9 {f:Addr}{fd:FuncData}(F:Fun K "_law_draw" "_law_draw" fZ f fd) (T:Txt K mg c) :FnOk P w K mg base CX0 1 f fd ["_law_state","_law_size"] lE:=by
 refine F.ok sc__law_draw (fun vs H Q E h=>?_) (fun cdv A outer s H vs Q E hr h=>?_)
 ·obtain⟨p,m,rfl,_⟩:=h
  rfl
 obtain⟨p,m,rfl,⟨r,s1,hp⟩,h1,h2,q⟩:=h
 refine⟨_,(af (aN (aA kK (aY c9 (pv 0) ag (fun _ _=>rfl)) ag (aI _))
   (af (ax (i:=2) sc__law_draw.nd rfl (Or.inl rfl) (aq gR (aY c9 (pv 0) ag (fun _ _=>rfl)) (pv 1)))
   (af (rZ (aq bi (aY c9 (pv 0) ag (fun _ _=>rfl)) (pv 1)) (pg_sub (pv 0) ag pZ))
   (aj (av (pv 2)))))
   aw)
  (af (rZ (aq gR (aq lf (aY c9 (pv 0) ag (fun _ _=>rfl)) ag) ag) (pg_sub (pv 0) ag pZ))
  (af (ax (i:=3) sc__law_draw.nd rfl (Or.inl rfl) (aq gR (aq lf (aq aQ (aY c9 (pv 0) ag (fun _ _=>rfl)) (aq lf ag (aq bi (aY c9 (pv 0) ag (fun _ _=>rfl)) ag))) ag) ag))
  (af (ax (i:=4) sc__law_draw.nd rfl (Or.inl rfl) (aq gR (aq aQ (aq lf (pv 3) ag) (aq bi (aY c9 (pv 0) ag (fun _ _=>rfl)) ag)) ag))
  (aj (av (aq gR (aq aQ (aq lf (pv 3) ag) (pv 4)) (pv 1)))))))),?_⟩
 refine⟨_,rfl,p,_,_,_,rfl,rfl,SqL.of hp,rfl,_,_,rfl,rfl,_,rfl,?_⟩
 by_cases hc:0<r
 ·refine jd hc ?_
  refine⟨_,rfl,p,_,_,_,rfl,rfl,SqL.of hp,rfl,_,rfl,_,_,rfl,rfl,h1,?_⟩
  refine⟨_,rfl,p,_,_,_,rfl,rfl,SqL.of hp,rfl,_,rfl,_,_,rfl,rfl,⟨h1,bK h1 h2⟩,?_⟩
  refine⟨_,rfl,p,_,_,_,rfl,rfl,hp,rfl,?_⟩
  refine⟨_,rfl,?_⟩
  exact q _ _ (Int.emod_nonneg _ (by lia)) (Int.emod_lt_of_pos _ h1) ⟨_,_,ae⟩ SameX.upd
 ·refine bB hc ?_
  refine⟨_,rfl,p,_,_,_,rfl,rfl,SqL.of hp,rfl,_,_,rfl,rfl,.inr ⟨by decide,by decide⟩,_,_,rfl,rfl,(by show (0:Int)<2147483647; decide),?_⟩
  refine⟨_,rfl,p,_,_,_,rfl,rfl,hp,rfl,?_⟩
  refine⟨_,rfl,p,_,_,_,rfl,rfl,SqL.of ae,rfl,_,rfl,p,_,_,_,rfl,rfl,SqL.of ae,rfl,_,_,rfl,rfl,⟨by decide,by decide⟩,_,_,rfl,rfl,.inl ⟨by decide,by decide⟩,_,_,rfl,rfl,_,_,rfl,rfl,.inr ⟨by decide,by decide⟩,_,_,rfl,rfl,(by show (0:Int)<2147483629; decide),?_⟩
  refine⟨_,rfl,_,_,rfl,rfl,.inr ⟨by decide,by decide⟩,_,rfl,p,_,_,_,rfl,rfl,SqL.of ae,rfl,_,_,rfl,rfl,⟨by decide,by decide⟩,_,_,rfl,rfl,_,_,rfl,rfl,(by show (0:Int)<2147483399; decide),?_⟩
  refine⟨_,rfl,_,_,rfl,rfl,.inr ⟨by decide,by decide⟩,_,rfl,_,_,rfl,rfl,_,rfl,_,_,rfl,rfl,h1,?_⟩
  exact q _ _ (Int.emod_nonneg _ (by lia)) (Int.emod_lt_of_pos _ h1) ⟨_,_,ae⟩ SameX.upd
theorem m6 {f:Addr}{fd:FuncData}(F:Fun K "_law_twos" "_law_twos" fQ f fd) (T:Txt K mg c) :FnOk P w K mg base CX0 1 f fd ["_law_d"] jr:=by
 refine F.ok sc__law_twos (fun vs H Q E h=>?_) (fun cdv A outer s H vs Q E hr h=>?_)
 ·obtain⟨d,rfl,_⟩:=h
  rfl
 obtain⟨D,rfl,d1,q⟩:=h
 refine⟨_,(af (ax (i:=1) sc__law_twos.nd rfl (Or.inl rfl) ag)
  (af (my PassesOwn.never (aA dA (aq gR (pv 0) ag) ag (aI _))
   (af (ax (i:=0) sc__law_twos.nd rfl (Or.inl rfl) (aq mG (pv 0) ag))
   (aj (ax (i:=1) sc__law_twos.nd rfl (Or.inl rfl) (aq aQ (pv 1) ag)))))
  (aj (av (pv 1))))),?_⟩
 refine md (fun σ H1=>∃ d t:Int,σ=[some (.int d),some (.int t)]/\H1=H/\1<=d/\0<=t/\D=d*2^t.toNat) (fun σ _=>match σ with | [some (.int d),_]=>d.toNat | _=>0) ⟨D,0,rfl,rfl,d1,by decide,by show D=D*2^0; rw[pow_zero,mul_one]⟩ ?_ ?_
 ·rintro σ H1 ⟨d,t,rfl,rfl,d0,t0,e⟩
  refine⟨_,rfl,_,_,rfl,rfl,(by show (0:Int)<2; decide),rfl,_,rfl,?_⟩
  by_cases hc:d%2=0
  ·refine jd (congrArg V.int hc) ?_
   refine⟨_,rfl,_,_,rfl,rfl,⟨by decide,by decide⟩,?_⟩
   refine⟨_,rfl,_,_,rfl,rfl,?_⟩
   refine⟨⟨d/2,t+1,rfl,rfl,by lia,by lia,tM t0 e hc⟩,?_⟩
   show (d/2).toNat<d.toNat
   lia
  ·refine bB (fun z=>hc (by injection z)) ?_
   exact⟨_,rfl,q t (sj t0 e hc)⟩
 ·rintro σ H1 Q1 Q2 hQ ⟨v,hv,a,b,c,d,e,f,k,hk,q1⟩
  exact⟨v,hv,a,b,c,d,e,f,k,hk,hQ _ _ q1⟩
theorem jP {f:Addr}{fd:FuncData}(F:Fun K "_law_divisor" "_law_divisor" dr f fd) (T:Txt K mg c) (H__law_draw:Has P w K mg base 1 "_law_draw" ["_law_state","_law_size"] lE):FnOk P w K mg base CX0 2 f fd ["_law_state","_law_width"] spDiv:=by
 refine F.ok sc__law_divisor (fun vs H Q E h=>?_) (fun cdv A outer s H vs Q E hr h=>?_)
 ·obtain⟨p,i,rfl,_⟩:=h
  rfl
 obtain⟨p,i,rfl,hb,h1,h2,q⟩:=h
 have pb:=aX h1 h2
 refine⟨_,(af (ax (i:=2) sc__law_divisor.nd rfl (Or.inl rfl) (aq aL (aq br ag (pv 1)) ag))
  (af (ax (i:=3) sc__law_divisor.nd rfl (Or.inl rfl) (aH H__law_draw (hr.mono (by lia)) rfl (aa (pv 0) (aa ag ah))))
  (af (aN (aA dA (pv 3) ag (aI _))
   (aj (av (aq br ag (aH H__law_draw (hr.mono (by lia)) rfl (aa (pv 0) (aa (pv 1) ah))))))
   aw)
  (af (aN (aA dA (pv 3) ag (aI _))
   (aj (av (aq aL (pv 2) (aH H__law_draw (hr.mono (by lia)) rfl (aa (pv 0) (aa ag ah))))))
   aw)
  (af (aN (aA dA (pv 3) ag (aI _))
   (aj (av (aq aQ ag (aH H__law_draw (hr.mono (by lia)) rfl (aa (pv 0) (aa ag ah))))))
   aw)
  (af (aN (aA dA (pv 3) ag (aI _))
   (af (ax (i:=4) sc__law_divisor.nd rfl (Or.inl rfl) (aq mG (pv 1) ag))
   (aj (av (aq br (aq aQ ag (aH H__law_draw (hr.mono (by lia)) rfl (aa (pv 0) (aa (aq br ag (aq aL (pv 1) (pv 4))) ah)))) (aH H__law_draw (hr.mono (by lia)) rfl (aa (pv 0) (aa (pv 4) ah)))))))
   aw)
  (aj (av (aq aQ ag (aH H__law_draw (hr.mono (by lia)) rfl (aa (pv 0) (aa (pv 2) ah)))))))))))),?_⟩
 refine⟨_,rfl,_,_,rfl,rfl,hX (by lia) (by lia),_,_,rfl,rfl,?_⟩
 refine⟨_,rfl,p,_,rfl,hb,by decide,by decide,fun k H1 k0 k1 b1 x1=>?_⟩
 refine⟨_,rfl,rfl,_,rfl,?_⟩
 by_cases c0:V.int k=V.int 0
 ·refine jd c0 ?_
  refine⟨_,rfl,_,rfl,p,_,rfl,b1,by lia,by lia,fun e H2 e0 e1 b2 x2=>⟨_,_,rfl,rfl,hX e0 (by lia),?_⟩⟩
  have a1:=p1_pos e.toNat
  have a2:(2:Int)^(e.toNat+1)<=2^i.toNat:=fF (by lia)
  rw[pow_succ] at a2
  exact q _ _ (by lia) (by lia) b2 (x1.trans x2)
 refine bB c0 ?_
 refine⟨_,rfl,rfl,_,rfl,?_⟩
 by_cases c1:V.int k=V.int 1
 ·refine jd c1 ?_
  refine⟨_,rfl,_,rfl,p,_,rfl,b1,by decide,by decide,fun e H2 e0 e1 b2 x2=>⟨_,_,rfl,rfl,?_⟩⟩
  exact q _ _ (by lia) (by lia) b2 (x1.trans x2)
 refine bB c1 ?_
 refine⟨_,rfl,rfl,_,rfl,?_⟩
 by_cases c2:V.int k=V.int 2
 ·refine jd c2 ?_
  refine⟨_,rfl,p,_,rfl,b1,by decide,by decide,fun e H2 e0 e1 b2 x2=>⟨_,_,rfl,rfl,?_⟩⟩
  exact q _ _ (by lia) (by lia) b2 (x1.trans x2)
 refine bB c2 ?_
 refine⟨_,rfl,rfl,_,rfl,?_⟩
 by_cases c3:V.int k=V.int 3
 ·refine jd c3 ?_
  refine⟨_,rfl,_,_,rfl,rfl,⟨by decide,by decide⟩,?_⟩
  have a3:(2:Int)^(i-i/2).toNat<=2^32:=fF (by lia)
  have a4:=p1_pos (i-i/2).toNat
  refine⟨_,rfl,_,rfl,_,rfl,_,_,rfl,rfl,_,_,rfl,rfl,hX (by lia) (by lia),p,_,rfl,b1,a4,by lia,fun e H2 e0 e1 b2 x2=>⟨_,_,rfl,rfl,_,rfl,_,rfl,p,_,rfl,b2,by lia,by lia,fun f H3 f0 f1 b3 x3=>⟨_,_,rfl,rfl,⟨f0,by lia,by lia⟩,?_⟩⟩⟩
  have a5:(2:Int)^((i-i/2).toNat+f.toNat+1)<=2^i.toNat:=fF (by lia)
  rw[pow_succ,pow_add] at a5
  have a6:=fB f.toNat
  have a7:(1+e)*2^f.toNat<=2^(i-i/2).toNat*2^f.toNat:=Int.mul_le_mul_of_nonneg_right (by lia) (by lia)
  have a8:1*2^f.toNat<=(1+e)*2^f.toNat:=Int.mul_le_mul_of_nonneg_right (by lia) (by lia)
  exact q _ _ (by lia) (by lia) b3 (x1.trans (x2.trans x3))
 refine bB c3 ?_
 refine⟨_,rfl,_,rfl,p,_,rfl,b1,by lia,by lia,fun e H2 e0 e1 b2 x2=>⟨_,_,rfl,rfl,?_⟩⟩
 exact q _ _ (by lia) (by lia) b2 (x1.trans x2)
theorem er {f:Addr}{fd:FuncData}(F:Fun K "_law_signed_divisor" "_law_signed_divisor" bF f fd) (T:Txt K mg c) (H__law_divisor:Has P w K mg base 2 "_law_divisor" ["_law_state","_law_width"] spDiv) (H__law_draw:Has P w K mg base 1 "_law_draw" ["_law_state","_law_size"] lE):FnOk P w K mg base CX0 3 f fd ["_law_state","_law_width"] uh:=by
 refine F.ok sc__law_signed_divisor (fun vs H Q E h=>?_) (fun cdv A outer s H vs Q E hr h=>?_)
 ·obtain⟨p,i,rfl,_⟩:=h
  rfl
 obtain⟨p,i,rfl,hb,h1,h2,q⟩:=h
 refine⟨_,(af (ax (i:=2) sc__law_signed_divisor.nd rfl (Or.inl rfl) (aq br ag (aq aL (pv 1) ag)))
  (af (ax (i:=3) sc__law_signed_divisor.nd rfl (Or.inl rfl) (aH H__law_divisor (hr.mono (by lia)) rfl (aa (pv 0) (aa (pv 1) ah))))
  (bn (aN (aA kK (pv 3) (pv 2) (aI _))
   (aj (ax (i:=3) sc__law_signed_divisor.nd rfl (Or.inl rfl) (aq aL (pv 2) (aH H__law_draw (hr.mono (by lia)) rfl (aa (pv 0) (aa ag ah))))))
   aw)
  (aj (av (pv 3)))))),?_⟩
 have ph:=cT h1 h2
 walk_at "o"; intro d H1 d1 d2 b1 x1
 refine⟨fun σ2 HZ=>∃ d':Int,σ2=[some (.ref p),some (.int i),some (.int (1*2^(i-1).toNat)),some (.int d')]/\1<=d'/\d'<=2^(i-1).toNat/\Bx HZ p/\SameX p H HZ,?_,?_⟩
 ·refine⟨_,rfl,_,rfl,_,_,rfl,rfl,_,rfl,?_⟩
  walk_at "c" <;> intro c0
  ·refine⟨_,rfl,_,rfl,p,_,rfl,b1,by decide,by decide,fun g H2 g0 g1 b2 x2=>⟨_,_,rfl,rfl,_,rfl,by lia,by lia,b2,x1.trans x2⟩⟩
  ·exact⟨d,rfl,d1,by lia,b1,x1⟩
 rintro σ2 HZ ⟨d',rfl,e1,e2,bZ,xZ⟩
 exact⟨_,rfl,q d' HZ e1 e2 bZ xZ⟩
theorem kh {f:Addr}{fd:FuncData}(F:Fun K "_law_corners" "_law_corners" dB f fd) (T:Txt K mg c) :FnOk P w K mg base CX0 1 f fd ["_law_last","_law_d"] dJ:=by
 refine F.ok sc__law_corners (fun vs H Q E h=>?_) (fun cdv A outer s H vs Q E hr h=>?_)
 ·obtain⟨last,d,rfl,_⟩:=h
  rfl
 obtain⟨last,d,rfl,l0,l1,d1,d2,q⟩:=h
 refine⟨_,(af (ax (i:=2) sc__law_corners.nd rfl (Or.inl rfl) (aq bi (pv 0) (pv 1)))
  (af (ax (i:=3) sc__law_corners.nd rfl (Or.inl rfl) (bu ah))
  (af (cu PassesOwn.never rfl (cr (bu (aa ag (aa (aJ (eE rfl) rfl T.n_min boot_min (aa (aq aL (pv 1) ag) (aa (pv 0) ah))) (aa (aq aL (aq cS (pv 2) (pv 1)) ag) (aa (aq cS (pv 2) (pv 1)) (aa (pv 0) ah))))))) (be (i:=4) sc__law_corners.nd rfl (Or.inl rfl))
   (aj (aN (PW.pt (pL (aA oh (pv 4) ag (aI _)) (lT (aA iS (pv 4) (pv 3) (by with_unfolding_all rfl)))))
    (aj (aK (cN PySem.F.plainAttrs_list PySem.F.slot_list_append PySem.F.type_list_append aP (pv 3) (aa (pv 4) ah))))
    aw)))
  (aj (av (aJ ee rfl T.n_sorted boot_sorted (aa (pv 3) ah))))))),?_⟩
 obtain⟨n0,n1,n2,n3,n4⟩:=ja l0 l1 d1
 have lg:=bK (m:=d) (by lia) (by lia)
 have em:(if last<d-1 then last else d-1)=(if d-1<last then d-1 else last):=by
  split <;> split <;> lia
 refine⟨_,rfl,_,rfl,_,_,rfl,rfl,⟨by lia,lg⟩,?_⟩
 refine⟨(by show 0<=sizeLine; decide),fun l hl=>?_⟩
 refine⟨_,rfl,_,_,rfl,rfl,_,rfl,_,_,rfl,_,rfl,_,rfl,_,_,rfl,rfl,⟨lc (by lia) (by lia),lc (by lia) (by lia)⟩,_,_,rfl,rfl,_,rfl,_,rfl,_,_,rfl,rfl,⟨lc (by lia) (by lia),lc (by lia) (by lia)⟩,_,rfl,(by show 5<=sizeLine; decide),fun c hc=>?_⟩
 generalize hfv:[0,if last<d-1 then last else d-1,last/d*d-1,last/d*d,last]=five
 have efv:[V.int 0,V.int (if last<d-1 then last else d-1),V.int (last/d*d-1),V.int (last/d*d),V.int last]=five.map V.int:=by rw[<- hfv]; rfl
 have l5:five.length=5:=by rw[<- hfv]; rfl
 rw[efv]
 have nel:l≠c:=fun z=>by rw[<- z,ae] at hc; cases hc
 have s1:=ao hl (.lst [])
 have hcH:H c=none:=s1.free hc
 refine⟨c,rfl,⟨_,SqL.of ae⟩,df (xs:=five.map V.int) (fun j σ H1=>∃ (fs:List Int) (y:Option V),σ=[some (.int last),some (.int d),some (.int (last/d)),some (.ref l),y]/\H1 l=some (.lst (fs.map V.int))/\H1 c=some (.lst (five.map V.int))/\Same H H1/\fs.Nodup/\fs.length<=j/\∀ x,x∈fs ↔ 0<=x/\x∈five.take j) ⟨[],_,rfl,by rw[au nel,ae]; rfl,ae,s1.trans (ao hc _),nodup_nil,Nat.le_refl _,fun x=>by simp⟩ ?_ ?_ ?_⟩
 ·rintro j σ H1 hj ⟨fs,y,rfl,f1,f2,_⟩
  exact SqL.of f2
 ·rintro j x σ H1 hj ⟨fs,y,rfl,f1,f2,sm,nd,len,mem⟩
  rw[List.getElem?_map] at hj
  cases hjx:five[j]? with
  | none=>rw[hjx] at hj; cases hj
  | some z =>
   rw[hjx] at hj
   cases hj
   have tk:five.take (j+1)=five.take j++[z]:=by rw[take_add_one,hjx]; rfl
   have jl:j<5:=by rw[<- l5]; exact(List.getElem?_eq_some_iff.mp hjx).1
   refine⟨_,rfl,_,_,rfl,rfl,_,rfl,?_⟩
   by_cases z0:z ≥ 0
   ·refine jd z0 ?_
    refine⟨_,rfl,_,rfl,l,_,rfl,.inl (SqL.of f1),rfl,qj fs,_,rfl,?_⟩
    rw[pY]
    by_cases hm:z∈fs
    ·refine mw hm ⟨fs,_,rfl,f1,f2,sm,nd,by lia,fun x=>?_⟩
     rw[mem x,tk,mem_append,mem_singleton]
     constructor
     ·exact fun ⟨a,b⟩=>⟨a,.inl b⟩
     ·rintro ⟨a,b | rfl⟩
      ·exact⟨a,b⟩
      ·exact(mem x).mp hm
    ·refine iteN hm ?_
     refine⟨_,rfl,.inl ⟨rfl,_,SqL.of f1⟩,_,rfl,l,_,_,rfl,rfl,f1,(by rw[length_map,sizeLine_eq]; lia),?_⟩
     refine⟨fs++[z],_,rfl,by rw[ae,map_append]; rfl,by rw[au (Ne.symm nel)]; exact f2,fun b o e=>?_,?_,by rw[length_append]; exact Nat.add_le_add_right len 1,fun x=>?_⟩
     ·rw[au (aE e hl)]
      exact sm b o e
     ·rw[List.nodup_append]
      exact⟨nd,List.nodup_cons.mpr ⟨not_mem_nil,nodup_nil⟩,fun a ha b hb e=>by rw[mem_singleton] at hb; subst hb; subst e; exact hm ha⟩
     ·rw[mem_append,mem x,tk,mem_append,mem_singleton]
      constructor
      ·rintro (⟨a,b⟩ | rfl)
       ·exact⟨a,.inl b⟩
       ·exact⟨z0,.inr rfl⟩
      ·rintro ⟨a,b | rfl⟩
       ·exact .inl ⟨a,b⟩
       ·exact .inr rfl
   ·refine bB z0 (db ⟨fs,_,rfl,f1,f2,sm,nd,by lia,fun x=>?_⟩)
    rw[mem x,tk,mem_append,mem_singleton]
    constructor
    ·exact fun ⟨a,b⟩=>⟨a,.inl b⟩
    ·rintro ⟨a,b | rfl⟩
     ·exact⟨a,b⟩
     ·exact absurd a z0
 rintro σ H1 ⟨fs,y,rfl,f1,f2,sm,nd,len,mem⟩
 rw[length_map,l5] at len
 refine⟨_,rfl,l,fs,rfl,SqL.of f1,by lia,fun r zs hr' pw pm=>?_⟩
 refine q r zs _ (sm.free hr') ae (sm.trans (ao hr' _)) ⟨pw_of pw pm nd,fun x=>?_⟩ (by rw[pm.length_eq]; exact len)
 rw[pm.mem_iff,mem x,length_map,take_length,<- hfv,em]
 unfold CorM
 simp only[mem_cons,not_mem_nil,or_false]
 constructor
 ·rintro ⟨x0,e | e | e | e | e⟩
  ·exact .inl e
  ·exact .inr (.inl e)
  ·refine .inr (.inr (.inr (.inr ⟨fun z=>?_,e⟩)))
   rw[z,Int.zero_mul] at e
   lia
  ·exact .inr (.inr (.inl e))
  ·exact .inr (.inr (.inr (.inl e)))
 ·rintro (e | e | e | e | ⟨hz,e⟩)
  ·exact⟨by lia,.inl e⟩
  ·refine⟨?_,.inr (.inl e)⟩
   rw[e]
   split <;> lia
  ·exact⟨by lia,.inr (.inr (.inr (.inl e)))⟩
  ·exact⟨by lia,.inr (.inr (.inr (.inr e)))⟩
  ·have:=n4 hz
   exact⟨by lia,.inr (.inr (.inl e))⟩
theorem jI {f:Addr}{fd:FuncData}(F:Fun K "_law_brought" "_law_brought" dw f fd) (T:Txt K mg c) :FnOk P w K mg base CX0 1 f fd ["_law_numbers_here","_law_x"] ld:=by
 refine F.ok sc__law_brought (fun vs H Q E h=>?_) (fun cdv A outer s H vs Q E hr h=>?_)
 ·obtain⟨r,e,f,a,t,x,rfl,_⟩:=h
  rfl
 obtain⟨r,e,f,a,t,x,rfl,ht,⟨e0,e1,f0,f1,a0,a1,t0,t1⟩,x0,x1,q⟩:=h
 refine⟨_,(af (rZ (pv 0) (pg_tup rfl (fc (be (i:=2) sc__law_brought.nd rfl (Or.inl rfl)) (fc (be (i:=3) sc__law_brought.nd rfl (Or.inl rfl)) (fc (be (i:=4) sc__law_brought.nd rfl (Or.inl rfl)) (fc (be (i:=5) sc__law_brought.nd rfl (Or.inl rfl)) tu))))))
  (aj (av (aq iA (aq aQ (aq cS (pv 3) (aq iA (pv 1) (pv 2))) (pv 4)) (pv 5))))),?_⟩
 have z:=xdiv x0 e
 refine⟨_,rfl,r,_,rfl,SqT.of ht,rfl,_,_,rfl,_,_,rfl,_,_,rfl,_,_,rfl,rfl,?_⟩
 walk_at "o"
 exact q
theorem jA {f:Addr}{fd:FuncData}(F:Fun K "_law_numbers" "_law_numbers" dq f fd) (T:Txt K mg c) :FnOk P w K mg base CX0 1 f fd ["_law_told","_law_width"] sk:=by
 refine F.ok jB (fun vs H Q E h=>?_) (fun cdv A outer s H vs Q E hr h=>?_)
 ·obtain⟨r,i,kd,e,f,t,rfl,_⟩:=h
  rfl
 obtain⟨r,i,kd,e,f,t,rfl,ht,fm,h1,h2,q⟩:=h
 refine⟨_,(af (aN (aA dA (aY aU (pv 0) ag (fun _ _=>rfl)) aD (aI _))
   (aj (av (bp (aa ag (aa ag (aa ag (aa (aY aU (pv 0) ag (fun _ _=>rfl)) ah)))))))
   aw)
  (af (aN (aA dA (aY aU (pv 0) ag (fun _ _=>rfl)) aD (aI _))
   (aj (av (bp (aa ag (aa (aY aU (pv 0) ag (fun _ _=>rfl)) (aa ag (aa (aq aQ (pv 1) (aY aU (pv 0) ag (fun _ _=>rfl))) ah)))))))
   aw)
  (af (aN (aA dA (aY aU (pv 0) ag (fun _ _=>rfl)) aD (aI _))
   (aj (av (bp (aa (aY aU (pv 0) ag (fun _ _=>rfl)) (aa (aY aU (pv 0) ag (fun _ _=>rfl)) (aa ag (aa (aq aQ (pv 1) (aY aU (pv 0) ag (fun _ _=>rfl))) ah)))))))
   aw)
  (af (aN (aA dA (aY aU (pv 0) ag (fun _ _=>rfl)) aD (aI _))
   (aj (av (bp (aa ag (aa (aY aU (pv 0) ag (fun _ _=>rfl)) (aa (aY aU (pv 0) ag (fun _ _=>rfl)) (aa (aq aQ (pv 1) (aY aU (pv 0) ag (fun _ _=>rfl))) ah)))))))
   aw)
  (aj (av (bp (aa ag (aa (aq aQ (aq br ag (pv 1)) (aY aU (pv 0) ag (fun _ _=>rfl))) (aa ag (aa (aq aQ (pv 1) (aY aU (pv 0) ag (fun _ _=>rfl))) ah))))))))))),?_⟩
 have ez:=fm.e0
 have kk:=fm.k
 rcases(by lia:kd=0\/kd=1\/kd=2\/kd=3\/kd=4) with rfl | rfl | rfl | rfl | rfl <;> unfold tlv at ht
 ·obtain rfl:=ez (by decide)
  refine⟨_,rfl,r,_,_,_,rfl,rfl,SqT.of ht,rfl,rfl,_,rfl,jd rfl ?_⟩
  exact⟨_,rfl,r,_,_,_,rfl,rfl,SqT.of ht,rfl,sz4,fun p hp=>q p _ hp ae (ao hp _)⟩
 ·obtain rfl:=ez (by decide)
  refine⟨_,rfl,r,_,_,_,rfl,rfl,SqT.of ht,rfl,rfl,_,rfl,bB (by walk_at "n") ?_⟩
  refine⟨_,rfl,r,_,_,_,rfl,rfl,SqT.of ht,rfl,rfl,_,rfl,jd rfl ?_⟩
  exact⟨_,rfl,r,_,_,_,rfl,rfl,SqT.of ht,rfl,_,rfl,_,rfl,r,_,_,_,rfl,rfl,SqT.of ht,rfl,_,_,rfl,rfl,sz4,fun p hp=>q p _ hp ae (ao hp _)⟩
 ·refine⟨_,rfl,r,_,_,_,rfl,rfl,SqT.of ht,rfl,rfl,_,rfl,bB (by walk_at "n") ?_⟩
  refine⟨_,rfl,r,_,_,_,rfl,rfl,SqT.of ht,rfl,rfl,_,rfl,bB (by walk_at "n") ?_⟩
  refine⟨_,rfl,r,_,_,_,rfl,rfl,SqT.of ht,rfl,rfl,_,rfl,jd rfl ?_⟩
  exact⟨_,rfl,r,_,_,_,rfl,rfl,SqT.of ht,rfl,_,rfl,r,_,_,_,rfl,rfl,SqT.of ht,rfl,_,rfl,_,rfl,r,_,_,_,rfl,rfl,SqT.of ht,rfl,_,_,rfl,rfl,sz4,fun p hp=>q p _ hp ae (ao hp _)⟩
 ·obtain rfl:=ez (by decide)
  refine⟨_,rfl,r,_,_,_,rfl,rfl,SqT.of ht,rfl,rfl,_,rfl,bB (by walk_at "n") ?_⟩
  refine⟨_,rfl,r,_,_,_,rfl,rfl,SqT.of ht,rfl,rfl,_,rfl,bB (by walk_at "n") ?_⟩
  refine⟨_,rfl,r,_,_,_,rfl,rfl,SqT.of ht,rfl,rfl,_,rfl,bB (by walk_at "n") ?_⟩
  refine⟨_,rfl,r,_,_,_,rfl,rfl,SqT.of ht,rfl,rfl,_,rfl,jd rfl ?_⟩
  exact⟨_,rfl,r,_,_,_,rfl,rfl,SqT.of ht,rfl,_,rfl,r,_,_,_,rfl,rfl,SqT.of ht,rfl,_,rfl,_,rfl,r,_,_,_,rfl,rfl,SqT.of ht,rfl,_,_,rfl,rfl,sz4,fun p hp=>q p _ hp ae (ao hp _)⟩
 ·obtain rfl:=ez (by decide)
  refine⟨_,rfl,r,_,_,_,rfl,rfl,SqT.of ht,rfl,rfl,_,rfl,bB (by walk_at "n") ?_⟩
  refine⟨_,rfl,r,_,_,_,rfl,rfl,SqT.of ht,rfl,rfl,_,rfl,bB (by walk_at "n") ?_⟩
  refine⟨_,rfl,r,_,_,_,rfl,rfl,SqT.of ht,rfl,rfl,_,rfl,bB (by walk_at "n") ?_⟩
  refine⟨_,rfl,r,_,_,_,rfl,rfl,SqT.of ht,rfl,rfl,_,rfl,bB (by walk_at "n") ?_⟩
  exact⟨_,rfl,_,_,rfl,rfl,hX (by lia) (by lia),_,rfl,r,_,_,_,rfl,rfl,SqT.of ht,rfl,_,_,rfl,rfl,_,rfl,_,rfl,r,_,_,_,rfl,rfl,SqT.of ht,rfl,_,_,rfl,rfl,sz4,fun p hp=>q p _ hp ae (ao hp _)⟩
theorem pI {f:Addr}{fd:FuncData}(F:Fun K "_law_cut" "_law_cut" iP f fd) (T:Txt K mg c) :FnOk P w K mg base CX0 1 f fd ["_law_x","_law_d"] pE:=by
 refine F.ok o5 (fun vs H Q E h=>?_) (fun cdv A outer s H vs Q E hr h=>?_)
 ·obtain⟨x,d,rfl,_⟩:=h
  rfl
 obtain⟨x,d,rfl,d1,d2,q⟩:=h
 refine⟨_,(af (aN (aA eD (pv 0) ag (aI _))
   (aj (av (aq aL ag (aq bi (aq aL ag (pv 0)) (pv 1)))))
   aw)
  (aj (av (aq bi (pv 0) (pv 1))))),?_⟩
 have lg:=bK (m:=d) (by lia) (by lia)
 unfold fG at q
 walk_at "o"
 walk_at "c" <;> intro c0
 ·rw[if_pos c0,<- Int.zero_sub (a:=-x/d),<- Int.zero_sub (a:=x)] at q
  walk_at "o"
  exact q
 ·rw[if_neg c0] at q
  walk_at "o"
  exact q
theorem d6 {f:Addr}{fd:FuncData}(F:Fun K "_law_signed_quotient" "_law_signed_quotient" bz f fd) (T:Txt K mg c) (H__law_brought:Has P w K mg base 1 "_law_brought" ["_law_numbers_here","_law_x"] ld) (H__law_numbers:Has P w K mg base 1 "_law_numbers" ["_law_told","_law_width"] sk):FnOk P w K mg base CX0 2 f fd ["_law_told","_law_width","_law_x"] spSQ:=by
 refine F.ok sc__law_signed_quotient (fun vs H Q E h=>?_) (fun cdv A outer s H vs Q E hr h=>?_)
 ·obtain⟨r,i,x,sd,rfl,_⟩:=h
  rfl
 obtain⟨r,i,x,sd,rfl,h1,h2,x0,x1,st,ok,q⟩:=h
 refine⟨_,(af (aN (aA dA (aY aU (pv 0) ag (fun _ _=>rfl)) aD (aI _))
   (aj (av (aq aQ (aq iA (aq cS (aY aU (pv 0) ag (fun _ _=>rfl)) (pv 2)) (aq aQ (pv 1) (aY aU (pv 0) ag (fun _ _=>rfl)))) (hE sT rfl T.n_int boot_int (aa (uu eD (pv 2) ag (aI _)) ah)))))
   aw)
  (af (ax (i:=3) sc__law_signed_quotient.nd rfl (Or.inl rfl) (aH H__law_brought (hr.mono (by lia)) rfl (aa (aH H__law_numbers (hr.mono (by lia)) rfl (aa (aY aU (pv 0) ag (fun _ _=>rfl)) (aa (pv 1) ah))) (aa (aJ call_abs rfl T.n_abs boot_abs (aa (pv 2) ah)) ah))))
  (af (aN (aA eD (pv 2) ag (aI _))
   (aj (av (aq aL ag (pv 3))))
   aw)
  (aj (av (pv 3)))))),?_⟩
 cases sd with
 | cut f k =>
  obtain⟨f0,f1,k0,k1⟩:=ok
  refine⟨_,rfl,r,_,_,_,rfl,rfl,SqT.of st,rfl,rfl,_,rfl,jd rfl ?_⟩
  refine⟨_,rfl,r,_,_,_,rfl,rfl,SqT.of st,rfl,_,rfl,_,_,rfl,rfl,⟨lc (by lia) (by lia),lc (by lia) (by lia)⟩,_,rfl,_,rfl,r,_,_,_,rfl,rfl,SqT.of st,rfl,_,_,rfl,rfl,_,_,rfl,rfl,(by show 0<=i+k; lia),_,rfl,_,_,rfl,rfl,.inr ⟨_,rfl,?_⟩⟩
  refine⟨_,_,rfl,rfl,?_⟩
  have e:(if decide (x<0)=true then (1:Int) else 0)=(if x<0 then 1 else 0):=by simp only[decide_eq_true_eq]
  have z:=q H (Same.refl _)
  unfold SD.q at z
  dsimp only at z ⊢
  rw[e]
  exact z
 | turn kd e f s3 =>
  obtain⟨u,hr1,hu⟩:=st
  have fm:Fm kd e f s3:=ok
  refine⟨_,rfl,r,_,_,_,rfl,rfl,SqT.of hr1,rfl,rfl,_,rfl,bB (by walk_at "n") ?_⟩
  refine⟨_,rfl,r,_,_,_,rfl,rfl,SqT.of hr1,rfl,_,rfl,u,i,kd,e,f,s3,rfl,hu,fm,h1,h2,fun n H1 n0 hn s1=>?_⟩
  have ab:0<=(if x<0 then -x else x)/\(if x<0 then -x else x)<=4294967296:=by split <;> lia
  refine⟨_,rfl,_,rfl,n,_,_,_,_,_,rfl,hn,fm.rg h1 h2,ab.1,by lia,?_⟩
  have z:=q H1 s1
  unfold SD.q at z
  dsimp only at z
  refine⟨_,rfl,_,_,rfl,rfl,_,rfl,?_⟩
  walk_at "c" <;> intro c0
  ·rw[if_pos c0,<- Int.zero_sub] at z
   rw[if_pos c0]
   exact⟨_,rfl,_,_,rfl,rfl,z⟩
  ·rw[if_neg c0] at z
   rw[if_neg c0]
   exact⟨_,rfl,z⟩
theorem ei {f:Addr}{fd:FuncData}(F:Fun K "_law_signed_corners" "_law_signed_corners" bE f fd) (T:Txt K mg c) (H__law_corners:Has P w K mg base 1 "_law_corners" ["_law_last","_law_d"] dJ):FnOk P w K mg base CX0 2 f fd ["_law_up_here","_law_down","_law_d"] spSC:=by
 refine F.ok sc__law_signed_corners (fun vs H Q E h=>?_) (fun cdv A outer s H vs Q E hr h=>?_)
 ·obtain⟨up,down,d,rfl,_⟩:=h
  rfl
 obtain⟨up,down,d,rfl,u0,u1,w0,w1,d1,d2,q⟩:=h
 refine⟨_,(af (ax (i:=3) sc__law_signed_corners.nd rfl (Or.inl rfl) (bu ah))
  (bn (aN (aA oh (pv 0) ag (aI _))
   (aj (ax (i:=3) sc__law_signed_corners.nd rfl (Or.inl rfl) (aH H__law_corners (hr.mono (by lia)) rfl (aa (pv 0) (aa (pv 2) ah)))))
   aw)
  (bn (aN (aA kK (pv 1) ag (aI _))
   (af (ax (i:=4) sc__law_signed_corners.nd rfl (Or.inl rfl) (aq bi (pv 1) (pv 2)))
   (aj (cu PassesOwn.never rfl (cr (bu (aa (aq aL (pv 2) ag) (aa (aq aL (aq cS (pv 4) (pv 2)) ag) (aa (aq cS (pv 4) (pv 2)) (aa (pv 1) ah)))))) (be (i:=5) sc__law_signed_corners.nd rfl (Or.inl rfl))
    (aj (aN (PW.pt (pL (jf eD qu ag (pv 5) (pv 1)) (lT (aA iS (aq aL ag (pv 5)) (pv 3) (by with_unfolding_all rfl)))))
     (aj (aK (cN PySem.F.plainAttrs_list PySem.F.slot_list_append PySem.F.type_list_append aP (pv 3) (aa (aq aL ag (pv 5)) ah))))
     aw)))))
   aw)
  (aj (av (aJ ee rfl T.n_sorted boot_sorted (aa (pv 3) ah))))))),?_⟩
 have lg:=bK (m:=d) (by lia) (by lia)
 refine⟨(by show 0<=sizeLine; decide),fun l00 hl00=>?_⟩
 refine⟨fun σ2 HZ=>∃ (l:Addr) (ns:List Int),σ2=[some (.int up),some (.int down),some (.int d),some (.ref l),none,none]/\HZ l=some (.lst (ns.map V.int))/\H l=none/\Same H HZ/\ns.length<=5/\ns.Nodup/\∀ x,x∈ns ↔ (0<=up/\CorM up d x),?_,?_⟩
 ·have s0:=ao hl00 (.lst [])
  refine⟨_,rfl,_,_,rfl,rfl,_,rfl,?_⟩
  walk_at "c" <;> intro c0
  ·exact⟨_,rfl,_,rfl,_,_,rfl,c0,u1,d1,d2,fun p zs H' fp hp s1 cor ln=>⟨p,zs,rfl,hp,s0.free fp,s0.trans s1,ln,cor.1.imp fun h=>Int.ne_of_lt h,fun x=>⟨fun h=>⟨c0,(cor.2 x).mp h⟩,fun h=>(cor.2 x).mpr h.2⟩⟩⟩
  ·exact⟨l00,[],rfl,ae,hl00,s0,by decide,nodup_nil,fun x=>⟨fun h=>(nomatch h),fun h=>absurd h.1 c0⟩⟩
 rintro σ2 H1 ⟨l,ns,rfl,hl1,l0,s1,ln,nd,mem⟩
 refine⟨fun σ2 HZ=>∃ (ns2:List Int) (z4 z5:Option V),σ2=[some (.int up),some (.int down),some (.int d),some (.ref l),z4,z5]/\HZ l=some (.lst (ns2.map V.int))/\Same H HZ/\ns2.length<=9/\ns2.Nodup/\∀ x,x∈ns2 ↔ SCM up down d x,?_,?_⟩
 ·refine⟨_,rfl,_,_,rfl,rfl,_,rfl,?_⟩
  walk_at "c" <;> intro c1
  ·obtain⟨n0,n1,n2,n3,n4⟩:=ja (last:=down) (by lia) (by lia) d1
   refine⟨_,rfl,_,rfl,_,_,rfl,rfl,⟨by lia,lg⟩,?_⟩
   refine⟨_,rfl,_,_,rfl,rfl,_,rfl,_,rfl,_,_,rfl,rfl,⟨lc (by lia) (by lia),lc (by lia) (by lia)⟩,_,_,rfl,rfl,_,rfl,_,rfl,_,_,rfl,rfl,⟨lc (by lia) (by lia),lc (by lia) (by lia)⟩,_,rfl,(by show 4<=sizeLine; decide),fun b hb=>?_⟩
   have s2:=ao hb (.lst [.int (d-1),.int (down/d*d-1),.int (down/d*d),.int down])
   have hb2:upd H1 b (.lst [.int (d-1),.int (down/d*d-1),.int (down/d*d),.int down]) b=some (.lst ([d-1,down/d*d-1,down/d*d,down].map V.int)):=ae
   have hl2:=s2 _ _ hl1
   have nlb:l≠b:=aE hl1 hb
   generalize upd H1 b (.lst [.int (d-1),.int (down/d*d-1),.int (down/d*d),.int down])=H2 at s2 hb2 hl2 ⊢
   generalize hbl:[d-1,down/d*d-1,down/d*d,down]=bl at hb2
   have l4:bl.length=4:=by rw[<- hbl]; rfl
   have efv:[V.int (d-1),.int (down/d*d-1),.int (down/d*d),.int down]=bl.map V.int:=by rw[<- hbl]; rfl
   have s12:=s1.trans s2
   refine⟨b,rfl,⟨_,SqL.of hb2⟩,df (xs:=bl.map V.int) (fun j σ H3=>∃ (fs:List Int) (y:Option V),σ=[some (.int up),some (.int down),some (.int d),some (.ref l),some (.int (down/d)),y]/\H3 l=some (.lst (fs.map V.int))/\H3 b=some (.lst (bl.map V.int))/\Same H H3/\fs.Nodup/\fs.length<=5+j/\∀ x,x∈fs ↔ (x∈ns\/(x<0/\-down<=x/\-x∈bl.take j))) ⟨ns,_,rfl,hl2,hb2,s12,nd,by lia,fun x=>by simp⟩ ?_ ?_ ?_⟩
   ·rintro j σ H3 hj ⟨fs,y,rfl,f1,f2,_⟩
    exact SqL.of f2
   ·rintro j x σ H3 hj ⟨fs,y,rfl,f1,f2,sm,nd3,len,mem3⟩
    rw[List.getElem?_map] at hj
    cases hjx:bl[j]? with
    | none=>rw[hjx] at hj; cases hj
    | some z =>
     rw[hjx] at hj
     cases hj
     have tk:bl.take (j+1)=bl.take j++[z]:=by rw[take_add_one,hjx]; rfl
     have jl:j<4:=by rw[<- l4]; exact(List.getElem?_eq_some_iff.mp hjx).1
     have skip:(¬ (0<z/\z<=down)\/(0-z)∈fs)->∃ (fs:List Int) (y':Option V),[some (.int up),some (.int down),some (.int d),some (.ref l),some (.int (down/d)),some (.int z)]=[some (V.int up),some (.int down),some (.int d),some (.ref l),some (.int (down/d)),y']/\H3 l=some (.lst (fs.map V.int))/\H3 b=some (.lst (bl.map V.int))/\Same H H3/\fs.Nodup/\fs.length<=5+(j+1)/\∀ x,x∈fs ↔ (x∈ns\/(x<0/\-down<=x/\-x∈bl.take (j+1))):=fun hs=>by
      refine⟨fs,_,rfl,f1,f2,sm,nd3,by lia,fun x=>?_⟩
      rw[mem3 x,tk,mem_append,mem_singleton]
      constructor
      ·rintro (h | ⟨a,b,c⟩)
       ·exact .inl h
       ·exact .inr ⟨a,b,.inl c⟩
      ·rintro (h | ⟨a,b,c | c⟩)
       ·exact .inl h
       ·exact .inr ⟨a,b,c⟩
       ·rcases hs with hs | hs
        ·exact absurd ⟨by lia,by lia⟩ hs
        ·rw[show (0:Int)-z=x by lia] at hs
         exact(mem3 x).mp hs
     refine⟨_,rfl,_,_,rfl,rfl,_,rfl,?_⟩
     walk_at "c" <;> intro z0
     ·refine⟨_,rfl,_,_,rfl,rfl,_,rfl,?_⟩
      walk_at "c" <;> intro z1
      ·refine⟨_,rfl,_,_,rfl,rfl,_,rfl,l,_,rfl,.inl (SqL.of f1),rfl,qj fs,_,rfl,?_⟩
       rw[pY]
       by_cases hm:(0-z)∈fs
       ·exact mw hm (skip (.inr hm))
       ·refine iteN hm ?_
        refine⟨_,rfl,.inl ⟨rfl,_,SqL.of f1⟩,_,rfl,_,_,rfl,rfl,l,_,_,rfl,rfl,f1,(by rw[length_map,sizeLine_eq]; lia),?_⟩
        refine⟨fs++[0-z],_,rfl,by rw[ae,map_append]; rfl,by rw[au (Ne.symm nlb)]; exact f2,fun b o e=>?_,?_,by rw[length_append,List.length_singleton]; lia,fun x=>?_⟩
        ·rw[au (aE e l0)]
         exact sm b o e
        ·rw[List.nodup_append]
         exact⟨nd3,List.nodup_cons.mpr ⟨not_mem_nil,nodup_nil⟩,fun a ha b hb e=>by rw[mem_singleton] at hb; subst hb; subst e; exact hm ha⟩
        ·rw[mem_append,mem3 x,tk,mem_append,mem_singleton,mem_singleton]
         constructor
         ·rintro ((h | ⟨a,b,c⟩) | h)
          ·exact .inl h
          ·exact .inr ⟨a,b,.inl c⟩
          ·exact .inr ⟨by lia,by lia,.inr (by lia)⟩
         ·rintro (h | ⟨a,b,c | c⟩)
          ·exact .inl (.inl h)
          ·exact .inl (.inr ⟨a,b,c⟩)
          ·exact .inr (by lia)
      ·exact db (skip (.inl fun z=>z1 z.2))
     ·exact⟨_,rfl,db (db (skip (.inl fun z=>z0 z.1)))⟩
   ·rintro σ H3 ⟨fs,y,rfl,f1,f2,sm,nd3,len,mem3⟩
    rw[length_map] at len mem3
    refine⟨fs,_,_,rfl,f1,sm,by lia,nd3,fun x=>?_⟩
    rw[mem3 x,take_length,mem x,<- hbl]
    unfold SCM
    have lm:=rW (y:=x) c1 d1
    have eq:(-x∈[d-1,down/d*d-1,down/d*d,down]) ↔ (x∈[1-d,1-down/d*d,-(down/d*d),-down]):=by
     simp only[mem_cons,not_mem_nil,or_false]
     constructor
     ·rintro (h | h | h | h)
      ·exact .inl (by lia)
      ·exact .inr (.inl (by lia))
      ·exact .inr (.inr (.inl (by lia)))
      ·exact .inr (.inr (.inr (by lia)))
     ·rintro (h | h | h | h)
      ·exact .inl (by lia)
      ·exact .inr (.inl (by lia))
      ·exact .inr (.inr (.inl (by lia)))
      ·exact .inr (.inr (.inr (by lia)))
    rw[eq]
    constructor
    ·rintro (h | ⟨a,b,c⟩)
     ·exact .inl h
     ·exact .inr ⟨c1,lm.mp ⟨c,b,a⟩⟩
    ·rintro (h | ⟨_,h⟩)
     ·exact .inl h
     ·obtain⟨c,b,a⟩:=lm.mpr h
      exact .inr ⟨a,b,c⟩
  ·refine⟨ns,_,_,rfl,hl1,s1,by lia,nd,fun x=>?_⟩
   rw[mem x]
   unfold SCM
   exact⟨.inl,fun h=>h.resolve_right fun z=>c1 z.1⟩
 rintro σ2 HZ ⟨ns2,z4,z5,rfl,hl2,s2,ln2,nd2,mem2⟩
 refine⟨_,rfl,l,ns2,rfl,SqL.of hl2,by lia,fun r zs hr' pw pm=>?_⟩
 exact q r zs _ (s2.free hr') ae (s2.trans (ao hr' _)) ⟨pw_of pw pm nd2,fun x=>pm.mem_iff.trans (mem2 x)⟩ (by rw[pm.length_eq]; exact ln2)
theorem iL {f:Addr}{fd:FuncData}(F:Fun K "_law_all_right" "_law_all_right" cM f fd) (T:Txt K mg c) (H__law_signed_quotient:Has P w K mg base 2 "_law_signed_quotient" ["_law_told","_law_width","_law_x"] spSQ) (H__law_cut:Has P w K mg base 1 "_law_cut" ["_law_x","_law_d"] pE):FnOk P w K mg base CX0 3 f fd ["_law_told","_law_width","_law_d","_law_counts"] tW:=by
 refine F.ok sc__law_all_right (fun vs H Q E h=>?_) (fun cdv A outer s H vs Q E hr h=>?_)
 ·obtain⟨r,l,i,d,sd,xs,rfl,_⟩:=h
  rfl
 obtain⟨r,l,i,d,sd,xs,rfl,h1,h2,d1,d2,st,ok,hl,xb,q⟩:=h
 refine⟨_,(af (cu PassesOwn.never rfl (cr (pv 3)) (be (i:=4) sc__law_all_right.nd rfl (Or.inl rfl))
   (aj (aN (aA o9 (aH H__law_signed_quotient (hr.mono (by lia)) rfl (aa (pv 0) (aa (pv 1) (aa (pv 4) ah)))) (aH H__law_cut (hr.mono (by lia)) rfl (aa (pv 4) (aa (pv 2) ah))) (aI _))
    (aj (av iq))
    aw)))
  (aj (av iq))),?_⟩
 refine⟨_,rfl,l,rfl,⟨_,SqL.of hl⟩,df (xs:=xs.map V.int) (fun j σ H2=>∃ y:Option V,σ=[some (.ref r),some (.int i),some (.int d),some (.ref l),y]/\Same H H2/\∀ k z,k<j->xs[k]?=some z->sd.q i z=fG z d) ⟨_,rfl,Same.refl _,fun k z hk=>absurd hk (Nat.not_lt_zero k)⟩ ?_ ?_ ?_⟩
 ·rintro j σ H2 hj ⟨y,rfl,s2,_⟩
  exact SqL.of (s2 _ _ hl)
 ·rintro j x σ H2 hj ⟨y,rfl,s2,al⟩
  rw[List.getElem?_map] at hj
  cases hz:xs[j]? with
  | none=>rw[hz] at hj; cases hj
  | some z =>
   rw[hz] at hj
   cases hj
   have zm:=mem_of_getElem? hz
   obtain⟨z0,z1⟩:=xb z zm
   refine⟨_,rfl,_,rfl,_,rfl,r,i,z,sd,rfl,h1,h2,z0,z1,st.same s2,ok,fun H3 s3=>?_⟩
   refine⟨_,rfl,_,rfl,z,d,rfl,d1,d2,rfl,_,rfl,?_⟩
   walk_at "c" <;> intro cc
   ·exact q false H3 (s2.trans s3) ⟨fun z=>(nomatch z),fun h=>absurd (h z zm) cc⟩
   ·refine⟨_,rfl,s2.trans s3,fun k u hk hu=>?_⟩
    by_cases e2:k=j
    ·subst e2; rw[hz] at hu; cases hu; exact cc
    ·exact al k u (by lia) hu
 rintro σ H2 ⟨y,rfl,s2,al⟩
 refine q true _ s2 ⟨fun _ x hx=>?_,fun _=>rfl⟩
 obtain⟨k,hk⟩:=List.mem_iff_getElem?.mp hx
 have hkl:=(List.getElem?_eq_some_iff.mp hk).1
 exact al k x (by rw[length_map]; exact hkl) hk
theorem jJ {f:Addr}{fd:FuncData}(F:Fun K "need_divisor" "need_divisor" du f fd) (T:Txt K mg c) (H_need_width:Has P w K mg base 3 "need_width" ["width"] cV) (H_is_between:Has P w K mg base 2 "is_between" ["thing","low","high"] cj):FnOk P w K mg base CX0 4 f fd ["width","d"] pJ:=by
 refine F.ok jG (fun vs H Q E h=>?_) (fun cdv A outer s H vs Q E hr h=>?_)
 ·obtain⟨i,d,rfl,_⟩:=h
  rfl
 obtain⟨i,d,rfl,h1,h2,d1,d2,q⟩:=h
 refine⟨_,(af (aK (aH H_need_width (hr.mono (by lia)) rfl (aa (pv 0) ah)))
  (aj (aN (bj (bh (aH H_is_between (hr.mono (by lia)) rfl (aa (pv 1) (aa ag (aa (aq aL (aq br ag (pv 0)) ag) ah))))))
   (aj bG)
   aw))),?_⟩
 refine⟨_,rfl,_,rfl,h1,h2,?_⟩
 refine⟨_,rfl,_,rfl,_,_,rfl,rfl,hX (by lia) (by lia),_,_,rfl,rfl,_,_,_,rfl,d1,by lia,_,rfl,db ?_⟩
 exact q
theorem j3 {f:Addr}{fd:FuncData}(F:Fun K "word" "Shifted.word" di f fd) (T:Txt K mg c) :FnOk P w K mg base CX0 1 f fd ["self"] (nv 0):=by
 refine F.ok ju (fun vs H Q E h=>?_) (fun cdv A outer s H vs Q E hr h=>?_)
 ·obtain⟨x,rfl,_⟩:=h
  rfl
 obtain⟨x,rfl,q⟩:=h
 exact⟨_,(aj (av aD)),q⟩
theorem jC {f:Addr}{fd:FuncData}(F:Fun K "told" "Shifted.told" dl f fd) (T:Txt K mg c)  (MW:MHas P w K mg base 1 c.Shifted "word" ["self"] (nv 0)):FnOk P w K mg base CX0 2 f fd ["self"] (eg c 0):=by
 refine F.ok jW (fun vs H Q E h=>?_) (fun cdv A outer s H vs Q E hr h=>?_)
 ·obtain⟨x,e,f,s,rfl,_⟩:=h
  rfl
 obtain⟨x,e,f,s,rfl,⟨dx,hx⟩,q⟩:=h
 refine⟨_,(aj (av (bp (aa (bt (k:=1) (pv 0) (hr.mono (by lia))) (aa (aZ (pv 0) rfl) ah))))),?_⟩
 refine⟨_,rfl,x,_,dx,_,_,_,rfl,hx,rfl,MW,x,rfl,_,rfl,x,_,dx,_,_,rfl,hx,T.cl_Shifted,T.na_Shifted_shift,rfl,(by show 2<=sizeLine; decide),fun r hr'=>q r _ hr' ae (ao hr' _)⟩
theorem kQ {f:Addr}{fd:FuncData}(F:Fun K "word" "Scaled.word" dN f fd) (T:Txt K mg c) :FnOk P w K mg base CX0 1 f fd ["self"] (nv 1):=by
 refine F.ok ku (fun vs H Q E h=>?_) (fun cdv A outer s H vs Q E hr h=>?_)
 ·obtain⟨x,rfl,_⟩:=h
  rfl
 obtain⟨x,rfl,q⟩:=h
 exact⟨_,(aj (av aD)),q⟩
theorem kI {f:Addr}{fd:FuncData}(F:Fun K "told" "Scaled.told" dW f fd) (T:Txt K mg c)  (MW:MHas P w K mg base 1 c.Scaled "word" ["self"] (nv 1)):FnOk P w K mg base CX0 2 f fd ["self"] (eg c 1):=by
 refine F.ok kW (fun vs H Q E h=>?_) (fun cdv A outer s H vs Q E hr h=>?_)
 ·obtain⟨x,e,f,s,rfl,_⟩:=h
  rfl
 obtain⟨x,e,f,s,rfl,⟨dx,hx⟩,q⟩:=h
 refine⟨_,(aj (av (bp (aa (bt (k:=1) (pv 0) (hr.mono (by lia))) (aa (aZ (pv 0) rfl) (aa (aZ (pv 0) rfl) ah)))))),?_⟩
 refine⟨_,rfl,x,_,dx,_,_,_,rfl,hx,rfl,MW,x,rfl,_,rfl,x,_,dx,_,_,rfl,hx,T.cl_Scaled,T.na_Scaled_factor,rfl,_,rfl,x,_,dx,_,_,rfl,hx,T.cl_Scaled,T.na_Scaled_shift,rfl,(by show 3<=sizeLine; decide),fun r hr'=>q r _ hr' ae (ao hr' _)⟩
theorem lV {f:Addr}{fd:FuncData}(F:Fun K "word" "Early.word" e7 f fd) (T:Txt K mg c) :FnOk P w K mg base CX0 1 f fd ["self"] (nv 2):=by
 refine F.ok lU (fun vs H Q E h=>?_) (fun cdv A outer s H vs Q E hr h=>?_)
 ·obtain⟨x,rfl,_⟩:=h
  rfl
 obtain⟨x,rfl,q⟩:=h
 exact⟨_,(aj (av aD)),q⟩
theorem mJ {f:Addr}{fd:FuncData}(F:Fun K "told" "Early.told" eY f fd) (T:Txt K mg c)  (MW:MHas P w K mg base 1 c.Early "word" ["self"] (nv 2)):FnOk P w K mg base CX0 2 f fd ["self"] (eg c 2):=by
 refine F.ok mE (fun vs H Q E h=>?_) (fun cdv A outer s H vs Q E hr h=>?_)
 ·obtain⟨x,e,f,s,rfl,_⟩:=h
  rfl
 obtain⟨x,e,f,s,rfl,⟨dx,hx⟩,q⟩:=h
 refine⟨_,(aj (av (bp (aa (bt (k:=1) (pv 0) (hr.mono (by lia))) (aa (aZ (pv 0) rfl) (aa (aZ (pv 0) rfl) (aa (aZ (pv 0) rfl) ah))))))),?_⟩
 refine⟨_,rfl,x,_,dx,_,_,_,rfl,hx,rfl,MW,x,rfl,_,rfl,x,_,dx,_,_,rfl,hx,T.cl_Early,T.na_Early_early,rfl,_,rfl,x,_,dx,_,_,rfl,hx,T.cl_Early,T.na_Early_factor,rfl,_,rfl,x,_,dx,_,_,rfl,hx,T.cl_Early,T.na_Early_shift,rfl,(by show 4<=sizeLine; decide),fun r hr'=>q r _ hr' ae (ao hr' _)⟩
theorem nU {f:Addr}{fd:FuncData}(F:Fun K "word" "More.word" gE f fd) (T:Txt K mg c) :FnOk P w K mg base CX0 1 f fd ["self"] (nv 3):=by
 refine F.ok n6 (fun vs H Q E h=>?_) (fun cdv A outer s H vs Q E hr h=>?_)
 ·obtain⟨x,rfl,_⟩:=h
  rfl
 obtain⟨x,rfl,q⟩:=h
 exact⟨_,(aj (av aD)),q⟩
theorem mX {f:Addr}{fd:FuncData}(F:Fun K "told" "More.told" gn f fd) (T:Txt K mg c)  (MW:MHas P w K mg base 1 c.More "word" ["self"] (nv 3)):FnOk P w K mg base CX0 2 f fd ["self"] (eg c 3):=by
 refine F.ok nN (fun vs H Q E h=>?_) (fun cdv A outer s H vs Q E hr h=>?_)
 ·obtain⟨x,e,f,s,rfl,_⟩:=h
  rfl
 obtain⟨x,e,f,s,rfl,⟨dx,hx⟩,q⟩:=h
 refine⟨_,(aj (av (bp (aa (bt (k:=1) (pv 0) (hr.mono (by lia))) (aa (aZ (pv 0) rfl) (aa (aZ (pv 0) rfl) ah)))))),?_⟩
 refine⟨_,rfl,x,_,dx,_,_,_,rfl,hx,rfl,MW,x,rfl,_,rfl,x,_,dx,_,_,rfl,hx,T.cl_More,T.na_More_factor,rfl,_,rfl,x,_,dx,_,_,rfl,hx,T.cl_More,T.na_More_shift,rfl,(by show 3<=sizeLine; decide),fun r hr'=>q r _ hr' ae (ao hr' _)⟩
theorem oa {f:Addr}{fd:FuncData}(F:Fun K "word" "Wide.word" gy f fd) (T:Txt K mg c) :FnOk P w K mg base CX0 1 f fd ["self"] (nv 4):=by
 refine F.ok m4 (fun vs H Q E h=>?_) (fun cdv A outer s H vs Q E hr h=>?_)
 ·obtain⟨x,rfl,_⟩:=h
  rfl
 obtain⟨x,rfl,q⟩:=h
 exact⟨_,(aj (av aD)),q⟩
theorem mW {f:Addr}{fd:FuncData}(F:Fun K "told" "Wide.told" gj f fd) (T:Txt K mg c)  (MW:MHas P w K mg base 1 c.Wide "word" ["self"] (nv 4)):FnOk P w K mg base CX0 2 f fd ["self"] (eg c 4):=by
 refine F.ok mV (fun vs H Q E h=>?_) (fun cdv A outer s H vs Q E hr h=>?_)
 ·obtain⟨x,e,f,s,rfl,_⟩:=h
  rfl
 obtain⟨x,e,f,s,rfl,⟨dx,hx⟩,q⟩:=h
 refine⟨_,(aj (av (bp (aa (bt (k:=1) (pv 0) (hr.mono (by lia))) (aa (aZ (pv 0) rfl) (aa (aZ (pv 0) rfl) ah)))))),?_⟩
 refine⟨_,rfl,x,_,dx,_,_,_,rfl,hx,rfl,MW,x,rfl,_,rfl,x,_,dx,_,_,rfl,hx,T.cl_Wide,T.na_Wide_factor,rfl,_,rfl,x,_,dx,_,_,rfl,hx,T.cl_Wide,T.na_Wide_shift,rfl,(by show 3<=sizeLine; decide),fun r hr'=>q r _ hr' ae (ao hr' _)⟩
theorem qX {f:Addr}{fd:FuncData}(F:Fun K "twos_in" "twos_in" jw f fd) (T:Txt K mg c) :FnOk P w K mg base CX0 1 f fd ["d"] jr:=by
 refine F.ok sc_twos_in (fun vs H Q E h=>?_) (fun cdv A outer s H vs Q E hr h=>?_)
 ·obtain⟨d,rfl,_⟩:=h
  rfl
 obtain⟨D,rfl,d1,q⟩:=h
 refine⟨_,(af (ax (i:=1) sc_twos_in.nd rfl (Or.inl rfl) ag)
  (af (my PassesOwn.never (aA dA (aq gR (pv 0) ag) ag (aI _))
   (af (ax (i:=0) sc_twos_in.nd rfl (Or.inl rfl) (aq mG (pv 0) ag))
   (aj (ax (i:=1) sc_twos_in.nd rfl (Or.inl rfl) (aq aQ (pv 1) ag)))))
  (aj (av (pv 1))))),?_⟩
 refine md (fun σ H1=>∃ d t:Int,σ=[some (.int d),some (.int t)]/\H1=H/\1<=d/\0<=t/\D=d*2^t.toNat) (fun σ _=>match σ with | [some (.int d),_]=>d.toNat | _=>0) ⟨D,0,rfl,rfl,d1,by decide,by show D=D*2^0; rw[pow_zero,mul_one]⟩ ?_ ?_
 ·rintro σ H1 ⟨d,t,rfl,rfl,d0,t0,e⟩
  refine⟨_,rfl,_,_,rfl,rfl,(by show (0:Int)<2; decide),rfl,_,rfl,?_⟩
  by_cases hc:d%2=0
  ·refine jd (congrArg V.int hc) ?_
   refine⟨_,rfl,_,_,rfl,rfl,⟨by decide,by decide⟩,?_⟩
   refine⟨_,rfl,_,_,rfl,rfl,?_⟩
   refine⟨⟨d/2,t+1,rfl,rfl,by lia,by lia,tM t0 e hc⟩,?_⟩
   show (d/2).toNat<d.toNat
   lia
  ·refine bB (fun z=>hc (by injection z)) ?_
   exact⟨_,rfl,q t (sj t0 e hc)⟩
 ·rintro σ H1 Q1 Q2 hQ ⟨v,hv,a,b,c,d,e,f,k,hk,q1⟩
  exact⟨v,hv,a,b,c,d,e,f,k,hk,hQ _ _ q1⟩
theorem gu {f:Addr}{fd:FuncData}(F:Fun K "__init__" "Shifted.__init__" cf f fd) (T:Txt K mg c) (H_is_shift:Has P w K mg base 3 "is_shift" ["thing"] oG):FnOk P w K mg base CX0 4 f fd ["self","shift"] (spI0 c):=by
 refine F.ok ge (fun vs H Q E h=>?_) (fun cdv A outer s H vs Q E hr h=>?_)
 ·obtain⟨x,dx,s,rfl,_⟩:=h
  rfl
 obtain⟨x,dx,s,rfl,hx,s0,s1,q⟩:=h
 refine⟨_,(af (dL (pv 0) (pv 1) rfl)
  (aj (aN (bj (bh (aH H_is_shift (hr.mono (by lia)) rfl (aa (pv 1) ah))))
   (aj bG)
   aw))),?_⟩
 refine⟨_,rfl,_,rfl,x,_,dx,_,rfl,hx,T.cl_Shifted,T.na_Shifted_shift,(by show 0<1000; decide),?_⟩
 refine⟨_,rfl,_,rfl,s0,s1,_,rfl,db ?_⟩
 exact q _ (SameX.upd) ⟨dx,ae⟩
theorem eB {f:Addr}{fd:FuncData}(F:Fun K "numbers_in" "Shifted.numbers_in" bJ f fd) (T:Txt K mg c) (H_need_width:Has P w K mg base 3 "need_width" ["width"] cV):FnOk P w K mg base CX0 4 f fd ["self","width"] (dH c 0):=by
 refine F.ok eZ (fun vs H Q E h=>?_) (fun cdv A outer s H vs Q E hr h=>?_)
 ·obtain⟨x,i,e,f,t,rfl,_⟩:=h
  rfl
 obtain⟨x,i,e,f,t,rfl,⟨dx,hx⟩,fm,h1,h2,q⟩:=h
 refine⟨_,(af (aK (aH H_need_width (hr.mono (by lia)) rfl (aa (pv 1) ah)))
  (aj (av (bp (aa ag (aa ag (aa ag (aa (aZ (pv 0) rfl) ah)))))))),?_⟩
 have ez:=fm.e0
 refine⟨_,rfl,_,rfl,h1,h2,?_⟩
 refine⟨_,rfl,x,_,dx,_,_,rfl,hx,T.cl_Shifted,T.na_Shifted_shift,rfl,(by show 4<=sizeLine; decide),fun r hr'=>?_⟩
 obtain rfl:=ez (by decide)
 exact q r _ hr' ae (ao hr' _)
theorem ip {f:Addr}{fd:FuncData}(F:Fun K "__init__" "Scaled.__init__" cE f fd) (T:Txt K mg c) (H_is_factor:Has P w K mg base 3 "is_factor" ["thing"] pq) (H_is_shift:Has P w K mg base 3 "is_shift" ["thing"] oG):FnOk P w K mg base CX0 4 f fd ["self","factor","shift"] (spI2 c 1 0):=by
 refine F.ok iw (fun vs H Q E h=>?_) (fun cdv A outer s H vs Q E hr h=>?_)
 ·obtain⟨x,dx,f,s,rfl,_⟩:=h
  rfl
 obtain⟨x,dx,f,s,rfl,hx,f0,f1,s0,s1,q⟩:=h
 refine⟨_,(af (dL (pv 0) (pv 1) rfl)
  (af (dL (pv 0) (pv 2) rfl)
  (aj (aN (PW.pt (eQ (bj (bh (aH H_is_factor (hr.mono (by lia)) rfl (aa (pv 1) ah)))) (eS (bj (bh (aH H_is_shift (hr.mono (by lia)) rfl (aa (pv 2) ah)))))))
   (aj bG)
   aw)))),?_⟩
 refine⟨_,rfl,_,rfl,x,_,dx,_,rfl,hx,T.cl_Scaled,T.na_Scaled_factor,(by show 0<1000; decide),?_⟩
 refine⟨_,rfl,_,rfl,x,_,dx,_,rfl,ae,T.cl_Scaled,T.na_Scaled_shift,(by show 1<1000; decide),?_⟩
 refine⟨_,rfl,_,rfl,f0,f1,_,rfl,db ?_⟩
 refine⟨_,rfl,_,rfl,s0,s1,_,rfl,db ?_⟩
 exact q _ (SameX.upd.trans (SameX.upd)) ⟨dx,ae⟩
theorem ft {f:Addr}{fd:FuncData}(F:Fun K "numbers_in" "Scaled.numbers_in" bP f fd) (T:Txt K mg c) (H_need_width:Has P w K mg base 3 "need_width" ["width"] cV):FnOk P w K mg base CX0 4 f fd ["self","width"] (dH c 1):=by
 refine F.ok fu (fun vs H Q E h=>?_) (fun cdv A outer s H vs Q E hr h=>?_)
 ·obtain⟨x,i,e,f,t,rfl,_⟩:=h
  rfl
 obtain⟨x,i,e,f,t,rfl,⟨dx,hx⟩,fm,h1,h2,q⟩:=h
 refine⟨_,(af (aK (aH H_need_width (hr.mono (by lia)) rfl (aa (pv 1) ah)))
  (aj (av (bp (aa ag (aa (aZ (pv 0) rfl) (aa ag (aa (aq aQ (pv 1) (aZ (pv 0) rfl)) ah)))))))),?_⟩
 have ez:=fm.e0
 refine⟨_,rfl,_,rfl,h1,h2,?_⟩
 refine⟨_,rfl,x,_,dx,_,_,rfl,hx,T.cl_Scaled,T.na_Scaled_factor,rfl,_,rfl,_,rfl,x,_,dx,_,_,rfl,hx,T.cl_Scaled,T.na_Scaled_shift,rfl,_,_,rfl,rfl,(by show 4<=sizeLine; decide),fun r hr'=>?_⟩
 obtain rfl:=ez (by decide)
 exact q r _ hr' ae (ao hr' _)
theorem iD {f:Addr}{fd:FuncData}(F:Fun K "__init__" "Early.__init__" cQ f fd) (T:Txt K mg c) (H_is_shift:Has P w K mg base 3 "is_shift" ["thing"] oG) (H_is_factor:Has P w K mg base 3 "is_factor" ["thing"] pq):FnOk P w K mg base CX0 4 f fd ["self","early","factor","shift"] (spI3 c):=by
 refine F.ok iN (fun vs H Q E h=>?_) (fun cdv A outer s H vs Q E hr h=>?_)
 ·obtain⟨x,dx,e,f,s,rfl,_⟩:=h
  rfl
 obtain⟨x,dx,e,f,s,rfl,hx,e0,e1,f0,f1,s0,s1,q⟩:=h
 refine⟨_,(af (dL (pv 0) (pv 1) rfl)
  (af (dL (pv 0) (pv 2) rfl)
  (af (dL (pv 0) (pv 3) rfl)
  (aj (aN (PW.pt (eQ (bj (bh (aH H_is_shift (hr.mono (by lia)) rfl (aa (pv 1) ah)))) (eQ (bj (bh (aH H_is_factor (hr.mono (by lia)) rfl (aa (pv 2) ah)))) (eS (bj (bh (aH H_is_shift (hr.mono (by lia)) rfl (aa (pv 3) ah))))))))
   (aj bG)
   aw))))),?_⟩
 refine⟨_,rfl,_,rfl,x,_,dx,_,rfl,hx,T.cl_Early,T.na_Early_early,(by show 0<1000; decide),?_⟩
 refine⟨_,rfl,_,rfl,x,_,dx,_,rfl,ae,T.cl_Early,T.na_Early_factor,(by show 1<1000; decide),?_⟩
 refine⟨_,rfl,_,rfl,x,_,dx,_,rfl,ae,T.cl_Early,T.na_Early_shift,(by show 2<1000; decide),?_⟩
 refine⟨_,rfl,_,rfl,e0,e1,_,rfl,db ?_⟩
 refine⟨_,rfl,_,rfl,f0,f1,_,rfl,db ?_⟩
 refine⟨_,rfl,_,rfl,s0,s1,_,rfl,db ?_⟩
 exact q _ (SameX.upd.trans (SameX.upd.trans (SameX.upd))) ⟨dx,ae⟩
theorem fX {f:Addr}{fd:FuncData}(F:Fun K "numbers_in" "Early.numbers_in" ci f fd) (T:Txt K mg c) (H_need_width:Has P w K mg base 3 "need_width" ["width"] cV):FnOk P w K mg base CX0 4 f fd ["self","width"] (dH c 2):=by
 refine F.ok gp (fun vs H Q E h=>?_) (fun cdv A outer s H vs Q E hr h=>?_)
 ·obtain⟨x,i,e,f,t,rfl,_⟩:=h
  rfl
 obtain⟨x,i,e,f,t,rfl,⟨dx,hx⟩,fm,h1,h2,q⟩:=h
 refine⟨_,(af (aK (aH H_need_width (hr.mono (by lia)) rfl (aa (pv 1) ah)))
  (aj (av (bp (aa (aZ (pv 0) rfl) (aa (aZ (pv 0) rfl) (aa ag (aa (aq aQ (pv 1) (aZ (pv 0) rfl)) ah)))))))),?_⟩
 have ez:=fm.e0
 refine⟨_,rfl,_,rfl,h1,h2,?_⟩
 refine⟨_,rfl,x,_,dx,_,_,rfl,hx,T.cl_Early,T.na_Early_early,rfl,_,rfl,x,_,dx,_,_,rfl,hx,T.cl_Early,T.na_Early_factor,rfl,_,rfl,_,rfl,x,_,dx,_,_,rfl,hx,T.cl_Early,T.na_Early_shift,rfl,_,_,rfl,rfl,(by show 4<=sizeLine; decide),fun r hr'=>?_⟩
 exact q r _ hr' ae (ao hr' _)
theorem iV {f:Addr}{fd:FuncData}(F:Fun K "__init__" "More.__init__" c7 f fd) (T:Txt K mg c) (H_is_factor:Has P w K mg base 3 "is_factor" ["thing"] pq) (H_is_shift:Has P w K mg base 3 "is_shift" ["thing"] oG):FnOk P w K mg base CX0 4 f fd ["self","factor","shift"] (spI2 c 3 0):=by
 refine F.ok iW (fun vs H Q E h=>?_) (fun cdv A outer s H vs Q E hr h=>?_)
 ·obtain⟨x,dx,f,s,rfl,_⟩:=h
  rfl
 obtain⟨x,dx,f,s,rfl,hx,f0,f1,s0,s1,q⟩:=h
 refine⟨_,(af (dL (pv 0) (pv 1) rfl)
  (af (dL (pv 0) (pv 2) rfl)
  (aj (aN (PW.pt (eQ (bj (bh (aH H_is_factor (hr.mono (by lia)) rfl (aa (pv 1) ah)))) (eS (bj (bh (aH H_is_shift (hr.mono (by lia)) rfl (aa (pv 2) ah)))))))
   (aj bG)
   aw)))),?_⟩
 refine⟨_,rfl,_,rfl,x,_,dx,_,rfl,hx,T.cl_More,T.na_More_factor,(by show 0<1000; decide),?_⟩
 refine⟨_,rfl,_,rfl,x,_,dx,_,rfl,ae,T.cl_More,T.na_More_shift,(by show 1<1000; decide),?_⟩
 refine⟨_,rfl,_,rfl,f0,f1,_,rfl,db ?_⟩
 refine⟨_,rfl,_,rfl,s0,s1,_,rfl,db ?_⟩
 exact q _ (SameX.upd.trans (SameX.upd)) ⟨dx,ae⟩
theorem gJ {f:Addr}{fd:FuncData}(F:Fun K "numbers_in" "More.numbers_in" cA f fd) (T:Txt K mg c) (H_need_width:Has P w K mg base 3 "need_width" ["width"] cV):FnOk P w K mg base CX0 4 f fd ["self","width"] (dH c 3):=by
 refine F.ok gN (fun vs H Q E h=>?_) (fun cdv A outer s H vs Q E hr h=>?_)
 ·obtain⟨x,i,e,f,t,rfl,_⟩:=h
  rfl
 obtain⟨x,i,e,f,t,rfl,⟨dx,hx⟩,fm,h1,h2,q⟩:=h
 refine⟨_,(af (aK (aH H_need_width (hr.mono (by lia)) rfl (aa (pv 1) ah)))
  (aj (av (bp (aa ag (aa (aZ (pv 0) rfl) (aa (aZ (pv 0) rfl) (aa (aq aQ (pv 1) (aZ (pv 0) rfl)) ah)))))))),?_⟩
 have ez:=fm.e0
 refine⟨_,rfl,_,rfl,h1,h2,?_⟩
 refine⟨_,rfl,x,_,dx,_,_,rfl,hx,T.cl_More,T.na_More_factor,rfl,_,rfl,x,_,dx,_,_,rfl,hx,T.cl_More,T.na_More_factor,rfl,_,rfl,_,rfl,x,_,dx,_,_,rfl,hx,T.cl_More,T.na_More_shift,rfl,_,_,rfl,rfl,(by show 4<=sizeLine; decide),fun r hr'=>?_⟩
 obtain rfl:=ez (by decide)
 exact q r _ hr' ae (ao hr' _)
theorem iX {f:Addr}{fd:FuncData}(F:Fun K "__init__" "Wide.__init__" cU f fd) (T:Txt K mg c) (H_is_factor:Has P w K mg base 3 "is_factor" ["thing"] pq) (H_is_between:Has P w K mg base 2 "is_between" ["thing","low","high"] cj):FnOk P w K mg base CX0 4 f fd ["self","factor","shift"] (spI2 c 4 1):=by
 refine F.ok i4 (fun vs H Q E h=>?_) (fun cdv A outer s H vs Q E hr h=>?_)
 ·obtain⟨x,dx,f,s,rfl,_⟩:=h
  rfl
 obtain⟨x,dx,f,s,rfl,hx,f0,f1,s0,s1,q⟩:=h
 refine⟨_,(af (dL (pv 0) (pv 1) rfl)
  (af (dL (pv 0) (pv 2) rfl)
  (aj (aN (PW.pt (eQ (bj (bh (aH H_is_factor (hr.mono (by lia)) rfl (aa (pv 1) ah)))) (eS (bj (bh (aH H_is_between (hr.mono (by lia)) rfl (aa (pv 2) (aa ag (aa ag ah)))))))))
   (aj bG)
   aw)))),?_⟩
 refine⟨_,rfl,_,rfl,x,_,dx,_,rfl,hx,T.cl_Wide,T.na_Wide_factor,(by show 0<1000; decide),?_⟩
 refine⟨_,rfl,_,rfl,x,_,dx,_,rfl,ae,T.cl_Wide,T.na_Wide_shift,(by show 1<1000; decide),?_⟩
 refine⟨_,rfl,_,rfl,f0,f1,_,rfl,db ?_⟩
 refine⟨_,rfl,_,_,_,rfl,s0,s1,_,rfl,db ?_⟩
 exact q _ (SameX.upd.trans (SameX.upd)) ⟨dx,ae⟩
theorem iu {f:Addr}{fd:FuncData}(F:Fun K "numbers_in" "Wide.numbers_in" cF f fd) (T:Txt K mg c) (H_need_width:Has P w K mg base 3 "need_width" ["width"] cV):FnOk P w K mg base CX0 4 f fd ["self","width"] (dH c 4):=by
 refine F.ok hU (fun vs H Q E h=>?_) (fun cdv A outer s H vs Q E hr h=>?_)
 ·obtain⟨x,i,e,f,t,rfl,_⟩:=h
  rfl
 obtain⟨x,i,e,f,t,rfl,⟨dx,hx⟩,fm,h1,h2,q⟩:=h
 refine⟨_,(af (aK (aH H_need_width (hr.mono (by lia)) rfl (aa (pv 1) ah)))
  (aj (av (bp (aa ag (aa (aq aQ (aq br ag (pv 1)) (aZ (pv 0) rfl)) (aa ag (aa (aq aQ (pv 1) (aZ (pv 0) rfl)) ah)))))))),?_⟩
 have ez:=fm.e0
 refine⟨_,rfl,_,rfl,h1,h2,?_⟩
 refine⟨_,rfl,_,_,rfl,rfl,hX (by lia) (by lia),_,rfl,x,_,dx,_,_,rfl,hx,T.cl_Wide,T.na_Wide_factor,rfl,_,_,rfl,rfl,_,rfl,_,rfl,x,_,dx,_,_,rfl,hx,T.cl_Wide,T.na_Wide_shift,rfl,_,_,rfl,rfl,(by show 4<=sizeLine; decide),fun r hr'=>?_⟩
 obtain rfl:=ez (by decide)
 exact q r _ hr' ae (ao hr' _)
theorem qZ {f:Addr}{fd:FuncData}(F:Fun K "brought" "brought" ki f fd) (T:Txt K mg c) :FnOk P w K mg base CX0 1 f fd ["reckoning","x"] ld:=by
 refine F.ok qF (fun vs H Q E h=>?_) (fun cdv A outer s H vs Q E hr h=>?_)
 ·obtain⟨r,e,f,a,t,x,rfl,_⟩:=h
  rfl
 obtain⟨r,e,f,a,t,x,rfl,ht,⟨e0,e1,f0,f1,a0,a1,t0,t1⟩,x0,x1,q⟩:=h
 refine⟨_,(aj (av (aq iA (aq aQ (aq cS (aY aU (pv 0) ag (fun _ _=>rfl)) (aq iA (pv 1) (aY aU (pv 0) ag (fun _ _=>rfl)))) (aY aU (pv 0) ag (fun _ _=>rfl))) (aY aU (pv 0) ag (fun _ _=>rfl))))),?_⟩
 have z:=xdiv x0 e
 unfold IsG at ht
 walk_at "o"
 exact q
theorem mZ {f:Addr}{fd:FuncData}(F:Fun K "is_factor" "is_factor" gt f fd) (T:Txt K mg c) (H_is_between:Has P w K mg base 2 "is_between" ["thing","low","high"] cj):FnOk P w K mg base CX0 3 f fd ["thing"] pq:=by
 refine F.ok m8 (fun vs H Q E h=>?_) (fun cdv A outer s H vs Q E hr h=>?_)
 ·obtain⟨i,rfl,_⟩:=h
  rfl
 obtain⟨i,rfl,h1,h2,q⟩:=h
 refine⟨_,(aj (av (aH H_is_between (hr.mono (by lia)) rfl (aa (pv 0) (aa ag (aa (aq aL (aq op_pow ag ag) ag) ah)))))),?_⟩
 exact⟨_,rfl,_,_,rfl,rfl,⟨by decide,by decide,by decide⟩,_,_,rfl,rfl,_,_,_,rfl,h1,by rw[pow32]; lia,q⟩
theorem oZ {f:Addr}{fd:FuncData}(F:Fun K "is_shift" "is_shift" iJ f fd) (T:Txt K mg c) (H_is_between:Has P w K mg base 2 "is_between" ["thing","low","high"] cj):FnOk P w K mg base CX0 3 f fd ["thing"] oG:=by
 refine F.ok oV (fun vs H Q E h=>?_) (fun cdv A outer s H vs Q E hr h=>?_)
 ·obtain⟨i,rfl,_⟩:=h
  rfl
 obtain⟨i,rfl,h1,h2,q⟩:=h
 refine⟨_,(aj (av (aH H_is_between (hr.mono (by lia)) rfl (aa (pv 0) (aa ag (aa ag ah)))))),?_⟩
 exact⟨_,rfl,_,_,_,rfl,h1,h2,q⟩
theorem i5 {f:Addr}{fd:FuncData}(F:Fun K "quotient" "Form.quotient" c8 f fd) (T:Txt K mg c) (H_brought:Has P w K mg base 1 "brought" ["reckoning","x"] ld) (MN:∀ i,i<5->MHas P w K mg base 4 (fOf c i) "numbers_in" ["self","width"] (dH c i)):FnOk P w K mg base CX0 5 f fd ["self","width","x"] (spFQ c):=by
 refine F.ok iZ (fun vs H Q E h=>?_) (fun cdv A outer s H vs Q E hr h=>?_)
 ·obtain⟨y,i,x,kd,e,f,t,rfl,_⟩:=h
  rfl
 obtain⟨y,i,x,kd,e,f,t,rfl,fo,fm,h1,h2,x0,x1,q⟩:=h
 refine⟨_,(aj (av (aH H_brought (hr.mono (by lia)) rfl (aa (dQ (k:=4) (pv 0) (hr.mono (by lia)) (aa (pv 1) ah)) (aa (pv 2) ah))))),?_⟩
 obtain⟨dx,hx⟩:=id fo
 refine⟨_,rfl,y,_,dx,_,_,_,rfl,hx,fl_num,MN kd fm.k,_,rfl,y,i,e,f,t,rfl,fo,fm,h1,h2,fun r H2 h0 hr' s2=>?_⟩
 exact⟨_,rfl,r,_,_,_,_,x,rfl,hr',fm.rg h1 h2,x0,by lia,q _ s2⟩
theorem jR {f:Addr}{fd:FuncData}(F:Fun K "cut_quotient" "cut_quotient" dD f fd) (T:Txt K mg c) :FnOk P w K mg base CX0 1 f fd ["x","d"] pE:=by
 refine F.ok kj (fun vs H Q E h=>?_) (fun cdv A outer s H vs Q E hr h=>?_)
 ·obtain⟨x,d,rfl,_⟩:=h
  rfl
 obtain⟨x,d,rfl,d1,d2,q⟩:=h
 refine⟨_,(aj (av (ie (aA oh (pv 0) ag (aI _)) (aq bi (pv 0) (pv 1)) (jF eN (aq bi (jF eN (pv 0)) (pv 1)))))),?_⟩
 have lg:=bK (m:=d) (by lia) (by lia)
 unfold fG at q
 refine⟨_,rfl,_,_,rfl,rfl,_,rfl,?_⟩
 walk_at "c" <;> intro c0
 ·rw[if_neg (by lia)] at q
  exact⟨_,rfl,_,rfl,_,_,rfl,rfl,⟨by lia,lg⟩,q⟩
 ·rw[if_pos (by lia)] at q
  exact⟨_,rfl,_,rfl,_,rfl,_,_,rfl,rfl,⟨by lia,lg⟩,_,rfl,q⟩
theorem gC {f:Addr}{fd:FuncData}(F:Fun K "__init__" "Cutting.__init__" bT f fd) (T:Txt K mg c) (H_is_factor:Has P w K mg base 3 "is_factor" ["thing"] pq) (H_is_shift:Has P w K mg base 3 "is_shift" ["thing"] oG):FnOk P w K mg base CX0 4 f fd ["self","factor","shift"] (spIC c):=by
 refine F.ok fW (fun vs H Q E h=>?_) (fun cdv A outer s H vs Q E hr h=>?_)
 ·obtain⟨x,dx,f,s,rfl,_⟩:=h
  rfl
 obtain⟨x,dx,f,s,rfl,hx,f0,f1,s0,s1,q⟩:=h
 refine⟨_,(af (dL (pv 0) (pv 1) rfl)
  (af (dL (pv 0) (pv 2) rfl)
  (aj (aN (PW.pt (eQ (bj (bh (aH H_is_factor (hr.mono (by lia)) rfl (aa (pv 1) ah)))) (eS (bj (bh (aH H_is_shift (hr.mono (by lia)) rfl (aa (pv 2) ah)))))))
   (aj bG)
   aw)))),?_⟩
 refine⟨_,rfl,_,rfl,x,_,dx,_,rfl,hx,T.cl_Cutting,T.na_Cutting_factor,(by show 0<1000; decide),?_⟩
 refine⟨_,rfl,_,rfl,x,_,dx,_,rfl,ae,T.cl_Cutting,T.na_Cutting_shift,(by show 1<1000; decide),?_⟩
 refine⟨_,rfl,_,rfl,f0,f1,_,rfl,db ?_⟩
 refine⟨_,rfl,_,rfl,s0,s1,_,rfl,db ?_⟩
 exact q _ (SameX.upd.trans SameX.upd) ⟨dx,ae⟩
theorem fR {f:Addr}{fd:FuncData}(F:Fun K "quotient" "Cutting.quotient" ck f fd) (T:Txt K mg c) (H_need_width:Has P w K mg base 3 "need_width" ["width"] cV):FnOk P w K mg base CX0 6 f fd ["self","width","x"] (qB c 0):=by
 refine F.ok gc (fun vs H Q E h=>?_) (fun cdv A outer s H vs Q E hr h=>?_)
 ·obtain⟨x,i,n,sd,rfl,_⟩:=h
  rfl
 obtain⟨x,i,n,sd,rfl,ix,so,ok,h1,h2,n0,n1,q⟩:=h
 cases sd with
 | turn kd e f t=>exact absurd (show (1:Nat)=0 from ix) (by decide)
 | cut f k =>
  refine⟨_,(af (aK (aH H_need_width (hr.mono (by lia)) rfl (aa (pv 1) ah)))
  (aj (av (aq aQ (aq iA (aq cS (aZ (pv 0) rfl) (pv 2)) (aq aQ (pv 1) (aZ (pv 0) rfl))) (ie (aA eD (pv 2) ag (aI _)) ag ag))))),?_⟩
  obtain⟨dx,hx⟩:=so
  obtain⟨f0,f1,k0,k1⟩:=ok
  refine⟨_,rfl,_,rfl,h1,h2,?_⟩
  refine⟨_,rfl,x,_,dx,_,_,rfl,hx,T.cl_Cutting,T.na_Cutting_factor,rfl,_,rfl,_,_,rfl,rfl,⟨lc (by lia) (by lia),lc (by lia) (by lia)⟩,_,rfl,_,rfl,x,_,dx,_,_,rfl,hx,T.cl_Cutting,T.na_Cutting_shift,rfl,_,_,rfl,rfl,_,_,rfl,rfl,(by show 0<=i+k; lia),?_⟩
  have z:=q H (Same.refl _)
  unfold SD.q at z
  dsimp only at z
  refine⟨_,rfl,_,_,rfl,rfl,_,rfl,?_⟩
  walk_at "c" <;> intro c0
  ·rw[if_pos c0] at z
   exact⟨_,_,rfl,rfl,z⟩
  ·rw[if_neg c0] at z
   exact⟨_,_,rfl,rfl,z⟩
theorem fY {f:Addr}{fd:FuncData}(F:Fun K "early_in" "Cutting.early_in" bU f fd) (T:Txt K mg c) :FnOk P w K mg base CX0 5 f fd ["self","width"] (spEI c 0):=by
 refine F.ok fU (fun vs H Q E h=>?_) (fun cdv A outer s H vs Q E hr h=>?_)
 ·obtain⟨x,i,sd,rfl,_⟩:=h
  rfl
 obtain⟨x,i,sd,rfl,ix,so,ok,h1,h2,q⟩:=h
 cases sd with
 | turn kd e f t=>exact absurd (show (1:Nat)=0 from ix) (by decide)
 | cut f k =>
  refine⟨_,(aj (av ag)),?_⟩
  exact q H (Same.refl _)
theorem gM {f:Addr}{fd:FuncData}(F:Fun K "__init__" "Turned.__init__" cx f fd) (T:Txt K mg c) :FnOk P w K mg base CX0 1 f fd ["self","form"] (spIT c):=by
 refine F.ok g8 (fun vs H Q E h=>?_) (fun cdv A outer s H vs Q E hr h=>?_)
 ·obtain⟨x,dx,y,kd,e,f,s,rfl,_⟩:=h
  rfl
 obtain⟨x,dx,y,kd,e,f,s,rfl,hx,⟨dy,hy⟩,kk,ne,q⟩:=h
 refine⟨_,(af (aN (bj (bh (aJ bf rfl T.n_isinstance boot_isinstance (aa (pv 1) (aa (nH rfl T.g_Form) ah)))))
   (aj bG)
   aw)
  (aj (dL (pv 0) (pv 1) rfl))),?_⟩
 refine⟨_,rfl,_,_,_,_,_,rfl,rfl,T.tyF kd kk hy,T.ikF kd kk,_,rfl,db ?_⟩
 refine⟨_,rfl,_,rfl,x,_,dx,_,rfl,hx,T.cl_Turned,T.na_Turned_form,(by show 0<1000; decide),?_⟩
 exact q _ SameX.upd ⟨dx,y,ae,dy,by rw[au ne]; exact hy⟩
theorem gU {f:Addr}{fd:FuncData}(F:Fun K "quotient" "Turned.quotient" cB f fd) (T:Txt K mg c) (H_need_width:Has P w K mg base 3 "need_width" ["width"] cV) (MF:∀ i,i<5->MHas P w K mg base 5 (fOf c i) "quotient" ["self","width","x"] (spFQ c)):FnOk P w K mg base CX0 6 f fd ["self","width","x"] (qB c 1):=by
 refine F.ok h7 (fun vs H Q E h=>?_) (fun cdv A outer s H vs Q E hr h=>?_)
 ·obtain⟨x,i,n,sd,rfl,_⟩:=h
  rfl
 obtain⟨x,i,n,sd,rfl,ix,so,ok,h1,h2,n0,n1,q⟩:=h
 cases sd with
 | cut f k=>exact absurd (show (0:Nat)=1 from ix) (by decide)
 | turn kd e f t =>
  refine⟨_,(af (aK (aH H_need_width (hr.mono (by lia)) rfl (aa (pv 1) ah)))
  (aj (av (ie (aA oh (pv 2) ag (aI _)) (dQ (k:=5) (aZ (pv 0) rfl) (hr.mono (by lia)) (aa (pv 1) (aa (pv 2) ah))) (jF eN (dQ (k:=5) (aZ (pv 0) rfl) (hr.mono (by lia)) (aa (pv 1) (aa (jF eN (pv 2)) ah)))))))),?_⟩
  obtain⟨dx,y,hx,fo⟩:=so
  have fm:Fm kd e f t:=ok
  obtain⟨dy,hy⟩:=id fo
  refine⟨_,rfl,_,rfl,h1,h2,?_⟩
  unfold SD.q at q
  dsimp only at q
  refine⟨_,rfl,_,_,rfl,rfl,_,rfl,?_⟩
  walk_at "c" <;> intro c0
  ·refine⟨_,rfl,x,_,dx,_,_,rfl,hx,T.cl_Turned,T.na_Turned_form,rfl,y,_,dy,_,_,_,rfl,hy,fl_quo,MF kd fm.k,_,rfl,_,rfl,y,i,n,kd,e,f,t,rfl,fo,fm,h1,h2,c0,n1,fun H2 s2=>?_⟩
   have z:=q H2 s2
   rw[if_neg (by lia)] at z
   exact z
  ·refine⟨_,rfl,x,_,dx,_,_,rfl,hx,T.cl_Turned,T.na_Turned_form,rfl,y,_,dy,_,_,_,rfl,hy,fl_quo,MF kd fm.k,_,rfl,_,rfl,_,rfl,y,i,-n,kd,e,f,t,rfl,fo,fm,h1,h2,by lia,by lia,fun H2 s2=>⟨_,rfl,?_⟩⟩
   have z:=q H2 s2
   rw[if_pos (by lia)] at z
   exact z
theorem gQ {f:Addr}{fd:FuncData}(F:Fun K "early_in" "Turned.early_in" cH f fd) (T:Txt K mg c)  (MN:∀ i,i<5->MHas P w K mg base 4 (fOf c i) "numbers_in" ["self","width"] (dH c i)):FnOk P w K mg base CX0 5 f fd ["self","width"] (spEI c 1):=by
 refine F.ok ig (fun vs H Q E h=>?_) (fun cdv A outer s H vs Q E hr h=>?_)
 ·obtain⟨x,i,sd,rfl,_⟩:=h
  rfl
 obtain⟨x,i,sd,rfl,ix,so,ok,h1,h2,q⟩:=h
 cases sd with
 | cut f k=>exact absurd (show (0:Nat)=1 from ix) (by decide)
 | turn kd e f t =>
  refine⟨_,(aj (av (aY aU (dQ (k:=4) (aZ (pv 0) rfl) (hr.mono (by lia)) (aa (pv 1) ah)) ag (fun _ _=>rfl)))),?_⟩
  obtain⟨dx,y,hx,fo⟩:=so
  have fm:Fm kd e f t:=ok
  obtain⟨dy,hy⟩:=id fo
  refine⟨_,rfl,x,_,dx,_,_,rfl,hx,T.cl_Turned,T.na_Turned_form,rfl,y,_,dy,_,_,_,rfl,hy,fl_num,MN kd fm.k,_,rfl,y,i,e,f,t,rfl,fo,fm,h1,h2,fun r H2 h0 hr' s2=>?_⟩
  exact⟨_,_,_,_,rfl,rfl,SqT.of hr',rfl,q _ s2⟩
theorem gh {f:Addr}{fd:FuncData}(F:Fun K "need_signed_form" "need_signed_form" bY f fd) (T:Txt K mg c) (H_need_signed_divisor:Has P w K mg base 4 "need_signed_divisor" ["width","d"] jg) (H_twos_in:Has P w K mg base 1 "twos_in" ["d"] jr) (ME:∀ i,i<2->MHas P w K mg base 5 (sOf c i) "early_in" ["self","width"] (spEI c i)):FnOk P w K mg base CX0 6 f fd ["width","d","form"] (mI c):=by
 refine F.ok gz (fun vs H Q E h=>?_) (fun cdv A outer s H vs Q E hr h=>?_)
 ·obtain⟨i,d,x,sd,rfl,_⟩:=h
  rfl
 obtain⟨i,d,x,sd,rfl,h1,h2,d1,d2,so,ok,hd,q⟩:=h
 refine⟨_,(af (aK (aH H_need_signed_divisor (hr.mono (by lia)) rfl (aa (pv 0) (aa (pv 1) ah))))
  (aj (aN (aA kK (dQ (k:=5) (pv 2) (hr.mono (by lia)) (aa (pv 0) ah)) (aH H_twos_in (hr.mono (by lia)) rfl (aa (pv 1) ah)) (aI _))
   (aj bG)
   aw))),?_⟩
 obtain⟨dx,fs,hx,l1,l2⟩:=so.ob
 refine⟨_,rfl,_,rfl,_,_,rfl,h1,h2,d1,d2,?_⟩
 refine⟨_,rfl,x,_,dx,_,_,_,rfl,hx,l2,ME sd.ix sd.ix2,_,rfl,x,i,sd,rfl,rfl,so,ok,h1,h2,fun H2 s2=>?_⟩
 exact⟨_,rfl,_,rfl,d1,fun tt tw=>⟨_,_,rfl,rfl,_,rfl,bB (Int.not_lt.mpr (tw_le tw hd (SD.e_nn ok))) (q _ s2)⟩⟩
theorem o8 {f:Addr}{fd:FuncData}(F:Fun K "right_at" "right_at" iF f fd) (T:Txt K mg c) (H_cut_quotient:Has P w K mg base 1 "cut_quotient" ["x","d"] pE) (MQ:∀ i,i<2->MHas P w K mg base 6 (sOf c i) "quotient" ["self","width","x"] (qB c i)):FnOk P w K mg base CX0 7 f fd ["width","d","form","counts"] (spRAt c):=by
 refine F.ok oO (fun vs H Q E h=>?_) (fun cdv A outer s H vs Q E hr h=>?_)
 ·obtain⟨i,d,x,l,sd,xs,rfl,_⟩:=h
  rfl
 obtain⟨i,d,x,l,sd,xs,rfl,h1,h2,d1,d2,so,ok,hl,ln,xb,q⟩:=h
 refine⟨_,(aj (av (aJ (o7 rfl) rfl T.n_all boot_all (aa (je [0,2,1] ["width","form","d"] rfl (by first | rfl | with_unfolding_all rfl) (by rfl) (by exact(List.forall_mem_cons.mpr ⟨rfl,(List.forall_mem_cons.mpr ⟨rfl,(List.forall_mem_cons.mpr ⟨rfl,(fun _ h=>nomatch h)⟩)⟩)⟩)) (by decide +kernel) rfl (by decide +kernel) rfl (by decide +kernel) (by exact(List.forall_mem_cons.mpr ⟨⟨by first | exact Or.inl rfl | exact Or.inr rfl,rfl⟩,(List.forall_mem_cons.mpr ⟨⟨by first | exact Or.inl rfl | exact Or.inr rfl,rfl⟩,(List.forall_mem_cons.mpr ⟨⟨by first | exact Or.inl rfl | exact Or.inr rfl,rfl⟩,(fun _ h=>nomatch h)⟩)⟩)⟩)) rfl (by rfl) (cr (pv 3)) (fun C s2 H2 fp=>(uu dA (pe_methQ (k:=6) (P:=P) (w:=w) (K:=K) (mg:=mg) (base:=base) rfl rfl rfl rfl rfl (pv 2) (hr.mono (by lia)) (aa (pv 1) (aa (pv 0) ah))) (aH H_cut_quotient (hr.mono (by lia)) rfl (aa (pv 0) (aa (pv 3) ah))) (aI _)))) ah)))),?_⟩
 refine⟨_,rfl,l,rfl,⟨_,SqL.of hl⟩,fun D hD=>?_⟩
 refine eW (K:=K) (a:=l) (xs:=xs.map V.int) (fun j H1=>Same H H1/\H1 D=some (.lst ((xs.take j).map fun z=>V.bl (decide (V.int (sd.q i z)=V.int (fG z d)))))) ⟨ao hD _,ae⟩ (fun j H1 _ ⟨s2,_⟩=>SqL.of (s2 _ _ hl)) ?_ ?_
 ·rintro j y H1 hj ⟨s2,hd1⟩
  rw[List.getElem?_map] at hj
  cases hz:xs[j]? with
  | none=>rw[hz] at hj; cases hj
  | some z =>
   rw[hz] at hj
   cases hj
   have hjl:=(List.getElem?_eq_some_iff.mp hz).1
   obtain⟨z0,z1⟩:=xb z (mem_of_getElem? hz)
   have hl2:(xs.map V.int).length=xs.length:=length_map _
   have so1:=so.same s2
   obtain⟨dx,fs,hx,e1,e2⟩:=so1.ob
   refine⟨_,rfl,x,_,dx,_,_,_,rfl,hx,e1,MQ sd.ix sd.ix2,_,rfl,_,rfl,x,i,z,sd,rfl,rfl,so1,ok,h1,h2,z0,z1,fun H3 s3=>?_⟩
   refine⟨_,rfl,_,rfl,z,d,rfl,d1,d2,rfl,_,s3 _ _ hd1,?_,(xs.map V.int).length-(j+1),by lia,rfl,by lia,?_,?_⟩
   ·rw[length_map,length_take,sizeLine_eq]
    lia
   ·exact fun b o h=>by rw[au (aE h hD)]; exact s3 _ _ (s2 b o h)
   ·rw[ae,List.take_succ,hz,map_append]
    rfl
 ·rintro H1 ⟨s2,hd1⟩
  rw[length_map,take_length] at hd1
  have hd2:H1 D=some (.lst ((xs.map fun z=>decide (V.int (sd.q i z)=V.int (fG z d))).map V.bl)):=by rw[hd1,map_map]; rfl
  refine⟨D,_,rfl,SqL.of hd2,q _ H1 s2 ?_⟩
  rw[List.all_map,List.all_eq_true]
  constructor
  ·intro h x hx
   have z:=h x hx
   have z2:=of_decide_eq_true (show decide (V.int (sd.q i x)=V.int (fG x d))=true from z)
   injection z2
  ·intro h x hx
   exact decide_eq_true (congrArg V.int (h x hx))
theorem kR {f:Addr}{fd:FuncData}(F:Fun K "right_about" "right_about" d7 f fd) (T:Txt K mg c) (H_right_at:Has P w K mg base 7 "right_at" ["width","d","form","counts"] (spRAt c)) (H_signed_corners_to:Has P w K mg base 2 "signed_corners_to" ["up","down","d"] spSC):FnOk P w K mg base CX0 8 f fd ["width","d","form","far"] (rN c):=by
 refine F.ok sc_right_about (fun vs H Q E h=>?_) (fun cdv A outer s H vs Q E hr h=>?_)
 ·obtain⟨i,d,x,far,sd,rfl,_⟩:=h
  rfl
 obtain⟨i,d,x,far,sd,rfl,h1,h2,d1,d2,so,ok,hd,f0,f1,q⟩:=h
 refine⟨_,(af (ax (i:=4) sc_right_about.nd rfl (Or.inl rfl) (aJ (eE rfl) rfl T.n_min boot_min (aa (pv 3) (aa (aq aL (aq br ag (aq aL (pv 0) ag)) ag) ah))))
  (aj (av (aH H_right_at (hr.mono (by lia)) rfl (aa (pv 0) (aa (pv 1) (aa (pv 2) (aa (aH H_signed_corners_to (hr.mono (by lia)) rfl (aa (pv 4) (aa (pv 3) (aa (pv 1) ah)))) ah)))))))),?_⟩
 have ph:=cT h1 h2
 refine⟨_,rfl,_,rfl,_,_,rfl,rfl,_,_,rfl,rfl,hX (by lia) (by lia),_,_,rfl,rfl,_,_,rfl,?_⟩
 have mm:0<=kM far (1*2^(i-1).toNat-1)/\kM far (1*2^(i-1).toNat-1)<=far:=by unfold kM; split <;> lia
 refine⟨_,rfl,_,rfl,_,rfl,_,rfl,_,rfl,_,rfl,kM far (1*2^(i-1).toNat-1),far,d,rfl,by lia,by lia,by lia,by lia,d1,d2,fun p zs H1 p0 hp s1 sc ln=>?_⟩
 have bnd:∀ x,SCM (kM far (1*2^(i-1).toNat-1)) far d x->-far<=x/\x<=kM far (1*2^(i-1).toNat-1):=fun x hx=>hx.bounds d1 mm.1 f0
 refine⟨i,d,x,p,sd,zs,rfl,h1,h2,d1,d2,so.same s1,ok,hp,ln,fun x hx=>?_,fun b H2 s2 hb=>q b H2 (s1.trans s2) (hb.trans ⟨fun al=>?_,fun al x hx=>?_⟩)⟩
 ·have:=bnd x ((sc.mem x).mp hx)
  lia
 ·exact oy mm.1 d1 h1 h2 ok hd (fun x hx=>al x ((sc.mem x).mpr hx))
 ·have:=bnd x ((sc.mem x).mp hx)
  exact al x this.1 this.2
theorem fV {f:Addr}{fd:FuncData}(F:Fun K "right_for_signed" "right_for_signed" bV f fd) (T:Txt K mg c) (H_need_signed_form:Has P w K mg base 6 "need_signed_form" ["width","d","form"] (mI c)) (H_right_about:Has P w K mg base 8 "right_about" ["width","d","form","far"] (rN c)):FnOk P w K mg base CX0 9 f fd ["width","d","form"] (spRFS c):=by
 refine F.ok fT (fun vs H Q E h=>?_) (fun cdv A outer s H vs Q E hr h=>?_)
 ·obtain⟨i,d,x,sd,rfl,_⟩:=h
  rfl
 obtain⟨i,d,x,sd,rfl,h1,h2,d1,d2,so,ok,hd,q⟩:=h
 refine⟨_,(af (aK (aH H_need_signed_form (hr.mono (by lia)) rfl (aa (pv 0) (aa (pv 1) (aa (pv 2) ah)))))
  (aj (av (aH H_right_about (hr.mono (by lia)) rfl (aa (pv 0) (aa (pv 1) (aa (pv 2) (aa (aq br ag (aq aL (pv 0) ag)) ah)))))))),?_⟩
 have ph:=cT h1 h2
 refine⟨_,rfl,_,rfl,_,rfl,i,d,x,sd,rfl,h1,h2,d1,d2,so,ok,hd,fun H1 s1=>?_⟩
 have e:kM (1*2^(i-1).toNat) (1*2^(i-1).toNat-1)=1*2^(i-1).toNat-1:=by unfold kM; split <;> lia
 exact⟨_,rfl,_,rfl,_,rfl,_,rfl,_,_,rfl,rfl,_,_,rfl,rfl,hX (by lia) (by lia),i,d,x,_,sd,rfl,h1,h2,d1,by lia,so.same s1,ok,hd,by lia,by lia,fun b H2 s2 hb=>q b H2 (s1.trans s2) (by rw[e] at hb; exact hb)⟩
theorem mx {f:Addr}{fd:FuncData}(F:Fun K "_law_whole" "_law_whole" eJ f fd) (T:Txt K mg c) :FnOk P w K mg base CX0 1 f fd ["_law_found"] iH:=by
 refine F.ok mM (fun vs H Q E h=>?_) (fun cdv A outer s H vs Q E hr h=>?_)
 ·obtain⟨i,rfl,_⟩:=h
  rfl
 obtain⟨i,rfl,q⟩:=h
 refine⟨_,(aj (av (rB (aJ bf rfl T.n_isinstance boot_isinstance (aa (pv 0) (aa (nQ rfl T.n_int boot_int) ah))) (tV (pe_not (aJ bf rfl T.n_isinstance boot_isinstance (aa (pv 0) (aa (nQ rfl T.n_bool boot_bool) ah)))))))),?_⟩
 refine⟨_,rfl,_,_,_,_,_,rfl,rfl,TyOf.int _,gi _,_,rfl,iteT ?_⟩
 refine⟨_,rfl,_,_,_,_,_,rfl,rfl,TyOf.int _,eU _,_,rfl,?_⟩
 exact q
theorem jQ {f:Addr}{fd:FuncData}(F:Fun K "word" "Cutting.word" dj f fd) (T:Txt K mg c) :FnOk P w K mg base CX0 1 f fd ["self"] (rb 0):=by
 refine F.ok jk (fun vs H Q E h=>?_) (fun cdv A outer s H vs Q E hr h=>?_)
 ·obtain⟨x,rfl,_⟩:=h
  rfl
 obtain⟨x,rfl,q⟩:=h
 exact⟨_,(aj (av aD)),q⟩
theorem kX {f:Addr}{fd:FuncData}(F:Fun K "word" "Turned.word" dZ f fd) (T:Txt K mg c) :FnOk P w K mg base CX0 1 f fd ["self"] (rb 1):=by
 refine F.ok kB (fun vs H Q E h=>?_) (fun cdv A outer s H vs Q E hr h=>?_)
 ·obtain⟨x,rfl,_⟩:=h
  rfl
 obtain⟨x,rfl,q⟩:=h
 exact⟨_,(aj (av aD)),q⟩
theorem i0 {f:Addr}{fd:FuncData}(F:Fun K "first_failing" "first_failing" da f fd) (T:Txt K mg c)  (H_right_about:Has P w K mg base 8 "right_about" ["width","d","form","far"] (rN c)):FnOkS P w K mg base CX0 10 f fd ["last","holds"] (spFF c):=by
 refine F.okS sc_first_failing (fun o s vs H Q E h=>?_) (fun cdv A outer s H vs Q E hr h=>?_)
 ·obtain⟨last,g,i,d,x,sd,cl,rfl,_⟩:=h
  rfl
 obtain⟨last,g,i,d,x,sd,cl,rfl,h1,h2,el,d1,d2,so,ok,hd,clo,C,hfree,q⟩:=h
 have ph:=cT h1 h2
 have l0:0<=last:=by rw[el]; show 0<=1*2^(i-1).toNat; lia
 have l1:last<=2^(i-1).toNat:=by rw[el]; show 1*2^(i-1).toNat<=_; lia
 refine⟨_,(af (ax (i:=2) sc_first_failing.nd rfl (Or.inl rfl) ag)
  (af (ax (i:=3) sc_first_failing.nd rfl (Or.inl rfl) (pv 0))
  (af (my PassesOwn.never (aA eD (pv 2) (pv 3) (aI _))
   (af (ax (i:=4) sc_first_failing.nd rfl (Or.inl rfl) (aq mG (aq aQ (pv 2) (pv 3)) ag))
   (aj (aN (bh (pO (name:="<lambda>") (qual:=lmQ) (params:=lamA lm) (body:=lamB lm) (scope:=re lm) (cl:=cl) (ns:=["width","d","form"]) (vals:=[.int i,.int d,.ref x]) (x:="n") (i:=1) rfl rfl hr rfl (Or.inl rfl) C rfl (fun _ _ _ _=>rfl) rfl rfl (by decide +kernel) rfl rfl (by decide +kernel) hfree (pv 4) (fun f c' s H=>(aH H_right_about ((hr.mono (j:=9) (by lia)).deeper _) rfl (aa (pv 1) (aa (pv 2) (aa (pv 3) (aa (pv 0) ah))))))))
    (aj (ax (i:=2) sc_first_failing.nd rfl (Or.inl rfl) (aq aQ (pv 4) ag)))
    (aj (ax (i:=3) sc_first_failing.nd rfl (Or.inl rfl) (pv 4)))))))
  (aj (av (pv 2)))))),?_⟩
 refine⟨_,rfl,?_⟩
 refine md (fun σ H1=>∃ (lo hi:Int) (mid:Option V),σ=[some (.int last),some (.ref g),some (.int lo),some (.int hi),mid]/\Same H H1/\0<=lo/\lo<=hi/\hi<=last/\(∀ n,n<lo->AllN sd i d n)/\(hi=last\/¬ AllN sd i d hi)) (fun σ _=>match σ with | [_,_,some (.int lo),some (.int hi),_]=>(hi-lo).toNat | _=>0) ⟨0,last,_,rfl,Same.refl _,Int.le_refl _,l0,Int.le_refl _,fun n hn x x0 x1=>by have:=d8 (a:=n) (b:=hf i-1); lia,.inl rfl⟩ ?_ ?_
 ·rintro σ H1 ⟨lo,hi,mid,rfl,sm,a0,a1,a2,al,wr⟩
  refine⟨_,rfl,_,rfl,_,_,rfl,rfl,_,rfl,?_⟩
  by_cases hc:lo<hi
  ·refine jd hc ?_
   have hm:0<=(lo+hi)/2/\lo<=(lo+hi)/2/\(lo+hi)/2<hi:=by lia
   refine⟨_,rfl,_,rfl,_,_,rfl,rfl,_,_,rfl,rfl,⟨by decide,by decide⟩,?_⟩
   refine⟨g,rfl,clo.mono sm,_,rfl,clo.mono sm,_,rfl,_,rfl,_,rfl,_,rfl,i,d,x,(lo+hi)/2,sd,rfl,h1,h2,d1,d2,so.same sm,ok,hd,hm.1,by lia,fun b H2 s2 hb=>⟨_,rfl,?_⟩⟩
   cases b with
   | true =>
    refine iteT ?_
    refine⟨_,rfl,_,_,rfl,rfl,⟨(lo+hi)/2+1,hi,_,rfl,sm.trans s2,by lia,by lia,a2,fun n hn=>AllN.mono (hb.mp rfl) (by lia),wr⟩,?_⟩
    show (hi-((lo+hi)/2+1)).toNat<(hi-lo).toNat
    lia
   | false =>
    refine db ?_
    refine⟨_,rfl,⟨lo,(lo+hi)/2,_,rfl,sm.trans s2,a0,by lia,by lia,al,.inr fun z=>by have:=hb.mpr z; cases this⟩,?_⟩
    show ((lo+hi)/2-lo).toNat<(hi-lo).toNat
    lia
  ·refine bB hc ?_
   have e:lo=hi:=by lia
   exact⟨_,rfl,q lo H1 sm a0 (by lia) al (by rw[e]; exact wr)⟩
 ·rintro σ H1 Q1 Q2 hQ ⟨v,hv,u,hu,i,j,e1,e2,k,hk,q1⟩
  exact⟨v,hv,u,hu,i,j,e1,e2,k,hk,hQ _ _ q1⟩
theorem jZ {f:Addr}{fd:FuncData}(F:Fun K "signed_wrong" "signed_wrong" aV f fd) (T:Txt K mg c) (H_right_for_signed:Has P w K mg base 9 "right_for_signed" ["width","d","form"] (spRFS c)) (H_first_failing:HasS P w K mg base 10 "first_failing" ["last","holds"] (spFF c)) (H_right_about:Has P w K mg base 8 "right_about" ["width","d","form","far"] (rN c)) (B:LamBase mg base cT0 PT0) (hcd:fd.code=.ref cT0) (MQ:∀ i,i<2->MHas P w K mg base 6 (sOf c i) "quotient" ["self","width","x"] (qB c i)):FnOk P w K mg base CX0 11 f fd ["width","d","form"] (spSW c PT0):=by
 refine F.okC hcd sc_signed_wrong (fun vs H Q E h=>?_) (fun A outer s H vs Q E hr h=>?_)
 ·obtain⟨i,d,x,sd,rfl,_⟩:=h
  rfl
 obtain⟨i,d,x,sd,rfl,h1,h2,d1,d2,so,ok,hd,to,q⟩:=h
 have hR:∀ pins σ H' s' vs Q,Inv (mS CX0 P w K mg base ["width","d","form","half","far"] "signed_wrong" (ak aV) f (.ref cT0) A outer s H E).nox pins σ H' s'->RFF c s.heap.objs.size σ vs H' Q->spFF c ((mS CX0 P w K mg base ["width","d","form","half","far"] "signed_wrong" (ak aV) f (.ref cT0) A outer s H E).nox).stack s' vs H' Q E0:=by
  rintro pins σ H' s' vs Q I ⟨i,last,g,d,x,sd,rfl,rfl,h1,h2,el,d1,d2,so,ok,hd,clo,q⟩
  have hsub:∀ p∈clOf s.heap.objs.size,(mS CX0 P w K mg base ["width","d","form","half","far"] "signed_wrong" (ak aV) f (.ref cT0) A outer s H E).nox.env.cells.lookup p.1=some p.2:=List.forall_mem_cons.mpr ⟨rfl,List.forall_mem_cons.mpr ⟨rfl,List.forall_mem_cons.mpr ⟨rfl,fun _ h=>nomatch h⟩⟩⟩
  refine⟨last,g,i,d,x,sd,clOf s.heap.objs.size,rfl,h1,h2,el,d1,d2,so,ok,hd,clo,I.cells (fun _=>rfl) (fun x c e=>hsub (x,c) (PySem.mem_of_lookup e)) (fun i y v e1 e2=>?_),mQ (ns:=["width","form","d"]) rfl (by decide +kernel),q⟩
  match i,e1,e2 with
  | 0,e1,e2 =>
   cases e1; cases e2
   exact⟨0,_,rfl,rfl,rfl,rfl⟩
  | 1,e1,e2 =>
   cases e1; cases e2
   exact⟨1,_,rfl,rfl,rfl,rfl⟩
  | 2,e1,e2 =>
   cases e1; cases e2
   exact⟨2,_,rfl,rfl,rfl,rfl⟩
  | n+3,e1,_=>simp at e1
 refine⟨_,(af (aN (bh (aH H_right_for_signed (hr.mono (by lia)) rfl (aa (pv 0) (aa (pv 1) (aa (pv 2) ah)))))
   (aj (av lu))
   aw)
  (af (ax (i:=3) sc_signed_wrong.nd rfl (Or.inl rfl) (aq br ag (aq aL (pv 0) ag)))
  (af (ax (i:=4) sc_signed_wrong.nd rfl (Or.inl rfl) (pe_fnS (R:=RFF c s.heap.objs.size) H_first_failing (hr.mono (by lia)) rfl (aa (pv 3) (aa (oT (params:=lamA lm) (body:=lamB lm) (scope:=re lm) (pos:=lamP lm) (qual:=lmQ) (cl:=clOf s.heap.objs.size) B rfl rfl rfl) ah)) hR))
  (af (aN (PW.pt (pL (aA eD (pv 4) (pv 3) (aI _)) (lT (aA o9 (dQ (k:=6) (pv 2) (hr.mono (by lia)) (aa (pv 0) (aa (pv 4) ah))) (aq bi (pv 4) (pv 1)) (aI _)))))
   (aj (av (pv 4)))
   aw)
  (aj (av (jF eN (pv 4)))))))),?_⟩
 have ph:=cT h1 h2
 have eh:hf i=2^(i-1).toNat:=one_mul _
 have lg:=bK (m:=d) (by lia) (by lia)
 refine⟨_,rfl,_,rfl,_,rfl,i,d,x,sd,rfl,h1,h2,d1,d2,so,ok,hd,fun b H1 s1 hb=>⟨_,rfl,?_⟩⟩
 cases b with
 | true =>
  refine iteT ?_
  exact q .non H1 (SameX.of s1) (to.same s1) (.inl ⟨rfl,hb.mp rfl⟩)
 | false =>
  refine db ?_
  refine⟨_,rfl,_,_,rfl,rfl,_,_,rfl,rfl,hX (by lia) (by lia),?_⟩
  refine⟨_,rfl,to.same s1,fun g H2 sx fg clo to2=>?_⟩
  have so2:=(so.same s1).q (to.same s1) sx
  refine⟨i,hf i,g,d,x,sd,rfl,rfl,h1,h2,rfl,d1,by lia,so2,ok,hd,clo,fun j H3 s3 j0 j1 al wr=>?_⟩
  have na:¬ AllN sd i d j:=by
   rcases wr with rfl | h
   ·intro z
    have e:kM (hf i) (hf i-1)=hf i-1:=by have:=d8 (a:=hf i) (b:=hf i-1); unfold kM; split <;> lia
    have z2:AllS sd i d (-hf i) (hf i-1):=by unfold AllN at z; rw[e] at z; exact z
    have:=hb.mpr z2
    cases this
   ·exact h
  have xx:SameX PT0 H H3:=(SameX.of s1).trans (SameX.trans sx (SameX.of s3))
  have to3:=to2.same s3
  have down:(j<hf i->0<=j->sd.q i j=fG j d)->Q (.int (-j)) H3:=fun rt=>q _ _ xx to3 (.inr ⟨_,rfl,(nM j1 al na rt j0).1⟩)
  refine⟨_,rfl,_,rfl,_,_,rfl,rfl,_,rfl,?_⟩
  walk_at "c" <;> intro c0
  ·have so3:=so2.same s3
   obtain⟨dx,fs,hx,e1,e2⟩:=so3.ob
   refine⟨_,rfl,x,_,dx,_,_,_,rfl,hx,e1,MQ sd.ix sd.ix2,_,rfl,_,rfl,x,i,j,sd,rfl,rfl,so3,ok,h1,h2,by lia,by lia,fun H4 s4=>?_⟩
   refine⟨_,rfl,_,rfl,_,_,rfl,rfl,⟨by lia,lg⟩,rfl,_,rfl,?_⟩
   walk_at "c" <;> intro c1
   ·exact⟨_,rfl,q _ _ (xx.trans (SameX.of s4)) (to3.same s4) (.inr ⟨_,rfl,near_up j0 c0 al (by rw[uk j0]; exact c1)⟩)⟩
   ·exact⟨_,rfl,_,rfl,q _ _ (xx.trans (SameX.of s4)) (to3.same s4) (.inr ⟨_,rfl,(nM j1 al na (fun _ _=>by rw[uk j0]; exact c1) j0).1⟩)⟩
  ·exact db ⟨_,rfl,_,rfl,down fun z _=>absurd z c0⟩
theorem jU {f:Addr}{fd:FuncData}(F:Fun K "_law_nearest" "_law_nearest" dm f fd) (T:Txt K mg c) (H__law_all_right:Has P w K mg base 3 "_law_all_right" ["_law_told","_law_width","_law_d","_law_counts"] tW) (H__law_signed_quotient:Has P w K mg base 2 "_law_signed_quotient" ["_law_told","_law_width","_law_x"] spSQ) (H__law_cut:Has P w K mg base 1 "_law_cut" ["_law_x","_law_d"] pE) (H__law_signed_corners:Has P w K mg base 2 "_law_signed_corners" ["_law_up_here","_law_down","_law_d"] spSC) (H__law_whole:Has P w K mg base 1 "_law_whole" ["_law_found"] iH):FnOk P w K mg base CX0 4 f fd ["_law_told","_law_width","_law_d","_law_count"] spNst:=by
 refine F.ok sc__law_nearest (fun vs H Q E h=>?_) (fun cdv A outer s H vs Q E hr h=>?_)
 ·obtain⟨r,i,d,sd,v,rfl,_⟩:=h
  rfl
 obtain⟨r,i,d,sd,v,rfl,h1,h2,d1,d2,st,ok,hd,lw,q⟩:=h
 refine⟨_,(af (ax (i:=4) sc__law_nearest.nd rfl (Or.inl rfl) (aq br ag (aq aL (pv 1) ag)))
  (af (aN (aA si (pv 3) lu (aI _))
   (aj (av (aH H__law_all_right (hr.mono (by lia)) rfl (aa (pv 0) (aa (pv 1) (aa (pv 2) (aa (aH H__law_signed_corners (hr.mono (by lia)) rfl (aa (aq aL (pv 4) ag) (aa (pv 4) (aa (pv 2) ah)))) ah)))))))
   aw)
  (af (aN (PW.pt (eQ (bj (bh (aH H__law_whole (hr.mono (by lia)) rfl (aa (pv 3) ah)))) (eQ (aA eD (pv 3) (aq aL ag (pv 4)) (aI _)) (eS (aA oh (pv 3) (pv 4) (aI _))))))
   (aj (av iq))
   aw)
  (af (aN (aA dA (aH H__law_signed_quotient (hr.mono (by lia)) rfl (aa (pv 0) (aa (pv 1) (aa (pv 3) ah)))) (aH H__law_cut (hr.mono (by lia)) rfl (aa (pv 3) (aa (pv 2) ah))) (aI _))
   (aj (av iq))
   aw)
  (af (ax (i:=5) sc__law_nearest.nd rfl (Or.inl rfl) (aq aL (pv 3) ag))
  (af (ax (i:=6) sc__law_nearest.nd rfl (Or.inl rfl) (aq aL (pv 3) ag))
  (bn (aN (aA eD (pv 3) ag (aI _))
   (af (ax (i:=5) sc__law_nearest.nd rfl (Or.inl rfl) (aJ (eE rfl) rfl T.n_min boot_min (aa (aq aL ag (pv 3)) (aa (aq aL (pv 4) ag) ah))))
   (aj (ax (i:=6) sc__law_nearest.nd rfl (Or.inl rfl) (aq aL (aq aL ag (pv 3)) ag))))
   aw)
  (aj (av (aH H__law_all_right (hr.mono (by lia)) rfl (aa (pv 0) (aa (pv 1) (aa (pv 2) (aa (aH H__law_signed_corners (hr.mono (by lia)) rfl (aa (pv 5) (aa (pv 6) (aa (pv 2) ah)))) ah)))))))))))))),?_⟩
 have ph:=cT h1 h2
 have eh:hf i=2^(i-1).toNat:=one_mul _
 refine⟨_,rfl,_,_,rfl,rfl,_,_,rfl,rfl,hX (by lia) (by lia),?_⟩
 rcases lw with ⟨rfl,al⟩ | ⟨x,rfl,nr⟩
 ·refine⟨_,rfl,rfl,_,rfl,jd rfl ?_⟩
  refine⟨_,rfl,_,rfl,_,rfl,_,rfl,_,_,rfl,rfl,_,rfl,_,rfl,_,_,_,rfl,by lia,by lia,by lia,by lia,d1,by lia,fun p zs H1 p0 hp s1 sc ln=>?_⟩
  have bnd:∀ x∈zs,-hf i<=x/\x<=hf i-1:=fun x hx=>((sc.mem x).mp hx).bounds d1 (by lia) (by lia)
  refine⟨r,p,i,d,sd,zs,rfl,h1,h2,d1,by lia,st.same s1,ok,hp,fun x hx=>by have:=bnd x hx; lia,fun b H2 s2 hb=>?_⟩
  obtain rfl:b=true:=hb.mpr fun x hx=>al x (bnd x hx).1 (bnd x hx).2
  exact q H2 (s1.trans s2)
 ·refine⟨_,rfl,rfl,_,rfl,bB (by nofun) ?_⟩
  obtain⟨x0,x1,wr,al⟩:=nr
  refine⟨_,rfl,_,rfl,_,rfl,db ?_⟩
  refine⟨_,rfl,_,rfl,_,_,rfl,rfl,_,_,rfl,rfl,_,rfl,bB (by show ¬ (x<0-hf i); lia) ?_⟩
  refine⟨_,rfl,_,rfl,_,_,rfl,rfl,_,rfl,bB (by show ¬ (x ≥ hf i); lia) ?_⟩
  refine⟨_,rfl,_,rfl,_,rfl,r,i,x,sd,rfl,h1,h2,by lia,by lia,st,ok,fun H1 s1=>?_⟩
  refine⟨_,rfl,_,rfl,x,d,rfl,d1,by lia,rfl,_,rfl,bB (fun z=>wr (by injection z)) ?_⟩
  refine⟨_,rfl,_,_,rfl,rfl,_,rfl,_,_,rfl,rfl,?_⟩
  refine⟨fun σ2 HZ=>∃ up down:Int,σ2=[some (.ref r),some (.int i),some (.int d),some (.int x),some (.int (hf i)),some (.int up),some (.int down)]/\HZ=H1/\-1<=up/\up<hf i/\-1<=down/\down<hf i/\AllS sd i d (-down) up/\(0<=up\/down<=0)/\(0<=up->0<=down),?_,?_⟩
  ·refine⟨_,rfl,_,_,rfl,rfl,_,rfl,?_⟩
   walk_at "c" <;> intro c0
   ·rw[if_pos c0] at al
    have m:=d8 (a:=-x) (b:=hf i-1)
    refine⟨_,rfl,_,_,rfl,rfl,_,rfl,_,_,rfl,rfl,_,_,rfl,?_⟩
    refine⟨_,rfl,_,_,rfl,rfl,_,_,rfl,rfl,?_⟩
    have e:(if hf i-1<0-x then hf i-1 else 0-x)=kM (-x) (hf i-1):=by unfold kM; rw[Int.zero_sub]
    exact⟨(if hf i-1<0-x then hf i-1 else 0-x),0-x-1,rfl,rfl,by rw[e]; lia,by rw[e]; lia,by lia,by lia,fun y y0 y1=>al y (by lia) (by rw[e] at y1; exact y1),.inl (by rw[e]; lia),fun _=>by lia⟩
   ·rw[if_neg c0] at al
    exact⟨x-1,x-1,rfl,rfl,by lia,by lia,by lia,by lia,fun y y0 y1=>al y (by lia) y1,by lia,fun h=>by lia⟩
  rintro σ2 HZ ⟨up,down,rfl,rfl,u0,u1,w0,w1,al',ud,ud2⟩
  refine⟨_,rfl,_,rfl,_,rfl,_,rfl,_,rfl,_,rfl,up,down,d,rfl,by lia,by lia,by lia,by lia,d1,by lia,fun p zs H2 p0 hp s2 sc ln=>?_⟩
  have bnd:∀ x∈zs,-down<=x/\x<=up:=fun y hy=>by
   have hy':=(sc.mem y).mp hy
   by_cases h0:0<=up
   ·exact hy'.bounds d1 h0 (ud2 h0)
   ·rcases hy' with ⟨z,_⟩ | ⟨z,_⟩ <;> lia
  refine⟨r,p,i,d,sd,zs,rfl,h1,h2,d1,by lia,(st.same s1).same s2,ok,hp,fun y hy=>by have:=bnd y hy; lia,fun b H3 s3 hb=>?_⟩
  obtain rfl:b=true:=hb.mpr fun y hy=>al' y (bnd y hy).1 (bnd y hy).2
  exact q H3 (s1.trans (s2.trans s3))
theorem eqTl (kd:Nat) (e f s:Int):eqVs (tlv kd e f s) (tlv kd e f s)=true/\(tlv kd e f s).all dG=true:=by
 match kd with
 | 0=>simp[eqVs,tlv,List.range,List.range.loop,eqV,dG]
 | 1=>simp[eqVs,tlv,List.range,List.range.loop,eqV,dG]
 | 2=>simp[eqVs,tlv,List.range,List.range.loop,eqV,dG]
 | 3=>simp[eqVs,tlv,List.range,List.range.loop,eqV,dG]
 | _+4=>simp[eqVs,tlv,List.range,List.range.loop,eqV,dG]
theorem fl_told {kd:Nat}{e f s:Int}:(tN kd e f s).lookup ("told":Str)=none:=by
 unfold tN
 split <;> rfl
theorem qW {f:Addr}{fd:FuncData}(F:Fun K "ceiling" "ceiling" jx f fd) (T:Txt K mg c) :FnOk P w K mg base CX0 1 f fd ["top","bottom"] gm:=by
 refine F.ok qI (fun vs H Q E h=>?_) (fun cdv A outer s H vs Q E hr h=>?_)
 ·obtain⟨a,d,rfl,_⟩:=h
  rfl
 obtain⟨a,d,rfl,a1,a2,d1,d2,q⟩:=h
 refine⟨_,(aj (av (jF eN (aq bi (jF eN (pv 0)) (pv 1))))),?_⟩
 refine⟨_,rfl,_,rfl,_,rfl,_,_,rfl,rfl,⟨by lia,bK (by lia) (by lia)⟩,_,rfl,?_⟩
 show Q (.int (-(-a/d))) H
 rw[ceil_eq d1]
 exact q
theorem qM {f:Addr}{fd:FuncData}(F:Fun K "_law_up" "_law_up" jD f fd) (T:Txt K mg c) :FnOk P w K mg base CX0 1 f fd ["_law_top","_law_bottom"] gm:=by
 refine F.ok qK (fun vs H Q E h=>?_) (fun cdv A outer s H vs Q E hr h=>?_)
 ·obtain⟨a,d,rfl,_⟩:=h
  rfl
 obtain⟨a,d,rfl,a1,a2,d1,d2,q⟩:=h
 refine⟨_,(aj (av (aq bi (aq aL (aq aQ (pv 0) (pv 1)) ag) (pv 1)))),?_⟩
 walk_at "o"
 exact q
theorem fq {f:Addr}{fd:FuncData}(F:Fun K "scaled_candidates" "scaled_candidates" bM f fd) (T:Txt K mg c) (H_ceiling:Has P w K mg base 1 "ceiling" ["top","bottom"] gm) (C_Scaled:CHas P w K mg base 4 c.Scaled "Scaled" ["self","factor","shift"] (spI2 c 1 0)):FnOk P w K mg base CX0 6 f fd ["width","d"] (spScC c):=by
 refine F.ok sc_scaled_candidates (fun vs H Q E h=>?_) (fun cdv A outer s H vs Q E hr h=>?_)
 ·obtain⟨i,d,rfl,_⟩:=h
  rfl
 obtain⟨i,d,rfl,h1,h2,d1,d2,q⟩:=h
 refine⟨_,(af (ax (i:=2) sc_scaled_candidates.nd rfl (Or.inl rfl) (bu ah))
  (af (cu PassesOwn.never rfl (cK rfl T.n_range (aa (aq aQ (fM PySem.F.plainAttrs_int PySem.F.slot_int_bit_length PySem.F.type_int_bit_length dO (aq aL (pv 1) ag)) ag) ah)) (be (i:=3) sc_scaled_candidates.nd rfl (Or.inl rfl))
   (af (ax (i:=4) sc_scaled_candidates.nd rfl (Or.inl rfl) (aH H_ceiling (hr.mono (by lia)) rfl (aa (aq br ag (aq aQ (pv 0) (pv 3))) (aa (pv 1) ah))))
   (aj (aN (aA eD (pv 4) (aq br ag (pv 0)) (aI _))
    (aj (aK (cN PySem.F.plainAttrs_list PySem.F.slot_list_append PySem.F.type_list_append aP (pv 2) (aa (j5 C_Scaled (hr.mono (by lia)) rfl (aa (pv 4) (aa (pv 3) ah))) ah))))
    aw))))
  (aj (av (pv 2))))),?_⟩
 have pb:=aX h1 h2
 have lb:=(fE h2 d1 d2).1
 have L100:(100:Nat)<=sizeLine:=by decide
 walk_at "o"; intro l hl
 refine⟨_,rfl,_,_,rfl,rfl,jS,_,rfl,rfl,_,_,rfl,rfl,_,rfl,(by lia),(by lia),cL (fun n σ H2=>∃ y1 y2:Option V,σ=[some (.int i),some (.int d),some (.ref l),y1,y2]/\(∃ ps:List Addr,H2 l=some (.lst (ps.map V.ref))/\PL (FR c) H2 ps (cSc 1 0 (1*2^i.toNat) d n))/\Same H H2) ⟨_,_,rfl,⟨[],ae,PL.nil⟩,ao hl _⟩ ?_ ?_⟩
 ·rintro n σ H2 hn ⟨y1,y2,rfl,⟨ps,hp,pl⟩,sm⟩
  have ep:(1:Int)*2^(i+(0+(n:Int))).toNat=1*2^i.toNat*2^n:=by rw[show (i+(0+(n:Int))).toNat=i.toNat+n by lia,pow_add,Int.mul_assoc]
  have ub:=me h1 h2 (show n<=32 by lia)
  have ul:=mr ub.1 d1
  walk_at "o"
  rw[ep]
  have cl:=dY 1 0 (1*2^i.toNat) d n
  rw[<- pl.1] at cl
  walk_at "c" <;> intro c0
  ·refine⟨_,rfl,.inl ⟨rfl,_,SqL.of hp⟩,_,rfl,_,rfl,fun x dx hx hdx hne=>⟨x,dx,_,_,rfl,ae,by lia,by lia,by lia,by lia,fun H' s' fo=>⟨rfl,?_⟩⟩⟩
   have sM:=cY hx hdx s'
   refine⟨l,_,_,rfl,rfl,sM _ _ hp,(by rw[length_map]; lia),_,_,rfl,⟨ps++[x],(by rw[ae,map_append]; rfl),?_⟩,Same.updL (sm.trans sM) hl⟩
   rw[de,if_pos c0]
   have fx:FR c H' x ⟨1,0,upI (1*2^i.toNat*2^n) d,(n:Int)⟩:=by
    have e0:(0:Int)+(n:Int)=n:=by lia
    rw[e0] at fo
    exact fo
   exact((pl.mono fun p x q=>q.same sM).snoc fx).updF (sM _ _ hp)
  ·refine⟨_,_,rfl,⟨ps,hp,?_⟩,sm⟩
   rw[de,if_neg c0,append_nil]
   exact pl
 ·rintro σ H2 ⟨y1,y2,rfl,⟨ps,hp,pl⟩,sm⟩
  refine⟨_,rfl,q l H2 hl ⟨ps,hp,?_⟩ sm⟩
  rw[show ((intBits (d-1):Int)+1).toNat=intBits (d-1)+1 by lia] at pl
  exact pl
theorem ir {f:Addr}{fd:FuncData}(F:Fun K "more_candidates" "more_candidates" cJ f fd) (T:Txt K mg c)  (C_More:CHas P w K mg base 4 c.More "More" ["self","factor","shift"] (spI2 c 3 0)):FnOk P w K mg base CX0 6 f fd ["width","d"] (spMoC c):=by
 refine F.ok sc_more_candidates (fun vs H Q E h=>?_) (fun cdv A outer s H vs Q E hr h=>?_)
 ·obtain⟨i,d,rfl,_⟩:=h
  rfl
 obtain⟨i,d,rfl,h1,h2,d1,d2,q⟩:=h
 refine⟨_,(af (ax (i:=2) sc_more_candidates.nd rfl (Or.inl rfl) (bu ah))
  (af (cu PassesOwn.never rfl (cK rfl T.n_range (aa (aq aQ (fM PySem.F.plainAttrs_int PySem.F.slot_int_bit_length PySem.F.type_int_bit_length dO (aq aL (pv 1) ag)) ag) ah)) (be (i:=3) sc_more_candidates.nd rfl (Or.inl rfl))
   (af (ax (i:=4) sc_more_candidates.nd rfl (Or.inl rfl) (aq bi (aq aL (aq br ag (aq aQ (pv 0) (pv 3))) ag) (pv 1)))
   (aj (aN (jf qu eD ag (pv 4) (aq br ag (pv 0)))
    (aj (aK (cN PySem.F.plainAttrs_list PySem.F.slot_list_append PySem.F.type_list_append aP (pv 2) (aa (j5 C_More (hr.mono (by lia)) rfl (aa (pv 4) (aa (pv 3) ah))) ah))))
    aw))))
  (aj (av (pv 2))))),?_⟩
 have pb:=aX h1 h2
 have lb:=(fE h2 d1 d2).1
 have L100:(100:Nat)<=sizeLine:=by decide
 walk_at "o"; intro l hl
 refine⟨_,rfl,_,_,rfl,rfl,jS,_,rfl,rfl,_,_,rfl,rfl,_,rfl,(by lia),(by lia),cL (fun n σ H2=>∃ y1 y2:Option V,σ=[some (.int i),some (.int d),some (.ref l),y1,y2]/\(∃ ps:List Addr,H2 l=some (.lst (ps.map V.ref))/\PL (FR c) H2 ps (cMo (1*2^i.toNat) d n))/\Same H H2) ⟨_,_,rfl,⟨[],ae,PL.nil⟩,ao hl _⟩ ?_ ?_⟩
 ·rintro n σ H2 hn ⟨y1,y2,rfl,⟨ps,hp,pl⟩,sm⟩
  have ep:(1:Int)*2^(i+(0+(n:Int))).toNat=1*2^i.toNat*2^n:=by rw[show (i+(0+(n:Int))).toNat=i.toNat+n by lia,pow_add,Int.mul_assoc]
  have ub:=me h1 h2 (show n<=32 by lia)
  walk_at "o"
  rw[ep]
  have cl:=kc (1*2^i.toNat) d n
  rw[<- pl.1] at cl
  walk_at "c" <;> intro c0
  ·walk_at "o"
   walk_at "c" <;> intro c1
   ·refine⟨_,rfl,.inl ⟨rfl,_,SqL.of hp⟩,_,rfl,_,rfl,fun x dx hx hdx hne=>⟨x,dx,_,_,rfl,ae,by lia,by lia,by lia,by lia,fun H' s' fo=>⟨rfl,?_⟩⟩⟩
    have sM:=cY hx hdx s'
    refine⟨l,_,_,rfl,rfl,sM _ _ hp,(by rw[length_map]; lia),_,_,rfl,⟨ps++[x],(by rw[ae,map_append]; rfl),?_⟩,Same.updL (sm.trans sM) hl⟩
    rw[fe,if_pos ⟨c0,c1⟩]
    have fx:FR c H' x ⟨3,0,(1*2^i.toNat*2^n-1)/d,(n:Int)⟩:=by
     have e0:(0:Int)+(n:Int)=n:=by lia
     rw[e0] at fo
     exact fo
    exact((pl.mono fun p x q=>q.same sM).snoc fx).updF (sM _ _ hp)
   ·refine⟨_,_,rfl,⟨ps,hp,?_⟩,sm⟩
    rw[fe,if_neg (fun z=>c1 z.2),append_nil]
    exact pl
  ·refine⟨_,rfl,db ⟨_,_,rfl,⟨ps,hp,?_⟩,sm⟩⟩
   rw[fe,if_neg (fun z=>c0 z.1),append_nil]
   exact pl
 ·rintro σ H2 ⟨y1,y2,rfl,⟨ps,hp,pl⟩,sm⟩
  refine⟨_,rfl,q l H2 hl ⟨ps,hp,?_⟩ sm⟩
  rw[show ((intBits (d-1):Int)+1).toNat=intBits (d-1)+1 by lia] at pl
  exact pl
def AllJ (H:Hp) (i d t:Int) (l:Addr) (xs:List Cd) (σ:L2.St) (H2:Hp):Prop:=∃ y1 y2:Option V,σ=[some (.int i),some (.int d),some (.int (1*2^i.toNat)),some (.int (intBits (d-1):Int)),some (.int t),some (.ref l),y1,y2]/\AL TR H2 l xs/\Same H H2
theorem AL.app {H2:Hp}{l r:Addr}{ps:List Addr}{xs:List Cd}(h:PL TR H2 ps xs) (hp:H2 l=some (.lst (ps.map V.ref))) (hr:H2 r=none) (x:Cd):AL TR (upd (upd H2 r (.tup (tlv x.kd x.e x.f x.s))) l (.lst (ps.map V.ref++[.ref r]))) l (xs++[x]):=by
 have sM:=ao hr (.tup (tlv x.kd x.e x.f x.s))
 refine⟨ps++[r],by rw[ae,map_append]; rfl,?_⟩
 have fx:TR (upd H2 r (.tup (tlv x.kd x.e x.f x.s))) r x:=ae
 exact((h.mono fun p x q=>q.same sM).snoc fx).updT (sM _ _ hp)
theorem AL.ext {c:Ad}{H2:Hp}{l:Addr}{ps qs:List Addr}{xs ys:List Cd}(h:PL (FR c) H2 ps xs) (hl:H2 l=some (.lst (ps.map V.ref))) (g:PL (FR c) H2 qs ys):AL (FR c) (upd H2 l (.lst (ps.map V.ref++qs.map V.ref))) l (xs++ys) :=
 ⟨ps++qs,by rw[ae,map_append],(h.append g).updF hl⟩
theorem pB {f:Addr}{fd:FuncData}(F:Fun K "_law_all" "_law_all" iI f fd) (T:Txt K mg c) (H__law_twos:Has P w K mg base 1 "_law_twos" ["_law_d"] jr) (H__law_up:Has P w K mg base 1 "_law_up" ["_law_top","_law_bottom"] gm):FnOk P w K mg base CX0 2 f fd ["_law_width","_law_d"] ss:=by
 refine F.ok sc__law_all (fun vs H Q E h=>?_) (fun cdv A outer s H vs Q E hr h=>?_)
 ·obtain⟨i,d,rfl,_⟩:=h
  rfl
 obtain⟨i,d,rfl,h1,h2,d1,d2,q⟩:=h
 refine⟨_,(af (ax (i:=2) sc__law_all.nd rfl (Or.inl rfl) (aq br ag (pv 0)))
  (af (ax (i:=3) sc__law_all.nd rfl (Or.inl rfl) (fM PySem.F.plainAttrs_int PySem.F.slot_int_bit_length PySem.F.type_int_bit_length dO (aq aL (pv 1) ag)))
  (af (ax (i:=4) sc__law_all.nd rfl (Or.inl rfl) (aH H__law_twos (hr.mono (by lia)) rfl (aa (pv 1) ah)))
  (af (ax (i:=5) sc__law_all.nd rfl (Or.inl rfl) (bu (aa (bp (aa aD (aa (aq aL (fM PySem.F.plainAttrs_int PySem.F.slot_int_bit_length PySem.F.type_int_bit_length dO (pv 1)) ag) ah))) ah)))
  (af (cu PassesOwn.never rfl (cK rfl T.n_range (aa (aq aQ (pv 3) ag) ah)) (be (i:=6) sc__law_all.nd rfl (Or.inl rfl))
   (af (ax (i:=7) sc__law_all.nd rfl (Or.inl rfl) (aH H__law_up (hr.mono (by lia)) rfl (aa (aq br (pv 2) (pv 6)) (aa (pv 1) ah))))
   (aj (aN (aA eD (pv 7) (pv 2) (aI _))
    (aj (aK (cN PySem.F.plainAttrs_list PySem.F.slot_list_append PySem.F.type_list_append aP (pv 5) (aa (bp (aa aD (aa (pv 7) (aa (pv 6) ah)))) ah))))
    aw))))
  (bn (aN (aA kK (pv 4) ag (aI _))
   (aj (cu PassesOwn.never rfl (cK rfl T.n_range (aa (aq aQ (fM PySem.F.plainAttrs_int PySem.F.slot_int_bit_length PySem.F.type_int_bit_length dO (aq aL (aq iA (pv 1) (pv 4)) ag)) ag) ah)) (be (i:=6) sc__law_all.nd rfl (Or.inl rfl))
    (af (ax (i:=7) sc__law_all.nd rfl (Or.inl rfl) (aH H__law_up (hr.mono (by lia)) rfl (aa (aq br (pv 2) (pv 6)) (aa (aq iA (pv 1) (pv 4)) ah))))
    (aj (aN (aA eD (pv 7) (pv 2) (aI _))
     (aj (aK (cN PySem.F.plainAttrs_list PySem.F.slot_list_append PySem.F.type_list_append aP (pv 5) (aa (bp (aa aD (aa (pv 4) (aa (pv 7) (aa (pv 6) ah))))) ah))))
     aw)))))
   aw)
  (af (cu PassesOwn.never rfl (cK rfl T.n_range (aa (aq aQ (pv 3) ag) ah)) (be (i:=6) sc__law_all.nd rfl (Or.inl rfl))
   (af (ax (i:=7) sc__law_all.nd rfl (Or.inl rfl) (aq bi (aq aL (aq br (pv 2) (pv 6)) ag) (pv 1)))
   (aj (aN (jf qu eD ag (pv 7) (pv 2))
    (aj (aK (cN PySem.F.plainAttrs_list PySem.F.slot_list_append PySem.F.type_list_append aP (pv 5) (aa (bp (aa aD (aa (pv 7) (aa (pv 6) ah)))) ah))))
    aw))))
  (bn (aN (aA kK (pv 3) ag (aI _))
   (aj (aK (cN PySem.F.plainAttrs_list PySem.F.slot_list_append PySem.F.type_list_append aP (pv 5) (aa (bp (aa aD (aa (aq aL (aH H__law_up (hr.mono (by lia)) rfl (aa (aq br (pv 2) (pv 3)) (aa (pv 1) ah))) (pv 2)) (aa (pv 3) ah)))) ah))))
   aw)
  (aj (av (pv 5))))))))))),?_⟩
 have pb:=aX h1 h2
 have lb:=(fE h2 d1 d2).1
 have L100:(1000:Nat)<=sizeLine:=by decide
 walk_at "o"; intro t tw
 have t0:=tw.1
 have tl:=mL d1 (by lia) tw
 walk_at "o"
 intro p0 hp0
 refine⟨(by show 1<=sizeLine; decide),fun l hl=>?_⟩
 have n0:=ao hp0 (.tup [.str "shifted",.int ((intBits d:Int)-1)])
 have n1:=ao hl (.lst [.ref p0])
 have J0:AL TR (upd (upd H p0 (.tup [.str "shifted",.int ((intBits d:Int)-1)])) l (.lst [.ref p0])) l [⟨0,0,0,(intBits d:Int)-1⟩]:=⟨[p0],ae,.one (n1 _ _ (ae (H:=H) (a:=p0)))⟩
 have e0:∀ n:Nat,(0:Int)+(n:Int)=n:=fun n=>Int.zero_add _
 have hz:H l=none:=by
  cases e:H l with
  | none=>rfl
  | some o=>have:=n0 _ _ e; rw[show upd H p0 _ l=none from hl] at this; cases this
 refine⟨_,rfl,_,_,rfl,rfl,_,rfl,(by lia),(by lia),cL (fun n=>AllJ H i d t l ([⟨0,0,0,(intBits d:Int)-1⟩]++cSc 1 0 (1*2^i.toNat) d n)) ⟨_,_,rfl,J0,n0.trans n1⟩ ?_ ?_⟩
 ·rintro n σ H2 hn ⟨y1,y2,rfl,⟨ps,hp,pl⟩,sm⟩
  have ep:(1:Int)*2^i.toNat*2^(0+(n:Int)).toNat=1*2^i.toNat*2^n:=by rw[show (0+(n:Int)).toNat=n by lia]
  have ub:=me h1 h2 (show n<=32 by lia)
  have ul:=mr ub.1 d1
  have cl:=dY 1 0 (1*2^i.toNat) d n
  have pln:=pl.1
  rw[length_append] at pln
  have pln':ps.length=1+(cSc 1 0 (1*2^i.toNat) d n).length:=pln
  have cp:CPow (1*2^i.toNat) (0+(n:Int)):=⟨by lia,by lia,by lia⟩
  walk_at "o"
  rw[ep]
  walk_at "c" <;> intro c0
  ·refine⟨_,rfl,.inl ⟨rfl,_,SqL.of hp⟩,_,rfl,_,rfl,(by show 3<=sizeLine; decide),fun r hr'=>?_⟩
   have sM:=ao hr' (.tup (tlv 1 0 (upI (1*2^i.toNat*2^n) d) (0+(n:Int))))
   have ap:=AL.app pl hp hr' ⟨1,0,upI (1*2^i.toNat*2^n) d,0+(n:Int)⟩
   refine⟨l,_,_,rfl,rfl,sM _ _ hp,(by rw[length_map]; lia),_,_,rfl,?_,Same.updL (sm.trans sM) hz⟩
   rw[de,if_pos c0,<- append_assoc,show (⟨1,0,upI (1*2^i.toNat*2^n) d,(n:Int)⟩:Cd)=⟨1,0,upI (1*2^i.toNat*2^n) d,0+(n:Int)⟩ by rw[e0]]
   exact ap
  ·refine⟨_,_,rfl,⟨ps,hp,?_⟩,sm⟩
   rw[de,if_neg c0,append_nil]
   exact pl
 rw[show ((intBits (d-1):Int)+1).toNat=intBits (d-1)+1 by lia]
 rintro σ H2 ⟨y1,y2,rfl,a1,sm⟩
 have o1:=xdiv (x:=d) (by lia) t
 have o2:1<=d/2^t.toNat:=Classical.byContradiction fun z=>by
  have a:=Int.mul_nonpos_of_nonpos_of_nonneg (show d/2^t.toNat<=0 by lia) (Int.le_of_lt (fB t.toNat))
  have b:=tw.2.1
  lia
 have lo:=(fE h2 o2 (Int.lt_of_le_of_lt o1.2 d2)).1
 have c1:=dY 1 0 (1*2^i.toNat) d (intBits (d-1)+1)
 refine⟨AllJ H i d t l ([⟨0,0,0,(intBits d:Int)-1⟩]++cSc 1 0 (1*2^i.toNat) d (intBits (d-1)+1)++cEa (1*2^i.toNat) d t),?_,?_⟩
 ·refine⟨_,rfl,_,_,rfl,rfl,_,rfl,?_⟩
  walk_at "c" <;> intro c2
  ·refine⟨_,rfl,_,rfl,_,_,rfl,rfl,t0,_,_,rfl,rfl,jS,_,rfl,rfl,_,_,rfl,rfl,_,rfl,(by lia),(by lia),cL (fun n=>AllJ H i d t l ([⟨0,0,0,(intBits d:Int)-1⟩]++cSc 1 0 (1*2^i.toNat) d (intBits (d-1)+1)++cSc 2 t (1*2^i.toNat) (d/2^t.toNat) n)) ⟨_,_,rfl,(by rw[show cSc 2 t (1*2^i.toNat) (d/2^t.toNat) 0=[] from rfl,append_nil]; exact a1),sm⟩ ?_ ?_⟩
   ·clear a1 sm
    rintro n σ H2 hn ⟨y1,y2,rfl,⟨ps,hp,pl⟩,sm⟩
    have ep:(1:Int)*2^i.toNat*2^(0+(n:Int)).toNat=1*2^i.toNat*2^n:=by rw[show (0+(n:Int)).toNat=n by lia]
    have ub:=me h1 h2 (show n<=32 by lia)
    have ul:=mr ub.1 o2
    have cl:=dY 2 t (1*2^i.toNat) (d/2^t.toNat) n
    have pln:=pl.1
    rw[length_append,length_append] at pln
    have pln':ps.length=1+(cSc 1 0 (1*2^i.toNat) d (intBits (d-1)+1)).length+(cSc 2 t (1*2^i.toNat) (d/2^t.toNat) n).length:=pln
    have cp:CPow (1*2^i.toNat) (0+(n:Int)):=⟨by lia,by lia,by lia⟩
    walk_at "o"
    rw[ep]
    walk_at "c" <;> intro c0
    ·refine⟨_,rfl,.inl ⟨rfl,_,SqL.of hp⟩,_,rfl,_,rfl,_,rfl,(by show 4<=sizeLine; decide),fun r hr'=>?_⟩
     have sM:=ao hr' (.tup (tlv 2 t (upI (1*2^i.toNat*2^n) (d/2^t.toNat)) (0+(n:Int))))
     have ap:=AL.app pl hp hr' ⟨2,t,upI (1*2^i.toNat*2^n) (d/2^t.toNat),0+(n:Int)⟩
     refine⟨l,_,_,rfl,rfl,sM _ _ hp,(by rw[length_map]; lia),_,_,rfl,?_,Same.updL (sm.trans sM) hz⟩
     rw[de 2,if_pos c0,<- append_assoc,show (⟨2,t,upI (1*2^i.toNat*2^n) (d/2^t.toNat),(n:Int)⟩:Cd)=⟨2,t,upI (1*2^i.toNat*2^n) (d/2^t.toNat),0+(n:Int)⟩ by rw[e0]]
     exact ap
    ·refine⟨_,_,rfl,⟨ps,hp,?_⟩,sm⟩
     rw[de 2,if_neg c0,append_nil]
     exact pl
   ·rintro σ H2 h
    rw[show ((intBits (d/2^t.toNat-1):Int)+1).toNat=intBits (d/2^t.toNat-1)+1 by lia] at h
    unfold cEa
    rw[if_pos c2]
    exact h
  ·exact⟨_,_,rfl,(by unfold cEa; rw[if_neg c2,append_nil]; exact a1),sm⟩
 clear a1 sm
 rintro σ H2 ⟨y1,y2,rfl,a1,sm⟩
 have c3:=pc (1*2^i.toNat) d t
 refine⟨_,rfl,_,_,rfl,rfl,_,rfl,(by lia),(by lia),cL (fun n=>AllJ H i d t l ([⟨0,0,0,(intBits d:Int)-1⟩]++cSc 1 0 (1*2^i.toNat) d (intBits (d-1)+1)++cEa (1*2^i.toNat) d t++cMo (1*2^i.toNat) d n)) ⟨_,_,rfl,(by rw[show cMo (1*2^i.toNat) d 0=[] from rfl,append_nil]; exact a1),sm⟩ ?_ ?_⟩
 ·clear a1 sm
  rintro n σ H2 hn ⟨y1,y2,rfl,⟨ps,hp,pl⟩,sm⟩
  have ep:(1:Int)*2^i.toNat*2^(0+(n:Int)).toNat=1*2^i.toNat*2^n:=by rw[show (0+(n:Int)).toNat=n by lia]
  have ub:=me h1 h2 (show n<=32 by lia)
  have cl:=kc (1*2^i.toNat) d n
  have pln:=pl.1
  rw[length_append,length_append,length_append] at pln
  have pln':ps.length=1+(cSc 1 0 (1*2^i.toNat) d (intBits (d-1)+1)).length+(cEa (1*2^i.toNat) d t).length+(cMo (1*2^i.toNat) d n).length:=pln
  have cp:CPow (1*2^i.toNat) (0+(n:Int)):=⟨by lia,by lia,by lia⟩
  walk_at "o"
  rw[ep]
  walk_at "c" <;> intro c0
  ·walk_at "o"
   walk_at "c" <;> intro c4
   ·refine⟨_,rfl,.inl ⟨rfl,_,SqL.of hp⟩,_,rfl,_,rfl,(by show 3<=sizeLine; decide),fun r hr'=>?_⟩
    have sM:=ao hr' (.tup (tlv 3 0 ((1*2^i.toNat*2^n-1)/d) (0+(n:Int))))
    have ap:=AL.app pl hp hr' ⟨3,0,(1*2^i.toNat*2^n-1)/d,0+(n:Int)⟩
    refine⟨l,_,_,rfl,rfl,sM _ _ hp,(by rw[length_map]; lia),_,_,rfl,?_,Same.updL (sm.trans sM) hz⟩
    rw[fe,if_pos ⟨c0,c4⟩,<- append_assoc,show (⟨3,0,(1*2^i.toNat*2^n-1)/d,(n:Int)⟩:Cd)=⟨3,0,(1*2^i.toNat*2^n-1)/d,0+(n:Int)⟩ by rw[e0]]
    exact ap
   ·refine⟨_,_,rfl,⟨ps,hp,?_⟩,sm⟩
    rw[fe,if_neg (fun z=>c4 z.2),append_nil]
    exact pl
  ·refine⟨_,rfl,db ⟨_,_,rfl,⟨ps,hp,?_⟩,sm⟩⟩
   rw[fe,if_neg (fun z=>c0 z.1),append_nil]
   exact pl
 clear a1 sm
 rw[show ((intBits (d-1):Int)+1).toNat=intBits (d-1)+1 by lia]
 rintro σ H2 ⟨y1,y2,rfl,a1,sm⟩
 refine⟨AllJ H i d t l (kY (1*2^i.toNat) d t),?_,?_⟩
 ·refine⟨_,rfl,_,_,rfl,rfl,_,rfl,?_⟩
  walk_at "c" <;> intro c5
  ·obtain⟨ps,hp,pl⟩:=a1
   have ub:=me h1 h2 lb
   have cp:CPow (1*2^i.toNat) (intBits (d-1):Int):=⟨by lia,by lia,by lia⟩
   have cl:=kc (1*2^i.toNat) d (intBits (d-1)+1)
   have pln:=pl.1
   rw[length_append,length_append,length_append] at pln
   have pln':ps.length=1+(cSc 1 0 (1*2^i.toNat) d (intBits (d-1)+1)).length+(cEa (1*2^i.toNat) d t).length+(cMo (1*2^i.toNat) d (intBits (d-1)+1)).length:=pln
   refine⟨_,rfl,.inl ⟨rfl,_,SqL.of hp⟩,_,rfl,_,rfl,_,_,rfl,rfl,cp,_,rfl,_,_,rfl,ub.1,ub.2,d1,(by lia),_,rfl,_,_,rfl,rfl,_,rfl,(by show 3<=sizeLine; decide),fun r hr'=>?_⟩
   have sM:=ao hr' (.tup (tlv 4 0 (upI (1*2^i.toNat*2^intBits (d-1)) d-1*2^i.toNat) (intBits (d-1):Int)))
   have ap:=AL.app pl hp hr' ⟨4,0,upI (1*2^i.toNat*2^intBits (d-1)) d-1*2^i.toNat,(intBits (d-1):Int)⟩
   refine⟨l,_,_,rfl,rfl,sM _ _ hp,(by rw[length_map]; lia),_,_,rfl,?_,Same.updL (sm.trans sM) hz⟩
   unfold kY cWi
   rw[if_pos (by lia)]
   exact ap
  ·exact⟨_,_,rfl,(by unfold kY cWi; rw[if_neg (by lia),append_nil]; exact a1),sm⟩
 ·rintro σ H3 ⟨z1,z2,rfl,a2,s3⟩
  exact⟨_,rfl,q t l H3 tw hz a2 s3⟩
theorem mq {f:Addr}{fd:FuncData}(F:Fun K "candidates" "candidates" eF f fd) (T:Txt K mg c) (H_need_divisor:Has P w K mg base 4 "need_divisor" ["width","d"] pJ) (H_scaled_candidates:Has P w K mg base 6 "scaled_candidates" ["width","d"] (spScC c)) (H_early_candidates:Has P w K mg base 7 "early_candidates" ["width","d"] (spEaC c)) (H_more_candidates:Has P w K mg base 6 "more_candidates" ["width","d"] (spMoC c)) (H_ceiling:Has P w K mg base 1 "ceiling" ["top","bottom"] gm) (C_Shifted:CHas P w K mg base 4 c.Shifted "Shifted" ["self","shift"] (spI0 c)) (C_Wide:CHas P w K mg base 4 c.Wide "Wide" ["self","factor","shift"] (spI2 c 4 1)):FnOk P w K mg base CX0 8 f fd ["width","d"] (rC c):=by
 refine F.ok sc_candidates (fun vs H Q E h=>?_) (fun cdv A outer s H vs Q E hr h=>?_)
 ·obtain⟨i,d,rfl,_⟩:=h
  rfl
 obtain⟨i,d,rfl,h1,h2,d1,d2,q⟩:=h
 refine⟨_,(af (aK (aH H_need_divisor (hr.mono (by lia)) rfl (aa (pv 0) (aa (pv 1) ah))))
  (af (ax (i:=2) sc_candidates.nd rfl (Or.inl rfl) (bu (aa (j5 C_Shifted (hr.mono (by lia)) rfl (aa (aq aL (fM PySem.F.plainAttrs_int PySem.F.slot_int_bit_length PySem.F.type_int_bit_length dO (pv 1)) ag) ah)) ah)))
  (af (aK (cN PySem.F.plainAttrs_list PySem.F.slot_list_extend PySem.F.type_list_extend e8 (pv 2) (aa (aH H_scaled_candidates (hr.mono (by lia)) rfl (aa (pv 0) (aa (pv 1) ah))) ah)))
  (af (aK (cN PySem.F.plainAttrs_list PySem.F.slot_list_extend PySem.F.type_list_extend e8 (pv 2) (aa (aH H_early_candidates (hr.mono (by lia)) rfl (aa (pv 0) (aa (pv 1) ah))) ah)))
  (af (aK (cN PySem.F.plainAttrs_list PySem.F.slot_list_extend PySem.F.type_list_extend e8 (pv 2) (aa (aH H_more_candidates (hr.mono (by lia)) rfl (aa (pv 0) (aa (pv 1) ah))) ah)))
  (af (ax (i:=3) sc_candidates.nd rfl (Or.inl rfl) (fM PySem.F.plainAttrs_int PySem.F.slot_int_bit_length PySem.F.type_int_bit_length dO (aq aL (pv 1) ag)))
  (bn (aN (aA o9 (pv 3) ag (aI _))
   (aj (aK (cN PySem.F.plainAttrs_list PySem.F.slot_list_append PySem.F.type_list_append aP (pv 2) (aa (j5 C_Wide (hr.mono (by lia)) rfl (aa (aq aL (aH H_ceiling (hr.mono (by lia)) rfl (aa (aq br ag (aq aQ (pv 0) (pv 3))) (aa (pv 1) ah))) (aq br ag (pv 0))) (aa (pv 3) ah))) ah))))
   aw)
  (aj (av (pv 2)))))))))),?_⟩
 have pb:=aX h1 h2
 have lb:=fE h2 d1 d2
 have L100:(1000:Nat)<=sizeLine:=by decide
 walk_at "o"
 refine fun x dx hx hdx hne=>⟨x,dx,_,rfl,ae,(by lia),(by lia),fun H1 s1 fo=>⟨rfl,(by show 1<=sizeLine; decide),fun l hl=>?_⟩⟩
 have sM:=cY hx hdx s1
 have hz:H l=none:=by
  cases e:H l with
  | none=>rfl
  | some o=>have:=sM _ _ e; rw[hl] at this; cases this
 have n1:=ao hl (.lst [.ref x])
 have A1:AL (FR c) (upd H1 l (.lst [.ref x])) l [⟨0,0,0,(intBits d:Int)-1⟩]:=⟨[x],ae,.one (FR.same (x:=⟨0,0,0,(intBits d:Int)-1⟩) fo n1)⟩
 have S1:=sM.trans n1
 generalize upd H1 l (.lst [.ref x])=G1 at A1 S1 ⊢
 obtain⟨ps1,hp1,pl1⟩:=A1
 refine⟨_,rfl,.inl ⟨rfl,_,SqL.of hp1⟩,_,rfl,_,rfl,i,d,rfl,h1,h2,d1,d2,fun b2 H2 b20 ⟨qs2,hq2,ql2⟩ s2=>⟨l,b2,_,_,rfl,rfl,s2 _ _ hp1,hq2,?_,?_⟩⟩
 ·have:=pl1.1
  have:=ql2.1
  have:=dY 1 0 (1*2^i.toNat) d (intBits (d-1)+1)
  rw[length_map,length_map]
  simp only[length_cons,List.length_nil] at *
  lia
 have A2:=AL.ext (pl1.mono fun _ _ q=>q.same s2) (s2 _ _ hp1) ql2
 have S2:=Same.updL (o:=.lst (ps1.map V.ref++qs2.map V.ref)) (S1.trans s2) hz
 have l2:([⟨0,0,0,(intBits d:Int)-1⟩]++cSc 1 0 (1*2^i.toNat) d (intBits (d-1)+1):List Cd).length<=40:=by
  have:=dY 1 0 (1*2^i.toNat) d (intBits (d-1)+1)
  rw[length_append]
  show 1+_<=40
  lia
 generalize upd H2 l (.lst (ps1.map V.ref++qs2.map V.ref))=G2 at A2 S2 ⊢
 clear pl1 hp1 S1 s2 hq2 ql2 n1 fo s1 sM
 obtain⟨ps2,hp2,pl2⟩:=A2
 refine⟨_,rfl,.inl ⟨rfl,_,SqL.of hp2⟩,_,rfl,_,rfl,i,d,rfl,h1,h2,d1,d2,fun t b3 H3 tw b30 ⟨qs3,hq3,ql3⟩ s3=>?_⟩
 have t0:=tw.1
 have o1:=xdiv (x:=d) (by lia) t
 have o2:1<=d/2^t.toNat:=Classical.byContradiction fun z=>by
  have a:=Int.mul_nonpos_of_nonpos_of_nonneg (show d/2^t.toNat<=0 by lia) (Int.le_of_lt (fB t.toNat))
  have b:=tw.2.1
  lia
 have lo:=(fE h2 o2 (Int.lt_of_le_of_lt o1.2 d2)).1
 have l3:([⟨0,0,0,(intBits d:Int)-1⟩]++cSc 1 0 (1*2^i.toNat) d (intBits (d-1)+1)++cEa (1*2^i.toNat) d t:List Cd).length<=80:=by
  have:=pc (1*2^i.toNat) d t
  rw[length_append]
  lia
 have A3:=AL.ext (pl2.mono fun _ _ q=>q.same s3) (s3 _ _ hp2) ql3
 have S3:=Same.updL (o:=.lst (ps2.map V.ref++qs3.map V.ref)) (S2.trans s3) hz
 have e3:ps2.length+qs3.length<=80:=by
  have a:=pl2.1
  have b:=ql3.1
  rw[length_append] at l3
  lia
 refine⟨l,b3,_,_,rfl,rfl,s3 _ _ hp2,hq3,(by rw[length_map,length_map]; lia),?_⟩
 show tSeq _ _ _ _ _
 generalize upd H3 l (.lst (ps2.map V.ref++qs3.map V.ref))=G3 at A3 S3 ⊢
 clear pl2 hp2 S2 s3 hq3 ql3
 obtain⟨ps3,hp3,pl3⟩:=A3
 refine⟨_,rfl,.inl ⟨rfl,_,SqL.of hp3⟩,_,rfl,_,rfl,i,d,rfl,h1,h2,d1,d2,fun b4 H4 b40 ⟨qs4,hq4,ql4⟩ s4=>?_⟩
 have l4:=kc (1*2^i.toNat) d (intBits (d-1)+1)
 have A4:=AL.ext (pl3.mono fun _ _ q=>q.same s4) (s4 _ _ hp3) ql4
 have S4:=Same.updL (o:=.lst (ps3.map V.ref++qs4.map V.ref)) (S3.trans s4) hz
 have e4:ps3.length+qs4.length<=120:=by
  have a:=pl3.1
  have b:=ql4.1
  lia
 refine⟨l,b4,_,_,rfl,rfl,s4 _ _ hp3,hq4,(by rw[length_map,length_map]; lia),?_⟩
 show tSeq _ _ _ _ _
 generalize upd H4 l (.lst (ps3.map V.ref++qs4.map V.ref))=G4 at A4 S4 ⊢
 refine⟨_,rfl,_,_,rfl,rfl,jS,_,rfl,rfl,?_⟩
 refine⟨fun σ HZ=>σ=[some (.int i),some (.int d),some (.ref l),some (.int (intBits (d-1):Int))]/\AL (FR c) HZ l (kY (1*2^i.toNat) d t)/\Same H HZ,?_,?_⟩
 ·refine⟨_,rfl,rfl,_,rfl,?_⟩
  by_cases c5:intBits (d-1)=0
  ·refine mw (by rw[c5]; rfl) ⟨rfl,?_,S4⟩
   unfold kY cWi
   rw[if_neg (by lia),append_nil]
   exact A4
  ·have ep:(1:Int)*2^(i+(intBits (d-1):Int)).toNat=1*2^i.toNat*2^intBits (d-1):=by rw[show (i+(intBits (d-1):Int)).toNat=i.toNat+intBits (d-1) by lia,pow_add,Int.mul_assoc]
   have ub:=me h1 h2 lb.1
   have wf:=qm (A:=1*2^i.toNat) (B:=2^intBits (d-1)) (by lia) d1 (bl_le d1) (bl_ge d1 (by lia)) (by lia)
   have wu:upI (1*2^i.toNat*2^intBits (d-1)) d=(1*2^i.toNat*2^intBits (d-1)+d-1)/d:=rfl
   obtain⟨ps,hp,pl⟩:=A4
   have pln:=pl.1
   rw[length_append] at pln
   refine iteN (fun z=>c5 (by injection z with z; lia)) ?_
   refine⟨_,rfl,.inl ⟨rfl,_,SqL.of hp⟩,_,rfl,_,rfl,_,_,rfl,rfl,_,_,rfl,rfl,hX (by lia) (by lia),_,rfl,_,_,rfl,?_⟩
   rw[ep]
   refine⟨ub.1,ub.2,d1,(by lia),?_⟩
   refine⟨_,rfl,_,_,rfl,rfl,hX (by lia) (by lia),_,_,rfl,rfl,_,rfl,fun x dx hx hdx hne=>⟨x,dx,_,_,rfl,ae,(by lia),(by lia),(by lia),(by lia),fun H' s' fo=>⟨rfl,?_⟩⟩⟩
   have sM:=cY hx hdx s'
   have Sx:=Same.updL (o:=.lst (ps.map V.ref++[.ref x])) (S4.trans sM) hz
   refine⟨l,_,_,rfl,rfl,sM _ _ hp,(by rw[length_map]; lia),rfl,?_,Sx⟩
   unfold kY cWi
   rw[if_pos (by lia)]
   have fx:FR c H' x ⟨4,0,upI (1*2^i.toNat*2^intBits (d-1)) d-1*2^i.toNat,(intBits (d-1):Int)⟩:=fo
   exact⟨ps++[x],(by rw[ae,map_append]; rfl),((pl.mono fun _ _ q=>q.same sM).snoc fx).updF (sM _ _ hp)⟩
 ·rintro σ HZ ⟨rfl,a,s'⟩
  exact⟨_,rfl,q t l HZ tw hz a s'⟩
theorem rP {X:Cx}{K:Frag}{e:Expr}{f:Str}{ta:TE}(hK:X.K=K) (he:PE X e ta) (hb:attributeBase e f X.env (eval e X.env)=eval e X.env):PE X (.Attribute e f pos) (tFld K ta f):=by
 subst hK
 exact aZ he hb
theorem gx {f:Addr}{fd:FuncData}(F:Fun K "early_candidates" "early_candidates" cg f fd) (T:Txt K mg c) (H_twos_in:Has P w K mg base 1 "twos_in" ["d"] jr) (H_scaled_candidates:Has P w K mg base 6 "scaled_candidates" ["width","d"] (spScC c)) (C_Early:CHas P w K mg base 4 c.Early "Early" ["self","early","factor","shift"] (spI3 c)):FnOk P w K mg base CX0 7 f fd ["width","d"] (spEaC c):=by
 refine F.ok sc_early_candidates (fun vs H Q E h=>?_) (fun cdv A outer s H vs Q E hr h=>?_)
 ·obtain⟨i,d,rfl,_⟩:=h
  rfl
 obtain⟨i,d,rfl,h1,h2,d1,d2,q⟩:=h
 refine⟨_,(af (ax (i:=2) sc_early_candidates.nd rfl (Or.inr rfl) (aH H_twos_in (hr.mono (by lia)) rfl (aa (pv 1) ah)))
  (af (aN (aA dA (pv 2) ag (aI _))
   (aj (av (bu ah)))
   aw)
  (aj (av (je [2] ["twos"] rfl (by first | rfl | with_unfolding_all rfl) (by rfl) (by exact(List.forall_mem_cons.mpr ⟨rfl,(fun _ h=>nomatch h)⟩)) (by decide +kernel) rfl (by decide +kernel) rfl (by decide +kernel) (by exact(List.forall_mem_cons.mpr ⟨⟨by first | exact Or.inl rfl | exact Or.inr rfl,rfl⟩,(fun _ h=>nomatch h)⟩)) rfl (by rfl) (cr (aH H_scaled_candidates (hr.mono (by lia)) rfl (aa (pv 0) (aa (aq iA (pv 1) (pv 2)) ah)))) (fun C s2 H2 fp=>(j5 C_Early (hr.mono (by lia)) rfl (aa (pv 1) (aa (rP (K:=K) rfl (pv 0) rfl) (aa (rP (K:=K) rfl (pv 0) rfl) ah)))))))))),?_⟩
 have L100:(1000:Nat)<=sizeLine:=by decide
 walk_at "o"; intro t tw
 have t0:=tw.1
 have tl:=mL d1 (by have:=aX h1 h2; lia) tw
 have o1:=xdiv (x:=d) (by lia) t
 have o2:1<=d/2^t.toNat:=Classical.byContradiction fun z=>by
  have a:=Int.mul_nonpos_of_nonpos_of_nonneg (show d/2^t.toNat<=0 by lia) (Int.le_of_lt (fB t.toNat))
  have b:=tw.2.1
  lia
 have lo:=(fE h2 o2 (Int.lt_of_le_of_lt o1.2 d2)).1
 refine⟨_,rfl,rfl,_,rfl,?_⟩
 by_cases c0:t=0
 ·subst c0
  refine jd rfl ⟨(by show 0<=sizeLine; decide),fun l hl=>q 0 l _ tw hl ⟨[],ae,?_⟩ (ao hl _)⟩
  unfold cEa
  rw[if_neg (by lia)]
  exact PL.nil
 ·refine bB (fun z=>c0 (by injection z)) ?_
  refine⟨_,rfl,_,rfl,_,rfl,_,_,rfl,rfl,t0,i,_,rfl,h1,h2,o2,Int.lt_of_le_of_lt o1.2 d2,fun b H1 b0 ⟨ps,hp,pl⟩ s1=>⟨b,rfl,⟨_,SqL.of hp⟩,fun D hD=>?_⟩⟩
  have pb:=aX h1 h2
  refine eW (xs:=ps.map V.ref) (fun n HJ=>∃ qs:List Addr,HJ D=some (.lst (qs.map V.ref))/\PL (FR c) HJ qs (((cSc 1 0 (1*2^i.toNat) (d/2^t.toNat) (intBits (d/2^t.toNat-1)+1)).take n).map fun x=>⟨2,t,x.f,x.s⟩)/\Same H1 HJ) ⟨[],ae,PL.nil,ao hD _⟩ ?_ ?_ ?_
  ·rintro n HJ hn ⟨qs,hq,ql,sJ⟩
   exact SqL.of (sJ _ _ hp)
  ·rintro n v HJ hv ⟨qs,hq,ql,sJ⟩
   rw[List.getElem?_map] at hv
   cases e1:ps[n]? with
   | none=>rw[e1] at hv; cases hv
   | some p =>
    rw[e1] at hv
    cases hv
    have np:=(List.getElem?_eq_some_iff.mp e1).1
    obtain⟨x,ex⟩:∃ x,(cSc 1 0 (1*2^i.toNat) (d/2^t.toNat) (intBits (d/2^t.toNat-1)+1))[n]?=some x:=⟨_,List.getElem?_eq_getElem (by rw[<- pl.1]; exact np)⟩
    have xm:=mem_of_getElem? ex
    have fm:=(t9 (.inl rfl) (fun _=>rfl) (by decide) (by decide) (by lia) (by lia) o2 (by lia) x xm).1
    obtain⟨dx,hx⟩:=(pl.2 n p x e1 ex).same sJ
    rw[cSc_k x xm] at hx
    have qn:=ql.1
    rw[length_map,length_take] at qn
    have pn:=pl.1
    have cn:=dY 1 0 (1*2^i.toNat) (d/2^t.toNat) (intBits (d/2^t.toNat-1)+1)
    refine⟨_,rfl,_,rfl,p,_,dx,_,_,rfl,hx,T.cl_Scaled,T.na_Scaled_factor,rfl,_,rfl,p,_,dx,_,_,rfl,hx,T.cl_Scaled,T.na_Scaled_shift,rfl,fun y dy hy hdy hne=>⟨y,dy,t,x.f,x.s,rfl,ae,t0,tl,fm.fa,fm.fb,fm.sa,fm.sb,fun H' s' fo=>⟨rfl,?_⟩⟩⟩
    have sM:=cY hy hdy s'
    refine⟨_,sM _ _ hq,(by rw[length_map]; lia),(ps.map V.ref).length-(n+1),(by rw[length_map]; lia),rfl,(by rw[length_map]; lia),qs++[y],(by rw[ae,map_append]; rfl),?_,Same.updL (sJ.trans sM) hD⟩
    rw[List.take_succ,ex,map_append]
    have fx:FR c H' y ⟨2,t,x.f,x.s⟩:=fo
    exact((ql.mono fun _ _ q=>q.same sM).snoc fx).updF (sM _ _ hq)
  ·rintro HJ ⟨qs,hq,ql,sJ⟩
   refine q t D HJ tw ?_ ⟨qs,hq,?_⟩ (s1.trans sJ)
   ·cases e:H D with
    | none=>rfl
    | some o=>have:=s1 _ _ e; rw[hD] at this; cases this
   ·unfold cEa
    rw[if_pos (by lia),cSc_map]
    rw[length_map,pl.1,take_length] at ql
    exact ql
theorem tK {H:Hp}{a:Addr}{kvs:List (Key×V)}{y:Str}(e:H a=some (.dK kvs)):DGet H a (.str y) (cR kvs (.inr y)):=DGet.k (k:=.inr y) e
theorem sq {H:Hp}{a:Addr}{kvs:List (Key×V)}{y:Str}{v:V}(e:H a=some (.dK kvs)) (hl:kvs.length<sizeLine):DPut H a (.str y) v (upd H a (.dK (dI kvs (.inr y) v))):=DPut.k (k:=.inr y) e hl
theorem rA_len (kd:Nat):(rA kd).length<=5:=by unfold rA; split <;> decide
theorem lR {f:Addr}{fd:FuncData}(F:Fun K "form_words" "form_words" eR f fd) (T:Txt K mg c)  (MW:∀ i,i<5->MHas P w K mg base 1 (fOf c i) "word" ["self"] (nv i)) (RA:RowsA K P w c.ROWS_AHEAD):FnOk P w K mg base CX0 2 f fd ["form"] (spFW c):=by
 refine F.ok sc_form_words (fun vs H Q E h=>?_) (fun cdv A outer s H vs Q E hr h=>?_)
 ·obtain⟨x,kd,e,f,s',rfl,_⟩:=h
  rfl
 obtain⟨x,kd,e,f,s',rfl,⟨dx,fo⟩,fm,q⟩:=h
 obtain⟨tt,bb,gd_ROWS_AHEAD,hb⟩:=RA
 refine⟨_,(af (ax (i:=1) sc_form_words.nd rfl (Or.inl rfl) (hE m7 rfl T.n_list boot_list (aa (pe_gdget gd_ROWS_AHEAD (nH rfl T.g_ROWS_AHEAD) (bt (k:=1) (pv 0) (hr.mono (by lia))) (fun _ _=>rfl)) ah)))
  (af (ax (i:=2) sc_form_words.nd rfl (Or.inl rfl) (ie (aA dA (bt (k:=1) (pv 0) (hr.mono (by lia))) aD (aI _)) ag ag))
  (bn (aN (aA kK (aZ (pv 0) rfl) (pv 2) (aI _))
   (aj (aK (cN PySem.F.plainAttrs_list PySem.F.slot_list_append PySem.F.type_list_append aP (pv 1) (aa aD ah))))
   aw)
  (aj (av (pv 1)))))),?_⟩
 have k5:=fm.k
 obtain⟨cl,na⟩:=T.shf k5
 refine⟨_,rfl,x,_,dx,_,_,_,rfl,fo,rF,MW kd k5,x,rfl,_,bb kd,rfl,rfl,rows_at k5,bb kd,_,rfl,.inr (hb kd k5 _),fun l hl=>?_⟩
 have s1:=ao hl (.lst ((rA kd).map V.str))
 have l1:upd H l (.lst ((rA kd).map V.str)) l=some (.lst ((rA kd).map V.str)):=ae
 generalize upd H l (.lst ((rA kd).map V.str))=H1 at s1 l1 ⊢
 have fo1:=s1 _ _ fo
 refine⟨_,rfl,x,_,dx,_,_,_,rfl,fo1,rF,MW kd k5,x,rfl,rfl,_,rfl,?_⟩
 have n4:kd≠4->V.str (wdF kd)≠V.str "wide":=fun hk=>by
  rcases(by lia:kd=0\/kd=1\/kd=2\/kd=3) with rfl | rfl | rfl | rfl <;> walk_at "n"
 by_cases hk:kd=4
 case' pos =>
  have dk:dn kd=1:=if_pos hk
  refine jd (by subst hk; rfl) ?_
 case' neg =>
  have dk:dn kd=0:=if_neg hk
  refine bB (n4 hk) ?_
 all_goals
  refine⟨fun σ2 HZ=>∃ d,σ2=[some (.ref x),some (.ref l),some (.int d)]/\HZ l=some (.lst ((fw kd s').map V.str))/\Same H HZ,?_,?_⟩
  ·refine⟨_,rfl,x,_,dx,_,_,rfl,fo1,cl,na,fl_shift,_,rfl,_,_,rfl,rfl,_,rfl,?_⟩
   walk_at "c" <;> intro c1
   ·refine⟨_,rfl,.inl ⟨rfl,_,SqL.of l1⟩,l,_,_,rfl,rfl,l1,(by rw[length_map]; exact Nat.lt_of_le_of_lt (rA_len kd) (by decide)),?_⟩
    refine⟨_,rfl,?_,Same.updL s1 hl⟩
    rw[ae]
    unfold fw
    rw[dk,if_pos c1,map_append]
    rfl
   ·refine⟨_,rfl,?_,s1⟩
    unfold fw
    rw[dk,if_neg c1,append_nil]
    exact l1
  ·rintro σ2 HZ ⟨d,rfl,lZ,sZ⟩
   exact⟨_,rfl,q l HZ hl lZ sZ⟩
theorem five {HZ:Hp}{p l0 l1 l2 l3 l4:Addr}{op o0 o1 o2 o3 o4:HO}(hp:HZ p=none) (h0:upd HZ p op l0=none) (h1:upd (upd HZ p op) l0 o0 l1=none) (h2:upd (upd (upd HZ p op) l0 o0) l1 o1 l2=none) (h3:upd (upd (upd (upd HZ p op) l0 o0) l1 o1) l2 o2 l3=none) (h4:upd (upd (upd (upd (upd HZ p op) l0 o0) l1 o1) l2 o2) l3 o3 l4=none) :
  ∃ H5,H5=upd (upd (upd (upd (upd (upd HZ p op) l0 o0) l1 o1) l2 o2) l3 o3) l4 o4/\H5 p=some op/\H5 l0=some o0/\H5 l1=some o1/\H5 l2=some o2/\H5 l3=some o3/\H5 l4=some o4/\Same HZ H5/\HZ l0=none/\HZ l1=none/\HZ l2=none/\HZ l3=none/\HZ l4=none:=by
 have up:=ao hp op
 have u0:=up.trans (ao h0 o0)
 have u1:=u0.trans (ao h1 o1)
 have u2:=u1.trans (ao h2 o2)
 have u3:=u2.trans (ao h3 o3)
 have v4:=ao h4 o4
 have v3:=(ao h3 o3).trans v4
 have v2:=(ao h2 o2).trans v3
 have v1:=(ao h1 o1).trans v2
 have v0:=(ao h0 o0).trans v1
 exact⟨_,rfl,v0 _ _ ae,v1 _ _ ae,v2 _ _ ae,v3 _ _ ae,v4 _ _ ae,ae,u3.trans v4,up.free h0,u0.free h1,u1.free h2,u2.free h3,u3.free h4⟩
theorem iB {f:Addr}{fd:FuncData}(F:Fun K "_law_row_words" "_law_row_words" cP f fd) (T:Txt K mg c) :FnOk P w K mg base CX0 1 f fd [] spRW:=by
 refine F.ok iK (fun vs H Q E h=>?_) (fun cdv A outer s H vs Q E hr h=>?_)
 ·obtain⟨rfl,_⟩:=h
  rfl
 obtain⟨rfl,q⟩:=h
 refine⟨_,(aj (av (fM PySem.F.plainAttrs_str PySem.F.slot_str_split PySem.F.type_str_split mt_split aD))),?_⟩
 have e:wordsOf "set copy sum gap low high left right slide and or unlike under pick mark turns"=rw16:=by decide +kernel
 refine⟨ty_str,_,rfl,rfl,by decide +kernel,by decide +kernel,by decide +kernel,by decide +kernel,?_⟩
 rw[e]
 exact q
theorem jT {f:Addr}{fd:FuncData}(F:Fun K "_law_made_of" "_law_made_of" dC f fd) (T:Txt K mg c) :FnOk P w K mg base CX0 1 f fd ["_law_told"] spMO:=by
 refine F.ok sc__law_made_of (fun vs H Q E h=>?_) (fun cdv A outer s H vs Q E hr h=>?_)
 ·obtain⟨r,kd,e,f,s',rfl,_⟩:=h
  rfl
 obtain⟨r,kd,e,f,s',rfl,ht,fm,q⟩:=h
 refine⟨_,(af (ax (i:=1) sc__law_made_of.nd rfl (Or.inl rfl) (aY aU (pv 0) (aq aL (aJ bv rfl T.n_len boot_len (aa (pv 0) ah)) ag) (fun _ _=>rfl)))
  (tQ (aN (aA dA (aY aU (pv 0) ag (fun _ _=>rfl)) aD (aI _))
   (aj (ax (i:=1) sc__law_made_of.nd rfl (Or.inl rfl) (aq aL (pv 1) ag)))
   aw)
  (ue (ps_setS (i:=2) sc__law_made_of.nd rfl (Or.inl rfl) (pe_dgetS (iM hr) (pe_dispS (eT aD (gf gk) (eT aD (gf (aM aD (aM aD gk))) (eT aD (gf (aM aD (aM aD (aM aD gk)))) (eT aD (gf (aM aD (aM aD (aM aD (aM aD (aM aD gk)))))) (eT aD (gf (aM aD (aM aD (aM aD (aM aD (aM aD gk)))))) pps_nilS))))) rfl rfl (fun z=>nomatch z) (by decide)) (aY aU (pv 0) ag (fun _ _=>rfl)) (fun _ _=>rfl)))
  (bn (aN (aA kK (pv 1) ag (aI _))
   (aj (aK (cN PySem.F.plainAttrs_list PySem.F.slot_list_append PySem.F.type_list_append aP (pv 2) (aa aD ah))))
   aw)
  (aj (av (pv 2))))))),?_⟩
 have k5:=fm.k
 have lst0:atI (tlv kd e f s') (((tlv kd e f s').length:Int)-1)=some (.int s'):=by
  rcases(by lia:kd=0\/kd=1\/kd=2\/kd=3\/kd=4) with rfl | rfl | rfl | rfl | rfl <;> rfl
 have fst0:atI (tlv kd e f s') 0=some (.str (wdF kd)):=by
  rcases(by lia:kd=0\/kd=1\/kd=2\/kd=3\/kd=4) with rfl | rfl | rfl | rfl | rfl <;> rfl
 refine⟨_,rfl,_,rfl,r,_,rfl,.inr (SqT.of ht),_,_,rfl,rfl,r,_,_,_,rfl,rfl,SqT.of ht,lst0,?_⟩
 refine⟨fun σ2 HZ=>σ2=[some (.ref r),some (.int (s'-dn kd)),none]/\HZ=H,?_,?_⟩
 ·refine⟨_,rfl,r,_,_,_,rfl,rfl,SqT.of ht,fst0,rfl,_,rfl,?_⟩
  by_cases hk:kd=4
  ·refine jd (by subst hk; rfl) ⟨_,rfl,_,_,rfl,rfl,?_,rfl⟩
   rw[show dn kd=1 from if_pos hk]
   rfl
  ·refine bB (by rcases(by lia:kd=0\/kd=1\/kd=2\/kd=3) with rfl | rfl | rfl | rfl <;> walk_at "n") ⟨?_,rfl⟩
   rw[show dn kd=0 from if_neg hk,Int.sub_zero]
   rfl
 rintro σ2 HZ ⟨rfl,rfl⟩
 refine fun p hp=>⟨(by show 0<=sizeLine; decide),fun l0 h0=>⟨(by show 2<=sizeLine; decide),fun l1 h1=>⟨(by show 3<=sizeLine; decide),fun l2 h2=>⟨(by show 5<=sizeLine; decide),fun l3 h3=>⟨(by show 5<=sizeLine; decide),fun l4 h4=>?_⟩⟩⟩⟩⟩
 obtain⟨H5,e5,p5,f0,f1,f2,f3,f4,u4,n0,n1,n2,n3,n4⟩:=five hp h0 h1 h2 h3 h4
 show (_/\_)
 rw[<- e5]
 refine⟨p5,[(.inr "shifted",.ref l0),(.inr "scaled",.ref l1),(.inr "early",.ref l2),(.inr "more",.ref l3),(.inr "wide",.ref l4)],rfl,Nat.le_of_ble_eq_true rfl,?_⟩
 obtain⟨lk,hv,hf,hn⟩:∃ lk,cR (kr [] [(.inr "shifted",.ref l0),(.inr "scaled",.ref l1),(.inr "early",.ref l2),(.inr "more",.ref l3),(.inr "wide",.ref l4)]) (.inr (wdF kd))=some (.ref lk)/\H5 lk=some (.lst ((rA kd).map V.str))/\HZ lk=none:=by
  rcases(by lia:kd=0\/kd=1\/kd=2\/kd=3\/kd=4) with rfl | rfl | rfl | rfl | rfl
  ·exact⟨l0,rfl,f0,n0⟩
  ·exact⟨l1,rfl,f1,n1⟩
  ·exact⟨l2,rfl,f2,n2⟩
  ·exact⟨l3,rfl,f3,n3⟩
  ·exact⟨l4,rfl,f4,n4⟩
 generalize kr [] [(.inr "shifted",.ref l0),(.inr "scaled",.ref l1),(.inr "early",.ref l2),(.inr "more",.ref l3),(.inr "wide",.ref l4)]=kv at hv ⊢
 have s6:Same HZ (upd H5 p (.dK kv)):=Same.updL u4 hp
 have hlp:lk≠p:=fun z=>by rw[z,p5] at hf; cases hf
 have f6:upd H5 p (.dK kv) lk=some (.lst ((rA kd).map V.str)):=by rw[au hlp]; exact hf
 have k6:upd H5 p (.dK kv) p=some (.dK kv):=ae
 generalize upd H5 p (.dK kv)=H6 at s6 f6 k6 ⊢
 refine⟨_,rfl,r,_,_,_,rfl,rfl,SqT.of (s6 _ _ ht),fst0,p,_,rfl,(by have:=tK (y:=wdF kd) k6; rw[hv] at this; exact this),?_⟩
 refine⟨fun σ2 HZ'=>∃ z,σ2=[some (.ref r),z,some (.ref lk)]/\HZ' lk=some (.lst ((fw kd s').map V.str))/\Same HZ HZ',?_,?_⟩
 ·refine⟨_,rfl,_,_,rfl,rfl,_,rfl,?_⟩
  walk_at "c" <;> intro c1
  ·refine⟨_,rfl,.inl ⟨rfl,_,SqL.of f6⟩,lk,_,_,rfl,rfl,f6,(by rw[length_map]; exact Nat.lt_of_le_of_lt (rA_len kd) (by decide)),?_⟩
   refine⟨_,rfl,?_,Same.updL s6 hn⟩
   rw[ae]
   unfold fw
   rw[if_pos (show dn kd<s' by lia),map_append]
   rfl
  ·refine⟨_,rfl,?_,s6⟩
   unfold fw
   rw[if_neg (show ¬ dn kd<s' by lia),append_nil]
   exact f6
 rintro σ2 H7 ⟨z,rfl,f7,s7⟩
 exact⟨_,rfl,q lk H7 hn f7 s7⟩
theorem kD {f:Addr}{fd:FuncData}(F:Fun K "_law_prices" "_law_prices" d9 f fd) (T:Txt K mg c) (H__law_draw:Has P w K mg base 1 "_law_draw" ["_law_state","_law_size"] lE) (H__law_row_words:Has P w K mg base 1 "_law_row_words" [] spRW):FnOk P w K mg base CX0 2 f fd ["_law_state"] spPr:=by
 refine F.ok sc__law_prices (fun vs H Q E h=>?_) (fun cdv A outer s H vs Q E hr h=>?_)
 ·obtain⟨p,rfl,_⟩:=h
  rfl
 obtain⟨p,rfl,bx,q⟩:=h
 refine⟨_,(af (ax (i:=1) sc__law_prices.nd rfl (Or.inl rfl) (aH H__law_draw (hr.mono (by lia)) rfl (aa (pv 0) (aa ag ah))))
  (af (ax (i:=2) sc__law_prices.nd rfl (Or.inl rfl) (pe_fn0 H__law_row_words (hr.mono (by lia)) rfl))
  (bn (aN (aA dA (aH H__law_draw (hr.mono (by lia)) rfl (aa (pv 0) (aa ag ah))) ag (aI _))
   (aj (ax (i:=2) sc__law_prices.nd rfl (Or.inl rfl) (pe_rev (pv 2))))
   aw)
  (af (ax (i:=3) sc__law_prices.nd rfl (Or.inl rfl) (aY c9 (bu (aa ag (aa ag (aa ag (aa ag ah))))) (pv 1) (fun _ _=>rfl)))
  (af (ax (i:=4) sc__law_prices.nd rfl (Or.inl rfl) pN)
  (af (cu PassesOwn.never rfl (cr (pv 2)) (be (i:=5) sc__law_prices.nd rfl (Or.inl rfl))
   (af (jz (iM hr) (pv 4) (pv 5) (aH H__law_draw (hr.mono (by lia)) rfl (aa (pv 0) (aa (pv 3) ah))) rfl)
   (aj (aN (PW.pt (pL (aA dA (pv 1) ag (aI _)) (lT (aA sO (pv 5) (bu (aa aD (aa aD (aa aD ah)))) (by with_unfolding_all rfl)))))
    (aj (jz (iM hr) (pv 4) (pv 5) ag rfl))
    aw))))
  (bn (aN (aA dA (aH H__law_draw (hr.mono (by lia)) rfl (aa (pv 0) (aa ag ah))) ag (aI _))
   (aj (jz (iM hr) (pv 4) aD aD rfl))
   aw)
  (aj (av (pv 4)))))))))),?_⟩
 walk_at "o"; intro kd H1 k0 k1 b1 x1
 refine⟨rfl,fun lw hlw=>?_⟩
 have x2:=x1.trans (SameX.of (ao hlw (.lst (rw16.map V.str))))
 have b2:=b1.same (ao hlw (.lst (rw16.map V.str)))
 have lw2:upd H1 lw (.lst (rw16.map V.str)) lw=some (.lst (rw16.map V.str)):=ae
 have hlwp:lw≠p:=fun e=>by obtain⟨r1,r2,hb⟩:=b1; rw[e,hb] at hlw; cases hlw
 generalize upd H1 lw (.lst (rw16.map V.str))=H2 at x2 b2 lw2 ⊢
 refine⟨fun σ2 HZ=>∃ (l:Addr) (xs:List Str),σ2=[some (.ref p),some (.int kd),some (.ref l),none,none,none]/\HZ l=some (.lst (xs.map V.str))/\l≠p/\xs.length=16/\(∀ y,y∈xs ↔ y∈rw16)/\Bx HZ p/\SameX p H HZ,?_,?_⟩
 ·walk_at "o"; intro z H3 z0 z1 b3 x3
  walk_at "o"
  have lw3:=x3 _ _ hlwp lw2
  walk_at "c" <;> intro c1
  ·refine⟨_,rfl,lw,_,rfl,SqL.of lw3,fun l hl=>?_⟩
   have hlp:l≠p:=fun e=>by obtain⟨r1,r2,hb⟩:=b3; rw[e,hb] at hl; cases hl
   refine⟨l,rw16.reverse,rfl,?_,hlp,rfl,fun y=>List.mem_reverse,b3.same (ao hl _),(x2.trans x3).trans (SameX.of (ao hl _))⟩
   rw[ae,List.map_reverse]
  ·exact⟨lw,rw16,rfl,lw3,hlwp,rfl,fun y=>Iff.rfl,b3,x2.trans x3⟩
 rintro σ2 H3 ⟨l,xs,rfl,l3,hlp,xl,xm,b3,x3⟩
 obtain⟨m,am,m0,m1⟩:∃ m:Int,atI [V.int 1,.int 3,.int 1001,.int 1001] kd=some (.int m)/\0<m/\m<=1001:=by
  rcases(by lia:kd=0\/kd=1\/kd=2\/kd=3) with rfl | rfl | rfl | rfl
  ·exact⟨1,rfl,by decide,by decide⟩
  ·exact⟨3,rfl,by decide,by decide⟩
  ·exact⟨1001,rfl,by decide,by decide⟩
  ·exact⟨1001,rfl,by decide,by decide⟩
 refine⟨(by show 4<=sizeLine; decide),fun lm hlm=>⟨_,rfl,lm,_,_,_,rfl,rfl,SqL.of ae,am,?_⟩⟩
 have sm:=ao hlm (.lst [V.int 1,.int 3,.int 1001,.int 1001])
 have l4:=sm _ _ l3
 have b4:=b3.same sm
 have x4:=x3.trans (SameX.of sm)
 generalize upd H3 lm (.lst [V.int 1,.int 3,.int 1001,.int 1001])=H4 at l4 b4 x4 ⊢
 refine fun t ht=>?_
 have htp:t≠p:=fun e=>by obtain⟨r1,r2,hb⟩:=b4; rw[e,hb] at ht; cases ht
 have htH:H t=none:=frX b4 x4 ht
 have s5:=ao ht (.dK [])
 have l5:=s5 _ _ l4
 refine⟨_,rfl,l,rfl,⟨_,SqL.of l5⟩,df (xs:=xs.map V.str) (fun i σ HI=>∃ kvs x5,σ=[some (.ref p),some (.int kd),some (.ref l),some (.int m),some (.ref t),x5]/\HI t=some (.dK kvs)/\HI l=some (.lst (xs.map V.str))/\Tb (2*i) kvs/\(∀ y∈xs.take i,PrOk (cR kvs (.inr y)))/\Bx HI p/\SameX p H HI) ⟨[],_,rfl,ae,l5,⟨Nat.le_refl _,fun _ h=>nomatch h⟩,(fun _ h=>nomatch h),b4.same s5,x4.trans (SameX.of s5)⟩ (fun i σ HI _ ⟨_,_,_,_,lI,_⟩=>SqL.of lI) ?_ ?_⟩
 ·rintro i y σ HI hy ⟨kvs,x5,rfl,tI,lI,tb,al,bI,xI⟩
  rw[List.getElem?_map] at hy
  obtain⟨z,hz,rfl⟩:=Option.map_eq_some_iff.mp hy
  have hi:i<16:=by have:=(List.getElem?_eq_some_iff.mp hz).1; lia
  have hzm:z∈rw16:=(xm z).mp (mem_of_getElem? hz)
  have tz:=tx_rw z hzm
  refine⟨_,rfl,_,rfl,p,m,rfl,bI,m0,by lia,fun d H6 d0 d1 b6 x6=>?_⟩
  have t6:=x6 _ _ htp tI
  have l6:=x6 _ _ hlp lI
  have kl:kvs.length<sizeLine:=Nat.lt_of_le_of_lt tb.ln (Nat.lt_of_lt_of_le (show 2*i<100 by lia) (by decide))
  refine⟨_,rfl,_,rfl,t,_,rfl,sq t6 kl,?_⟩
  have hlt:l≠t:=fun e=>by rw[e,t6] at l6; cases l6
  have nx7:∀ (kv2:List (Key×V)) (HJ:Hp),HJ t=some (.dK kv2)->HJ l=some (.lst (xs.map V.str))->Bx HJ p->SameX p H HJ->Tb (2*i+2) kv2->(∀ y,PrOk (cR kvs (.inr y))->PrOk (cR kv2 (.inr y)))->PrOk (cR kv2 (.inr z))->∃ kvs x5,([some (.ref p),some (.int kd),some (.ref l),some (.int m),some (.ref t),some (.str z)]:L2.St)=[some (.ref p),some (.int kd),some (.ref l),some (.int m),some (.ref t),x5]/\HJ t=some (.dK kvs)/\HJ l=some (.lst (xs.map V.str))/\Tb (2*(i+1)) kvs/\(∀ y∈xs.take (i+1),PrOk (cR kvs (.inr y)))/\Bx HJ p/\SameX p H HJ:=fun kv2 HJ a1 a2 a3 a4 a5 a6 a7=>by
   refine⟨kv2,_,rfl,a1,a2,a5,fun y hy=>?_,a3,a4⟩
   rw[take_add_one,hz] at hy
   rcases List.mem_append.mp hy with hy | hy
   ·exact a6 y (al y hy)
   ·cases List.mem_singleton.mp hy
    exact a7
  have p1:∀ (kk:List (Key×V)) (v:Int),0<=v->v<=1000->(∀ y,PrOk (cR kk (.inr y))->PrOk (cR (dI kk (.inr z) (.int v)) (.inr y)))/\PrOk (cR (dI kk (.inr z) (.int v)) (.inr z)):=fun kk v v0 v1=>by
   refine⟨fun y hy=>?_,?_⟩
   ·rw[ij]
    split
    ·exact⟨v,rfl,v0,v1⟩
    ·exact hy
   ·rw[ij,if_pos rfl]
    exact⟨v,rfl,v0,v1⟩
  have b7:Bx (upd H6 t (.dK (dI kvs (.inr z) (.int d)))) p:=by
   obtain⟨r1,r2,hb⟩:=b6
   exact⟨r1,r2,by rw[au (Ne.symm htp)]; exact hb⟩
  have x7:SameX p H (upd H6 t (.dK (dI kvs (.inr z) (.int d)))):=fun b o hb e=>by
   rw[au (fun e'=>by rw[e',htH] at e; cases e)]
   exact(xI.trans x6) b o hb e
  have l7:upd H6 t (.dK (dI kvs (.inr z) (.int d))) l=some (.lst (xs.map V.str)):=by rw[au hlt]; exact l6
  have t7:upd H6 t (.dK (dI kvs (.inr z) (.int d))) t=some (.dK (dI kvs (.inr z) (.int d))):=ae
  have tb7:Tb (2*i+1) (dI kvs (.inr z) (.int d)):=tb.put tz (qr (by lia) (by lia))
  have ok7:=p1 kvs d d0 (by lia)
  generalize upd H6 t (.dK (dI kvs (.inr z) (.int d)))=H7 at b7 x7 l7 t7 ⊢
  generalize dI kvs (.inr z) (.int d)=kv7 at t7 tb7 ok7
  have fin:∀ HJ,Same H7 HJ->∃ kvs x5,([some (.ref p),some (.int kd),some (.ref l),some (.int m),some (.ref t),some (.str z)]:L2.St)=[some (.ref p),some (.int kd),some (.ref l),some (.int m),some (.ref t),x5]/\HJ t=some (.dK kvs)/\HJ l=some (.lst (xs.map V.str))/\Tb (2*(i+1)) kvs/\(∀ y∈xs.take (i+1),PrOk (cR kvs (.inr y)))/\Bx HJ p/\SameX p H HJ:=fun HJ sJ=>nx7 kv7 HJ (sJ _ _ t7) (sJ _ _ l7) (b7.same sJ) (x7.trans (SameX.of sJ)) (tb7.le (by lia)) ok7.1 ok7.2
  refine⟨_,rfl,rfl,_,rfl,?_⟩
  by_cases c2:V.int kd=V.int 2
  ·refine jd c2 ⟨_,rfl,(by show 3<=sizeLine; decide),fun l8 h8=>⟨l8,_,rfl,.inl (SqL.of ae),rfl,rfl,_,rfl,?_⟩⟩
   have s8:=ao h8 (.lst [V.str "set",.str "copy",.str "right"])
   cases inV (.str z) [V.str "set",.str "copy",.str "right"] with
   | false=>exact db (fin _ s8)
   | true =>
    have t8:=s8 _ _ t7
    have l8':=s8 _ _ l7
    have b8:=b7.same s8
    have x8:=x7.trans (SameX.of s8)
    generalize upd H7 l8 (.lst [V.str "set",.str "copy",.str "right"])=H8 at t8 l8' b8 x8 ⊢
    refine iteT ⟨_,rfl,_,rfl,t,_,rfl,sq t8 (Nat.lt_of_le_of_lt tb7.ln (Nat.lt_of_lt_of_le (show 2*i+1<100 by lia) (by decide))),?_⟩
    have ok9:=p1 kv7 0 (by decide) (by decide)
    refine nx7 (dI kv7 (.inr z) (.int 0)) _ ae (by rw[au hlt]; exact l8') ?_ (fun b o hb e=>?_) (tb7.put tz (qr (by decide) (by decide))) (fun y hy=>ok9.1 y (ok7.1 y hy)) ok9.2
    ·obtain⟨r1,r2,hb⟩:=b8
     exact⟨r1,r2,by rw[au (Ne.symm htp)]; exact hb⟩
    ·rw[au (fun e'=>by rw[e',htH] at e; cases e)]
     exact x8 b o hb e
  ·refine bB c2 ?_
   exact db (fin _ (Same.refl _))
 ·rintro σ HI ⟨kvs,x5,rfl,tI,lI,tb,al,bI,xI⟩
  have g:GoodD kvs:=fun y hy=>al y (by rw[length_map,take_length]; exact(xm y).mpr hy)
  rw[length_map,xl] at tb
  refine⟨fun σ2 HZ=>∃ kv2 x5,σ2=[some (.ref p),some (.int kd),some (.ref l),some (.int m),some (.ref t),x5]/\HZ t=some (.dK kv2)/\GoodD kv2/\Tb 40 kv2/\Bx HZ p/\SameX p H HZ,?_,?_⟩
  ·walk_at "o"; intro d H6 d0 d1 b6 x6
   have t6:=x6 _ _ htp tI
   walk_at "o"
   walk_at "c" <;> intro c3
   ·refine⟨_,rfl,t,_,rfl,sq t6 (Nat.lt_of_le_of_lt tb.ln (by decide)),?_⟩
    refine⟨dI kvs (.inr "more") (.str "else"),_,rfl,ae,g.more (by decide +kernel),(tb.put (x:="more") ⟨by decide +kernel,by decide +kernel⟩ (.inr (.inr (.inr ⟨"else",rfl,by decide +kernel,by decide +kernel⟩)))).le (by decide),?_,fun b o hb e=>?_⟩
    ·obtain⟨r1,r2,hb⟩:=b6
     exact⟨r1,r2,by rw[au (Ne.symm htp)]; exact hb⟩
    ·rw[au (fun e'=>by rw[e',htH] at e; cases e)]
     exact(xI.trans x6) b o hb e
   ·exact⟨kvs,_,rfl,t6,g,tb.le (by decide),b6,xI.trans x6⟩
  rintro σ2 HZ ⟨kv2,x6,rfl,tZ,gZ,tbZ,bZ,xZ⟩
  exact⟨_,rfl,q t kv2 HZ htH tZ gZ tbZ bZ xZ⟩
theorem Txt.tyS {K:Frag}{mg:Str->Option Value}{c:Ad}{H:Hp}{x:Addr}{sd:SD}(T:Txt K mg c) (o:SFO c H x sd):TyOf K H (.ref x) (.ref (sOf c sd.ix)):=by
 cases sd with
 | cut f k=>obtain⟨dx,h⟩:=o; exact TyOf.ins h T.cl_Cutting T.kf_dc_Cutting T.kf_og T.kf_ot T.kf_mo_Cutting
 | turn kd e f t=>obtain⟨dx,y,h,_⟩:=o; exact TyOf.ins h T.cl_Turned T.kf_dc_Turned T.kf_og T.kf_ot T.kf_mo_Turned
theorem Txt.isS {K:Frag}{mg:Str->Option Value}{c:Ad}(T:Txt K mg c) (sd:SD):kitOne K (.ref (sOf c sd.ix)) (.ref c.SignedForm)=some true:=by
 cases sd with
 | cut f k=>exact jv T.kf_kc_SignedForm T.kf_kt_SignedForm T.kf_m_Cutting_SignedForm
 | turn kd e f t=>exact jv T.kf_kc_SignedForm T.kf_kt_SignedForm T.kf_m_Turned_SignedForm
theorem SFO.ob2 {c:Ad}{H:Hp}{x:Addr}{sd:SD}(o:SFO c H x sd):∃ dx fs,H x=some (.ins (sOf c sd.ix) dx fs)/\fs.lookup ("told":Str)=none/\fs.lookup ("row_list":Str)=none:=by
 cases sd with
 | cut f k=>obtain⟨dx,h⟩:=o; exact⟨dx,_,h,rfl,rfl⟩
 | turn kd e f t=>obtain⟨dx,y,h,_⟩:=o; exact⟨dx,_,h,rfl,rfl⟩
theorem hu2 {A:Around}{k:Nat}(hr:Room k A):A.units+1+1<cLine:=by have:=hr.un; lia
theorem jL {f:Addr}{fd:FuncData}(F:Fun K "told" "Cutting.told" dE f fd) (T:Txt K mg c)  (MW:MHas P w K mg base 1 c.Cutting "word" ["self"] (rb 0)):FnOk P w K mg base CX0 3 f fd ["self"] (jn c 0):=by
 refine F.ok jE (fun vs H Q E h=>?_) (fun cdv A outer s H vs Q E hr h=>?_)
 ·obtain⟨x,sd,rfl,_⟩:=h
  rfl
 obtain⟨x,sd,rfl,ix,fo,ok,q⟩:=h
 refine⟨_,(aj (av (bp (aa (bt (k:=1) (pv 0) (hr.mono (by lia))) (aa (aZ (pv 0) rfl) (aa (aZ (pv 0) rfl) ah)))))),?_⟩
 cases sd with
 | turn=>cases ix
 | cut f k =>
  obtain⟨dx,hx⟩:=fo
  exact⟨_,rfl,x,_,dx,_,_,_,rfl,hx,rfl,MW,x,rfl,_,rfl,x,_,dx,_,_,rfl,hx,T.cl_Cutting,T.na_Cutting_factor,rfl,_,rfl,x,_,dx,_,_,rfl,hx,T.cl_Cutting,T.na_Cutting_shift,rfl,(by show 3<=sizeLine; decide),fun r hr'=>q r _ hr' ae (ao hr' _)⟩
theorem kL {f:Addr}{fd:FuncData}(F:Fun K "told" "Turned.told" d5 f fd) (T:Txt K mg c)  (MW:MHas P w K mg base 1 c.Turned "word" ["self"] (rb 1)) (MT:∀ i,i<5->MHas P w K mg base 2 (fOf c i) "told" ["self"] (eg c i)):FnOk P w K mg base CX0 3 f fd ["self"] (jn c 1):=by
 refine F.ok kT (fun vs H Q E h=>?_) (fun cdv A outer s H vs Q E hr h=>?_)
 ·obtain⟨x,sd,rfl,_⟩:=h
  rfl
 obtain⟨x,sd,rfl,ix,fo,ok,q⟩:=h
 refine⟨_,(aj (av (bp (aa (bt (k:=1) (pv 0) (hr.mono (by lia))) (aa (bt (k:=2) (aZ (pv 0) rfl) (hr.mono (by lia))) ah))))),?_⟩
 cases sd with
 | cut=>cases ix
 | turn kd e f t =>
  obtain⟨dx,y,hx,dy,hy⟩:=fo
  have k5:kd<5:=Fm.k ok
  refine⟨_,rfl,x,_,dx,_,_,_,rfl,hx,rfl,MW,x,rfl,_,rfl,x,_,dx,_,_,rfl,hx,T.cl_Turned,T.na_Turned_form,rfl,y,_,dy,_,_,_,rfl,hy,fl_told,MT kd k5,y,e,f,t,rfl,⟨dy,hy⟩,fun u H' hu h' s'=>⟨(by show 2<=sizeLine; decide),fun r hr'=>?_⟩⟩
  have sr:=ao hr' (.tup [.str "turned",.ref u])
  exact q r _ (s'.free hr') ⟨u,ae,sr _ _ h'⟩ (s'.trans sr)
theorem fO {f:Addr}{fd:FuncData}(F:Fun K "row_list" "Cutting.row_list" cm f fd) (T:Txt K mg c) :FnOk P w K mg base CX0 3 f fd ["self"] (spRL c 0):=by
 refine F.ok sc_Cutting_row_list (fun vs H Q E h=>?_) (fun cdv A outer s H vs Q E hr h=>?_)
 ·obtain⟨x,sd,rfl,_⟩:=h
  rfl
 obtain⟨x,sd,rfl,ix,fo,ok,q⟩:=h
 refine⟨_,(af (ax (i:=1) sc_Cutting_row_list.nd rfl (Or.inl rfl) (bu (dM aD (dM aD (dM aD (dM aD (dM aD (dM aD ah))))))))
  (bn (aN (aA o9 (aZ (pv 0) rfl) ag (aI _))
   (aj (aK (cN PySem.F.plainAttrs_list PySem.F.slot_list_append PySem.F.type_list_append aP (pv 1) (aa aD ah))))
   aw)
  (af (aK (cN PySem.F.plainAttrs_list PySem.F.slot_list_append PySem.F.type_list_append aP (pv 1) (aa aD ah)))
  (aj (av (pv 1)))))),?_⟩
 cases sd with
 | turn=>cases ix
 | cut f k =>
  obtain⟨dx,hx⟩:=fo
  refine⟨(by show 6<=sizeLine; decide),fun l hl=>?_⟩
  have sl:=ao hl (.lst ((["set","high","right","gap","and","gap"]:List Str).map V.str))
  have l1:upd H l (.lst ((["set","high","right","gap","and","gap"]:List Str).map V.str)) l=some (.lst ((["set","high","right","gap","and","gap"]:List Str).map V.str)):=ae
  refine⟨fun σ2 HZ=>σ2=[some (.ref x),some (.ref l)]/\HZ l=some (.lst (((["set","high","right","gap","and","gap"]:List Str)++(if k=0 then ([]:List Str) else ["slide"])).map V.str))/\Same H HZ,?_,?_⟩
  ·refine⟨_,rfl,x,_,dx,_,_,rfl,sl _ _ hx,T.cl_Cutting,T.na_Cutting_shift,rfl,rfl,_,rfl,?_⟩
   walk_at "c" <;> intro c0
   ·refine⟨_,rfl,.inl ⟨rfl,_,SqL.of l1⟩,l,_,_,rfl,rfl,l1,(by show 6<sizeLine; decide),rfl,?_,Same.updL sl hl⟩
    rw[ae,if_neg c0,map_append]
    rfl
   ·refine⟨rfl,?_,sl⟩
    rw[if_pos c0,append_nil]
    exact l1
  rintro σ2 HZ ⟨rfl,lZ,sZ⟩
  refine⟨_,rfl,.inl ⟨rfl,_,SqL.of lZ⟩,l,_,_,rfl,rfl,lZ,?_,_,rfl,q l _ hl ?_ (Same.updL sZ hl)⟩
  ·rw[length_map]
   have:((["set","high","right","gap","and","gap"]:List Str)++(if k=0 then ([]:List Str) else ["slide"])).length<=7:=by split <;> decide
   exact Nat.lt_of_le_of_lt this (by decide)
  ·rw[ae]
   show some (HO.lst (_++_))=some (.lst (((["set","high","right","gap","and","gap"]:List Str)++((if k=0 then ([]:List Str) else ["slide"])++(["sum"]:List Str))).map V.str))
   simp only[map_append,append_assoc]
   rfl
theorem gG {f:Addr}{fd:FuncData}(F:Fun K "row_list" "Turned.row_list" cD f fd) (T:Txt K mg c) (H_form_words:Has P w K mg base 2 "form_words" ["form"] (spFW c)):FnOk P w K mg base CX0 3 f fd ["self"] (spRL c 1):=by
 refine F.ok g9 (fun vs H Q E h=>?_) (fun cdv A outer s H vs Q E hr h=>?_)
 ·obtain⟨x,sd,rfl,_⟩:=h
  rfl
 obtain⟨x,sd,rfl,ix,fo,ok,q⟩:=h
 refine⟨_,(aj (av (aq lO (aq lO (bu (aa aD (aa aD (aa aD (aa aD ah))))) (aH H_form_words (hr.mono (by lia)) rfl (aa (aZ (pv 0) rfl) ah))) (bu (aa aD (aa aD ah)))))),?_⟩
 cases sd with
 | cut=>cases ix
 | turn kd e f t =>
  obtain⟨dx,y,hx,dy,hy⟩:=fo
  refine⟨(by show 4<=sizeLine; decide),fun l0 h0=>?_⟩
  have s0:=ao h0 (.lst ((["right","gap","unlike","gap"]:List Str).map V.str))
  have l0':upd H l0 (.lst ((["right","gap","unlike","gap"]:List Str).map V.str)) l0=some (.lst ((["right","gap","unlike","gap"]:List Str).map V.str)):=ae
  refine⟨_,rfl,x,_,dx,_,_,rfl,s0 _ _ hx,T.cl_Turned,T.na_Turned_form,rfl,y,kd,e,f,t,rfl,⟨dy,s0 _ _ hy⟩,ok,fun l1 H1 h1 l1' s1=>?_⟩
  have l6:=rD (kd:=kd) (s:=t)
  refine⟨l0,l1,_,_,rfl,rfl,SqL.of (s1 _ _ l0'),SqL.of l1',(by rw[length_map,length_map]; exact Nat.le_trans (show 4+(fw kd t).length<=10 by lia) (by decide)),fun l2 h2=>?_⟩
  have s2:=ao h2 (.lst ((["right","gap","unlike","gap"]:List Str).map V.str++(fw kd t).map V.str))
  refine⟨(by show 2<=sizeLine; decide),fun l3 h3=>?_⟩
  have s3:=ao h3 (.lst ((["unlike","gap"]:List Str).map V.str))
  refine⟨l2,l3,_,_,rfl,rfl,SqL.of (s3 _ _ ae),SqL.of ae,(by rw[length_append,length_map,length_map]; exact Nat.le_trans (show 4+(fw kd t).length+2<=12 by lia) (by decide)),fun l4 h4=>?_⟩
  have sA:=((s0.trans s1).trans s2).trans s3
  refine q l4 _ (sA.free h4) ?_ (sA.trans (ao h4 _))
  rw[ae]
  unfold sw
  rw[map_append,map_append]
  rfl
theorem jY {f:Addr}{fd:FuncData}(F:Fun K "signed_words" "signed_words" dz f fd) (T:Txt K mg c)  (MR:∀ i,i<2->MHas P w K mg base 3 (sOf c i) "row_list" ["self"] (spRL c i)):FnOk P w K mg base CX0 4 f fd ["form"] (spSWd c):=by
 refine F.ok jM (fun vs H Q E h=>?_) (fun cdv A outer s H vs Q E hr h=>?_)
 ·obtain⟨x,sd,rfl,_⟩:=h
  rfl
 obtain⟨x,sd,rfl,fo,ok,q⟩:=h
 refine⟨_,(aj (av (bt (k:=3) (pv 0) (hr.mono (by lia))))),?_⟩
 obtain⟨dx,fs,hx,_,lk⟩:=fo.ob2
 exact⟨_,rfl,x,_,dx,_,_,_,rfl,hx,lk,MR sd.ix sd.ix2,x,sd,rfl,rfl,fo,ok,q⟩
theorem QL.updS {c:Ad}{H:Hp}{l:Addr}{zs ys:List V}{ps:List Addr}{xs:List SD}(h:QL (SFO c) H ps xs) (e:H l=some (.lst zs)):QL (SFO c) (upd H l (.lst ys)) ps xs:=h.mono fun p x q=>q.updL e
theorem QL.updT {H:Hp}{l:Addr}{zs ys:List V}{ps:List Addr}{xs:List SD}(h:QL STd H ps xs) (e:H l=some (.lst zs)):QL STd (upd H l (.lst ys)) ps xs:=h.mono fun p x q=>q.updL e
theorem fk {f:Addr}{fd:FuncData}(F:Fun K "signed_candidates" "signed_candidates" bN f fd) (T:Txt K mg c) (H_need_signed_divisor:Has P w K mg base 4 "need_signed_divisor" ["width","d"] jg) (H_candidates:Has P w K mg base 8 "candidates" ["width","d"] (rC c)) (C_Turned:CHas P w K mg base 1 c.Turned "Turned" ["self","form"] (spIT c)) (C_Cutting:CHas P w K mg base 4 c.Cutting "Cutting" ["self","factor","shift"] (spIC c)):FnOk P w K mg base CX0 9 f fd ["width","d"] (oB c):=by
 refine F.ok sc_signed_candidates (fun vs H Q E h=>?_) (fun cdv A outer s H vs Q E hr h=>?_)
 ·obtain⟨i,d,rfl,_⟩:=h
  rfl
 obtain⟨i,d,rfl,h1,h2,d1,d2,q⟩:=h
 refine⟨_,(af (aK (aH H_need_signed_divisor (hr.mono (by lia)) rfl (aa (pv 0) (aa (pv 1) ah))))
  (af (ax (i:=2) sc_signed_candidates.nd rfl (Or.inl rfl) (bu ah))
  (af (cu PassesOwn.never rfl (cK rfl T.n_range (aa (aq aQ (fM PySem.F.plainAttrs_int PySem.F.slot_int_bit_length PySem.F.type_int_bit_length dO (aq aL (pv 1) ag)) ag) ah)) (be (i:=3) sc_signed_candidates.nd rfl (Or.inl rfl))
   (af (ax (i:=4) sc_signed_candidates.nd rfl (Or.inl rfl) (aq aQ (aq bi (aq br ag (aq aQ (pv 0) (pv 3))) (pv 1)) ag))
   (aj (aN (aA eD (pv 4) (aq br ag (pv 0)) (aI _))
    (aj (aK (cN PySem.F.plainAttrs_list PySem.F.slot_list_append PySem.F.type_list_append aP (pv 2) (aa (j5 C_Cutting (hr.mono (by lia)) rfl (aa (pv 4) (aa (pv 3) ah))) ah))))
    aw))))
  (af (aK (cN PySem.F.plainAttrs_list PySem.F.slot_list_extend PySem.F.type_list_extend e8 (pv 2) (aa (qe rfl (by first | rfl | with_unfolding_all rfl) (by decide +kernel) rfl (by decide +kernel) rfl (cr (aH H_candidates (hr.mono (by lia)) rfl (aa (pv 0) (aa (pv 1) ah)))) (fun C s2 H2 fp=>(j5 C_Turned (hr.mono (by lia)) rfl (aa (pv 0) ah)))) ah)))
  (aj (av (pv 2))))))),?_⟩
 have pb:=aX h1 h2
 obtain⟨d3,e2⟩:=eK h1 d2
 have lb:=(fE h2 d1 d3).1
 have L100:(1000:Nat)<=sizeLine:=by decide
 refine⟨_,rfl,_,rfl,i,d,rfl,h1,h2,d1,d2,(by show 0<=sizeLine; decide),fun l hl=>?_⟩
 refine⟨_,rfl,_,_,rfl,rfl,jS,_,rfl,rfl,_,_,rfl,rfl,_,rfl,(by lia),(by lia),cL (fun n σ H2=>∃ y1 y2:Option V,σ=[some (.int i),some (.int d),some (.ref l),y1,y2]/\(∃ ps:List Addr,H2 l=some (.lst (ps.map V.ref))/\QL (SFO c) H2 ps (cCu (1*2^i.toNat) d n))/\Same H H2) ⟨_,_,rfl,⟨[],ae,QL.nil⟩,ao hl _⟩ ?_ ?_⟩
 ·rintro n σ H2 hn ⟨y1,y2,rfl,⟨ps,hp,pl⟩,sm⟩
  have ep:(1:Int)*2^(i+(0+(n:Int))).toNat=1*2^i.toNat*2^n:=by rw[show (i+(0+(n:Int))).toNat=i.toNat+n by lia,pow_add,Int.mul_assoc]
  have ub:=me h1 h2 (show n<=32 by lia)
  have fl0:0<=(1:Int)*2^i.toNat*2^n/d:=ediv_nonneg (by lia) (by lia)
  walk_at "o"
  rw[ep]
  have cl:=jO (1*2^i.toNat) d n
  rw[<- pl.1] at cl
  walk_at "c" <;> intro c0
  ·refine⟨_,rfl,.inl ⟨rfl,_,SqL.of hp⟩,_,rfl,_,rfl,fun x dx hx hdx hne=>⟨x,dx,_,_,rfl,ae,by lia,by lia,by lia,by lia,fun H' s' fo=>⟨rfl,?_⟩⟩⟩
   have sM:=cY hx hdx s'
   refine⟨l,_,_,rfl,rfl,sM _ _ hp,(by rw[length_map]; lia),_,_,rfl,⟨ps++[x],(by rw[ae,map_append]; rfl),?_⟩,Same.updL (sm.trans sM) hl⟩
   rw[jb,if_pos c0]
   have fx:SFO c H' x (.cut (1*2^i.toNat*2^n/d+1) (n:Int)):=by
    have e0:(0:Int)+(n:Int)=n:=by lia
    rw[e0] at fo
    exact fo
   exact((pl.mono fun p x q=>q.same sM).snoc fx).updS (sM _ _ hp)
  ·refine⟨_,_,rfl,⟨ps,hp,?_⟩,sm⟩
   rw[jb,if_neg c0,append_nil]
   exact pl
 ·rintro σ H2 ⟨y1,y2,rfl,⟨ps,hp,pl⟩,sm⟩
  rw[show ((intBits (d-1):Int)+1).toNat=intBits (d-1)+1 by lia] at pl
  refine⟨_,rfl,.inl ⟨rfl,_,SqL.of hp⟩,?_⟩
  refine⟨_,rfl,_,rfl,i,d,rfl,h1,h2,d1,d3,fun t b H3 tw b0 ⟨qs,hq,ql⟩ s3=>⟨b,rfl,⟨_,SqL.of hq⟩,fun D hD=>?_⟩⟩
  have fm:=tm h1 h2 d1 d3 tw
  have ln:=(lW h1 h2 d1 d3 tw).1
  have qn:=ql.1
  refine eW (xs:=qs.map V.ref) (fun n HJ=>∃ rs:List Addr,HJ D=some (.lst (rs.map V.ref))/\QL (SFO c) HJ rs (((kY (1*2^i.toNat) d t).take n).map toS)/\Same H3 HJ) ⟨[],ae,QL.nil,ao hD _⟩ ?_ ?_ ?_
  ·rintro n HJ hn ⟨rs,hrr,rl,sJ⟩
   exact SqL.of (sJ _ _ hq)
  ·rintro n v HJ hv ⟨rs,hrr,rl,sJ⟩
   rw[List.getElem?_map] at hv
   cases e1:qs[n]? with
   | none=>rw[e1] at hv; cases hv
   | some p =>
    rw[e1] at hv
    cases hv
    have np:=(List.getElem?_eq_some_iff.mp e1).1
    obtain⟨x,ex⟩:∃ x,(kY (1*2^i.toNat) d t)[n]?=some x:=⟨_,List.getElem?_eq_getElem (by rw[<- ql.1]; exact np)⟩
    have k5:=(fm x (mem_of_getElem? ex)).1.k
    have fx:=(ql.2 n p x e1 ex).same sJ
    have rn:=rl.1
    rw[length_map,length_take] at rn
    refine⟨_,rfl,fun y dy hy hdy hne=>?_⟩
    have npy:p≠y:=fun z=>by obtain⟨dx,h⟩:=fx; rw[z,hy] at h; cases h
    have npd:p≠dy:=fun z=>by obtain⟨dx,h⟩:=fx; rw[z,hdy] at h; cases h
    refine⟨y,dy,p,x.kd,x.e,x.f,x.s,rfl,ae,?_,k5,npy,fun H' s' fo=>⟨rfl,?_⟩⟩
    ·obtain⟨dx,h⟩:=fx
     exact⟨dx,by rw[au npy,au npd]; exact h⟩
    have sM:=cY hy hdy s'
    refine⟨_,sM _ _ hrr,(by rw[length_map]; lia),(qs.map V.ref).length-(n+1),(by rw[length_map]; lia),rfl,(by rw[length_map]; lia),rs++[y],(by rw[ae,map_append]; rfl),?_,Same.updL (sJ.trans sM) hD⟩
    rw[List.take_succ,ex,map_append]
    exact((rl.mono fun _ _ q=>q.same sM).snoc fo).updS (sM _ _ hrr)
  ·rintro HJ ⟨rs,hrr,rl,sJ⟩
   rw[length_map,ql.1,take_length] at rl
   have s2J:=s3.trans sJ
   have rn:=rl.1
   rw[length_map] at rn
   have cl:=jO (1*2^i.toNat) d (intBits (d-1)+1)
   rw[<- pl.1] at cl
   refine⟨l,D,_,_,rfl,rfl,s2J _ _ hp,hrr,(by rw[length_map,length_map]; lia),_,rfl,q t l _ tw hl ⟨ps++rs,(by rw[ae,map_append]),?_⟩ (Same.updL (sm.trans s2J) hl)⟩
   exact((pl.mono fun _ _ q=>q.same s2J).append rl).updS (s2J _ _ hp)
theorem gW {f:Addr}{fd:FuncData}(F:Fun K "_law_all_signed" "_law_all_signed" cG f fd) (T:Txt K mg c) (H__law_all:Has P w K mg base 2 "_law_all" ["_law_width","_law_d"] ss):FnOk P w K mg base CX0 3 f fd ["_law_width","_law_d"] oE:=by
 refine F.ok sc__law_all_signed (fun vs H Q E h=>?_) (fun cdv A outer s H vs Q E hr h=>?_)
 ·obtain⟨i,d,rfl,_⟩:=h
  rfl
 obtain⟨i,d,rfl,h1,h2,d1,d2,q⟩:=h
 refine⟨_,(af (ax (i:=2) sc__law_all_signed.nd rfl (Or.inl rfl) (bu ah))
  (af (cu PassesOwn.never rfl (cK rfl T.n_range (aa (aq aQ (fM PySem.F.plainAttrs_int PySem.F.slot_int_bit_length PySem.F.type_int_bit_length dO (aq aL (pv 1) ag)) ag) ah)) (be (i:=3) sc__law_all_signed.nd rfl (Or.inl rfl))
   (af (ax (i:=4) sc__law_all_signed.nd rfl (Or.inl rfl) (aq aQ (aq bi (aq br ag (aq aQ (pv 0) (pv 3))) (pv 1)) ag))
   (aj (aN (aA eD (pv 4) (aq br ag (pv 0)) (aI _))
    (aj (aK (cN PySem.F.plainAttrs_list PySem.F.slot_list_append PySem.F.type_list_append aP (pv 2) (aa (bp (aa aD (aa (pv 4) (aa (pv 3) ah)))) ah))))
    aw))))
  (af (cu PassesOwn.never rfl (cr (aH H__law_all (hr.mono (by lia)) rfl (aa (pv 0) (aa (pv 1) ah)))) (be (i:=5) sc__law_all_signed.nd rfl (Or.inl rfl))
   (aj (aK (cN PySem.F.plainAttrs_list PySem.F.slot_list_append PySem.F.type_list_append aP (pv 2) (aa (bp (aa aD (aa (pv 5) ah))) ah)))))
  (aj (av (pv 2)))))),?_⟩
 have pb:=aX h1 h2
 obtain⟨d3,e2⟩:=eK h1 d2
 have lb:=(fE h2 d1 d3).1
 have L100:(1000:Nat)<=sizeLine:=by decide
 refine⟨(by show 0<=sizeLine; decide),fun l hl=>?_⟩
 refine⟨_,rfl,_,_,rfl,rfl,jS,_,rfl,rfl,_,_,rfl,rfl,_,rfl,(by lia),(by lia),cL (fun n σ H2=>∃ y1 y2 y3:Option V,σ=[some (.int i),some (.int d),some (.ref l),y1,y2,y3]/\(∃ ps:List Addr,H2 l=some (.lst (ps.map V.ref))/\QL STd H2 ps (cCu (1*2^i.toNat) d n))/\Same H H2) ⟨_,_,_,rfl,⟨[],ae,QL.nil⟩,ao hl _⟩ ?_ ?_⟩
 ·rintro n σ H2 hn ⟨y1,y2,y3,rfl,⟨ps,hp,pl⟩,sm⟩
  have ep:(1:Int)*2^(i+(0+(n:Int))).toNat=1*2^i.toNat*2^n:=by rw[show (i+(0+(n:Int))).toNat=i.toNat+n by lia,pow_add,Int.mul_assoc]
  have ub:=me h1 h2 (show n<=32 by lia)
  have fl0:0<=(1:Int)*2^i.toNat*2^n/d:=ediv_nonneg (by lia) (by lia)
  walk_at "o"
  rw[ep]
  have cl:=jO (1*2^i.toNat) d n
  rw[<- pl.1] at cl
  walk_at "c" <;> intro c0
  ·refine⟨_,rfl,.inl ⟨rfl,_,SqL.of hp⟩,_,rfl,_,rfl,(by show 3<=sizeLine; decide),fun r hr'=>?_⟩
   have e0:(0:Int)+(n:Int)=n:=by lia
   have sM:=ao hr' (.tup [.str "cutting",.int (1*2^i.toNat*2^n/d+1),.int (0+(n:Int))])
   refine⟨l,_,_,rfl,rfl,sM _ _ hp,(by rw[length_map]; lia),_,_,_,rfl,⟨ps++[r],(by rw[ae,map_append]; rfl),?_⟩,Same.updL (sm.trans sM) hl⟩
   rw[jb,if_pos c0]
   have fx:STd (upd H2 r (.tup [.str "cutting",.int (1*2^i.toNat*2^n/d+1),.int (0+(n:Int))])) r (.cut (1*2^i.toNat*2^n/d+1) (n:Int)):=by
    show upd H2 r _ r=_
    rw[ae,e0]
   exact((pl.mono fun p x q=>q.same sM).snoc fx).updT (sM _ _ hp)
  ·refine⟨_,_,_,rfl,⟨ps,hp,?_⟩,sm⟩
   rw[jb,if_neg c0,append_nil]
   exact pl
 ·rintro σ H2 ⟨y1,y2,y3,rfl,⟨ps,hp,pl⟩,sm⟩
  rw[show ((intBits (d-1):Int)+1).toNat=intBits (d-1)+1 by lia] at pl
  refine⟨_,rfl,_,rfl,i,d,rfl,h1,h2,d1,d3,fun t b H3 tw b0 ⟨qs,hq,ql⟩ s3=>?_⟩
  have ln:=(lW h1 h2 d1 d3 tw).1
  have qn:=ql.1
  have cl:=jO (1*2^i.toNat) d (intBits (d-1)+1)
  have hbl:b≠l:=fun z=>by rw[z,hp] at b0; cases b0
  refine⟨b,rfl,⟨_,SqL.of hq⟩,df (xs:=qs.map V.ref) (fun n σ HJ=>∃ y1 y2 y3:Option V,σ=[some (.int i),some (.int d),some (.ref l),y1,y2,y3]/\(∃ rs:List Addr,HJ l=some (.lst (rs.map V.ref))/\QL STd HJ rs (cCu (1*2^i.toNat) d (intBits (d-1)+1)++((kY (1*2^i.toNat) d t).take n).map toS))/\HJ b=some (.lst (qs.map V.ref))/\(∀ (n:Nat) p x,qs[n]?=some p->(kY (1*2^i.toNat) d t)[n]?=some x->TR HJ p x)/\Same H HJ) ⟨_,_,_,rfl,⟨ps,s3 _ _ hp,(by rw[List.take_zero,List.map_nil,append_nil]; exact pl.mono fun _ _ q=>q.same s3)⟩,hq,ql.2,sm.trans s3⟩ (fun n σ HJ _ ⟨_,_,_,_,_,hb,_⟩=>SqL.of hb) ?_ ?_⟩
  ·rintro n v σ HJ hv ⟨y1,y2,y3,rfl,⟨rs,hrr,rl⟩,hb,tr,sJ⟩
   rw[List.getElem?_map] at hv
   cases e1:qs[n]? with
   | none=>rw[e1] at hv; cases hv
   | some p =>
    rw[e1] at hv
    cases hv
    have np:=(List.getElem?_eq_some_iff.mp e1).1
    obtain⟨x,ex⟩:∃ x,(kY (1*2^i.toNat) d t)[n]?=some x:=⟨_,List.getElem?_eq_getElem (by rw[<- ql.1]; exact np)⟩
    have tx:=tr n p x e1 ex
    have rn:=rl.1
    rw[length_append,length_map,length_take] at rn
    refine⟨_,rfl,.inl ⟨rfl,_,SqL.of hrr⟩,_,rfl,(by show 2<=sizeLine; decide),fun r hr'=>?_⟩
    have sM:=ao hr' (.tup [.str "turned",.ref p])
    refine⟨l,_,_,rfl,rfl,sM _ _ hrr,(by rw[length_map]; lia),_,_,_,rfl,⟨rs++[r],(by rw[ae,map_append]; rfl),?_⟩,(by rw[au hbl]; exact sM _ _ hb),fun m p' x' a1 a2=>?_,Same.updL (sJ.trans sM) hl⟩
    ·rw[List.take_succ,ex,map_append,<- append_assoc]
     have fx:STd (upd HJ r (.tup [.str "turned",.ref p])) r (toS x):=⟨p,ae,sM _ _ tx⟩
     exact((rl.mono fun _ _ q=>q.same sM).snoc fx).updT (sM _ _ hrr)
    ·have:=sM _ _ (tr m p' x' a1 a2)
     show upd _ l _ p'=_
     rw[au (fun z=>by rw[z,sM _ _ hrr] at this; cases this)]
     exact this
  ·rintro σ HJ ⟨y1,y2,y3,rfl,⟨rs,hrr,rl⟩,hb,tr,sJ⟩
   rw[length_map,ql.1,take_length] at rl
   exact⟨_,rfl,q t l HJ tw hl ⟨rs,hrr,rl⟩ sJ⟩
theorem gr {f:Addr}{fd:FuncData}(F:Fun K "_law_made_signed" "_law_made_signed" bW f fd) (T:Txt K mg c) (H__law_made_of:Has P w K mg base 1 "_law_made_of" ["_law_told"] spMO):FnOk P w K mg base CX0 2 f fd ["_law_told"] spMS:=by
 refine F.ok gB (fun vs H Q E h=>?_) (fun cdv A outer s H vs Q E hr h=>?_)
 ·obtain⟨r,sd,rfl,_⟩:=h
  rfl
 obtain⟨r,sd,rfl,st,ok,q⟩:=h
 refine⟨_,(af (aN (aA dA (aY aU (pv 0) ag (fun _ _=>rfl)) aD (aI _))
   (aj (av (aq lO (aq lO (bu (aa aD (aa aD (aa aD (aa aD ah))))) (aH H__law_made_of (hr.mono (by lia)) rfl (aa (aY aU (pv 0) ag (fun _ _=>rfl)) ah))) (bu (aa aD (aa aD ah))))))
   aw)
  (af (aN (aA kK (aY aU (pv 0) ag (fun _ _=>rfl)) ag (aI _))
   (aj (av (slO (gf (aM aD (aM aD (aM aD (aM aD (aM aD (aM aD (aM aD (aM aD gk))))))))))))
   aw)
  (aj (av (slO (gf (aM aD (aM aD (aM aD (aM aD (aM aD (aM aD (aM aD gk))))))))))))),?_⟩
 cases sd with
 | cut f k =>
  have ht:H r=some (.tup [.str "cutting",.int f,.int k]):=st
  refine⟨_,rfl,r,_,_,_,rfl,rfl,SqT.of ht,rfl,rfl,_,rfl,bB (by walk_at "n") ?_⟩
  refine⟨_,rfl,r,_,_,_,rfl,rfl,SqT.of ht,rfl,_,_,rfl,rfl,_,rfl,?_⟩
  have k0:0<=k:=ok.2.2.1
  walk_at "c" <;> intro c0
  ·refine⟨(by show 8<=sizeLine; decide),fun l hl=>q l _ hl ?_ (ao hl _)⟩
   rw[ae]
   show _=some (HO.lst (((["set","high","right","gap","and","gap"]:List Str)++((if k=0 then ([]:List Str) else ["slide"])++(["sum"]:List Str))).map V.str))
   rw[if_neg (show ¬ k=0 by lia)]
   rfl
  ·refine⟨(by show 7<=sizeLine; decide),fun l hl=>q l _ hl ?_ (ao hl _)⟩
   rw[ae]
   show _=some (HO.lst (((["set","high","right","gap","and","gap"]:List Str)++((if k=0 then ([]:List Str) else ["slide"])++(["sum"]:List Str))).map V.str))
   rw[if_pos (show k=0 by lia)]
   rfl
 | turn kd e f t =>
  obtain⟨u,ht,hu⟩:=st
  refine⟨_,rfl,r,_,_,_,rfl,rfl,SqT.of ht,rfl,rfl,_,rfl,jd rfl ?_⟩
  refine⟨(by show 4<=sizeLine; decide),fun l0 h0=>?_⟩
  have s0:=ao h0 (.lst ((["right","gap","unlike","gap"]:List Str).map V.str))
  have l0':upd H l0 (.lst ((["right","gap","unlike","gap"]:List Str).map V.str)) l0=some (.lst ((["right","gap","unlike","gap"]:List Str).map V.str)):=ae
  refine⟨_,rfl,r,_,_,_,rfl,rfl,SqT.of (s0 _ _ ht),rfl,u,kd,e,f,t,rfl,s0 _ _ hu,ok,fun l1 H1 h1 l1' s1=>?_⟩
  have l6:=rD (kd:=kd) (s:=t)
  refine⟨l0,l1,_,_,rfl,rfl,SqL.of (s1 _ _ l0'),SqL.of l1',(by rw[length_map,length_map]; exact Nat.le_trans (show 4+(fw kd t).length<=10 by lia) (by decide)),fun l2 h2=>?_⟩
  have s2:=ao h2 (.lst ((["right","gap","unlike","gap"]:List Str).map V.str++(fw kd t).map V.str))
  refine⟨(by show 2<=sizeLine; decide),fun l3 h3=>?_⟩
  have s3:=ao h3 (.lst ((["unlike","gap"]:List Str).map V.str))
  refine⟨l2,l3,_,_,rfl,rfl,SqL.of (s3 _ _ ae),SqL.of ae,(by rw[length_append,length_map,length_map]; exact Nat.le_trans (show 4+(fw kd t).length+2<=12 by lia) (by decide)),fun l4 h4=>?_⟩
  have sA:=((s0.trans s1).trans s2).trans s3
  refine q l4 _ (sA.free h4) ?_ (sA.trans (ao h4 _))
  rw[ae]
  unfold sw
  rw[map_append,map_append]
  rfl
theorem allT1 (n:Nat):(List.range n).all (fun _=>true)=true:=List.all_eq_true.mpr fun _ _=>rfl
theorem pG {K:Frag}{H:Hp}{d:Nat}{v:V}(h1:dG v=true) (h2:eqV v v=true):EqD K H d v v true:=by
 have z:=EqD.flat (K:=K) (H:=H) (d:=d) (x:=v) (y:=v) h1 h1
 rwa [h2] at z
theorem eq_str {K:Frag}{H:Hp}{d:Nat}{x:Str}:EqD K H d (.str x) (.str x) true:=pG rfl (by simp[eqV])
theorem eq_int {K:Frag}{H:Hp}{d:Nat}{x:Int}:EqD K H d (.int x) (.int x) true:=pG rfl (by simp[eqV])
theorem eq_tlv {K:Frag}{H:Hp}{kd:Nat}{e f s:Int}{p q:Addr}(hp:H p=some (.tup (tlv kd e f s))) (hq:H q=some (.tup (tlv kd e f s))):EqD K H 1 (.ref p) (.ref q) true:=by
 by_cases h:p=q
 ·subst h
  exact EqD.same
 ·have z:=EqD.tup (K:=K) (H:=H) (d:=0) (e:=fun _=>true) h (SqT.of hp) (SqT.of hq) (fun j j1 j2=>?_)
  ·rw[allT1,Bool.true_and,beq_self_eq_true] at z
   exact z
  ·obtain⟨a1,a2⟩:=eqTl kd e f s
   have fl:=List.all_eq_true.mp a2 ((tlv kd e f s).getD j .non) (by rw[getD_eq_getElem?_getD,List.getElem?_eq_getElem j1]; exact getElem_mem j1)
   refine pG fl ?_
   generalize (tlv kd e f s).getD j .non=v at fl
   cases v <;> first | (simp[eqV]; done) | rfl | cases fl
theorem iteB {b:Bool}{A B:Prop}(h:b=false) (k:B):if b=true then A else B:=by rw[h]; exact db k
theorem kO {f:Addr}{fd:FuncData}(F:Fun K "need_prices" "need_prices" dX f fd) (T:Txt K mg c) (H_is_between:Has P w K mg base 2 "is_between" ["thing","low","high"] cj):FnOk P w K mg base CX0 3 f fd ["prices"] (spNP0 c):=by
 refine F.ok sc_need_prices (fun vs H Q E h=>?_) (fun cdv A outer s H vs Q E hr h=>?_)
 ·obtain⟨a,kvs,rfl,_⟩:=h
  rfl
 obtain⟨a,kvs,rfl,h,g,qv⟩:=h
 refine⟨_,(af (aN (bj (bh (aJ bf rfl T.n_isinstance boot_isinstance (aa (pv 0) (aa (nQ rfl T.n_dict boot_dict) ah)))))
   (aj bG)
   aw)
  (af (ax (i:=1) sc_need_prices.nd rfl (Or.inl rfl) pN)
  (af (cu PassesOwn.never rfl (pi_tup (nH rfl T.g_ROW_WORDS)) (be (i:=2) sc_need_prices.nd rfl (Or.inl rfl))
   (af (ax (i:=3) sc_need_prices.nd rfl (Or.inl rfl) (pe_dget1 (iM hr) (pv 0) (pv 2) ⟨rfl,rfl,rfl,rfl⟩))
   (af (aN (bj (bh (aH H_is_between (hr.mono (by lia)) rfl (aa (pv 3) (aa ag (aa ag ah))))))
    (aj bG)
    aw)
   (aj (jz (iM hr) (pv 1) (pv 2) (pv 3) rfl)))))
  (aj (av (pv 1)))))),?_⟩
 refine⟨_,rfl,_,_,_,_,_,rfl,rfl,TyOf.dK h,oW _,_,rfl,db ?_⟩
 refine fun t ht=>⟨_,rfl,⟨_,T.q_ROW_WORDS _⟩,for_tup (xs:=rw16.map V.str) (fun i σ H2=>∃ tk x2 x3,σ=[some (.ref a),some (.ref t),x2,x3]/\H2 t=some (.dK tk)/\tk.length<=i/\(∀ y∈rw16.take i,cR tk (.inr y)=cR kvs (.inr y))/\Same H H2) ⟨[],_,_,rfl,ae,Nat.le_refl _,(fun y hy=>nomatch hy),ao ht _⟩ (fun i σ H2 _ _=>T.q_ROW_WORDS _) ?_ ?_⟩
 ·rintro i y σ H2 hy ⟨tk,x2,x3,rfl,t2,tl,al,s2⟩
  rw[List.getElem?_map] at hy
  obtain⟨z,hz,rfl⟩:=Option.map_eq_some_iff.mp hy
  have hi:i<16:=(List.getElem?_eq_some_iff.mp hz).1
  have hzm:z∈rw16:=mem_of_getElem? hz
  have h2:=s2 _ _ h
  obtain⟨n,en,n0,n1⟩:=g z hzm
  refine⟨_,rfl,a,rfl,.inl ⟨kvs,.inl h2⟩,_,rfl,_,tK h2,?_⟩
  rw[en]
  refine⟨_,rfl,n,0,1000,rfl,n0,n1,_,rfl,db ?_⟩
  refine⟨_,rfl,_,rfl,_,rfl,t,_,rfl,sq t2 (Nat.lt_of_le_of_lt tl (lt_trans hi (by decide))),?_⟩
  refine⟨_,_,_,rfl,ae,Nat.le_trans (cX tk _ _) (Nat.succ_le_succ tl),fun y hy=>?_,Same.updL s2 ht⟩
  rw[take_add_one,hz] at hy
  rw[ij]
  rcases List.mem_append.mp hy with hy | hy
  ·split
   ·next e =>
    injection e with e
    subst e
    rw[en]; rfl
   ·exact al y hy
  ·cases List.mem_singleton.mp hy
   rw[if_pos rfl,en]; rfl
 ·rintro σ H2 ⟨tk,x2,x3,rfl,t2,tl,al,s2⟩
  exact⟨_,rfl,qv t tk H2 ht t2 (fun y hy=>al y hy) s2⟩
theorem gY {f:Addr}{fd:FuncData}(F:Fun K "price_of_signed" "price_of_signed" cC f fd) (T:Txt K mg c) (H_need_prices:Has P w K mg base 3 "need_prices" ["prices"] (spNP0 c)) (H_signed_words:Has P w K mg base 4 "signed_words" ["form"] (spSWd c)):FnOk P w K mg base CX0 5 f fd ["form","prices"] (spPS0 c):=by
 refine F.ok sc_price_of_signed (fun vs H Q E h=>?_) (fun cdv A outer s H vs Q E hr h=>?_)
 ·obtain⟨x,sd,a,kvs,rfl,_⟩:=h
  rfl
 obtain⟨x,sd,a,kvs,rfl,fo,ok,ha,g,qv⟩:=h
 refine⟨_,(af (ax (i:=2) sc_price_of_signed.nd rfl (Or.inr rfl) (aH H_need_prices (hr.mono (by lia)) rfl (aa (pv 1) ah)))
  (aj (av (aJ (call_sum rfl) rfl T.n_sum boot_sum (aa (je [2] ["table"] rfl (by first | rfl | with_unfolding_all rfl) (by rfl) (by exact(List.forall_mem_cons.mpr ⟨rfl,(fun _ h=>nomatch h)⟩)) (by decide +kernel) rfl (by decide +kernel) rfl (by decide +kernel) (by exact(List.forall_mem_cons.mpr ⟨⟨by first | exact Or.inl rfl | exact Or.inr rfl,rfl⟩,(fun _ h=>nomatch h)⟩)) rfl (by rfl) (cr (aH H_signed_words (hr.mono (by lia)) rfl (aa (pv 0) ah))) (fun C s2 H2 fp=>(iQ (iM hr) (pv 1) (pv 0) (fun _ _=>rfl)))) ah))))),?_⟩
 refine⟨_,rfl,a,kvs,rfl,ha,g,fun t tk H1 ht h1 al s1=>?_⟩
 refine⟨_,rfl,x,sd,rfl,fo.same s1,ok,fun l H2 hl l2 s2=>?_⟩
 refine⟨l,rfl,⟨_,SqL.of l2⟩,fun D hD=>?_⟩
 have t2:=s2 _ _ h1
 have gat:∀ y∈sw sd,cR tk (.inr y)=some (.int (pz kvs y)):=fun y hy=>by rw[al y (qd y hy)]; exact(g.at (qd y hy)).1
 refine eW (xs:=(sw sd).map V.str) (fun i HI=>HI D=some (.lst (((sw sd).take i).map fun y=>V.int (pz kvs y)))/\Same H2 HI) ⟨ae,ao hD _⟩ (fun i HI _ ⟨_,sI⟩=>SqL.of (sI _ _ l2)) ?_ ?_
 ·rintro i y HI hy ⟨hDI,sI⟩
  rw[List.getElem?_map] at hy
  obtain⟨z,hz,rfl⟩:=Option.map_eq_some_iff.mp hy
  have hi:=(List.getElem?_eq_some_iff.mp hz).1
  have ti:=sI _ _ t2
  refine⟨_,rfl,_,rfl,t,_,rfl,(by have:=tK (y:=z) ti; rw[gat z (mem_of_getElem? hz)] at this; exact this),?_⟩
  have hl6:=sw_len (sd:=sd)
  refine⟨_,hDI,(by rw[length_map,length_take]; exact Nat.lt_of_le_of_lt (Nat.le_trans (Nat.min_le_right ..) hl6) (by decide)),_,(show (sw sd).length-(i+1)<((sw sd).map V.str).length-i by rw[length_map]; lia),(by rw[length_map]),(by rw[length_map]; exact hi),?_,Same.updL sI hD⟩
  rw[ae,take_add_one,hz,map_append]
  rfl
 rintro H3 ⟨hD3,s3⟩
 rw[length_map,take_length] at hD3
 refine⟨D,(sw sd).map (pz kvs),rfl,(by rw[map_map]; exact SqL.of hD3),?_⟩
 exact qv H3 ((s1.trans s2).trans s3)
abbrev lmF:Expr:=lamAt aO 3 1
noncomputable abbrev lmFQ:Str:=("signed_choose":Str)++".<locals>."++"<lambda>"
def verd (w d:Int) (x:SD) (v:V):Prop:=LS x w d v
def RefT (w d:Int) (ps:List Addr) (xs:List SD) (qs:List Addr) (H:Hp):Prop:=∀ (k:Nat) (q:Addr),qs[k]?=some q->∃ (x:SD) (p:Addr) (j:Int),xs[k]?=some x/\ps[k]?=some p/\H q=some (.tup [.ref p,.int j])/\verd w d x (.int j)
structure Chos (w d:Int) (ps:List Addr) (xs:List SD) (r:Addr) (H:Hp) (i:Nat) (m:Addr) (qs:List Addr):Prop where
 hr:∃ p,ps[i]?=some p/\H r=some (.tup [.ref p,.ref m])
 hm:H m=some (.lst (qs.map V.ref))
 ln:qs.length=i
 ok:∃ x,xs[i]?=some x/\verd w d x .non
 rf:RefT w d ps xs qs H
def spFR (c:Ad) (PT0:Addr):List Env->Shared->Sp:=fun outer s vs H Q _=>∃ (l g:Addr) (xs:List SD) (ps:List Addr) (w d:Int) (cl:List (Str×Addr)) (n:Nat),vs=[.ref l,.ref g]/\H l=some (.lst (ps.map V.ref))/\QL (SFO c) H ps xs/\(∀ x∈xs,x.ok/\(2:Int)^x.e.toNat∣d)/\xs.length<=300 /\
 4<=w/\w<=32/\1<=d/\d<=2^(w-1).toNat/\n<xs.length/\(∀ x,xs[n]?=some x->verd w d x .non)/\TO PT0 H/\Clo "<lambda>" lmFQ (lamA lmF) (lamB lmF) (re lmF) cl H g/\Cells s.heap H (frs outer) cl ["width","d"] [.int w,.int d] /\
 (∀ y,((re lmF).names.lookup y=some .cell\/(re lmF).names.lookup y=some .free)->∃ c,cl.lookup y=some c) /\
 ∀ r H' i m qs,Chos w d ps xs r H' i m qs->H r=none->H m=none->SameX PT0 H H'->TO PT0 H'->Q (.ref r) H'
theorem _root_.Internal.L2.TabA.l {P m:Addr}{q:Str}{H:Hp}{zs:List V}{o:HO}(x:TabA P q H) (hm:H m=some (.lst zs)):TabA P q (upd H m o):=x.keep (fun _ e=>by rw[au (fun z=>by rw[z,hm] at e; cases e)]; exact e) fun _ _ e=>by rw[au (fun z=>by rw[z,hm] at e; cases e)]; exact e
theorem cloX {n q:Str}{a:Arguments}{b:Expr}{sc:Scope}{cl:List (Str×Addr)}{PT0 g:Addr}{q2:Str}{H H':Hp}(c:Clo n q a b sc cl H g) (t:TabA PT0 q2 H) (s:SameX PT0 H H'):Clo n q a b sc cl H' g:=by
 obtain⟨pm,c',ctv,z1,z2⟩:=c
 obtain⟨tb,e,_⟩:=t
 exact⟨pm,c',ctv,s _ _ (fun z=>by rw[z,e] at z1; cases z1) z1,s _ _ (fun z=>by rw[z,e] at z2; cases z2) z2⟩
theorem verd_i {w d:Int}{x:SD}{v:V}(h:verd w d x v):v=.non\/∃ j,v=.int j:=by
 rcases h with ⟨rfl,_⟩ | ⟨j,rfl,_⟩
 ·exact .inl rfl
 ·exact .inr ⟨j,rfl⟩
theorem kU {f:Addr}{fd:FuncData}(F:Fun K "first_right" "first_right" dS f fd) (T:Txt K mg c)  (H_signed_wrong:Has P w K mg base 11 "signed_wrong" ["width","d","form"] (spSW c PT0)):FnOkS P w K mg base CX0 14 f fd ["forms","wrong"] (spFR c PT0):=by
 refine F.okS sc_first_right (fun o s vs H Q E h=>?_) (fun cdv A outer s H vs Q E hr h=>?_)
 ·obtain⟨l,g,xs,ps,w',d,cl,n,rfl,_⟩:=h
  rfl
 obtain⟨l,g,xs,ps,w',d,cl,n,rfl,hl,pl,fm,xl,w1,w2,d1,d2,hn,al,to,clo,C,hfree,q⟩:=h
 refine⟨_,(af (ax (i:=2) sc_first_right.nd rfl (Or.inl rfl) (bu ah))
  (aj (cu PassesOwn.never rfl (cr (pv 0)) (be (i:=3) sc_first_right.nd rfl (Or.inl rfl))
   (af (ax (i:=4) sc_first_right.nd rfl (Or.inl rfl) (pO (name:="<lambda>") (qual:=lmFQ) (params:=lamA lmF) (body:=lamB lmF) (scope:=re lmF) (cl:=cl) (ns:=["width","d"]) (vals:=[.int w',.int d]) (x:="form") (i:=1) rfl rfl hr rfl (Or.inl rfl) C rfl (fun _ _ _ _=>rfl) rfl rfl (by decide +kernel) rfl rfl (by decide +kernel) hfree (pv 3) (fun f c' s H=>(aH H_signed_wrong ((hr.mono (j:=12) (by lia)).deeper _) rfl (aa (pv 1) (aa (pv 2) (aa (pv 0) ah)))))))
   (af (aN (aA si (pv 4) lu (aI _))
    (aj (av (bp (aa (pv 3) (aa (pv 2) ah)))))
    aw)
   (aj (aK (cN PySem.F.plainAttrs_list PySem.F.slot_list_append PySem.F.type_list_append aP (pv 2) (aa (bp (aa (pv 3) (aa (pv 4) ah))) ah))))))))),?_⟩
 walk_at "o"; intro m hm
 have sx0:SameX PT0 H (upd H m (.lst [])):=SameX.of (ao hm _)
 refine⟨_,rfl,l,rfl,⟨_,SqL.of (ao hm _ _ _ hl)⟩,df (xs:=ps.map V.ref) (fun i σ H2=>∃ qs x2 x3,σ=[some (.ref l),some (.ref g),some (.ref m),x2,x3]/\H2 m=some (.lst (qs.map V.ref))/\qs.length=i/\i<=n/\RefT w' d ps xs qs H2/\SameX PT0 H H2/\TO PT0 H2) ⟨[],_,_,rfl,ae,rfl,zero_le _,(fun k q h=>by simp at h),sx0,to.same (ao hm _)⟩ (fun i σ H2 _ ⟨qs,x2,x3,_,_,_,_,_,sx,_⟩=>SqL.of (sx _ _ (fun z=>by obtain⟨tb,e,_⟩:=to; rw[z,e] at hl; cases hl) hl)) ?_ ?_⟩
 ·rintro i y σ H2 hy ⟨qs,x2,x3,rfl,hm2,ql,hin,rt,sx,to2⟩
  rw[List.getElem?_map] at hy
  obtain⟨p,hp,rfl⟩:=Option.map_eq_some_iff.mp hy
  have hi:=(List.getElem?_eq_some_iff.mp hp).1
  obtain⟨x,hx⟩:∃ x,xs[i]?=some x:=⟨_,List.getElem?_eq_getElem (by rw[<- pl.1]; exact hi)⟩
  obtain⟨fx,dx⟩:=fm x (mem_of_getElem? hx)
  have fo:=pl.2 i p x hp hx
  have nP:∀ {a:Addr} {o:HO},H a=some o->(∀ t,o≠.tbl t)->a≠PT0:=fun h hn z=>by obtain⟨tb,e,_⟩:=to; rw[z,e] at h; cases h; exact hn _ rfl
  have fo2:=fo.q to sx
  have clo2:=cloX clo to sx
  refine⟨g,rfl,clo2,_,rfl,clo2,_,rfl,_,rfl,_,rfl,w',d,p,x,rfl,w1,w2,d1,d2,fo2,fx,dx,to2,fun v H3 s3 to3 lw=>?_⟩
  have nP2:∀ {a:Addr} {o:HO},H2 a=some o->(∀ t,o≠.tbl t)->a≠PT0:=fun h hn z=>by obtain⟨tb,e,_⟩:=to2; rw[z,e] at h; cases h; exact hn _ rfl
  have hm3:=s3 _ _ (nP2 hm2 nofun) hm2
  have rt3:RefT w' d ps xs qs H3:=fun k q h=>by
   obtain⟨x,p,j,a1,a2,a3,a4⟩:=rt k q h
   exact⟨x,p,j,a1,a2,s3 _ _ (nP2 a3 nofun) a3,a4⟩
  rcases verd_i (x:=x) lw with rfl | ⟨j,rfl⟩
  ·refine⟨_,rfl,rfl,_,rfl,jd rfl ?_⟩
   refine⟨_,rfl,_,rfl,(by show 2<=sizeLine; decide),fun r hr'=>?_⟩
   have fr:H r=none:=by
    cases e:H r with
    | none=>rfl
    | some o =>
     by_cases z:r=PT0
     ·obtain⟨tb,e3,_⟩:=to3
      rw[z,e3] at hr'; cases hr'
     ·rw[s3 _ _ z (sx _ _ z e)] at hr'; cases hr'
   have sn:=ao hr' (.tup [V.ref p,.ref m])
   exact q r _ i m qs ⟨⟨p,hp,ae⟩,sn _ _ hm3,ql,⟨x,hx,lw⟩,fun k q h=>by
    obtain⟨x,p,j,a1,a2,a3,a4⟩:=rt3 k q h
    exact⟨x,p,j,a1,a2,sn _ _ a3,a4⟩⟩ fr hm (SameX.trans sx (SameX.trans s3 (SameX.of sn))) (to3.same sn)
  ·refine⟨_,rfl,rfl,_,rfl,bB (by nofun) ?_⟩
   have ni:i≠n:=fun z=>by
    have a:=al x (by rw[<- z]; exact hx)
    have:=a.uniq lw
    cases this
   refine⟨_,rfl,.inl ⟨rfl,_,SqL.of hm3⟩,_,rfl,_,rfl,(by show 2<=sizeLine; decide),fun t ht=>?_⟩
   have sn:=ao ht (.tup [V.ref p,.int j])
   have mn:=sn _ _ hm3
   have le:(qs.map V.ref).length<sizeLine:=by rw[length_map,ql]; exact Nat.lt_of_lt_of_le (show i<301 by lia) (by decide)
   refine⟨m,_,_,rfl,rfl,mn,le,?_⟩
   refine⟨qs++[t],_,_,rfl,(by rw[ae,map_append]; rfl),(by rw[length_append,ql]; rfl),by lia,fun k q h=>?_,fun a o n e=>?_,(to3.same sn).l mn⟩
   ·by_cases hk:k<qs.length
    ·rw[List.getElem?_append_left hk] at h
     obtain⟨x,p,j,a1,a2,a3,a4⟩:=rt3 k q h
     exact⟨x,p,j,a1,a2,by rw[au (fun z=>by rw[z,hm3] at a3; cases a3)]; exact sn _ _ a3,a4⟩
    ·rw[List.getElem?_append_right (by lia)] at h
     have hk2:k=i:=by
      cases e:k-qs.length with
      | zero=>lia
      | succ z=>rw[e] at h; simp at h
     subst hk2
     rw[ql,Nat.sub_self] at h
     cases h
     exact⟨x,p,j,hx,hp,by rw[au (fun z=>by rw[z,hm3] at ht; cases ht)]; exact ae,lw⟩
   ·rw[au (aE e hm)]
    exact sn _ _ (s3 _ _ n (sx _ _ n e))
 ·rintro σ H2 ⟨qs,x2,x3,rfl,hm2,ql,hin,rt,sx,to2⟩
  have:=pl.1
  rw[length_map] at hin
  lia
theorem STd.exL {H H':Hp}{r R:Addr}{sd:SD}{zs:List V}(o:STd H r sd) (b:H R=some (.lst zs)) (s:SameX R H H'):STd H' r sd:=by
 cases sd with
 | cut f k=>exact s _ _ (fun z=>by have h:H r=_:=o; rw[z,b] at h; cases h) o
 | turn kd e' f t=>obtain⟨y,h,g⟩:=o; exact⟨y,s _ _ (fun z=>by rw[z,b] at h; cases h) h,s _ _ (fun z=>by rw[z,b] at g; cases g) g⟩
theorem pk {w d t:Int}(w1:4<=w) (w2:w<=32) (d1:1<=d) (d2:d<=2^(w-1).toNat) (tw:Tw d t):∀ x∈mF (1*2^w.toNat) d t,x.ok/\(2:Int)^x.e.toNat∣d:=fun x hx=>by
 have d3:=(eK w1 d2).1
 have pb:=aX w1 w2
 have lb:=(fE w2 d1 d3).1
 rcases List.mem_append.mp hx with h | h
 ·obtain⟨a,b⟩:=cCu_ok (by lia) (by lia) d1 (by lia) x h
  rw[b]
  exact⟨a,⟨d,by simp⟩⟩
 ·obtain⟨y,hy,rfl⟩:=List.mem_map.mp h
  exact tm w1 w2 d1 d3 tw y hy
theorem sAll_ri {w d t:Int}(w1:4<=w) (w2:w<=32) (d1:1<=d) (d2:d<=2^(w-1).toNat):∃ x∈mF (1*2^w.toNat) d t,LS x w d .non:=by
 obtain⟨d3,e⟩:=eK w1 d2
 obtain⟨x,hx,h⟩:=qL (t:=t) w1 w2 d1 d3
 have eh:hf w=2^(w-1).toNat:=one_mul _
 have pp:=fB (w-1).toNat
 exact⟨x,hx,.inl ⟨rfl,fun z z0 z1=>h z (by lia) (by lia)⟩⟩
noncomputable def prc (kvs:List (Key×V)) (xs:List SD) (i:Nat):Int:=match xs[i]? with | some x=>rO kvs (sw x) | none=>0
def uv:Sp:=fun vs H Q _=>∃ (w d:Int) (a:Addr) (kvs:List (Key×V)),vs=[.int w,.int d,.ref a]/\4<=w/\w<=32/\1<=d/\d<=2^(w-1).toNat/\H a=some (.dK kvs)/\GoodD kvs /\
 ∀ (t:Int) (l:Addr) (ps:List Addr) (is:List Nat) H',Tw d t->H l=none->H' l=some (.lst (is.map fun i=>V.ref (ps.getD i 0)))->QL STd H' ps (mF (1*2^w.toNat) d t)->SrtBy (prc kvs (mF (1*2^w.toNat) d t)) ps.length is->Same H H'->Q (.ref l) H'
theorem kN {f:Addr}{fd:FuncData}(F:Fun K "_law_ranked" "_law_ranked" dU f fd) (T:Txt K mg c) (H__law_all_signed:Has P w K mg base 3 "_law_all_signed" ["_law_width","_law_d"] oE) (H__law_made_signed:Has P w K mg base 2 "_law_made_signed" ["_law_told"] spMS):FnOk P w K mg base CX0 4 f fd ["_law_width","_law_d","_law_table"] uv:=by
 refine F.ok sc__law_ranked (fun vs H Q E h=>?_) (fun cdv A outer s H vs Q E hr h=>?_)
 ·obtain⟨w',d,a,kvs,rfl,_⟩:=h
  rfl
 obtain⟨w',d,a,kvs,rfl,w1,w2,d1,d2,ha,g,q⟩:=h
 refine⟨_,(af (ax (i:=3) sc__law_ranked.nd rfl (Or.inl rfl) (bu ah))
  (af (cu PassesOwn.never rfl (cr (aH H__law_all_signed (hr.mono (by lia)) rfl (aa (pv 0) (aa (pv 1) ah)))) (be (i:=4) sc__law_ranked.nd rfl (Or.inl rfl))
   (af (ax (i:=5) sc__law_ranked.nd rfl (Or.inl rfl) ag)
   (af (cu PassesOwn.never rfl (cr (aH H__law_made_signed (hr.mono (by lia)) rfl (aa (pv 4) ah))) (be (i:=6) sc__law_ranked.nd rfl (Or.inl rfl))
    (aj (ax (i:=5) sc__law_ranked.nd rfl (Or.inl rfl) (aq aQ (pv 5) (iQ (iM hr) (pv 2) (pv 6) (fun _ _=>rfl))))))
   (aj (aK (cN PySem.F.plainAttrs_list PySem.F.slot_list_append PySem.F.type_list_append aP (pv 3) (aa (bp (aa (pv 5) (aa (aJ bv rfl T.n_len boot_len (aa (pv 3) ah)) (aa (pv 4) ah)))) ah)))))))
  (aj (av (qe rfl (by first | rfl | with_unfolding_all rfl) (by decide +kernel) rfl (by decide +kernel) rfl (cr (aJ iU rfl T.n_sorted boot_sorted (aa (pv 3) ah))) (fun C s2 H2 fp=>(aY (ix_tupK (K:=K) rfl) (pv 0) ag (fun _ _=>rfl)))))))),?_⟩
 walk_at "o"; intro R hR
 refine⟨_,rfl,_,rfl,w',d,rfl,w1,w2,d1,d2,fun t L H1 tw hL al s1=>?_⟩
 obtain⟨ps,hl1,pl⟩:=al
 have sn:=ao hR (.lst [])
 have hR1:H1 R=some (.lst []):=s1 _ _ ae
 have nLR:L≠R:=fun z=>by rw[z,ae] at hL; cases hL
 have s0:=sn.trans s1
 have fm:=pk w1 w2 d1 d2 tw
 have ln:=jc w1 w2 d1 (eK w1 d2).1 tw
 generalize hxs:mF (1*2^w'.toNat) d t=xs at pl fm ln
 have tR:∀ {H2:Hp},SameX R H1 H2->∀ (k:Nat) (p:Addr) (x:SD),ps[k]?=some p->xs[k]?=some x->STd H2 p x:=fun sx k p x e1 e2=>(pl.2 k p x e1 e2).exL hR1 sx
 refine⟨L,rfl,⟨_,SqL.of hl1⟩,df (xs:=ps.map V.ref) (fun i σ H2=>∃ (rs:List Addr) (x4 x5 x6:Option V),σ=[some (.int w'),some (.int d),some (.ref a),some (.ref R),x4,x5,x6]/\H2 R=some (.lst (rs.map V.ref))/\rs.length=i/\(∀ (k:Nat) (r:Addr),rs[k]?=some r->H2 r=some (.tup [.int (prc kvs xs k),.int (k:Int),.ref (ps.getD k 0)]))/\SameX R H1 H2) ⟨[],_,_,_,rfl,hR1,rfl,(fun k r h=>by simp at h),SameX.of (Same.refl _)⟩ (fun i σ H2 _ ⟨rs,_,_,_,_,_,_,_,sx⟩=>SqL.of (sx _ _ nLR hl1)) ?_ ?_⟩
 ·rintro i y σ H2 hy ⟨rs,x4,x5,x6,rfl,h2,rl,ra,sx⟩
  rw[List.getElem?_map] at hy
  obtain⟨p,hp,rfl⟩:=Option.map_eq_some_iff.mp hy
  have hi:=(List.getElem?_eq_some_iff.mp hp).1
  obtain⟨x,hx⟩:∃ x,xs[i]?=some x:=⟨_,List.getElem?_eq_getElem (by rw[<- pl.1]; exact hi)⟩
  obtain⟨fx,dx⟩:=fm x (mem_of_getElem? hx)
  have tp:=tR sx i p x hp hx
  have ep:ps.getD i 0=p:=by rw[getD_eq_getElem?_getD,hp]; rfl
  have ec:prc kvs xs i=rO kvs (sw x):=by unfold prc; rw[hx]
  have aR:a≠R:=aE ha hR
  have a2:=sx _ _ aR (s0 _ _ ha)
  refine⟨_,rfl,p,x,rfl,tp,fx,fun l H3 hl l3 s3=>?_⟩
  refine⟨l,rfl,⟨_,SqL.of l3⟩,df (xs:=(sw x).map V.str) (fun i σ H4=>∃ x6,σ=[some (.int w'),some (.int d),some (.ref a),some (.ref R),some (.ref p),some (.int (rO kvs ((sw x).take i))),x6]/\H4=H3) ⟨_,rfl,rfl⟩ (fun i σ H4 _ ⟨_,_,e⟩=>e ▸ SqL.of l3) ?_ ?_⟩
  ·rintro j y σ H4 hy ⟨x6,rfl,rfl⟩
   rw[List.getElem?_map] at hy
   obtain⟨z,hz,rfl⟩:=Option.map_eq_some_iff.mp hy
   have hm:=qd z (mem_of_getElem? hz)
   have ec:rO kvs ((sw x).take (j+1))=rO kvs ((sw x).take j)+pz kvs z:=by
    rw[take_add_one,hz]
    unfold rO
    rw[map_append,List.sum_append]
    simp
   refine⟨_,rfl,_,rfl,_,rfl,a,_,rfl,(by have:=tK (y:=z) (s3 _ _ a2); rw[(g.at hm).1] at this; exact this),_,_,rfl,rfl,some (.str z),?_,rfl⟩
   rw[ec]
   rfl
  ·rintro σ H4 ⟨x6,rfl,rfl⟩
   rw[length_map,take_length,<- ec]
   have h4:=s3 _ _ h2
   refine⟨_,rfl,.inl ⟨rfl,_,SqL.of h4⟩,_,rfl,_,rfl,R,_,rfl,.inl (SqL.of h4),_,rfl,(by show 3<=sizeLine; decide),fun r hr'=>?_⟩
   have sr:=ao hr' (.tup [.int (prc kvs xs i),.int ((rs.map V.ref).length:Int),.ref p])
   refine⟨R,_,_,rfl,rfl,sr _ _ h4,(by rw[length_map,rl]; exact Nat.lt_of_lt_of_le (show i<301 by have:=pl.1; lia) (by decide)),?_⟩
   refine⟨rs++[r],_,_,_,rfl,(by rw[ae,map_append]; rfl),(by rw[length_append,rl]; rfl),fun k q h=>?_,fun b o n e=>?_⟩
   ·by_cases hk:k<rs.length
    ·rw[List.getElem?_append_left hk] at h
     have a1:=ra k q h
     rw[au (fun z=>by rw[z,h2] at a1; cases a1)]
     exact sr _ _ (s3 _ _ a1)
    ·rw[List.getElem?_append_right (by lia)] at h
     have hk2:k=i:=by
      cases e:k-rs.length with
      | zero=>lia
      | succ z=>rw[e] at h; simp at h
     subst hk2
     rw[rl,Nat.sub_self] at h
     cases h
     rw[au (fun z=>by rw[z,h4] at hr'; cases hr'),ae,ep,length_map,rl]
   ·rw[au n]
    exact sr _ _ (s3 _ _ (sx _ _ n e))
 ·rintro σ H2 ⟨rs,x4,x5,x6,rfl,h2,rl,ra,sx⟩
  rw[length_map] at rl
  refine⟨_,rfl,R,rs,prc kvs xs,rfl,h2,(by have:=pl.1; lia),fun k r h=>⟨_,ra k r h⟩,fun D is hD sb=>?_⟩
  have sD:=ao hD (.lst (is.map fun i=>V.ref (rs.getD i 0)))
  refine⟨D,rfl,⟨_,SqL.of ae⟩,fun C hC=>?_⟩
  refine eW (xs:=is.map fun i=>V.ref (rs.getD i 0)) (fun i HI=>HI C=some (.lst ((is.take i).map fun i=>V.ref (ps.getD i 0)))/\Same (upd H2 D (.lst (is.map fun i=>V.ref (rs.getD i 0)))) HI) ⟨ae,ao hC _⟩ (fun i HI _ ⟨_,sI⟩=>SqL.of (sI _ _ ae)) ?_ ?_
  ·rintro i y HI hy ⟨hCI,sI⟩
   rw[List.getElem?_map] at hy
   obtain⟨k,hk,rfl⟩:=Option.map_eq_some_iff.mp hy
   have hi:=(List.getElem?_eq_some_iff.mp hk).1
   have kl:=sb.lt k (mem_of_getElem? hk)
   have rk:=ra k (rs.getD k 0) (by rw[List.getElem?_eq_getElem kl,getD_eq_getElem?_getD,List.getElem?_eq_getElem kl]; rfl)
   refine⟨_,rfl,_,_,_,_,rfl,rfl,SqT.of (sI _ _ (sD _ _ rk)),rfl,?_⟩
   refine⟨_,hCI,(by rw[length_map,length_take,sb.len]; exact Nat.lt_of_le_of_lt (Nat.min_le_right ..) (by rw[rl]; exact Nat.lt_of_lt_of_le (show ps.length<301 by have:=pl.1; lia) (by decide))),_,(show is.length-(i+1)<(is.map fun i=>V.ref (rs.getD i 0)).length-i by rw[length_map]; lia),(by rw[length_map]),(by rw[length_map]; exact hi),?_,Same.updL sI hC⟩
   rw[ae,take_add_one,hk,map_append]
   rfl
  rintro H5 ⟨hC5,s5⟩
  rw[length_map,take_length] at hC5
  have sH:Same H H2:=fun b o e=>sx _ _ (aE e hR) (s0 _ _ e)
  have sE:=sD.trans s5
  subst hxs
  refine q t C ps is H5 tw ?_ hC5 ⟨pl.1,fun k p x e1 e2=>(tR sx k p x e1 e2).same sE⟩ (by rw[rl] at sb; exact sb) (sH.trans sE)
  cases e:H C with
  | none=>rfl
  | some o=>rw[sD _ _ (sH _ _ e)] at hC; cases hC
noncomputable abbrev clK (n:Nat):List (Str×Addr):=[("table",n+1+1+1)]
noncomputable abbrev clF (n:Nat):List (Str×Addr):=[("width",n+1),("d",n+1+1)]
abbrev TA (PT1:Addr) (H:Hp):Prop:=TabA PT1 lmFQ H
def cd0:SD:=.cut 0 0
theorem _root_.Internal.L2.TabA.lam {P P':Addr}{q q':Str}{H H':Hp}(x:TabA P q H) (ne:P≠P') (t':TabA P' q' H) (h:SameX P' H H'):TabA P q H':=x.keep (fun _ e=>h _ _ ne e) fun a φ e=>h _ _ (fun z=>by
 obtain⟨ps,e1,_⟩:=t'
 rw[z,e1] at e; cases e) e
theorem Kp.tok {P:Addr}{q:Str}{H H':Hp}(t:TabA P q H) (h:SameX P H H'):Kp H H':=fun a u n e=>h a u (fun z=>by
 obtain⟨ps,e1,_⟩:=t
 rw[z,e1] at e; cases e; exact n _ rfl) e
theorem Kp.ins {H H':Hp}{a C dx:Addr}{fs:List (Str×V)}(k:Kp H H') (e:H a=some (.ins C dx fs)):H' a=some (.ins C dx fs):=k _ _ (fun _ z=>nomatch z) e
theorem Kp.dk {H H':Hp}{a:Addr}{fs:List (Key×V)}(k:Kp H H') (e:H a=some (.dK fs)):H' a=some (.dK fs):=k _ _ (fun _ z=>nomatch z) e
theorem Kp.ls {H H':Hp}{a:Addr}{fs:List V}(k:Kp H H') (e:H a=some (.lst fs)):H' a=some (.lst fs):=k _ _ (fun _ z=>nomatch z) e
theorem Kp.tp {H H':Hp}{a:Addr}{fs:List V}(k:Kp H H') (e:H a=some (.tup fs)):H' a=some (.tup fs):=k _ _ (fun _ z=>nomatch z) e
theorem SFO.kp {c:Ad}{H H':Hp}{x:Addr}{sd:SD}(o:SFO c H x sd) (k:Kp H H'):SFO c H' x sd:=by
 cases sd with
 | cut f k'=>obtain⟨dx,h⟩:=o; exact⟨dx,k.ins h⟩
 | turn kd e f t=>obtain⟨dx,y,h,dy,g⟩:=o; exact⟨dx,y,k.ins h,dy,k.ins g⟩
theorem STd.kp {H H':Hp}{x:Addr}{sd:SD}(o:STd H x sd) (k:Kp H H'):STd H' x sd:=by
 cases sd with
 | cut f k'=>exact k.tp o
 | turn kd e f t=>obtain⟨u,h,g⟩:=o; exact⟨u,k.tp h,k.tp g⟩
def NoT (H:Hp) (m:Addr):Prop:=∀ u,H m=some u->∃ ps,u=.tbl ps
theorem NoT.back {H H':Hp}{m:Addr}(k:Kp H H') (h:H' m=none):NoT H m:=fun u e=>Classical.byContradiction fun n=>by
 rw[k m u (fun ps z=>n ⟨ps,z⟩) e] at h
 cases h
theorem NoT.ne {H:Hp}{m a:Addr}{u:HO}(h:NoT H m) (e:H a=some u) (n:∀ ps,u≠.tbl ps):a≠m:=fun z=>by
 obtain⟨ps,y⟩:=h u (by rw[<- z]; exact e)
 exact n ps y
theorem NoT.upd {H H':Hp}{m:Addr}{o:HO}(h:NoT H m) (k:Kp H H'):Kp H (upd H' m o):=fun a u n e=>by
 rw[au (h.ne e n)]; exact k a u n e
theorem QL.pick {R:Hp->Addr->SD->Prop}{H:Hp}{ps:List Addr}{xs:List SD}(h:QL R H ps xs) (is:List Nat) (lt:∀ i∈is,i<ps.length):QL R H (is.map fun i=>ps.getD i 0) (is.map fun i=>xs.getD i cd0):=by
 refine⟨by rw[length_map,length_map],fun k p x e1 e2=>?_⟩
 rw[List.getElem?_map] at e1 e2
 obtain⟨i,hi,rfl⟩:=Option.map_eq_some_iff.mp e1
 rw[hi] at e2
 cases e2
 have l:=lt i (mem_of_getElem? hi)
 refine h.2 i _ _ ?_ ?_
 ·rw[getD_eq_getElem?_getD,List.getElem?_eq_getElem l]; rfl
 ·show xs[i]?=some (xs.getD i cd0)
  rw[getD_eq_getElem?_getD,List.getElem?_eq_getElem (by rw[<- h.1]; exact l)]; rfl
theorem p7 {xs:List SD}{is:List Nat}(lt:∀ i∈is,i<xs.length):∀ x∈is.map (fun i=>xs.getD i cd0),x∈xs:=fun x hx=>by
 obtain⟨i,hi,rfl⟩:=List.mem_map.mp hx
 rw[getD_eq_getElem?_getD,List.getElem?_eq_getElem (lt i hi)]
 exact getElem_mem _
theorem pick_at {kf:Nat->Int}{xs:List SD}{is:List Nat}(sb:SrtBy kf xs.length is) {x:SD}(hx:x∈xs):∃ n,n<is.length/\(is.map fun i=>xs.getD i cd0)[n]?=some x:=by
 obtain⟨k,hk,rfl⟩:=List.mem_iff_getElem.mp hx
 obtain⟨n,hn,e⟩:=List.mem_iff_getElem.mp (sb.1.mem_iff.mpr (List.mem_range.mpr hk))
 refine⟨n,hn,?_⟩
 rw[List.getElem?_map,List.getElem?_eq_getElem hn,e]
 show some (xs.getD k cd0)=_
 rw[getD_eq_getElem?_getD,List.getElem?_eq_getElem hk]
 rfl
def RFR (c:Ad) (PT0:Addr) (n:Nat):L2.St->List V->Hp->VK->Prop:=fun σ vs H Q=>∃ (l g:Addr) (xs:List SD) (ps:List Addr) (w d:Int) (a l0 t:Addr) (n':Nat),σ=[some (.int w),some (.int d),some (.ref a),some (.ref l0),some (.ref t),some (.ref l)]/\vs=[.ref l,.ref g]/\H l=some (.lst (ps.map V.ref))/\QL (SFO c) H ps xs/\(∀ x∈xs,x.ok/\(2:Int)^x.e.toNat∣d)/\xs.length<=300 /\
 4<=w/\w<=32/\1<=d/\d<=2^(w-1).toNat/\n'<xs.length/\(∀ x,xs[n']?=some x->verd w d x .non)/\TO PT0 H/\Clo "<lambda>" lmFQ (lamA lmF) (lamB lmF) (re lmF) (clF n) H g /\
 ∀ r H' i m qs,Chos w d ps xs r H' i m qs->H r=none->H m=none->SameX PT0 H H'->TO PT0 H'->Q (.ref r) H'
def spCh (c:Ad) (PT0 PT1:Addr):Sp:=fun vs H Q _=>∃ (w d:Int) (a:Addr) (kvs:List (Key×V)),vs=[.int w,.int d,.ref a]/\4<=w/\w<=32/\1<=d/\d<=2^(w-1).toNat/\H a=some (.dK kvs)/\GoodD kvs/\TO PT0 H/\TA PT1 H /\
 ∀ (t:Int) (ps:List Addr) (is:List Nat) r H' i m qs,Tw d t->QL (SFO c) H' ps (mF (1*2^w.toNat) d t)->SrtBy (prc kvs (mF (1*2^w.toNat) d t)) ps.length is->Chos w d (is.map fun i=>ps.getD i 0) (is.map fun i=>(mF (1*2^w.toNat) d t).getD i cd0) r H' i m qs->NoT H m->Kp H H'->TO PT0 H'->TA PT1 H'->Q (.ref r) H'
theorem iT {f:Addr}{fd:FuncData}(F:Fun K "signed_choose" "signed_choose" aO f fd) (T:Txt K mg c) (H_signed_candidates:Has P w K mg base 9 "signed_candidates" ["width","d"] (oB c)) (H_need_prices:Has P w K mg base 3 "need_prices" ["prices"] (spNP0 c)) (H_first_right:HasS P w K mg base 14 "first_right" ["forms","wrong"] (spFR c PT0)) (H_signed_wrong:Has P w K mg base 11 "signed_wrong" ["width","d","form"] (spSW c PT0)) (H_price_of_signed:Has P w K mg base 5 "price_of_signed" ["form","prices"] (spPS0 c)) (B:LamBase mg base cT1 PT1) (hcd:fd.code=.ref cT1) (hne:PT0≠PT1):FnOk P w K mg base CX0 15 f fd ["width","d","prices"] (spCh c PT0 PT1):=by
 refine F.okC hcd sc_signed_choose (fun vs H Q E h=>?_) (fun A outer s H vs Q E hr h=>?_)
 ·obtain⟨w',d,a,kvs,rfl,_⟩:=h
  rfl
 obtain⟨w',d,a,kvs,rfl,w1,w2,d1,d2,ha,g,to,ta,q⟩:=h
 have hR:∀ pins σ H' s' vs Q,Inv (mS CX0 P w K mg base ["width","d","prices","forms","table","ordered"] "signed_choose" (ak aO) f (.ref cT1) A outer s H E).nox pins σ H' s'->RFR c PT0 s.heap.objs.size σ vs H' Q->spFR c PT0 ((mS CX0 P w K mg base ["width","d","prices","forms","table","ordered"] "signed_choose" (ak aO) f (.ref cT1) A outer s H E).nox).stack s' vs H' Q E0:=by
  rintro pins σ H' s' vs Q I ⟨l,g,xs,ps,w',d,a,l0,t,n',rfl,rfl,hl,pl,fm,xl,w1,w2,d1,d2,hn,al,to,clo,q⟩
  have hsub:∀ p∈clF s.heap.objs.size,(mS CX0 P w K mg base ["width","d","prices","forms","table","ordered"] "signed_choose" (ak aO) f (.ref cT1) A outer s H E).nox.env.cells.lookup p.1=some p.2:=List.forall_mem_cons.mpr ⟨rfl,List.forall_mem_cons.mpr ⟨rfl,fun _ h=>nomatch h⟩⟩
  refine⟨l,g,xs,ps,w',d,clF s.heap.objs.size,n',rfl,hl,pl,fm,xl,w1,w2,d1,d2,hn,al,to,clo,I.cells (fun _=>rfl) (fun x c e=>hsub (x,c) (PySem.mem_of_lookup e)) (fun i y v e1 e2=>?_),mQ (ns:=["width","d"]) rfl (by decide +kernel),q⟩
  match i,e1,e2 with
  | 0,e1,e2 =>
   cases e1; cases e2
   exact⟨0,_,rfl,rfl,rfl,rfl⟩
  | 1,e1,e2 =>
   cases e1; cases e2
   exact⟨1,_,rfl,rfl,rfl,rfl⟩
  | n+2,e1,_=>simp at e1
 have hsK:∀ p∈clK s.heap.objs.size,(mS CX0 P w K mg base ["width","d","prices","forms","table","ordered"] "signed_choose" (ak aO) f (.ref cT1) A outer s H E).nox.env.cells.lookup p.1=some p.2:=List.forall_mem_cons.mpr ⟨rfl,fun _ h=>nomatch h⟩
 refine⟨_,(af (ax (i:=3) sc_signed_choose.nd rfl (Or.inl rfl) (aH H_signed_candidates (hr.mono (by lia)) rfl (aa (pv 0) (aa (pv 1) ah))))
  (af (ax (i:=4) sc_signed_choose.nd rfl (Or.inr rfl) (aH H_need_prices (hr.mono (by lia)) rfl (aa (pv 2) ah)))
  (af (ax (i:=5) sc_signed_choose.nd rfl (Or.inl rfl) (qH (k:=6) (x:="form") (y0:="table") (j0:=4) (qual:=lmFQ) (cl:=clK s.heap.objs.size) rfl (hr.mono (by lia)) (fun _=>rfl) rfl T.n_sorted (pv 3) (oT (qual:=lmFQ) (cl:=clK s.heap.objs.size) B rfl rfl rfl) rfl rfl ⟨_,rfl⟩ (fun x c e=>hsK (x,c) (PySem.mem_of_lookup e)) (fun _ _ _ _=>rfl) rfl rfl (by decide +kernel) rfl rfl (by decide +kernel) (mQ (ns:=["table"]) rfl (by decide +kernel)) (fun f c' s H=>(aH H_price_of_signed ((hr.mono (j:=8) (by lia)).in1.in1.deeper _) rfl (aa (pv 0) (aa (pv 1) ah))))))
  (aj (av (pe_fnS (R:=RFR c PT0 s.heap.objs.size) H_first_right (hr.mono (by lia)) rfl (aa (pv 5) (aa (oT (params:=lamA lmF) (body:=lamB lmF) (scope:=re lmF) (pos:=lamP lmF) (qual:=lmFQ) (cl:=clF s.heap.objs.size) B rfl rfl rfl) ah)) hR)))))),?_⟩
 refine⟨_,rfl,_,rfl,w',d,rfl,w1,w2,d1,d2,fun t l H1 tw hl al s1=>?_⟩
 obtain⟨ps,hl1,pl⟩:=al
 refine⟨_,rfl,a,kvs,rfl,s1 _ _ ha,g,fun tb tk H2 htb h2 al2 s2=>?_⟩
 have fm:=pk w1 w2 d1 d2 tw
 have ln:=jc w1 w2 d1 (eK w1 d2).1 tw
 have rgt:=sAll_ri (t:=t) w1 w2 d1 d2
 have q':=q t
 generalize hxs:mF (1*2^w'.toNat) d t=xs at pl fm ln rgt q'
 have gT:GoodD tk:=fun y hy=>by rw[al2 y hy]; exact g y hy
 have eC:∀ sd,rO tk (sw sd)=rO kvs (sw sd):=fun sd=>by
  unfold rO
  congr 1
  refine List.map_congr_left fun y hy=>?_
  unfold pz
  rw[al2 y (qd y hy)]
 have s12:=s1.trans s2
 have to2:=to.same s12
 have ta2:=ta.same s12
 refine⟨_,rfl,l,ps,prc kvs xs,.ref tb,rfl,s2 _ _ hl1,(by have:=pl.1; lia),rfl,ta2,fun H3 sx3 ta3=>⟨fun G=>Same H3 G,Same.refl _,?_,?_⟩⟩
 ·intro i p G ep sG Q' hQ'
  have hi:=(List.getElem?_eq_some_iff.mp ep).1
  obtain⟨x,hx⟩:∃ x,xs[i]?=some x:=⟨_,List.getElem?_eq_getElem (by rw[<- pl.1]; exact hi)⟩
  obtain⟨fx,dx⟩:=fm x (mem_of_getElem? hx)
  have k3:=Kp.lam ta2 sx3
  have fo3:SFO c G p x:=(((pl.2 i p x ep hx).same s2).kp k3).same sG
  have tb3:=sG _ _ (k3.dk h2)
  refine⟨_,rfl,_,rfl,p,x,tb,tk,rfl,fo3,fx,tb3,gT,fun G' sG'=>?_⟩
  have ec:prc kvs xs i=rO tk (sw x):=by unfold prc; rw[hx,eC]
  rw[<- ec]
  exact hQ' G' (sG.trans sG') fun _ _ e=>sG' _ _ e
 ·intro D is G sG hD sb
  have k3:=Kp.lam ta2 sx3
  have to3:=to2.other hne ta2 sx3
  have sD:=ao hD (.lst (is.map fun i=>V.ref (ps.getD i 0)))
  have sE:=sG.trans sD
  have plE:QL (SFO c) (upd G D (.lst (is.map fun i=>V.ref (ps.getD i 0)))) ps xs:=pl.mono fun p x h=>((h.same s2).kp k3).same sE
  have toE:=to3.same sE
  have taE:=ta3.same sE
  have kE:=((Kp.of s12).trans k3).trans (Kp.of sE)
  have hDE:upd G D (.lst (is.map fun i=>V.ref (ps.getD i 0))) D=some (.lst ((is.map fun i=>ps.getD i 0).map V.ref)):=by rw[ae,map_map]; rfl
  generalize upd G D (.lst (is.map fun i=>V.ref (ps.getD i 0)))=HE at plE toE taE kE hDE ⊢
  refine⟨_,rfl,taE,fun gg H5 sx5 fg clo ta5=>?_⟩
  have k5:=Kp.lam taE sx5
  have to5:=toE.other hne taE sx5
  have pl5:QL (SFO c) H5 ps xs:=plE.mono fun p x h=>h.kp k5
  have sbx:SrtBy (prc kvs xs) xs.length is:=by rw[<- pl.1]; exact sb
  obtain⟨x,hx,rx⟩:=rgt
  obtain⟨n',hn',en'⟩:=pick_at sbx hx
  refine⟨D,gg,is.map fun i=>xs.getD i cd0,is.map fun i=>ps.getD i 0,w',d,a,l,tb,n',rfl,rfl,k5.ls hDE,pl5.pick is sb.lt,fun x hx=>fm x (p7 sbx.lt x hx),(by rw[length_map,sbx.len]; lia),w1,w2,d1,d2,(by rw[length_map]; exact hn'),fun y hy=>?_,to5,clo,fun r H' i m qs ch hr' hm sx to'=>?_⟩
  ·rw[en'] at hy
   cases hy
   exact rx
  ·have k6:=Kp.tok to5 sx
   refine q' ps is r H' i m qs tw (pl5.mono fun p x h=>h.kp k6) sb ch (NoT.back (kE.trans k5) hm) ((kE.trans k5).trans k6) to' (ta5.lam (Ne.symm hne) to5 sx)
theorem t5 {K:Frag}{a b:Addr}{xs ys:List V}{g:TG}{tb:TS}{D:Ends}{σ:L2.St}{H:Hp}(Pv:Nat->L2.St->Hp->Prop) (h0:Pv 0 σ H) (hl:∀ i σ H,Pv i σ H->SqL K H a xs/\SqL K H b ys) (hle:xs.length<=ys.length)
  (hs:∀ i x y σ H,xs[i]?=some x->ys[i]?=some y->Pv i σ H->∀ T,H T=none->g (.ref T) σ (upd H T (.tup [x,y])) fun σ2 H2=>tb { D with nx:=Pv (i+1),ct:=Pv (i+1),bk:=D.nx } σ2 H2) (hd:∀ σ H,Pv xs.length σ H->D.nx σ H) :
  ∃ W:Nat->Nat->L2.St->Hp->Prop,(∃ m,W 0 m σ H)/\∀ i m σ H,W i m σ H ->
   ((ItzL K a b).stop i H/\D.nx σ H)\/((ItzL K a b).go i H/\∃ N:L2.St->Hp->Prop,(∀ σ' H',N σ' H'->∃ m',m'<m/\W (i+1) m' σ' H')/\∀ x H',(ItzL K a b).yld i H x H'->g x σ H' fun σ2 H2=>tb { D with nx:=N,ct:=N,bk:=D.nx } σ2 H2):=by
 refine⟨fun i m σ H=>m=xs.length-i/\i<=xs.length/\Pv i σ H,⟨xs.length,by simp,zero_le _,h0⟩,?_⟩
 rintro i m σ H ⟨rfl,hi,p⟩
 obtain⟨qa,qb⟩:=hl i σ H p
 by_cases hlt:i<xs.length
 ·have ex:xs[i]?=some xs[i]:=List.getElem?_eq_getElem hlt
  have ey:ys[i]?=some (ys[i]'(by lia)):=List.getElem?_eq_getElem (by lia)
  refine .inr ⟨⟨xs,ys,_,_,qa,qb,ex,ey⟩,Pv (i+1),fun σ' H' p'=>⟨xs.length-(i+1),by lia,rfl,hlt,p'⟩,fun x H' y=>?_⟩
  obtain⟨T,rfl,hT,rfl⟩:=y xs ys _ _ qa qb ex ey
  exact hs i _ _ σ H ex ey p T hT
 ·have e:i=xs.length:=by lia
  subst e
  exact .inl ⟨⟨xs,ys,qa,qb,Nat.le_refl _⟩,hd σ H p⟩
theorem std_eq {K:Frag}{H:Hp}{r t:Addr}{sd:SD}(h1:STd H r sd) (h2:STd H t sd):∃ xs ys:List V,H r=some (.tup xs)/\H t=some (.tup ys)/\ys.length=xs.length/\∀ j,j<xs.length->j<ys.length->EqD K H 1 (xs.getD j .non) (ys.getD j .non) true:=by
 cases sd with
 | cut f k =>
  refine⟨_,_,h1,h2,rfl,fun j j1 _=>?_⟩
  have:j<3:=j1
  rcases(by lia:j=0\/j=1\/j=2) with rfl | rfl | rfl
  ·exact eq_str
  ·exact eq_int
  ·exact eq_int
 | turn kd e f t' =>
  obtain⟨u1,h1,g1⟩:=h1
  obtain⟨u2,h2,g2⟩:=h2
  refine⟨_,_,h1,h2,rfl,fun j j1 _=>?_⟩
  have:j<2:=j1
  rcases(by lia:j=0\/j=1) with rfl | rfl
  ·exact eq_str
  ·exact eq_tlv g1 g2
def spTR (c:Ad):Sp:=fun vs H Q _=>∃ (w d:Int) (L r:Addr) (ps ts:List Addr) (xs:List SD) (i:Nat) (m:Addr) (qs:List Addr),vs=[.int w,.int d,.ref L,.ref r]/\4<=w/\w<=32/\1<=d/\d<=2^(w-1).toNat/\H L=some (.lst (ts.map V.ref))/\QL STd H ts xs/\QL (SFO c) H ps xs/\(∀ x∈xs,x.ok/\(2:Int)^x.e.toNat∣d)/\xs.length<=300/\Chos w d ps xs r H i m qs/\∀ H',Same H H'->Q (.bl true) H'
theorem hZ {f:Addr}{fd:FuncData}(F:Fun K "_law_told_right" "_law_told_right" cI f fd) (T:Txt K mg c) (H__law_nearest:Has P w K mg base 4 "_law_nearest" ["_law_told","_law_width","_law_d","_law_count"] spNst) (MTS:∀ i,i<2->MHas P w K mg base 3 (sOf c i) "told" ["self"] (jn c i)):FnOk P w K mg base CX0 5 f fd ["_law_width","_law_d","_law_ranked_here","_law_found"] (spTR c):=by
 refine F.ok sc__law_told_right (fun vs H Q E h=>?_) (fun cdv A outer s H vs Q E hr h=>?_)
 ·obtain⟨w',d,L,r,ps,ts,xs,i,m,qs,rfl,_⟩:=h
  rfl
 obtain⟨w',d,L,r,ps,ts,xs,i,m,qs,rfl,w1,w2,d1,d2,hL,tl,pl,fm,xl,⟨⟨p,hp,hr'⟩,hm,ln,⟨x,hx,vx⟩,rf⟩,q⟩:=h
 refine⟨_,(af (aN (PW.pt (eQ (bj (bh (aJ bf rfl T.n_isinstance boot_isinstance (aa (pv 3) (aa (nQ rfl T.n_tuple boot_tuple) ah))))) (eQ (aA o9 (aJ bv rfl T.n_len boot_len (aa (pv 3) ah)) ag (aI _)) (eS (bj (bh (aJ bf rfl T.n_isinstance boot_isinstance (aa (aY aU (pv 3) ag (fun _ _=>rfl)) (aa (nQ rfl T.n_list boot_list) ah)))))))))
   (aj (av iq))
   aw)
  (af (ax (i:=4) sc__law_told_right.nd rfl (Or.inl rfl) (aJ bv rfl T.n_len boot_len (aa (aY aU (pv 3) ag (fun _ _=>rfl)) ah)))
  (af (aN (PW.pt (eQ (aA oh (pv 4) (aJ bv rfl T.n_len boot_len (aa (pv 2) ah)) (aI _)) (eQ (bj (bh (aJ bf rfl T.n_isinstance boot_isinstance (aa (aY aU (pv 3) ag (fun _ _=>rfl)) (aa (nH rfl T.g_SignedForm) ah))))) (eS (aA (tH (d:=1) (hu2 hr)) (bt (k:=3) (aY aU (pv 3) ag (fun _ _=>rfl)) (hr.mono (by lia))) (aY c9 (pv 2) (pv 4) (fun _ _=>rfl)) (aI _))))))
   (aj (av iq))
   aw)
  (af (aN (bj (bh (aH H__law_nearest (hr.mono (by lia)) rfl (aa (aY c9 (pv 2) (pv 4) (fun _ _=>rfl)) (aa (pv 0) (aa (pv 1) (aa lu ah)))))))
   (aj (av iq))
   aw)
  (af (cu PassesOwn.never rfl (pi_zipL rfl T.n_zip (aa (aY aU (pv 3) ag (fun _ _=>rfl)) (aa (pv 2) ah))) (pg_tup rfl (fc (be (i:=5) sc__law_told_right.nd rfl (Or.inl rfl)) (fc (be (i:=6) sc__law_told_right.nd rfl (Or.inl rfl)) tu)))
   (af (aN (PW.pt (eQ (bj (bh (aJ bf rfl T.n_isinstance boot_isinstance (aa (pv 5) (aa (nQ rfl T.n_tuple boot_tuple) ah))))) (eQ (aA o9 (aJ bv rfl T.n_len boot_len (aa (pv 5) ah)) ag (aI _)) (eS (bj (bh (aJ bf rfl T.n_isinstance boot_isinstance (aa (aY aU (pv 5) ag (fun _ _=>rfl)) (aa (nH rfl T.g_SignedForm) ah)))))))))
    (aj (av iq))
    aw)
   (aj (aN (PW.pt (eQ (aA (tH (d:=1) (hu2 hr)) (bt (k:=3) (aY aU (pv 5) ag (fun _ _=>rfl)) (hr.mono (by lia))) (pv 6) (aI _)) (eQ (aA si (aY aU (pv 5) ag (fun _ _=>rfl)) lu (aI _)) (eS (bj (bh (aH H__law_nearest (hr.mono (by lia)) rfl (aa (pv 6) (aa (pv 0) (aa (pv 1) (aa (aY aU (pv 5) ag (fun _ _=>rfl)) ah)))))))))))
    (aj (av iq))
    aw))))
  (aj (av iq))))))),?_⟩
 have pb:=aX w1 w2
 have hi:=(List.getElem?_eq_some_iff.mp hx).1
 obtain⟨tq,htq⟩:∃ t,ts[i]?=some t:=⟨_,List.getElem?_eq_getElem (by rw[tl.1]; exact hi)⟩
 obtain⟨fx,dx⟩:=fm x (mem_of_getElem? hx)
 have tr:=tl.2 i tq x htq hx
 have fo:=pl.2 i p x hp hx
 obtain⟨dp,fs,ho,lk,_⟩:=fo.ob2
 have lL:(ts.map V.ref).length=xs.length:=by rw[length_map,tl.1]
 have lm':(qs.map V.ref).length=i:=by rw[length_map,ln]
 have atL:atI (ts.map V.ref) (((qs.map V.ref).length:Nat):Int)=some (.ref tq):=sN (by rw[lm',List.getElem?_map,htq]; rfl)
 refine⟨_,rfl,_,_,_,_,_,rfl,rfl,TyOf.tup hr',jo _,_,rfl,db ?_⟩
 refine⟨_,rfl,r,_,rfl,.inr (SqT.of hr'),rfl,_,rfl,mw rfl ?_⟩
 refine⟨_,rfl,_,_,_,_,rfl,rfl,SqT.of hr',rfl,_,_,_,_,_,rfl,rfl,TyOf.lst hm,oA _,_,rfl,db ?_⟩
 refine⟨_,rfl,_,_,_,_,rfl,rfl,SqT.of hr',rfl,m,_,rfl,.inl (SqL.of hm),?_⟩
 refine⟨_,rfl,_,rfl,L,_,rfl,.inl (SqL.of hL),_,_,rfl,rfl,_,rfl,bB (by rw[lL,lm']; lia) ?_⟩
 refine⟨_,rfl,_,_,_,_,rfl,rfl,SqT.of hr',rfl,_,_,_,_,_,rfl,rfl,T.tyS fo,T.isS x,_,rfl,db ?_⟩
 refine⟨_,rfl,_,_,_,_,rfl,rfl,SqT.of hr',rfl,p,_,dp,_,_,_,rfl,ho,lk,MTS x.ix x.ix2,p,x,rfl,rfl,fo,fx,fun r1 H1 rn hr1 s1=>?_⟩
 have hL1:=s1 _ _ hL
 have tr1:=tr.same s1
 have hr1':=s1 _ _ hr'
 obtain⟨xa,ya,ha,hb,hl,he⟩:=std_eq (K:=K) hr1 tr1
 refine⟨_,rfl,_,rfl,_,_,_,_,rfl,rfl,SqL.of hL1,atL,r1,tq,xa,ya,fun _=>true,rfl,rfl,SqT.of ha,SqT.of hb,he,_,rfl,iteB (by rw[hl,allT1]; simp) ?_⟩
 refine⟨_,rfl,_,rfl,_,_,_,_,rfl,rfl,SqL.of hL1,atL,_,rfl,_,rfl,tq,w',d,x,.non,rfl,w1,w2,d1,d2,tr1,fx,dx,vx,fun H3 s3=>⟨_,rfl,db ?_⟩⟩
 have s03:=s1.trans s3
 have hr3:=s03 _ _ hr'
 have hm3:=s03 _ _ hm
 have hL3:=s03 _ _ hL
 refine⟨_,rfl,_,_,_,_,rfl,rfl,SqT.of hr3,rfl,_,rfl,m,L,_,_,rfl,SqL.of hm3,SqL.of hL3,t5 (xs:=qs.map V.ref) (ys:=ts.map V.ref) (fun n σ H4=>∃ y1 y2:Option V,σ=[some (.int w'),some (.int d),some (.ref L),some (.ref r),some (.int ((qs.map V.ref).length:Int)),y1,y2]/\Same H H4) ⟨_,_,rfl,s03⟩ ?_ (by rw[lL,lm']; lia) ?_ ?_⟩
 ·rintro n σ H4 ⟨y1,y2,rfl,s4⟩
  exact⟨SqL.of (s4 _ _ hm),SqL.of (s4 _ _ hL)⟩
 ·rintro n vx vy σ H4 hx hy ⟨y1,y2,rfl,s4⟩ z hz
  rw[List.getElem?_map] at hx hy
  obtain⟨u,hu,rfl⟩:=Option.map_eq_some_iff.mp hx
  obtain⟨t,ht,rfl⟩:=Option.map_eq_some_iff.mp hy
  obtain⟨x,p,j,hx,hp,hq,vd⟩:=rf n u hu
  obtain⟨fx,dx⟩:=fm x (mem_of_getElem? hx)
  have sz:=s4.trans (ao hz (.tup [.ref u,.ref t]))
  have fo:=(pl.2 n p x hp hx).same sz
  have tr:=(tl.2 n t x ht hx).same sz
  have hq4:=sz _ _ hq
  refine⟨z,_,rfl,SqT.of ae,rfl,_,_,rfl,_,_,rfl,rfl,?_⟩
  generalize upd H4 z (.tup [.ref u,.ref t])=H5 at sz fo tr hq4 ⊢
  refine⟨_,rfl,_,_,_,_,_,rfl,rfl,TyOf.tup hq4,jo _,_,rfl,db ?_⟩
  refine⟨_,rfl,u,_,rfl,.inr (SqT.of hq4),rfl,_,rfl,mw rfl ?_⟩
  refine⟨_,rfl,_,_,_,_,rfl,rfl,SqT.of hq4,rfl,_,_,_,_,_,rfl,rfl,T.tyS fo,T.isS x,_,rfl,db ?_⟩
  obtain⟨dp,fs,ho,lk,_⟩:=fo.ob2
  refine⟨_,rfl,_,_,_,_,rfl,rfl,SqT.of hq4,rfl,p,_,dp,_,_,_,rfl,ho,lk,MTS x.ix x.ix2,p,x,rfl,rfl,fo,fx,fun r6 H6 rn h6 s6=>?_⟩
  have tr6:=tr.same s6
  obtain⟨xa,ya,ha,hb,hl,he⟩:=std_eq (K:=K) h6 tr6
  refine⟨_,rfl,r6,t,xa,ya,fun _=>true,rfl,rfl,SqT.of ha,SqT.of hb,he,_,rfl,iteB (by rw[hl,allT1]; simp) ?_⟩
  have hq6:=s6 _ _ hq4
  refine⟨_,rfl,_,_,_,_,rfl,rfl,SqT.of hq6,rfl,rfl,_,rfl,bB (by nofun) ?_⟩
  refine⟨_,rfl,_,rfl,_,rfl,_,rfl,_,_,_,_,rfl,rfl,SqT.of hq6,rfl,t,w',d,x,_,rfl,w1,w2,d1,d2,tr6,fx,dx,vd,fun H8 s8=>⟨_,rfl,db ⟨_,_,rfl,sz.trans (s6.trans s8)⟩⟩⟩
 ·rintro σ H4 ⟨y1,y2,rfl,s4⟩
  exact q H4 s4
def Prs (H:Hp) (l:Addr) (kvs:List (Key×V)):Prop:=∃ as:List Addr,H l=some (.lst (as.map V.ref))/\as.length=kvs.length/\∀ (j:Nat) (b:Addr),as[j]?=some b->∃ kv v,kvs[j]?=some kv/\cR kvs kv.1=some v/\H b=some (.tup [kV kv.1,v])
theorem Prs.same {H H':Hp}{l:Addr}{kvs:List (Key×V)}(h:Prs H l kvs) (s:Same H H'):Prs H' l kvs:=by
 obtain⟨as,h1,h2,h3⟩:=h
 refine⟨as,s _ _ h1,h2,fun j b e=>?_⟩
 obtain⟨kv,v,e1,e2,e3⟩:=h3 j b e
 exact⟨kv,v,e1,e2,s _ _ e3⟩
theorem pe {k:Key}:dG (kV k)=true/\eqV (kV k) (kV k)=true:=by
 cases k with
 | inl i=>exact⟨rfl,by simp[kV,eqV]⟩
 | inr x=>exact⟨rfl,by simp[kV,eqV]⟩
theorem FV.flat {v:V}(h:FV v):dG v=true/\eqV v v=true:=by
 rcases h with rfl | ⟨b,rfl⟩ | ⟨i,rfl,_⟩ | ⟨x,rfl,_⟩
 ·exact⟨rfl,rfl⟩
 ·exact⟨rfl,by simp[eqV]⟩
 ·exact⟨rfl,by simp[eqV]⟩
 ·exact⟨rfl,by simp[eqV]⟩
theorem valV_has {kvs:List (Key×V)}{kv:Key×V}(h:kv∈kvs):∃ v,cR kvs kv.1=some v:=by
 cases e:cR kvs kv.1 with
 | some v=>exact⟨v,rfl⟩
 | none=>exact absurd (List.mem_map.mpr ⟨kv,h,rfl⟩) (valV_not e)
theorem nB {a:Addr}{kvs:List (Key×V)}(tb:Tb 100 kvs):∀ (H0:Hp) (o:Obj) (D:Addr) (te:TE) (G:Hp->Prop) (tl:L2.St),H0 a=some (.dK kvs)->upd H0 a (.frz o (.dK kvs)) D=none->(∀ (i:Nat) (kv:Key×V) (HI:Hp) (Z:V->Hp->Prop),kvs[i]?=some kv->HI a=some (.frz o (.dK kvs))->(∀ v b,cR kvs kv.1=some v->HI b=none->Z (.ref b) (upd HI b (.tup [kV kv.1,v])))->te (some (kV kv.1)::tl) HI Z)->(∀ H1,H1 a=some (.frz o (.dK kvs))->Same H0 (upd H1 a (.dK kvs))->Prs (upd H1 a (.dK kvs)) D kvs->H0 D=none->G H1)->∃ W:Nat->Nat->Hp->Prop,(∃ m,W 0 m (upd (upd H0 a (.frz o (.dK kvs))) D (.lst [])))/\∀ i m H,W i m H->((Itk a o kvs).stop i H/\G H)\/((Itk a o kvs).go i H/\∀ x H',(Itk a o kvs).yld i H x H'->te (some x::tl) H' fun y H2=>∃ ys,H2 D=some (.lst ys)/\ys.length<sizeLine/\∃ m',m'<m/\W (i+1) m' (upd H2 D (.lst (ys++[y])))):=by
 intro H0 o D te G tl h0 hD hte hG
 have haD:D≠a:=fun e=>by rw[e,ae] at hD; cases hD
 refine tT (fun i HI=>∃ as:List Addr,HI D=some (.lst (as.map V.ref))/\as.length=i/\(∀ (j:Nat) (b:Addr),as[j]?=some b->∃ kv v,kvs[j]?=some kv/\cR kvs kv.1=some v/\HI b=some (.tup [kV kv.1,v]))/\HI a=some (.frz o (.dK kvs))/\Same (upd H0 a (.frz o (.dK kvs))) HI) ⟨[],ae,rfl,(fun j b h=>by simp at h),by rw[au (Ne.symm haD),ae],ao hD _⟩ (fun i HI _ ⟨_,_,_,_,h,_⟩=>h) ?_ ?_
 ·rintro i kv HI hi hk ⟨as,hA,hl,al,tI,sI⟩
  refine hte i kv HI _ hk tI fun v b hv hb=>?_
  have sb:=ao hb (.tup [kV kv.1,v])
  have nbD:b≠D:=fun e=>by rw[e,hA] at hb; cases hb
  refine⟨_,sb _ _ hA,(by rw[length_map,hl]; exact Nat.lt_of_lt_of_le hi (Nat.le_trans tb.ln (by decide))),kvs.length-(i+1),(by lia),rfl,hi,as++[b],?_,(by rw[length_append,hl]; rfl),fun j x hx=>?_,?_,?_⟩
  ·rw[ae,map_append]
   rfl
  ·by_cases hj:j<as.length
   ·rw[List.getElem?_append_left hj] at hx
    obtain⟨kv',v',e1,e2,e3⟩:=al j x hx
    refine⟨kv',v',e1,e2,?_⟩
    have nx:x≠D:=fun z=>by rw[z,hA] at e3; cases e3
    rw[au nx]
    exact sb _ _ e3
   ·rw[List.getElem?_append_right (by lia)] at hx
    have ej:j=i:=by
     have:=(List.getElem?_eq_some_iff.mp hx).1
     simp at this
     lia
    subst ej
    rw[hl,Nat.sub_self] at hx
    simp at hx
    subst hx
    refine⟨kv,v,hk,hv,?_⟩
    rw[au nbD,ae]
  ·rw[au (Ne.symm haD)]
   exact sb _ _ tI
  ·exact Same.updL (sI.trans sb) hD
 ·rintro H1 ⟨as,hA,hl,al,t1,s1⟩
  refine hG H1 t1 (fun b o' e=>?_) ⟨as,by rw[au haD]; exact hA,hl,fun j b e=>?_⟩ ?_
  ·by_cases hb:b=a
   ·subst hb
    rw[ae]
    rw[h0] at e
    exact e
   ·rw[au hb]
    exact s1 b o' (by rw[au hb]; exact e)
  ·obtain⟨kv,v,e1,e2,e3⟩:=al j b e
   refine⟨kv,v,e1,e2,?_⟩
   rw[au (fun z=>by rw[z,t1] at e3; cases e3)]
   exact e3
  ·rw[au haD] at hD
   exact hD
theorem pX {a:Addr}{kvs:List (Key×V)}{i:Nat}{kv:Key×V}{HI:Hp}{o:Obj}(hk:kvs[i]?=some kv) (hI:HI a=some (.frz o (.dK kvs))):∃ v,DGet HI a (kV kv.1) (some v)/\cR kvs kv.1=some v:=by
 obtain⟨v,hv⟩:=valV_has (mem_of_getElem? hk)
 exact⟨v,.inl ⟨kvs,kv.1,.inr ⟨o,hI⟩,rfl,hv.symm⟩,hv⟩
theorem prs_eq {K:Frag}{H:Hp}{D D2:Addr}{kvs:List (Key×V)}(tb:Tb 100 kvs) (p1:Prs H D kvs) (p2:Prs H D2 kvs):∃ as bs:List Addr,H D=some (.lst (as.map V.ref))/\H D2=some (.lst (bs.map V.ref))/\as.length=bs.length/\∀ j,j<as.length->EqD K H 1 ((as.map V.ref).getD j .non) ((bs.map V.ref).getD j .non) true:=by
 obtain⟨as,l1,n1,al1⟩:=p1
 obtain⟨bs,l2,n2,al2⟩:=p2
 refine⟨as,bs,l1,l2,n1.trans n2.symm,fun j hj=>?_⟩
 obtain⟨kv,v,e1,e2,e3⟩:=al1 j as[j] (List.getElem?_eq_getElem hj)
 obtain⟨kv',v',f1,f2,f3⟩:=al2 j (bs[j]'(by lia)) (List.getElem?_eq_getElem (by lia))
 rw[e1] at f1
 cases f1
 rw[e2] at f2
 cases f2
 have ga:(as.map V.ref).getD j .non=.ref as[j]:=by rw[getD_eq_getElem?_getD,List.getElem?_map,List.getElem?_eq_getElem hj]; rfl
 have gb:(bs.map V.ref).getD j .non=.ref (bs[j]'(by lia)):=by rw[getD_eq_getElem?_getD,List.getElem?_map,List.getElem?_eq_getElem (by lia)]; rfl
 rw[ga,gb]
 obtain⟨kw,hkw,_,rfl⟩:=valV_mm e2
 have fv:=(tb.ok kw hkw).2.flat
 by_cases hab:as[j]=bs[j]'(by lia)
 ·rw[hab]
  exact EqD.same
 ·have:=EqD.tup (K:=K) (H:=H) (d:=0) (e:=fun _=>true) hab (SqT.of e3) (SqT.of f3) (fun m m1 m2=>?_)
  ·exact this
  ·have:m<2:=m1
   rcases(by lia:m=0\/m=1) with rfl | rfl
   ·have z:=EqD.flat (K:=K) (H:=H) (d:=0) (x:=kV kv.1) (y:=kV kv.1) pe.1 pe.1
    rw[pe.2] at z
    exact z
   ·have z:=EqD.flat (K:=K) (H:=H) (d:=0) (x:=kw.2) (y:=kw.2) fv.1 fv.1
    rw[fv.2] at z
    exact z
theorem _root_.Internal.L2.TabA.d {P m:Addr}{qual:Str}{H:Hp}{zs:List (Key×V)}{o:HO}(x:TabA P qual H) (hm:H m=some (.dK zs)):TabA P qual (upd H m o) :=
 x.keep (fun _ e=>by rw[au (fun z=>by rw[z,hm] at e; cases e)]; exact e) fun _ _ e=>by rw[au (fun z=>by rw[z,hm] at e; cases e)]; exact e
theorem pl_kp {H H':Hp}{ts:List Addr}{xs:List SD}(h:QL STd H ts xs) (k:Kp H H'):QL STd H' ts xs:=h.mono fun _ _ e=>e.kp k
def KpX (p:Addr) (H H':Hp):Prop:=∀ a u,a≠p->(∀ ps,u≠.tbl ps)->H a=some u->H' a=some u
theorem ml {c:Ad}{w d t:Int}{H:Hp}{L r m:Addr}{ts ps qs:List Addr}{is js:List Nat}{kf:Nat->Int}{i:Nat}(w1:4<=w) (w2:w<=32) (d1:1<=d) (d2:d<=2^(w-1).toNat) (tw:Tw d t) (hL:H L=some (.lst (is.map fun i=>V.ref (ts.getD i 0)))) (tl:QL STd H ts (mF (1*2^w.toNat) d t)) (sb:SrtBy kf ts.length is) (pl:QL (SFO c) H ps (mF (1*2^w.toNat) d t)) (sc:SrtBy kf ps.length js) (ch:Chos w d (js.map fun i=>ps.getD i 0) (js.map fun i=>(mF (1*2^w.toNat) d t).getD i cd0) r H i m qs):∃ ps ts xs,H L=some (.lst (ts.map V.ref))/\QL STd H ts xs/\QL (SFO c) H ps xs/\(∀ x∈xs,x.ok/\(2:Int)^x.e.toNat∣d)/\xs.length<=300/\Chos w d ps xs r H i m qs:=by
 have sc':SrtBy kf ts.length js:=by rw[tl.1,<- pl.1]; exact sc
 have e:=sb.uniq sc'
 subst e
 have fm:=pk w1 w2 d1 d2 tw
 have ln:=jc w1 w2 d1 (eK w1 d2).1 tw
 have lx:∀ i∈is,i<(mF (1*2^w.toNat) d t).length:=fun i hi=>by rw[<- tl.1]; exact sb.lt i hi
 exact⟨_,_,_,(by rw[map_map]; exact hL),tl.pick is sb.lt,pl.pick is sc.lt,fun x hx=>fm x (p7 lx x hx),(by rw[length_map,sb.len,tl.1]; exact ln.1),ch⟩
def mi (PT0 PT1:Addr):Sp:=fun vs H Q _=>∃ p:Addr,vs=[.ref p]/\Bx H p/\TO PT0 H/\TA PT1 H/\∀ H',KpX p H H'->TO PT0 H'->TA PT1 H'->Q (.bl true) H'
def spLaw (K:Frag) (PT0 PT1:Addr):Sp:=fun vs H Q _=>∃ (a:Addr) (ns:List Int),vs=[.ref a]/\SqL K H a (ns.map V.int)/\ns.length<=63/\(TabA PT0 lmQ H/\TabA PT1 lmFQ H)/\∀ H',Q (.bl true) H'
theorem ents_nd (t:Nat->Tok) (b:Nat->Addr):((ents t b).map (·.1)).Nodup:=by
 show (["shifted","scaled","early","more","wide"]:List Str).Nodup
 decide +kernel
theorem nX {f:Addr}{fd:FuncData}(F:Fun K "_law_case" "_law_case" gs f fd) (T:Txt K mg c) (H__law_signed_divisor:Has P w K mg base 3 "_law_signed_divisor" ["_law_state","_law_width"] uh) (H__law_prices:Has P w K mg base 2 "_law_prices" ["_law_state"] spPr) (H__law_ranked:Has P w K mg base 4 "_law_ranked" ["_law_width","_law_d","_law_table"] uv) (H_signed_choose:Has P w K mg base 15 "signed_choose" ["width","d","prices"] (spCh c PT0 PT1)) (H__law_told_right:Has P w K mg base 5 "_law_told_right" ["_law_width","_law_d","_law_ranked_here","_law_found"] (spTR c)) (H__law_draw:Has P w K mg base 1 "_law_draw" ["_law_state","_law_size"] lE):FnOk P w K mg base CX0 16 f fd ["_law_state"] (mi PT0 PT1):=by
 refine F.ok sc__law_case (fun vs H Q E h=>?_) (fun cdv A outer s H vs Q E hr h=>?_)
 ·obtain⟨p,rfl,_⟩:=h
  rfl
 obtain⟨p,rfl,hb,to,ta,q⟩:=h
 refine⟨_,(af (ax (i:=1) sc__law_case.nd rfl (Or.inl rfl) (aq aQ ag (aH H__law_draw (hr.mono (by lia)) rfl (aa (pv 0) (aa ag ah)))))
  (bn (aN (aA dA (aH H__law_draw (hr.mono (by lia)) rfl (aa (pv 0) (aa ag ah))) ag (aI _))
   (aj (ax (i:=1) sc__law_case.nd rfl (Or.inl rfl) (aq aQ ag (aH H__law_draw (hr.mono (by lia)) rfl (aa (pv 0) (aa ag ah))))))
   aw)
  (af (ax (i:=2) sc__law_case.nd rfl (Or.inl rfl) (aH H__law_signed_divisor (hr.mono (by lia)) rfl (aa (pv 0) (aa (pv 1) ah))))
  (af (ax (i:=3) sc__law_case.nd rfl (Or.inr rfl) (aH H__law_prices (hr.mono (by lia)) rfl (aa (pv 0) ah)))
  (af (ps_thaw (ps_compC (i:=4) sc__law_case.nd rfl (Or.inl rfl) rfl [3] ["_law_table"] rfl (by first | rfl | with_unfolding_all rfl) (by rfl) (by exact(List.forall_mem_cons.mpr ⟨rfl,(fun _ h=>nomatch h)⟩)) (by decide +kernel) rfl (by decide +kernel) rfl (by decide +kernel) (by exact(List.forall_mem_cons.mpr ⟨⟨by first | exact Or.inl rfl | exact Or.inr rfl,rfl⟩,(fun _ h=>nomatch h)⟩)) rfl (by rfl) (rV (pv 3)) (fun C s2 H2 fp=>(bp (aa (pv 0) (aa (iQ (iM hr) (pv 1) (pv 0) (fun _ _=>rfl)) ah))))))
  (af (ax (i:=5) sc__law_case.nd rfl (Or.inl rfl) (aH H__law_ranked (hr.mono (by lia)) rfl (aa (pv 1) (aa (pv 2) (aa (pv 3) ah)))))
  (af (ax (i:=6) sc__law_case.nd rfl (Or.inl rfl) (aH H_signed_choose (hr.mono (by lia)) rfl (aa (pv 1) (aa (pv 2) (aa (pv 3) ah)))))
  (af (aN (PW.pt (eQ (bj (bh (aH H__law_told_right (hr.mono (by lia)) rfl (aa (pv 1) (aa (pv 2) (aa (pv 5) (aa (pv 6) ah))))))) (eS (aA (op_neLD (d:=1) (hu2 hr)) (pv 4) (pe_thaw (je [3] ["_law_table"] rfl (by first | rfl | with_unfolding_all rfl) (by rfl) (by exact(List.forall_mem_cons.mpr ⟨rfl,(fun _ h=>nomatch h)⟩)) (by decide +kernel) rfl (by decide +kernel) rfl (by decide +kernel) (by exact(List.forall_mem_cons.mpr ⟨⟨by first | exact Or.inl rfl | exact Or.inr rfl,rfl⟩,(fun _ h=>nomatch h)⟩)) rfl (by rfl) (rV (pv 3)) (fun C s2 H2 fp=>(bp (aa (pv 0) (aa (iQ (iM hr) (pv 1) (pv 0) (fun _ _=>rfl)) ah)))))) (aI _)))))
   (aj (av iq))
   aw)
  (af (aK (cN PySem.F.plainAttrs_list PySem.F.slot_list_append PySem.F.type_list_append aP (aY aU (pv 6) ag (fun _ _=>rfl)) (aa lu ah)))
  (af (aN (bj (bh (aH H__law_told_right (hr.mono (by lia)) rfl (aa (pv 1) (aa (pv 2) (aa (pv 5) (aa (aH H_signed_choose (hr.mono (by lia)) rfl (aa (pv 1) (aa (pv 2) (aa (pv 3) ah)))) ah)))))))
   (aj (av iq))
   aw)
  (af (jz (iM hr) (pv 3) aD (aq aL ag (iQ (iM hr) (pv 3) aD (fun _ _=>rfl))) rfl)
  (af (ax (i:=5) sc__law_case.nd rfl (Or.inl rfl) (aH H__law_ranked (hr.mono (by lia)) rfl (aa (pv 1) (aa (pv 2) (aa (pv 3) ah)))))
  (aj (av (aH H__law_told_right (hr.mono (by lia)) rfl (aa (pv 1) (aa (pv 2) (aa (pv 5) (aa (aH H_signed_choose (hr.mono (by lia)) rfl (aa (pv 1) (aa (pv 2) (aa (pv 3) ah)))) ah))))))))))))))))))),?_⟩
 walk_at "o"; intro w0 H1 w00 w01 b1 x1
 walk_at "o"
 refine⟨fun σ2 HZ=>∃ i:Int,σ2=[some (.ref p),some (.int i),none,none,none,none,none]/\4<=i/\i<=32/\Bx HZ p/\SameX p H HZ,?_,?_⟩
 ·walk_at "o"; intro k H2 k0 k1 b2 x2
  walk_at "o"
  walk_at "c" <;> intro c0
  ·walk_at "o"; intro w2 H3 w20 w21 b3 x3
   walk_at "o"
   exact x1.trans (x2.trans x3)
  ·exact⟨_,rfl,by lia,by lia,b2,x1.trans x2⟩
 rintro σ2 HA ⟨i,rfl,h1,h2,bA,xA⟩
 have pb:=aX h1 h2
 have ph:=cT h1 h2
 walk_at "o"; intro d H2 d1 d2 b2 x2
 refine⟨_,rfl,p,rfl,b2,fun a kvs H3 a0 ha3 g tb b3 x3=>?_⟩
 have x03:=xA.trans (x2.trans x3)
 have to3:=to.x hb x03
 have ta3:=ta.x hb x03
 have tb':Tb 100 kvs:=⟨Nat.le_trans tb.ln (by decide),tb.ok⟩
 have a00:H a=none:=by
  cases e:H a with
  | none=>rfl
  | some o =>
   rw[(xA.trans x2) _ _ (fun z=>by obtain⟨r1,r2,hb⟩:=b2; rw[z,hb] at a0; cases a0) e] at a0; cases a0
 have nof:∀ o u,H a≠some (.frz o u):=fun o u z=>by rw[a00] at z; cases z
 refine⟨_,rfl,a,kvs,rfl,ha3,fun o D hD=>nB tb' H3 o D _ _ _ ha3 hD (fun i kv HI Z hk hI z=>?_) fun H4 h4 s4 p4 dn4=>?_⟩
 ·obtain⟨v,dg,hv⟩:=pX hk hI
  exact⟨_,rfl,_,rfl,_,rfl,a,v,rfl,dg,(by show 2<=sizeLine; decide),fun b hb=>z v b hv hb⟩
 refine⟨a,o,kvs,h4,nof,?_⟩
 have a5:upd H4 a (.dK kvs) a=some (.dK kvs):=ae
 generalize upd H4 a (.dK kvs)=H5 at s4 p4 a5 ⊢
 have s35:Same H3 H5:=s4
 have to5:=to3.same s35
 have ta5:=ta3.same s35
 refine⟨_,rfl,_,rfl,_,rfl,i,d,a,kvs,rfl,h1,h2,d1,d2,a5,g,fun t L ts is H6 tw L0 hL tl sb s6=>?_⟩
 refine⟨_,rfl,_,rfl,_,rfl,i,d,a,kvs,rfl,h1,h2,d1,d2,s6 _ _ a5,g,to5.same s6,ta5.same s6,fun t' ps js r H7 k m qs tw' pl sc ch nm k7 to7 ta7=>?_⟩
 cases ic tw tw'
 have hL7:=k7.ls hL
 have tl7:=pl_kp tl k7
 obtain⟨p1,t1,z1,e1,e2,e3,e4,e5,e6⟩:=ml h1 h2 d1 d2 tw hL7 tl7 sb pl sc ch
 refine⟨_,rfl,_,rfl,_,rfl,_,rfl,i,d,L,r,p1,t1,z1,k,m,qs,rfl,h1,h2,d1,d2,e1,e2,e3,e4,e5,e6,fun H8 s8=>⟨_,rfl,db ?_⟩⟩
 have a8:=s8 _ _ (k7.dk (s6 _ _ a5))
 have p8:Prs H8 D kvs:=by
  obtain⟨as,e1,e2,e3⟩:=p4
  refine⟨as,s8 _ _ (k7.ls (s6 _ _ e1)),e2,fun j b e=>?_⟩
  obtain⟨kv,v,f1,f2,f3⟩:=e3 j b e
  exact⟨kv,v,f1,f2,s8 _ _ (k7.tp (s6 _ _ f3))⟩
 refine⟨_,rfl,_,rfl,a,kvs,rfl,a8,fun o2 D2 hD2=>nB tb' H8 o2 D2 _ _ _ a8 hD2 (fun i kv HI Z hk hI z=>?_) fun H9 h9 s9 p9 dn9=>?_⟩
 ·obtain⟨v,dg,hv⟩:=pX hk hI
  exact⟨_,rfl,_,rfl,_,rfl,a,v,rfl,dg,(by show 2<=sizeLine; decide),fun b hb=>z v b hv hb⟩
 refine⟨a,o2,kvs,h9,nof,?_⟩
 have p89:=p8.same s9
 have aB:upd H9 a (.dK kvs) a=some (.dK kvs):=ae
 generalize upd H9 a (.dK kvs)=HB at s9 p9 p89 aB ⊢
 obtain⟨as,bs,l1,l2,nn,eqs⟩:=prs_eq (K:=K) tb' p89 p9
 refine⟨D,D2,as.map V.ref,bs.map V.ref,fun _=>true,rfl,rfl,SqL.of l1,SqL.of l2,(by rw[length_map,length_map,nn]),fun j hj=>eqs j (by rw[length_map] at hj; exact hj),?_⟩
 have ea:∀ n:Nat,(List.range n).all (fun _=>true)=true:=fun n=>List.all_eq_true.mpr fun _ _=>rfl
 dsimp only
 rw[ea]
 refine⟨_,rfl,db ?_⟩
 have s7B:=s8.trans s9
 obtain⟨⟨pr,hpr,hr7⟩,hm7,ln7,_,_⟩:=ch
 have hmB:=s7B _ _ hm7
 have kC:=nm.upd (o:=.lst (qs.map V.ref++[.non])) (k7.trans (Kp.of s7B))
 have toC:=(to7.same s7B).l (o:=.lst (qs.map V.ref++[.non])) hmB
 have taC:=(ta7.same s7B).upd (ys:=qs.map V.ref++[.non]) hmB
 have lq:(qs.map V.ref).length<sizeLine:=by
  rw[length_map,ln7]
  have z:=(List.getElem?_eq_some_iff.mp hpr).1
  rw[length_map,sc.len,pl.1] at z
  exact Nat.lt_of_lt_of_le z (Nat.le_trans (jc h1 h2 d1 (eK h1 d2).1 tw).1 (by decide))
 refine⟨_,rfl,_,_,_,_,rfl,rfl,SqT.of (s7B _ _ hr7),rfl,.inl ⟨rfl,_,SqL.of hmB⟩,m,_,_,rfl,rfl,hmB,lq,?_⟩
 generalize upd HB m (.lst (qs.map V.ref++[.non]))=HC at kC toC taC ⊢
 clear to7 ta7 hmB hr7 hm7 p89 p9 l1 l2 eqs e1 e2 e3 e4 e5 e6 s7B aB a8 p8 hL7 tl7 pl sc
 have aC:=kC.dk (s6 _ _ a5)
 refine⟨_,rfl,_,rfl,_,rfl,_,rfl,_,rfl,_,rfl,i,d,a,kvs,rfl,h1,h2,d1,d2,aC,g,toC,taC,fun t' ps js r2 HE k2 m2 qs2 tw' pl sc ch2 nm2 kE toE taE=>?_⟩
 cases ic tw tw'
 have k6E:=kC.trans kE
 obtain⟨p1,t1,z1,e1,e2,e3,e4,e5,e6⟩:=ml h1 h2 d1 d2 tw (k6E.ls hL) (pl_kp tl k6E) sb pl sc ch2
 refine⟨i,d,L,r2,p1,t1,z1,k2,m2,qs2,rfl,h1,h2,d1,d2,e1,e2,e3,e4,e5,e6,fun HF sF=>⟨_,rfl,db ?_⟩⟩
 clear e1 e2 e3 e4 e5 e6 pl sc ch2
 have k6F:=k6E.trans (Kp.of sF)
 have aF:=k6F.dk (s6 _ _ a5)
 have hm:("high":Str)∈rw16:=by decide
 obtain⟨ev,v0,v1⟩:=g.at hm
 have g':GoodD (dI kvs (.inr "high") (.int (1000-pz kvs "high"))):=g.put (by lia) (by lia)
 have toG:=(toE.same sF).d (o:=.dK (dI kvs (.inr "high") (.int (1000-pz kvs "high")))) aF
 have taG:=(taE.same sF).d (o:=.dK (dI kvs (.inr "high") (.int (1000-pz kvs "high")))) aF
 have kG:∀ b u,b≠a->(∀ ps,u≠.tbl ps)->H6 b=some u->upd HF a (.dK (dI kvs (.inr "high") (.int (1000-pz kvs "high")))) b=some u:=fun b u n nt e=>by rw[au n]; exact k6F b u nt e
 have aG:upd HF a (.dK (dI kvs (.inr "high") (.int (1000-pz kvs "high")))) a=some (.dK (dI kvs (.inr "high") (.int (1000-pz kvs "high")))):=ae
 refine⟨_,rfl,a,_,rfl,(by have:=tK (y:="high") aF; rw[ev] at this; exact this),_,_,rfl,rfl,_,rfl,a,_,rfl,sq aF (Nat.lt_of_le_of_lt tb.ln (by decide)),?_⟩
 generalize upd HF a (.dK (dI kvs (.inr "high") (.int (1000-pz kvs "high"))))=HG at toG taG kG aG ⊢
 refine⟨_,rfl,_,rfl,_,rfl,i,d,a,_,rfl,h1,h2,d1,d2,aG,g',fun t' L2 ts2 is2 HI tw' L20 hL2 tl2 sb2 sI=>?_⟩
 cases ic tw tw'
 refine⟨_,rfl,_,rfl,_,rfl,_,rfl,_,rfl,_,rfl,i,d,a,_,rfl,h1,h2,d1,d2,sI _ _ aG,g',toG.same sI,taG.same sI,fun t' ps js r3 HJ k3 m3 qs3 tw' pl sc ch3 nm3 kJ toJ taJ=>?_⟩
 cases ic tw tw'
 obtain⟨p1,t1,z1,e1,e2,e3,e4,e5,e6⟩:=ml h1 h2 d1 d2 tw (kJ.ls hL2) (pl_kp tl2 kJ) sb2 pl sc ch3
 refine⟨i,d,L2,r3,p1,t1,z1,k3,m3,qs3,rfl,h1,h2,d1,d2,e1,e2,e3,e4,e5,e6,fun HK sK=>?_⟩
 exact q HK (fun b u n nt e=>sK _ _ (kJ b u nt (sI _ _ (kG b u (aE e a00) nt (s6 _ _ (s35 _ _ (x03 _ _ n e))))))) (toJ.same sK) (taJ.same sK)
theorem ok_law {f:Addr}{fd:FuncData}(F:Fun K "law" "law" ma f fd) (T:Txt K mg c) (H__law_case:Has P w K mg base 16 "_law_case" ["_law_state"] (mi PT0 PT1)) (H__law_start:Has P w K mg base 1 "_law_start" ["_law_script","_law_k"] (oM K)):FnOk P w K mg base CX0 17 f fd ["_law_script"] (spLaw K PT0 PT1):=by
 refine F.ok sc_law (fun vs H Q E h=>?_) (fun cdv A outer s H vs Q E hr h=>?_)
 ·obtain⟨a,ns,rfl,_⟩:=h
  rfl
 obtain⟨a,ns,rfl,hS,hlen,⟨to,ta⟩,q⟩:=h
 have hl:(ns.map V.int).length=ns.length:=length_map _
 refine⟨_,(af (cu PassesOwn.never rfl (cK rfl T.n_range (aa (aJ (rm rfl) rfl T.n_max boot_max (aa ag (aa (aJ (eE rfl) rfl T.n_min boot_min (aa (aJ bv rfl T.n_len boot_len (aa (pv 0) ah)) (aa ag ah))) ah))) ah)) (be (i:=1) sc_law.nd rfl (Or.inl rfl))
   (aj (aN (bj (bh (aH H__law_case (hr.mono (by lia)) rfl (aa (aH H__law_start (hr.mono (by lia)) rfl (aa (pv 0) (aa (pv 1) ah))) ah))))
    (aj (av iq))
    aw)))
  (aj (av iq))),?_⟩
 refine⟨_,rfl,a,_,rfl,.inl hS,_,_,rfl,_,_,rfl,_,rfl,(by rw[hl]; split <;> (try split) <;> lia),(by rw[hl]; split <;> (try split) <;> lia),cL (fun i σ H2=>∃ x1:Option V,σ=[some (.ref a),x1]/\SqL K H2 a (ns.map V.int)/\TO PT0 H2/\TA PT1 H2) ⟨_,rfl,hS,to,ta⟩ ?_ ?_⟩
 ·rintro i σ H2 hi ⟨x1,rfl,hS2,to2,ta2⟩
  have hi':(i:Int)<100:=by
   rw[hl] at hi
   revert hi
   split <;> (try split) <;> lia
  refine⟨_,rfl,_,rfl,a,ns,_,rfl,hS2,by lia,by lia,fun p H3 hp b3 s3=>?_⟩
  refine⟨p,rfl,b3,to2.same s3,ta2.same s3,fun H4 y4 to4 ta4=>⟨_,rfl,db ⟨_,rfl,?_,to4,ta4⟩⟩⟩
  rcases hS2 with (e | ⟨o,e⟩) | z
  ·exact .inl (.inl (y4 a _ (aE e hp) nofun (s3 _ _ e)))
  ·exact .inl (.inr ⟨o,y4 a _ (aE e hp) nofun (s3 _ _ e)⟩)
  ·exact .inr z
 ·rintro σ H2 ⟨x1,rfl,s2⟩
  exact q H2
end
theorem all_mk {l:PySem.W.OpenLaw}{w:World}{K:Frag}{h:Heap}{mg:Str->Option Value}{fa f1 f2 f3 f4 f5 f6 f7 f8 f9 f10 f11 f12 f13 f14 f15 f16 f17 f18 f19 f20 f21 f22 f23 f24 f25 f26 f27 f28 f29 f30 f31 f32 f33 f34 f35 f36 f37 f38 f39 f40 f41 f42 f43 f44 f45 f46 f47 f48 f49 f50 f51 f52 f53 f54 f55 f56 f57 f58 f59 f60 f61 f62 f63 f64 f65 f66 f67 f68 f69 f70 f71 f72 f73 f74 f75 f76 f77 f78 f79 f80 f81 f82 f83 f84 f85 f86 f87 f88 c_Form c_Shifted c_Scaled c_Early c_More c_Wide c_Cutting c_Turned c_SignedForm c_ROW_WORDS c_ROWS_AHEAD:Addr}(X:K.In h) (G:h.Ns mainGlobals mg) (hfa:mg "law"=some (.ref fa))
  {od88 an88 od59 an59 od63 an63:Option Addr} {sl88 sl59 sl63:Array (Option Value)} {oc88 kV88 dc88 pm88 cd88 ct88 oc59 kV59 dc59 pm59 cd59 ct59 oc63 kV63 dc63 pm63 cd63 ct63:Value}
  (a1:nsIn K mainGlobals "is_whole"=some (some (.ref f1)))
  (l1:FB K "is_whole" "is_whole" iE f1)
  (a2:nsIn K mainGlobals "is_between"=some (some (.ref f2)))
  (l2:FB K "is_between" "is_between" e9 f2)
  (a3:nsIn K mainGlobals "need_width"=some (some (.ref f3)))
  (l3:FB K "need_width" "need_width" eM f3)
  (a4:nsIn K mainGlobals "need_divisor"=some (some (.ref f4)))
  (l4:FB K "need_divisor" "need_divisor" du f4)
  (a5:nsIn K mainGlobals "twos_in"=some (some (.ref f5)))
  (l5:FB K "twos_in" "twos_in" jw f5)
  (a6:nsIn K mainGlobals "brought"=some (some (.ref f6)))
  (l6:FB K "brought" "brought" ki f6)
  (a7:findIn K (.ref c_Shifted) "quotient"=some (some (.ref f7))) (i7:isFn K (.ref f7)=true) (h_Scaled_quotient:findIn K (.ref c_Scaled) "quotient"=some (some (.ref f7))) (h_Early_quotient:findIn K (.ref c_Early) "quotient"=some (some (.ref f7))) (h_More_quotient:findIn K (.ref c_More) "quotient"=some (some (.ref f7))) (h_Wide_quotient:findIn K (.ref c_Wide) "quotient"=some (some (.ref f7)))
  (l7:FB K "quotient" "Form.quotient" c8 f7)
  (a8:findIn K (.ref c_Shifted) "__init__"=some (some (.ref f8))) (i8:isFn K (.ref f8)=true)
  (l8:FB K "__init__" "Shifted.__init__" cf f8)
  (a9:findIn K (.ref c_Shifted) "word"=some (some (.ref f9))) (i9:isFn K (.ref f9)=true)
  (l9:FB K "word" "Shifted.word" di f9)
  (a10:findIn K (.ref c_Shifted) "told"=some (some (.ref f10))) (i10:isFn K (.ref f10)=true)
  (l10:FB K "told" "Shifted.told" dl f10)
  (a11:findIn K (.ref c_Shifted) "numbers_in"=some (some (.ref f11))) (i11:isFn K (.ref f11)=true)
  (l11:FB K "numbers_in" "Shifted.numbers_in" bJ f11)
  (a12:findIn K (.ref c_Scaled) "__init__"=some (some (.ref f12))) (i12:isFn K (.ref f12)=true)
  (l12:FB K "__init__" "Scaled.__init__" cE f12)
  (a13:findIn K (.ref c_Scaled) "word"=some (some (.ref f13))) (i13:isFn K (.ref f13)=true)
  (l13:FB K "word" "Scaled.word" dN f13)
  (a14:findIn K (.ref c_Scaled) "told"=some (some (.ref f14))) (i14:isFn K (.ref f14)=true)
  (l14:FB K "told" "Scaled.told" dW f14)
  (a15:findIn K (.ref c_Scaled) "numbers_in"=some (some (.ref f15))) (i15:isFn K (.ref f15)=true)
  (l15:FB K "numbers_in" "Scaled.numbers_in" bP f15)
  (a16:findIn K (.ref c_Early) "__init__"=some (some (.ref f16))) (i16:isFn K (.ref f16)=true)
  (l16:FB K "__init__" "Early.__init__" cQ f16)
  (a17:findIn K (.ref c_Early) "word"=some (some (.ref f17))) (i17:isFn K (.ref f17)=true)
  (l17:FB K "word" "Early.word" e7 f17)
  (a18:findIn K (.ref c_Early) "told"=some (some (.ref f18))) (i18:isFn K (.ref f18)=true)
  (l18:FB K "told" "Early.told" eY f18)
  (a19:findIn K (.ref c_Early) "numbers_in"=some (some (.ref f19))) (i19:isFn K (.ref f19)=true)
  (l19:FB K "numbers_in" "Early.numbers_in" ci f19)
  (a20:findIn K (.ref c_More) "__init__"=some (some (.ref f20))) (i20:isFn K (.ref f20)=true)
  (l20:FB K "__init__" "More.__init__" c7 f20)
  (a21:findIn K (.ref c_More) "word"=some (some (.ref f21))) (i21:isFn K (.ref f21)=true)
  (l21:FB K "word" "More.word" gE f21)
  (a22:findIn K (.ref c_More) "told"=some (some (.ref f22))) (i22:isFn K (.ref f22)=true)
  (l22:FB K "told" "More.told" gn f22)
  (a23:findIn K (.ref c_More) "numbers_in"=some (some (.ref f23))) (i23:isFn K (.ref f23)=true)
  (l23:FB K "numbers_in" "More.numbers_in" cA f23)
  (a24:findIn K (.ref c_Wide) "__init__"=some (some (.ref f24))) (i24:isFn K (.ref f24)=true)
  (l24:FB K "__init__" "Wide.__init__" cU f24)
  (a25:findIn K (.ref c_Wide) "word"=some (some (.ref f25))) (i25:isFn K (.ref f25)=true)
  (l25:FB K "word" "Wide.word" gy f25)
  (a26:findIn K (.ref c_Wide) "told"=some (some (.ref f26))) (i26:isFn K (.ref f26)=true)
  (l26:FB K "told" "Wide.told" gj f26)
  (a27:findIn K (.ref c_Wide) "numbers_in"=some (some (.ref f27))) (i27:isFn K (.ref f27)=true)
  (l27:FB K "numbers_in" "Wide.numbers_in" cF f27)
  (a28:nsIn K mainGlobals "is_factor"=some (some (.ref f28)))
  (l28:FB K "is_factor" "is_factor" gt f28)
  (a29:nsIn K mainGlobals "is_shift"=some (some (.ref f29)))
  (l29:FB K "is_shift" "is_shift" iJ f29)
  (a30:nsIn K mainGlobals "corners_to"=some (some (.ref f30)))
  (l30:FB K "corners_to" "corners_to" eG f30)
  (a31:nsIn K mainGlobals "first_failing"=some (some (.ref f31)))
  (l31:FB K "first_failing" "first_failing" da f31)
  (a32:nsIn K mainGlobals "need_prices"=some (some (.ref f32)))
  (l32:FB K "need_prices" "need_prices" dX f32)
  (a33:nsIn K mainGlobals "ceiling"=some (some (.ref f33)))
  (l33:FB K "ceiling" "ceiling" jx f33)
  (a34:nsIn K mainGlobals "candidates"=some (some (.ref f34)))
  (l34:FB K "candidates" "candidates" eF f34)
  (a35:nsIn K mainGlobals "scaled_candidates"=some (some (.ref f35)))
  (l35:FB K "scaled_candidates" "scaled_candidates" bM f35)
  (a36:nsIn K mainGlobals "early_candidates"=some (some (.ref f36)))
  (l36:FB K "early_candidates" "early_candidates" cg f36)
  (a37:nsIn K mainGlobals "more_candidates"=some (some (.ref f37)))
  (l37:FB K "more_candidates" "more_candidates" cJ f37)
  (a38:nsIn K mainGlobals "form_words"=some (some (.ref f38)))
  (l38:FB K "form_words" "form_words" eR f38)
  (a39:nsIn K mainGlobals "first_right"=some (some (.ref f39)))
  (l39:FB K "first_right" "first_right" dS f39)
  (a40:nsIn K mainGlobals "need_signed_divisor"=some (some (.ref f40)))
  (l40:FB K "need_signed_divisor" "need_signed_divisor" bC f40)
  (a41:nsIn K mainGlobals "cut_quotient"=some (some (.ref f41)))
  (l41:FB K "cut_quotient" "cut_quotient" dD f41)
  (a42:findIn K (.ref c_Cutting) "__init__"=some (some (.ref f42))) (i42:isFn K (.ref f42)=true)
  (l42:FB K "__init__" "Cutting.__init__" bT f42)
  (a43:findIn K (.ref c_Cutting) "word"=some (some (.ref f43))) (i43:isFn K (.ref f43)=true)
  (l43:FB K "word" "Cutting.word" dj f43)
  (a44:findIn K (.ref c_Cutting) "told"=some (some (.ref f44))) (i44:isFn K (.ref f44)=true)
  (l44:FB K "told" "Cutting.told" dE f44)
  (a45:findIn K (.ref c_Cutting) "quotient"=some (some (.ref f45))) (i45:isFn K (.ref f45)=true)
  (l45:FB K "quotient" "Cutting.quotient" ck f45)
  (a46:findIn K (.ref c_Cutting) "early_in"=some (some (.ref f46))) (i46:isFn K (.ref f46)=true)
  (l46:FB K "early_in" "Cutting.early_in" bU f46)
  (a47:findIn K (.ref c_Cutting) "row_list"=some (some (.ref f47))) (i47:isFn K (.ref f47)=true)
  (l47:FB K "row_list" "Cutting.row_list" cm f47)
  (a48:findIn K (.ref c_Turned) "__init__"=some (some (.ref f48))) (i48:isFn K (.ref f48)=true)
  (l48:FB K "__init__" "Turned.__init__" cx f48)
  (a49:findIn K (.ref c_Turned) "word"=some (some (.ref f49))) (i49:isFn K (.ref f49)=true)
  (l49:FB K "word" "Turned.word" dZ f49)
  (a50:findIn K (.ref c_Turned) "told"=some (some (.ref f50))) (i50:isFn K (.ref f50)=true)
  (l50:FB K "told" "Turned.told" d5 f50)
  (a51:findIn K (.ref c_Turned) "quotient"=some (some (.ref f51))) (i51:isFn K (.ref f51)=true)
  (l51:FB K "quotient" "Turned.quotient" cB f51)
  (a52:findIn K (.ref c_Turned) "early_in"=some (some (.ref f52))) (i52:isFn K (.ref f52)=true)
  (l52:FB K "early_in" "Turned.early_in" cH f52)
  (a53:findIn K (.ref c_Turned) "row_list"=some (some (.ref f53))) (i53:isFn K (.ref f53)=true)
  (l53:FB K "row_list" "Turned.row_list" cD f53)
  (a54:nsIn K mainGlobals "need_signed_form"=some (some (.ref f54)))
  (l54:FB K "need_signed_form" "need_signed_form" bY f54)
  (a55:nsIn K mainGlobals "signed_corners_to"=some (some (.ref f55)))
  (l55:FB K "signed_corners_to" "signed_corners_to" bO f55)
  (a56:nsIn K mainGlobals "right_at"=some (some (.ref f56)))
  (l56:FB K "right_at" "right_at" iF f56)
  (a57:nsIn K mainGlobals "right_about"=some (some (.ref f57)))
  (l57:FB K "right_about" "right_about" d7 f57)
  (a58:nsIn K mainGlobals "right_for_signed"=some (some (.ref f58)))
  (l58:FB K "right_for_signed" "right_for_signed" bV f58)
  (a59:nsIn K mainGlobals "signed_wrong"=some (some (.ref f59)))
  (l59:K.lookup f59=some ⟨oc59,od59,.func (fnOf "signed_wrong" "signed_wrong" (cW aV) (bH aV) (ak aV) .none kV59 dc59 pm59 an59 cd59 ct59),sl59⟩) (c59:codeIn K cd59 "signed_wrong"=true) (k59:keepIn K (.ref f59)=true)
  (a60:nsIn K mainGlobals "signed_candidates"=some (some (.ref f60)))
  (l60:FB K "signed_candidates" "signed_candidates" bN f60)
  (a61:nsIn K mainGlobals "signed_words"=some (some (.ref f61)))
  (l61:FB K "signed_words" "signed_words" dz f61)
  (a62:nsIn K mainGlobals "price_of_signed"=some (some (.ref f62)))
  (l62:FB K "price_of_signed" "price_of_signed" cC f62)
  (a63:nsIn K mainGlobals "signed_choose"=some (some (.ref f63)))
  (l63:K.lookup f63=some ⟨oc63,od63,.func (fnOf "signed_choose" "signed_choose" (cW aO) (bH aO) (ak aO) .none kV63 dc63 pm63 an63 cd63 ct63),sl63⟩) (c63:codeIn K cd63 "signed_choose"=true) (k63:keepIn K (.ref f63)=true)
  (a64:nsIn K mainGlobals "_law_start"=some (some (.ref f64)))
  (l64:FB K "_law_start" "_law_start" eI f64)
  (a65:nsIn K mainGlobals "_law_draw"=some (some (.ref f65)))
  (l65:FB K "_law_draw" "_law_draw" fZ f65)
  (a66:nsIn K mainGlobals "_law_twos"=some (some (.ref f66)))
  (l66:FB K "_law_twos" "_law_twos" fQ f66)
  (a67:nsIn K mainGlobals "_law_divisor"=some (some (.ref f67)))
  (l67:FB K "_law_divisor" "_law_divisor" dr f67)
  (a68:nsIn K mainGlobals "_law_signed_divisor"=some (some (.ref f68)))
  (l68:FB K "_law_signed_divisor" "_law_signed_divisor" bF f68)
  (a69:nsIn K mainGlobals "_law_whole"=some (some (.ref f69)))
  (l69:FB K "_law_whole" "_law_whole" eJ f69)
  (a70:nsIn K mainGlobals "_law_corners"=some (some (.ref f70)))
  (l70:FB K "_law_corners" "_law_corners" dB f70)
  (a71:nsIn K mainGlobals "_law_brought"=some (some (.ref f71)))
  (l71:FB K "_law_brought" "_law_brought" dw f71)
  (a72:nsIn K mainGlobals "_law_numbers"=some (some (.ref f72)))
  (l72:FB K "_law_numbers" "_law_numbers" dq f72)
  (a73:nsIn K mainGlobals "_law_cut"=some (some (.ref f73)))
  (l73:FB K "_law_cut" "_law_cut" iP f73)
  (a74:nsIn K mainGlobals "_law_signed_quotient"=some (some (.ref f74)))
  (l74:FB K "_law_signed_quotient" "_law_signed_quotient" bz f74)
  (a75:nsIn K mainGlobals "_law_signed_corners"=some (some (.ref f75)))
  (l75:FB K "_law_signed_corners" "_law_signed_corners" bE f75)
  (a76:nsIn K mainGlobals "_law_all_right"=some (some (.ref f76)))
  (l76:FB K "_law_all_right" "_law_all_right" cM f76)
  (a77:nsIn K mainGlobals "_law_nearest"=some (some (.ref f77)))
  (l77:FB K "_law_nearest" "_law_nearest" dm f77)
  (a78:nsIn K mainGlobals "_law_up"=some (some (.ref f78)))
  (l78:FB K "_law_up" "_law_up" jD f78)
  (a79:nsIn K mainGlobals "_law_all"=some (some (.ref f79)))
  (l79:FB K "_law_all" "_law_all" iI f79)
  (a80:nsIn K mainGlobals "_law_all_signed"=some (some (.ref f80)))
  (l80:FB K "_law_all_signed" "_law_all_signed" cG f80)
  (a81:nsIn K mainGlobals "_law_made_of"=some (some (.ref f81)))
  (l81:FB K "_law_made_of" "_law_made_of" dC f81)
  (a82:nsIn K mainGlobals "_law_made_signed"=some (some (.ref f82)))
  (l82:FB K "_law_made_signed" "_law_made_signed" bW f82)
  (a83:nsIn K mainGlobals "_law_row_words"=some (some (.ref f83)))
  (l83:FB K "_law_row_words" "_law_row_words" cP f83)
  (a84:nsIn K mainGlobals "_law_prices"=some (some (.ref f84)))
  (l84:FB K "_law_prices" "_law_prices" d9 f84)
  (a85:nsIn K mainGlobals "_law_ranked"=some (some (.ref f85)))
  (l85:FB K "_law_ranked" "_law_ranked" dU f85)
  (a86:nsIn K mainGlobals "_law_told_right"=some (some (.ref f86)))
  (l86:FB K "_law_told_right" "_law_told_right" cI f86)
  (a87:nsIn K mainGlobals "_law_case"=some (some (.ref f87)))
  (l87:FB K "_law_case" "_law_case" gs f87)
  (a88:nsIn K mainGlobals "law"=some (some (.ref f88)))
  (l88:K.lookup f88=some ⟨oc88,od88,.func (fnOf "law" "law" (cW ma) (bH ma) (ak ma) .none kV88 dc88 pm88 an88 cd88 ct88),sl88⟩) (c88:codeIn K cd88 "law"=true) (k88:keepIn K (.ref f88)=true)
  (aC_Form:nsIn K mainGlobals "Form"=some (some (.ref c_Form))) (pg_Form:plainGet K c_Form Str.empty=true) (hd_Form:hasDictIn K c_Form=true) (po_Form:plainOver K c_Form=true) (sa_Form:findIn K (.ref c_Form) "__setattr__"=some (some (.builtin "object.__setattr__")))
  (aC_Shifted:nsIn K mainGlobals "Shifted"=some (some (.ref c_Shifted))) (pg_Shifted:plainGet K c_Shifted Str.empty=true) (hd_Shifted:hasDictIn K c_Shifted=true) (po_Shifted:plainOver K c_Shifted=true) (sa_Shifted:findIn K (.ref c_Shifted) "__setattr__"=some (some (.builtin "object.__setattr__")))
  (mk_Shifted:makesIn K c_Shifted=true) (kc_Shifted:keepIn K (.ref c_Shifted)=true)
  (na_Shifted_shift:findIn K (.ref c_Shifted) "shift"=some none)
  (aC_Scaled:nsIn K mainGlobals "Scaled"=some (some (.ref c_Scaled))) (pg_Scaled:plainGet K c_Scaled Str.empty=true) (hd_Scaled:hasDictIn K c_Scaled=true) (po_Scaled:plainOver K c_Scaled=true) (sa_Scaled:findIn K (.ref c_Scaled) "__setattr__"=some (some (.builtin "object.__setattr__")))
  (mk_Scaled:makesIn K c_Scaled=true) (kc_Scaled:keepIn K (.ref c_Scaled)=true)
  (na_Scaled_factor:findIn K (.ref c_Scaled) "factor"=some none)
  (na_Scaled_shift:findIn K (.ref c_Scaled) "shift"=some none)
  (aC_Early:nsIn K mainGlobals "Early"=some (some (.ref c_Early))) (pg_Early:plainGet K c_Early Str.empty=true) (hd_Early:hasDictIn K c_Early=true) (po_Early:plainOver K c_Early=true) (sa_Early:findIn K (.ref c_Early) "__setattr__"=some (some (.builtin "object.__setattr__")))
  (mk_Early:makesIn K c_Early=true) (kc_Early:keepIn K (.ref c_Early)=true)
  (na_Early_early:findIn K (.ref c_Early) "early"=some none)
  (na_Early_factor:findIn K (.ref c_Early) "factor"=some none)
  (na_Early_shift:findIn K (.ref c_Early) "shift"=some none)
  (aC_More:nsIn K mainGlobals "More"=some (some (.ref c_More))) (pg_More:plainGet K c_More Str.empty=true) (hd_More:hasDictIn K c_More=true) (po_More:plainOver K c_More=true) (sa_More:findIn K (.ref c_More) "__setattr__"=some (some (.builtin "object.__setattr__")))
  (mk_More:makesIn K c_More=true) (kc_More:keepIn K (.ref c_More)=true)
  (na_More_factor:findIn K (.ref c_More) "factor"=some none)
  (na_More_shift:findIn K (.ref c_More) "shift"=some none)
  (aC_Wide:nsIn K mainGlobals "Wide"=some (some (.ref c_Wide))) (pg_Wide:plainGet K c_Wide Str.empty=true) (hd_Wide:hasDictIn K c_Wide=true) (po_Wide:plainOver K c_Wide=true) (sa_Wide:findIn K (.ref c_Wide) "__setattr__"=some (some (.builtin "object.__setattr__")))
  (mk_Wide:makesIn K c_Wide=true) (kc_Wide:keepIn K (.ref c_Wide)=true)
  (na_Wide_factor:findIn K (.ref c_Wide) "factor"=some none)
  (na_Wide_shift:findIn K (.ref c_Wide) "shift"=some none)
  (aC_Cutting:nsIn K mainGlobals "Cutting"=some (some (.ref c_Cutting))) (pg_Cutting:plainGet K c_Cutting Str.empty=true) (hd_Cutting:hasDictIn K c_Cutting=true) (po_Cutting:plainOver K c_Cutting=true) (sa_Cutting:findIn K (.ref c_Cutting) "__setattr__"=some (some (.builtin "object.__setattr__")))
  (mk_Cutting:makesIn K c_Cutting=true) (kc_Cutting:keepIn K (.ref c_Cutting)=true)
  (na_Cutting_factor:findIn K (.ref c_Cutting) "factor"=some none)
  (na_Cutting_shift:findIn K (.ref c_Cutting) "shift"=some none)
  (aC_Turned:nsIn K mainGlobals "Turned"=some (some (.ref c_Turned))) (pg_Turned:plainGet K c_Turned Str.empty=true) (hd_Turned:hasDictIn K c_Turned=true) (po_Turned:plainOver K c_Turned=true) (sa_Turned:findIn K (.ref c_Turned) "__setattr__"=some (some (.builtin "object.__setattr__")))
  (mk_Turned:makesIn K c_Turned=true) (kc_Turned:keepIn K (.ref c_Turned)=true)
  (na_Turned_form:findIn K (.ref c_Turned) "form"=some none)
  (aC_SignedForm:nsIn K mainGlobals "SignedForm"=some (some (.ref c_SignedForm))) (pg_SignedForm:plainGet K c_SignedForm Str.empty=true) (hd_SignedForm:hasDictIn K c_SignedForm=true) (po_SignedForm:plainOver K c_SignedForm=true) (sa_SignedForm:findIn K (.ref c_SignedForm) "__setattr__"=some (some (.builtin "object.__setattr__")))
  {dW_ROW_WORDS:Option Addr} {nW_ROW_WORDS:Nat} {sW_ROW_WORDS:Array (Option Value)} {u0_ROW_WORDS u1_ROW_WORDS u2_ROW_WORDS u3_ROW_WORDS u4_ROW_WORDS u5_ROW_WORDS u6_ROW_WORDS u7_ROW_WORDS u8_ROW_WORDS u9_ROW_WORDS u10_ROW_WORDS u11_ROW_WORDS u12_ROW_WORDS u13_ROW_WORDS u14_ROW_WORDS u15_ROW_WORDS:Tok} (aW_ROW_WORDS:nsIn K mainGlobals "ROW_WORDS"=some (some (.ref c_ROW_WORDS))) (lW_ROW_WORDS:K.lookup c_ROW_WORDS=some ⟨.type "tuple",dW_ROW_WORDS,.seq #[.str "set" u0_ROW_WORDS,.str "copy" u1_ROW_WORDS,.str "sum" u2_ROW_WORDS,.str "gap" u3_ROW_WORDS,.str "low" u4_ROW_WORDS,.str "high" u5_ROW_WORDS,.str "left" u6_ROW_WORDS,.str "right" u7_ROW_WORDS,.str "slide" u8_ROW_WORDS,.str "and" u9_ROW_WORDS,.str "or" u10_ROW_WORDS,.str "unlike" u11_ROW_WORDS,.str "under" u12_ROW_WORDS,.str "pick" u13_ROW_WORDS,.str "mark" u14_ROW_WORDS,.str "turns" u15_ROW_WORDS] nW_ROW_WORDS,sW_ROW_WORDS⟩)
  {eD_ROWS_AHEAD:Nat} {kD0_ROWS_AHEAD kD1_ROWS_AHEAD kD2_ROWS_AHEAD kD3_ROWS_AHEAD kD4_ROWS_AHEAD:Tok} {vD0_ROWS_AHEAD vD1_ROWS_AHEAD vD2_ROWS_AHEAD vD3_ROWS_AHEAD vD4_ROWS_AHEAD:Addr} (aW_ROWS_AHEAD:nsIn K mainGlobals "ROWS_AHEAD"=some (some (.ref c_ROWS_AHEAD))) (lW_ROWS_AHEAD:K.lookup c_ROWS_AHEAD=some ⟨.type "dict",none,.dict #[⟨PyData.keyHash w.params "shifted",.str "shifted" kD0_ROWS_AHEAD,.ref vD0_ROWS_AHEAD⟩,⟨PyData.keyHash w.params "scaled",.str "scaled" kD1_ROWS_AHEAD,.ref vD1_ROWS_AHEAD⟩,⟨PyData.keyHash w.params "early",.str "early" kD2_ROWS_AHEAD,.ref vD2_ROWS_AHEAD⟩,⟨PyData.keyHash w.params "more",.str "more" kD3_ROWS_AHEAD,.ref vD3_ROWS_AHEAD⟩,⟨PyData.keyHash w.params "wide",.str "wide" kD4_ROWS_AHEAD,.ref vD4_ROWS_AHEAD⟩] eD_ROWS_AHEAD,#[]⟩)
  {dD0_ROWS_AHEAD:Option Addr} {nD0_ROWS_AHEAD:Nat} {tD0_ROWS_AHEAD:Array (Option Value)}  (lD0_ROWS_AHEAD:K.lookup vD0_ROWS_AHEAD=some ⟨.type "tuple",dD0_ROWS_AHEAD,.seq #[] nD0_ROWS_AHEAD,tD0_ROWS_AHEAD⟩)
  {dD1_ROWS_AHEAD:Option Addr} {nD1_ROWS_AHEAD:Nat} {tD1_ROWS_AHEAD:Array (Option Value)} {uD1_0_ROWS_AHEAD uD1_1_ROWS_AHEAD:Tok} (lD1_ROWS_AHEAD:K.lookup vD1_ROWS_AHEAD=some ⟨.type "tuple",dD1_ROWS_AHEAD,.seq #[.str "set" uD1_0_ROWS_AHEAD,.str "high" uD1_1_ROWS_AHEAD] nD1_ROWS_AHEAD,tD1_ROWS_AHEAD⟩)
  {dD2_ROWS_AHEAD:Option Addr} {nD2_ROWS_AHEAD:Nat} {tD2_ROWS_AHEAD:Array (Option Value)} {uD2_0_ROWS_AHEAD uD2_1_ROWS_AHEAD uD2_2_ROWS_AHEAD:Tok} (lD2_ROWS_AHEAD:K.lookup vD2_ROWS_AHEAD=some ⟨.type "tuple",dD2_ROWS_AHEAD,.seq #[.str "right" uD2_0_ROWS_AHEAD,.str "set" uD2_1_ROWS_AHEAD,.str "high" uD2_2_ROWS_AHEAD] nD2_ROWS_AHEAD,tD2_ROWS_AHEAD⟩)
  {dD3_ROWS_AHEAD:Option Addr} {nD3_ROWS_AHEAD:Nat} {tD3_ROWS_AHEAD:Array (Option Value)} {uD3_0_ROWS_AHEAD uD3_1_ROWS_AHEAD uD3_2_ROWS_AHEAD uD3_3_ROWS_AHEAD uD3_4_ROWS_AHEAD:Tok} (lD3_ROWS_AHEAD:K.lookup vD3_ROWS_AHEAD=some ⟨.type "tuple",dD3_ROWS_AHEAD,.seq #[.str "set" uD3_0_ROWS_AHEAD,.str "low" uD3_1_ROWS_AHEAD,.str "sum" uD3_2_ROWS_AHEAD,.str "high" uD3_3_ROWS_AHEAD,.str "sum" uD3_4_ROWS_AHEAD] nD3_ROWS_AHEAD,tD3_ROWS_AHEAD⟩)
  {dD4_ROWS_AHEAD:Option Addr} {nD4_ROWS_AHEAD:Nat} {tD4_ROWS_AHEAD:Array (Option Value)} {uD4_0_ROWS_AHEAD uD4_1_ROWS_AHEAD uD4_2_ROWS_AHEAD uD4_3_ROWS_AHEAD uD4_4_ROWS_AHEAD:Tok} (lD4_ROWS_AHEAD:K.lookup vD4_ROWS_AHEAD=some ⟨.type "tuple",dD4_ROWS_AHEAD,.seq #[.str "set" uD4_0_ROWS_AHEAD,.str "high" uD4_1_ROWS_AHEAD,.str "gap" uD4_2_ROWS_AHEAD,.str "right" uD4_3_ROWS_AHEAD,.str "sum" uD4_4_ROWS_AHEAD] nD4_ROWS_AHEAD,tD4_ROWS_AHEAD⟩)
  (kf_kc:isClsIn K c_Form=true)
  (kf_kt:typeIn K (.ref c_Form)=some (.type "type"))
  (kf_og:PySem.W.specialIn K (.builtin "object.__class__") "__get__"=some (some (.builtin "getset_descriptor.__get__")))
  (kf_ot:PySem.W.takesIn K (.builtin "object.__class__")=some true)
  (kf_dc_Shifted:findIn K (.ref c_Shifted) "__class__"=some (some (.builtin "object.__class__")))
  (kf_dc_Scaled:findIn K (.ref c_Scaled) "__class__"=some (some (.builtin "object.__class__")))
  (kf_dc_Early:findIn K (.ref c_Early) "__class__"=some (some (.builtin "object.__class__")))
  (kf_dc_More:findIn K (.ref c_More) "__class__"=some (some (.builtin "object.__class__")))
  (kf_dc_Wide:findIn K (.ref c_Wide) "__class__"=some (some (.builtin "object.__class__")))
  (kf_mo_Shifted:mroIn K c_Shifted (.type "object")=some true)
  (kf_mo_Scaled:mroIn K c_Scaled (.type "object")=some true)
  (kf_mo_Early:mroIn K c_Early (.type "object")=some true)
  (kf_mo_More:mroIn K c_More (.type "object")=some true)
  (kf_mo_Wide:mroIn K c_Wide (.type "object")=some true)
  (kf_ik_Shifted:mroIn K c_Shifted (.ref c_Form)=some true)
  (kf_ik_Scaled:mroIn K c_Scaled (.ref c_Form)=some true)
  (kf_ik_Early:mroIn K c_Early (.ref c_Form)=some true)
  (kf_ik_More:mroIn K c_More (.ref c_Form)=some true)
  (kf_ik_Wide:mroIn K c_Wide (.ref c_Form)=some true)
  (kf_dc_Cutting:findIn K (.ref c_Cutting) "__class__"=some (some (.builtin "object.__class__")))
  (kf_mo_Cutting:mroIn K c_Cutting (.type "object")=some true)
  (kf_m_Cutting_SignedForm:mroIn K c_Cutting (.ref c_SignedForm)=some true)
  (kf_dc_Turned:findIn K (.ref c_Turned) "__class__"=some (some (.builtin "object.__class__")))
  (kf_mo_Turned:mroIn K c_Turned (.type "object")=some true)
  (kf_m_Turned_SignedForm:mroIn K c_Turned (.ref c_SignedForm)=some true)
  (kf_kc_SignedForm:isClsIn K c_SignedForm=true)
  (kf_kt_SignedForm:typeIn K (.ref c_SignedForm)=some (.type "type"))
  {cT0 PT0:Addr} (hcT0:cd59=.ref cT0)
  {cT1 PT1:Addr} (hcT1:cd63=.ref cT1)
  (hne:Apart [PT0,PT1])
  (z_isinstance:nsIn K mainGlobals "isinstance"=some none) (z_int:nsIn K mainGlobals "int"=some none) (z_bool:nsIn K mainGlobals "bool"=some none) (z_list:nsIn K mainGlobals "list"=some none) (z_tuple:nsIn K mainGlobals "tuple"=some none) (z_dict:nsIn K mainGlobals "dict"=some none) (z_len:nsIn K mainGlobals "len"=some none) (z_max:nsIn K mainGlobals "max"=some none) (z_min:nsIn K mainGlobals "min"=some none) (z_range:nsIn K mainGlobals "range"=some none) (z_sorted:nsIn K mainGlobals "sorted"=some none) (z_set:nsIn K mainGlobals "set"=some none) (z_all:nsIn K mainGlobals "all"=some none) (z_sum:nsIn K mainGlobals "sum"=some none) (z_zip:nsIn K mainGlobals "zip"=some none) (z_abs:nsIn K mainGlobals "abs"=some none) :
  ∃ fd:FuncData,(∀ (s:Shared) (v:Value),BindsTo s fd ⟨[v],[]⟩ [("_law_script",v)])/\∀ base:Heap,K.In base->base.Ns mainGlobals mg->(∀ t∈[(cT0,PT0),(cT1,PT1)],LamBase mg base t.1 t.2)->FnOk l.prog w K mg base CX0 17 fa fd ["_law_script"] ((spLaw K PT0 PT1)):=by
 have e:=hfa.symm.trans (mg_of X G a88)
 cases e
 let cc:Ad:=⟨c_Form,c_Shifted,c_Scaled,c_Early,c_More,c_Wide,c_Cutting,c_Turned,c_SignedForm,c_ROW_WORDS,c_ROWS_AHEAD⟩
 have T:Txt K mg cc:=⟨mg_none_of X G z_isinstance,mg_none_of X G z_int,mg_none_of X G z_bool,mg_none_of X G z_list,mg_none_of X G z_tuple,mg_none_of X G z_dict,mg_none_of X G z_len,mg_none_of X G z_max,mg_none_of X G z_min,mg_none_of X G z_range,mg_none_of X G z_sorted,mg_none_of X G z_set,mg_none_of X G z_all,mg_none_of X G z_sum,mg_none_of X G z_zip,mg_none_of X G z_abs,mg_of X G aC_Form,⟨pg_Form,hd_Form,po_Form,sa_Form⟩,mg_of X G aC_Shifted,⟨pg_Shifted,hd_Shifted,po_Shifted,sa_Shifted⟩,na_Shifted_shift,mg_of X G aC_Scaled,⟨pg_Scaled,hd_Scaled,po_Scaled,sa_Scaled⟩,na_Scaled_factor,na_Scaled_shift,mg_of X G aC_Early,⟨pg_Early,hd_Early,po_Early,sa_Early⟩,na_Early_early,na_Early_factor,na_Early_shift,mg_of X G aC_More,⟨pg_More,hd_More,po_More,sa_More⟩,na_More_factor,na_More_shift,mg_of X G aC_Wide,⟨pg_Wide,hd_Wide,po_Wide,sa_Wide⟩,na_Wide_factor,na_Wide_shift,mg_of X G aC_Cutting,⟨pg_Cutting,hd_Cutting,po_Cutting,sa_Cutting⟩,na_Cutting_factor,na_Cutting_shift,mg_of X G aC_Turned,⟨pg_Turned,hd_Turned,po_Turned,sa_Turned⟩,na_Turned_form,mg_of X G aC_SignedForm,⟨pg_SignedForm,hd_SignedForm,po_SignedForm,sa_SignedForm⟩,mg_of X G aW_ROW_WORDS,fun H=>.inr ⟨_,_,_,lW_ROW_WORDS,rfl,rfl,(by show 16<=sizeLine; decide),.cons ⟨_,rfl⟩ (.cons ⟨_,rfl⟩ (.cons ⟨_,rfl⟩ (.cons ⟨_,rfl⟩ (.cons ⟨_,rfl⟩ (.cons ⟨_,rfl⟩ (.cons ⟨_,rfl⟩ (.cons ⟨_,rfl⟩ (.cons ⟨_,rfl⟩ (.cons ⟨_,rfl⟩ (.cons ⟨_,rfl⟩ (.cons ⟨_,rfl⟩ (.cons ⟨_,rfl⟩ (.cons ⟨_,rfl⟩ (.cons ⟨_,rfl⟩ (.cons ⟨_,rfl⟩ (.nil))))))))))))))))⟩,mg_of X G aW_ROWS_AHEAD,kf_kc,kf_kt,kf_og,kf_ot,kf_dc_Shifted,kf_dc_Scaled,kf_dc_Early,kf_dc_More,kf_dc_Wide,kf_mo_Shifted,kf_mo_Scaled,kf_mo_Early,kf_mo_More,kf_mo_Wide,kf_ik_Shifted,kf_ik_Scaled,kf_ik_Early,kf_ik_More,kf_ik_Wide,kf_dc_Cutting,kf_mo_Cutting,kf_m_Cutting_SignedForm,kf_dc_Turned,kf_mo_Turned,kf_m_Turned_SignedForm,kf_kc_SignedForm,kf_kt_SignedForm⟩
 obtain⟨_,F1,k1⟩:=l1.fn
 have b1:=F1.binds (ps:=["thing"]) fun _ _ _ _ _ _ us hl=>match us,hl with | [_],_=>rfl
 obtain⟨_,F2,k2⟩:=l2.fn
 have b2:=F2.binds (ps:=["thing","low","high"]) fun _ _ _ _ _ _ us hl=>match us,hl with | [_,_,_],_=>rfl
 obtain⟨_,F3,k3⟩:=l3.fn
 have b3:=F3.binds (ps:=["width"]) fun _ _ _ _ _ _ us hl=>match us,hl with | [_],_=>rfl
 obtain⟨_,F4,k4⟩:=l4.fn
 have b4:=F4.binds (ps:=["width","d"]) fun _ _ _ _ _ _ us hl=>match us,hl with | [_,_],_=>rfl
 obtain⟨_,F5,k5⟩:=l5.fn
 have b5:=F5.binds (ps:=["d"]) fun _ _ _ _ _ _ us hl=>match us,hl with | [_],_=>rfl
 obtain⟨_,F6,k6⟩:=l6.fn
 have b6:=F6.binds (ps:=["reckoning","x"]) fun _ _ _ _ _ _ us hl=>match us,hl with | [_,_],_=>rfl
 obtain⟨_,F7,k7⟩:=l7.fn
 have b7:=F7.binds (ps:=["self","width","x"]) fun _ _ _ _ _ _ us hl=>match us,hl with | [_,_,_],_=>rfl
 obtain⟨_,F8,k8⟩:=l8.fn
 have b8:=F8.binds (ps:=["self","shift"]) fun _ _ _ _ _ _ us hl=>match us,hl with | [_,_],_=>rfl
 obtain⟨_,F9,k9⟩:=l9.fn
 have b9:=F9.binds (ps:=["self"]) fun _ _ _ _ _ _ us hl=>match us,hl with | [_],_=>rfl
 obtain⟨_,F10,k10⟩:=l10.fn
 have b10:=F10.binds (ps:=["self"]) fun _ _ _ _ _ _ us hl=>match us,hl with | [_],_=>rfl
 obtain⟨_,F11,k11⟩:=l11.fn
 have b11:=F11.binds (ps:=["self","width"]) fun _ _ _ _ _ _ us hl=>match us,hl with | [_,_],_=>rfl
 obtain⟨_,F12,k12⟩:=l12.fn
 have b12:=F12.binds (ps:=["self","factor","shift"]) fun _ _ _ _ _ _ us hl=>match us,hl with | [_,_,_],_=>rfl
 obtain⟨_,F13,k13⟩:=l13.fn
 have b13:=F13.binds (ps:=["self"]) fun _ _ _ _ _ _ us hl=>match us,hl with | [_],_=>rfl
 obtain⟨_,F14,k14⟩:=l14.fn
 have b14:=F14.binds (ps:=["self"]) fun _ _ _ _ _ _ us hl=>match us,hl with | [_],_=>rfl
 obtain⟨_,F15,k15⟩:=l15.fn
 have b15:=F15.binds (ps:=["self","width"]) fun _ _ _ _ _ _ us hl=>match us,hl with | [_,_],_=>rfl
 obtain⟨_,F16,k16⟩:=l16.fn
 have b16:=F16.binds (ps:=["self","early","factor","shift"]) fun _ _ _ _ _ _ us hl=>match us,hl with | [_,_,_,_],_=>rfl
 obtain⟨_,F17,k17⟩:=l17.fn
 have b17:=F17.binds (ps:=["self"]) fun _ _ _ _ _ _ us hl=>match us,hl with | [_],_=>rfl
 obtain⟨_,F18,k18⟩:=l18.fn
 have b18:=F18.binds (ps:=["self"]) fun _ _ _ _ _ _ us hl=>match us,hl with | [_],_=>rfl
 obtain⟨_,F19,k19⟩:=l19.fn
 have b19:=F19.binds (ps:=["self","width"]) fun _ _ _ _ _ _ us hl=>match us,hl with | [_,_],_=>rfl
 obtain⟨_,F20,k20⟩:=l20.fn
 have b20:=F20.binds (ps:=["self","factor","shift"]) fun _ _ _ _ _ _ us hl=>match us,hl with | [_,_,_],_=>rfl
 obtain⟨_,F21,k21⟩:=l21.fn
 have b21:=F21.binds (ps:=["self"]) fun _ _ _ _ _ _ us hl=>match us,hl with | [_],_=>rfl
 obtain⟨_,F22,k22⟩:=l22.fn
 have b22:=F22.binds (ps:=["self"]) fun _ _ _ _ _ _ us hl=>match us,hl with | [_],_=>rfl
 obtain⟨_,F23,k23⟩:=l23.fn
 have b23:=F23.binds (ps:=["self","width"]) fun _ _ _ _ _ _ us hl=>match us,hl with | [_,_],_=>rfl
 obtain⟨_,F24,k24⟩:=l24.fn
 have b24:=F24.binds (ps:=["self","factor","shift"]) fun _ _ _ _ _ _ us hl=>match us,hl with | [_,_,_],_=>rfl
 obtain⟨_,F25,k25⟩:=l25.fn
 have b25:=F25.binds (ps:=["self"]) fun _ _ _ _ _ _ us hl=>match us,hl with | [_],_=>rfl
 obtain⟨_,F26,k26⟩:=l26.fn
 have b26:=F26.binds (ps:=["self"]) fun _ _ _ _ _ _ us hl=>match us,hl with | [_],_=>rfl
 obtain⟨_,F27,k27⟩:=l27.fn
 have b27:=F27.binds (ps:=["self","width"]) fun _ _ _ _ _ _ us hl=>match us,hl with | [_,_],_=>rfl
 obtain⟨_,F28,k28⟩:=l28.fn
 have b28:=F28.binds (ps:=["thing"]) fun _ _ _ _ _ _ us hl=>match us,hl with | [_],_=>rfl
 obtain⟨_,F29,k29⟩:=l29.fn
 have b29:=F29.binds (ps:=["thing"]) fun _ _ _ _ _ _ us hl=>match us,hl with | [_],_=>rfl
 obtain⟨_,F30,k30⟩:=l30.fn
 have b30:=F30.binds (ps:=["last","d"]) fun _ _ _ _ _ _ us hl=>match us,hl with | [_,_],_=>rfl
 obtain⟨_,F31,k31⟩:=l31.fn
 have b31:=F31.binds (ps:=["last","holds"]) fun _ _ _ _ _ _ us hl=>match us,hl with | [_,_],_=>rfl
 obtain⟨_,F32,k32⟩:=l32.fn
 have b32:=F32.binds (ps:=["prices"]) fun _ _ _ _ _ _ us hl=>match us,hl with | [_],_=>rfl
 obtain⟨_,F33,k33⟩:=l33.fn
 have b33:=F33.binds (ps:=["top","bottom"]) fun _ _ _ _ _ _ us hl=>match us,hl with | [_,_],_=>rfl
 obtain⟨_,F34,k34⟩:=l34.fn
 have b34:=F34.binds (ps:=["width","d"]) fun _ _ _ _ _ _ us hl=>match us,hl with | [_,_],_=>rfl
 obtain⟨_,F35,k35⟩:=l35.fn
 have b35:=F35.binds (ps:=["width","d"]) fun _ _ _ _ _ _ us hl=>match us,hl with | [_,_],_=>rfl
 obtain⟨_,F36,k36⟩:=l36.fn
 have b36:=F36.binds (ps:=["width","d"]) fun _ _ _ _ _ _ us hl=>match us,hl with | [_,_],_=>rfl
 obtain⟨_,F37,k37⟩:=l37.fn
 have b37:=F37.binds (ps:=["width","d"]) fun _ _ _ _ _ _ us hl=>match us,hl with | [_,_],_=>rfl
 obtain⟨_,F38,k38⟩:=l38.fn
 have b38:=F38.binds (ps:=["form"]) fun _ _ _ _ _ _ us hl=>match us,hl with | [_],_=>rfl
 obtain⟨_,F39,k39⟩:=l39.fn
 have b39:=F39.binds (ps:=["forms","wrong"]) fun _ _ _ _ _ _ us hl=>match us,hl with | [_,_],_=>rfl
 obtain⟨_,F40,k40⟩:=l40.fn
 have b40:=F40.binds (ps:=["width","d"]) fun _ _ _ _ _ _ us hl=>match us,hl with | [_,_],_=>rfl
 obtain⟨_,F41,k41⟩:=l41.fn
 have b41:=F41.binds (ps:=["x","d"]) fun _ _ _ _ _ _ us hl=>match us,hl with | [_,_],_=>rfl
 obtain⟨_,F42,k42⟩:=l42.fn
 have b42:=F42.binds (ps:=["self","factor","shift"]) fun _ _ _ _ _ _ us hl=>match us,hl with | [_,_,_],_=>rfl
 obtain⟨_,F43,k43⟩:=l43.fn
 have b43:=F43.binds (ps:=["self"]) fun _ _ _ _ _ _ us hl=>match us,hl with | [_],_=>rfl
 obtain⟨_,F44,k44⟩:=l44.fn
 have b44:=F44.binds (ps:=["self"]) fun _ _ _ _ _ _ us hl=>match us,hl with | [_],_=>rfl
 obtain⟨_,F45,k45⟩:=l45.fn
 have b45:=F45.binds (ps:=["self","width","x"]) fun _ _ _ _ _ _ us hl=>match us,hl with | [_,_,_],_=>rfl
 obtain⟨_,F46,k46⟩:=l46.fn
 have b46:=F46.binds (ps:=["self","width"]) fun _ _ _ _ _ _ us hl=>match us,hl with | [_,_],_=>rfl
 obtain⟨_,F47,k47⟩:=l47.fn
 have b47:=F47.binds (ps:=["self"]) fun _ _ _ _ _ _ us hl=>match us,hl with | [_],_=>rfl
 obtain⟨_,F48,k48⟩:=l48.fn
 have b48:=F48.binds (ps:=["self","form"]) fun _ _ _ _ _ _ us hl=>match us,hl with | [_,_],_=>rfl
 obtain⟨_,F49,k49⟩:=l49.fn
 have b49:=F49.binds (ps:=["self"]) fun _ _ _ _ _ _ us hl=>match us,hl with | [_],_=>rfl
 obtain⟨_,F50,k50⟩:=l50.fn
 have b50:=F50.binds (ps:=["self"]) fun _ _ _ _ _ _ us hl=>match us,hl with | [_],_=>rfl
 obtain⟨_,F51,k51⟩:=l51.fn
 have b51:=F51.binds (ps:=["self","width","x"]) fun _ _ _ _ _ _ us hl=>match us,hl with | [_,_,_],_=>rfl
 obtain⟨_,F52,k52⟩:=l52.fn
 have b52:=F52.binds (ps:=["self","width"]) fun _ _ _ _ _ _ us hl=>match us,hl with | [_,_],_=>rfl
 obtain⟨_,F53,k53⟩:=l53.fn
 have b53:=F53.binds (ps:=["self"]) fun _ _ _ _ _ _ us hl=>match us,hl with | [_],_=>rfl
 obtain⟨_,F54,k54⟩:=l54.fn
 have b54:=F54.binds (ps:=["width","d","form"]) fun _ _ _ _ _ _ us hl=>match us,hl with | [_,_,_],_=>rfl
 obtain⟨_,F55,k55⟩:=l55.fn
 have b55:=F55.binds (ps:=["up","down","d"]) fun _ _ _ _ _ _ us hl=>match us,hl with | [_,_,_],_=>rfl
 obtain⟨_,F56,k56⟩:=l56.fn
 have b56:=F56.binds (ps:=["width","d","form","counts"]) fun _ _ _ _ _ _ us hl=>match us,hl with | [_,_,_,_],_=>rfl
 obtain⟨_,F57,k57⟩:=l57.fn
 have b57:=F57.binds (ps:=["width","d","form","far"]) fun _ _ _ _ _ _ us hl=>match us,hl with | [_,_,_,_],_=>rfl
 obtain⟨_,F58,k58⟩:=l58.fn
 have b58:=F58.binds (ps:=["width","d","form"]) fun _ _ _ _ _ _ us hl=>match us,hl with | [_,_,_],_=>rfl
 have F59:=qp (st:=aV) l59 c59 k59
 have b59:=F59.binds (ps:=["width","d","form"]) fun _ _ _ _ _ _ us hl=>match us,hl with | [_,_,_],_=>rfl
 obtain⟨_,F60,k60⟩:=l60.fn
 have b60:=F60.binds (ps:=["width","d"]) fun _ _ _ _ _ _ us hl=>match us,hl with | [_,_],_=>rfl
 obtain⟨_,F61,k61⟩:=l61.fn
 have b61:=F61.binds (ps:=["form"]) fun _ _ _ _ _ _ us hl=>match us,hl with | [_],_=>rfl
 obtain⟨_,F62,k62⟩:=l62.fn
 have b62:=F62.binds (ps:=["form","prices"]) fun _ _ _ _ _ _ us hl=>match us,hl with | [_,_],_=>rfl
 have F63:=qp (st:=aO) l63 c63 k63
 have b63:=F63.binds (ps:=["width","d","prices"]) fun _ _ _ _ _ _ us hl=>match us,hl with | [_,_,_],_=>rfl
 obtain⟨_,F64,k64⟩:=l64.fn
 have b64:=F64.binds (ps:=["_law_script","_law_k"]) fun _ _ _ _ _ _ us hl=>match us,hl with | [_,_],_=>rfl
 obtain⟨_,F65,k65⟩:=l65.fn
 have b65:=F65.binds (ps:=["_law_state","_law_size"]) fun _ _ _ _ _ _ us hl=>match us,hl with | [_,_],_=>rfl
 obtain⟨_,F66,k66⟩:=l66.fn
 have b66:=F66.binds (ps:=["_law_d"]) fun _ _ _ _ _ _ us hl=>match us,hl with | [_],_=>rfl
 obtain⟨_,F67,k67⟩:=l67.fn
 have b67:=F67.binds (ps:=["_law_state","_law_width"]) fun _ _ _ _ _ _ us hl=>match us,hl with | [_,_],_=>rfl
 obtain⟨_,F68,k68⟩:=l68.fn
 have b68:=F68.binds (ps:=["_law_state","_law_width"]) fun _ _ _ _ _ _ us hl=>match us,hl with | [_,_],_=>rfl
 obtain⟨_,F69,k69⟩:=l69.fn
 have b69:=F69.binds (ps:=["_law_found"]) fun _ _ _ _ _ _ us hl=>match us,hl with | [_],_=>rfl
 obtain⟨_,F70,k70⟩:=l70.fn
 have b70:=F70.binds (ps:=["_law_last","_law_d"]) fun _ _ _ _ _ _ us hl=>match us,hl with | [_,_],_=>rfl
 obtain⟨_,F71,k71⟩:=l71.fn
 have b71:=F71.binds (ps:=["_law_numbers_here","_law_x"]) fun _ _ _ _ _ _ us hl=>match us,hl with | [_,_],_=>rfl
 obtain⟨_,F72,k72⟩:=l72.fn
 have b72:=F72.binds (ps:=["_law_told","_law_width"]) fun _ _ _ _ _ _ us hl=>match us,hl with | [_,_],_=>rfl
 obtain⟨_,F73,k73⟩:=l73.fn
 have b73:=F73.binds (ps:=["_law_x","_law_d"]) fun _ _ _ _ _ _ us hl=>match us,hl with | [_,_],_=>rfl
 obtain⟨_,F74,k74⟩:=l74.fn
 have b74:=F74.binds (ps:=["_law_told","_law_width","_law_x"]) fun _ _ _ _ _ _ us hl=>match us,hl with | [_,_,_],_=>rfl
 obtain⟨_,F75,k75⟩:=l75.fn
 have b75:=F75.binds (ps:=["_law_up_here","_law_down","_law_d"]) fun _ _ _ _ _ _ us hl=>match us,hl with | [_,_,_],_=>rfl
 obtain⟨_,F76,k76⟩:=l76.fn
 have b76:=F76.binds (ps:=["_law_told","_law_width","_law_d","_law_counts"]) fun _ _ _ _ _ _ us hl=>match us,hl with | [_,_,_,_],_=>rfl
 obtain⟨_,F77,k77⟩:=l77.fn
 have b77:=F77.binds (ps:=["_law_told","_law_width","_law_d","_law_count"]) fun _ _ _ _ _ _ us hl=>match us,hl with | [_,_,_,_],_=>rfl
 obtain⟨_,F78,k78⟩:=l78.fn
 have b78:=F78.binds (ps:=["_law_top","_law_bottom"]) fun _ _ _ _ _ _ us hl=>match us,hl with | [_,_],_=>rfl
 obtain⟨_,F79,k79⟩:=l79.fn
 have b79:=F79.binds (ps:=["_law_width","_law_d"]) fun _ _ _ _ _ _ us hl=>match us,hl with | [_,_],_=>rfl
 obtain⟨_,F80,k80⟩:=l80.fn
 have b80:=F80.binds (ps:=["_law_width","_law_d"]) fun _ _ _ _ _ _ us hl=>match us,hl with | [_,_],_=>rfl
 obtain⟨_,F81,k81⟩:=l81.fn
 have b81:=F81.binds (ps:=["_law_told"]) fun _ _ _ _ _ _ us hl=>match us,hl with | [_],_=>rfl
 obtain⟨_,F82,k82⟩:=l82.fn
 have b82:=F82.binds (ps:=["_law_told"]) fun _ _ _ _ _ _ us hl=>match us,hl with | [_],_=>rfl
 obtain⟨_,F83,k83⟩:=l83.fn
 have b83:=F83.binds (ps:=[]) fun _ _ _ _ _ _ us hl=>match us,hl with | [],_=>rfl
 obtain⟨_,F84,k84⟩:=l84.fn
 have b84:=F84.binds (ps:=["_law_state"]) fun _ _ _ _ _ _ us hl=>match us,hl with | [_],_=>rfl
 obtain⟨_,F85,k85⟩:=l85.fn
 have b85:=F85.binds (ps:=["_law_width","_law_d","_law_table"]) fun _ _ _ _ _ _ us hl=>match us,hl with | [_,_,_],_=>rfl
 obtain⟨_,F86,k86⟩:=l86.fn
 have b86:=F86.binds (ps:=["_law_width","_law_d","_law_ranked_here","_law_found"]) fun _ _ _ _ _ _ us hl=>match us,hl with | [_,_,_,_],_=>rfl
 obtain⟨_,F87,k87⟩:=l87.fn
 have b87:=F87.binds (ps:=["_law_state"]) fun _ _ _ _ _ _ us hl=>match us,hl with | [_],_=>rfl
 have F88:=qp (st:=ma) l88 c88 k88
 refine⟨fnOf "law" "law" (cW ma) (bH ma) (ak ma) .none kV88 dc88 pm88 an88 cd88 ct88,fun s v=>.of_eq rfl,fun base _ _ LB=>?_⟩
 have B0:LamBase mg base cT0 PT0:=LB (cT0,PT0) (List.mem_of_elem_eq_true (by simp))
 have B1:LamBase mg base cT1 PT1:=LB (cT1,PT1) (List.mem_of_elem_eq_true (by simp))
 have H_brought:Has l.prog w K mg base 1 "brought" ["reckoning","x"] ld:=⟨_,_,qZ F6 T ,b6,k6,mg_of X G a6⟩
 have H_is_whole:Has l.prog w K mg base 1 "is_whole" ["thing"] iH:=⟨_,_,pF F1 T ,b1,k1,mg_of X G a1⟩
 have H_is_between:Has l.prog w K mg base 2 "is_between" ["thing","low","high"] cj:=⟨_,_,mH F2 T H_is_whole,b2,k2,mg_of X G a2⟩
 have H_is_shift:Has l.prog w K mg base 3 "is_shift" ["thing"] oG:=⟨_,_,oZ F29 T H_is_between,b29,k29,mg_of X G a29⟩
 have C_Shifted:CHas l.prog w K mg base 4 c_Shifted "Shifted" ["self","shift"] (spI0 cc):=⟨_,_,⟨mk_Shifted,a8,i8,kc_Shifted⟩,gu F8 T H_is_shift,b8,mg_of X G aC_Shifted⟩
 have M_Shifted_word:MHas l.prog w K mg base 1 c_Shifted "word" ["self"] (nv 0):=⟨T.cl_Shifted,_,_,⟨a9,i9,k9⟩,j3 F9 T ,b9⟩
 have M_Shifted_told:MHas l.prog w K mg base 2 c_Shifted "told" ["self"] (eg cc 0):=⟨T.cl_Shifted,_,_,⟨a10,i10,k10⟩,jC F10 T  M_Shifted_word,b10⟩
 have H_need_width:Has l.prog w K mg base 3 "need_width" ["width"] cV:=⟨_,_,lP F3 T H_is_between,b3,k3,mg_of X G a3⟩
 have M_Shifted_numbers_in:MHas l.prog w K mg base 4 c_Shifted "numbers_in" ["self","width"] (dH cc 0):=⟨T.cl_Shifted,_,_,⟨a11,i11,k11⟩,eB F11 T H_need_width,b11⟩
 have H_is_factor:Has l.prog w K mg base 3 "is_factor" ["thing"] pq:=⟨_,_,mZ F28 T H_is_between,b28,k28,mg_of X G a28⟩
 have C_Scaled:CHas l.prog w K mg base 4 c_Scaled "Scaled" ["self","factor","shift"] (spI2 cc 1 0):=⟨_,_,⟨mk_Scaled,a12,i12,kc_Scaled⟩,ip F12 T H_is_factor H_is_shift,b12,mg_of X G aC_Scaled⟩
 have M_Scaled_word:MHas l.prog w K mg base 1 c_Scaled "word" ["self"] (nv 1):=⟨T.cl_Scaled,_,_,⟨a13,i13,k13⟩,kQ F13 T ,b13⟩
 have M_Scaled_told:MHas l.prog w K mg base 2 c_Scaled "told" ["self"] (eg cc 1):=⟨T.cl_Scaled,_,_,⟨a14,i14,k14⟩,kI F14 T  M_Scaled_word,b14⟩
 have M_Scaled_numbers_in:MHas l.prog w K mg base 4 c_Scaled "numbers_in" ["self","width"] (dH cc 1):=⟨T.cl_Scaled,_,_,⟨a15,i15,k15⟩,ft F15 T H_need_width,b15⟩
 have C_Early:CHas l.prog w K mg base 4 c_Early "Early" ["self","early","factor","shift"] (spI3 cc):=⟨_,_,⟨mk_Early,a16,i16,kc_Early⟩,iD F16 T H_is_shift H_is_factor,b16,mg_of X G aC_Early⟩
 have M_Early_word:MHas l.prog w K mg base 1 c_Early "word" ["self"] (nv 2):=⟨T.cl_Early,_,_,⟨a17,i17,k17⟩,lV F17 T ,b17⟩
 have M_Early_told:MHas l.prog w K mg base 2 c_Early "told" ["self"] (eg cc 2):=⟨T.cl_Early,_,_,⟨a18,i18,k18⟩,mJ F18 T  M_Early_word,b18⟩
 have M_Early_numbers_in:MHas l.prog w K mg base 4 c_Early "numbers_in" ["self","width"] (dH cc 2):=⟨T.cl_Early,_,_,⟨a19,i19,k19⟩,fX F19 T H_need_width,b19⟩
 have C_More:CHas l.prog w K mg base 4 c_More "More" ["self","factor","shift"] (spI2 cc 3 0):=⟨_,_,⟨mk_More,a20,i20,kc_More⟩,iV F20 T H_is_factor H_is_shift,b20,mg_of X G aC_More⟩
 have M_More_word:MHas l.prog w K mg base 1 c_More "word" ["self"] (nv 3):=⟨T.cl_More,_,_,⟨a21,i21,k21⟩,nU F21 T ,b21⟩
 have M_More_told:MHas l.prog w K mg base 2 c_More "told" ["self"] (eg cc 3):=⟨T.cl_More,_,_,⟨a22,i22,k22⟩,mX F22 T  M_More_word,b22⟩
 have M_More_numbers_in:MHas l.prog w K mg base 4 c_More "numbers_in" ["self","width"] (dH cc 3):=⟨T.cl_More,_,_,⟨a23,i23,k23⟩,gJ F23 T H_need_width,b23⟩
 have C_Wide:CHas l.prog w K mg base 4 c_Wide "Wide" ["self","factor","shift"] (spI2 cc 4 1):=⟨_,_,⟨mk_Wide,a24,i24,kc_Wide⟩,iX F24 T H_is_factor H_is_between,b24,mg_of X G aC_Wide⟩
 have M_Wide_word:MHas l.prog w K mg base 1 c_Wide "word" ["self"] (nv 4):=⟨T.cl_Wide,_,_,⟨a25,i25,k25⟩,oa F25 T ,b25⟩
 have M_Wide_told:MHas l.prog w K mg base 2 c_Wide "told" ["self"] (eg cc 4):=⟨T.cl_Wide,_,_,⟨a26,i26,k26⟩,mW F26 T  M_Wide_word,b26⟩
 have M_Wide_numbers_in:MHas l.prog w K mg base 4 c_Wide "numbers_in" ["self","width"] (dH cc 4):=⟨T.cl_Wide,_,_,⟨a27,i27,k27⟩,iu F27 T H_need_width,b27⟩
 have C_Cutting:CHas l.prog w K mg base 4 c_Cutting "Cutting" ["self","factor","shift"] (spIC cc):=⟨_,_,⟨mk_Cutting,a42,i42,kc_Cutting⟩,gC F42 T H_is_factor H_is_shift,b42,mg_of X G aC_Cutting⟩
 have M_Cutting_word:MHas l.prog w K mg base 1 c_Cutting "word" ["self"] (rb 0):=⟨T.cl_Cutting,_,_,⟨a43,i43,k43⟩,jQ F43 T ,b43⟩
 have M_Cutting_told:MHas l.prog w K mg base 3 c_Cutting "told" ["self"] (jn cc 0):=⟨T.cl_Cutting,_,_,⟨a44,i44,k44⟩,jL F44 T  M_Cutting_word,b44⟩
 have M_Cutting_quotient:MHas l.prog w K mg base 6 c_Cutting "quotient" ["self","width","x"] (qB cc 0):=⟨T.cl_Cutting,_,_,⟨a45,i45,k45⟩,fR F45 T H_need_width,b45⟩
 have M_Cutting_early_in:MHas l.prog w K mg base 5 c_Cutting "early_in" ["self","width"] (spEI cc 0):=⟨T.cl_Cutting,_,_,⟨a46,i46,k46⟩,fY F46 T ,b46⟩
 have M_Cutting_row_list:MHas l.prog w K mg base 3 c_Cutting "row_list" ["self"] (spRL cc 0):=⟨T.cl_Cutting,_,_,⟨a47,i47,k47⟩,fO F47 T ,b47⟩
 have C_Turned:CHas l.prog w K mg base 1 c_Turned "Turned" ["self","form"] (spIT cc):=⟨_,_,⟨mk_Turned,a48,i48,kc_Turned⟩,gM F48 T ,b48,mg_of X G aC_Turned⟩
 have M_Turned_word:MHas l.prog w K mg base 1 c_Turned "word" ["self"] (rb 1):=⟨T.cl_Turned,_,_,⟨a49,i49,k49⟩,kX F49 T ,b49⟩
 have MN:∀ i,i<5->MHas l.prog w K mg base 4 (fOf cc i) "numbers_in" ["self","width"] (dH cc i):=fun i hi=>by
  rcases(by lia:i=0\/i=1\/i=2\/i=3\/i=4) with rfl | rfl | rfl | rfl | rfl
  ·exact M_Shifted_numbers_in
  ·exact M_Scaled_numbers_in
  ·exact M_Early_numbers_in
  ·exact M_More_numbers_in
  ·exact M_Wide_numbers_in
 have Z_MF:=i5 F7 T H_brought MN
 have MF:∀ i,i<5->MHas l.prog w K mg base 5 (fOf cc i) "quotient" ["self","width","x"] (spFQ cc):=fun i hi=>by
  rcases(by lia:i=0\/i=1\/i=2\/i=3\/i=4) with rfl | rfl | rfl | rfl | rfl
  ·exact⟨T.cl_Shifted,_,_,⟨a7,i7,k7⟩,Z_MF,b7⟩
  ·exact⟨T.cl_Scaled,_,_,⟨h_Scaled_quotient,i7,k7⟩,Z_MF,b7⟩
  ·exact⟨T.cl_Early,_,_,⟨h_Early_quotient,i7,k7⟩,Z_MF,b7⟩
  ·exact⟨T.cl_More,_,_,⟨h_More_quotient,i7,k7⟩,Z_MF,b7⟩
  ·exact⟨T.cl_Wide,_,_,⟨h_Wide_quotient,i7,k7⟩,Z_MF,b7⟩
 have MQ:∀ i,i<2->MHas l.prog w K mg base 6 (sOf cc i) "quotient" ["self","width","x"] (qB cc i):=fun i hi=>by
  rcases(by lia:i=0\/i=1) with rfl | rfl
  ·exact M_Cutting_quotient
  ·exact⟨T.cl_Turned,_,_,⟨a51,i51,k51⟩,gU F51 T H_need_width MF,b51⟩
 have ME:∀ i,i<2->MHas l.prog w K mg base 5 (sOf cc i) "early_in" ["self","width"] (spEI cc i):=fun i hi=>by
  rcases(by lia:i=0\/i=1) with rfl | rfl
  ·exact M_Cutting_early_in
  ·exact⟨T.cl_Turned,_,_,⟨a52,i52,k52⟩,gQ F52 T MN,b52⟩
 have MW:∀ i,i<5->MHas l.prog w K mg base 1 (fOf cc i) "word" ["self"] (nv i):=fun i hi=>by
  rcases(by lia:i=0\/i=1\/i=2\/i=3\/i=4) with rfl | rfl | rfl | rfl | rfl
  ·exact M_Shifted_word
  ·exact M_Scaled_word
  ·exact M_Early_word
  ·exact M_More_word
  ·exact M_Wide_word
 have MT:∀ i,i<5->MHas l.prog w K mg base 2 (fOf cc i) "told" ["self"] (eg cc i):=fun i hi=>by
  rcases(by lia:i=0\/i=1\/i=2\/i=3\/i=4) with rfl | rfl | rfl | rfl | rfl
  ·exact M_Shifted_told
  ·exact M_Scaled_told
  ·exact M_Early_told
  ·exact M_More_told
  ·exact M_Wide_told
 have RA:RowsA K l.prog w c_ROWS_AHEAD:=by
  refine⟨fun i=>match i with | 0=>kD0_ROWS_AHEAD | 1=>kD1_ROWS_AHEAD | 2=>kD2_ROWS_AHEAD | 3=>kD3_ROWS_AHEAD | _=>kD4_ROWS_AHEAD,fun i=>match i with | 0=>vD0_ROWS_AHEAD | 1=>vD1_ROWS_AHEAD | 2=>vD2_ROWS_AHEAD | 3=>vD3_ROWS_AHEAD | _=>vD4_ROWS_AHEAD,gd_mk lW_ROWS_AHEAD (ents_nd _ _) ⟨rfl,rfl,rfl⟩,fun i hi H=>?_⟩
  rcases(by lia:i=0\/i=1\/i=2\/i=3\/i=4) with rfl | rfl | rfl | rfl | rfl
  ·exact .inr ⟨_,_,_,lD0_ROWS_AHEAD,rfl,rfl,(by show 0<=sizeLine; decide),.nil⟩
  ·exact .inr ⟨_,_,_,lD1_ROWS_AHEAD,rfl,rfl,(by show 2<=sizeLine; decide),.cons ⟨_,rfl⟩ (.cons ⟨_,rfl⟩ (.nil))⟩
  ·exact .inr ⟨_,_,_,lD2_ROWS_AHEAD,rfl,rfl,(by show 3<=sizeLine; decide),.cons ⟨_,rfl⟩ (.cons ⟨_,rfl⟩ (.cons ⟨_,rfl⟩ (.nil)))⟩
  ·exact .inr ⟨_,_,_,lD3_ROWS_AHEAD,rfl,rfl,(by show 5<=sizeLine; decide),.cons ⟨_,rfl⟩ (.cons ⟨_,rfl⟩ (.cons ⟨_,rfl⟩ (.cons ⟨_,rfl⟩ (.cons ⟨_,rfl⟩ (.nil)))))⟩
  ·exact .inr ⟨_,_,_,lD4_ROWS_AHEAD,rfl,rfl,(by show 5<=sizeLine; decide),.cons ⟨_,rfl⟩ (.cons ⟨_,rfl⟩ (.cons ⟨_,rfl⟩ (.cons ⟨_,rfl⟩ (.cons ⟨_,rfl⟩ (.nil)))))⟩
 have HFW:Has l.prog w K mg base 2 "form_words" ["form"] (spFW cc):=⟨_,_,lR F38 T MW RA,b38,k38,mg_of X G a38⟩
 have MTS:∀ i,i<2->MHas l.prog w K mg base 3 (sOf cc i) "told" ["self"] (jn cc i):=fun i hi=>by
  rcases(by lia:i=0\/i=1) with rfl | rfl
  ·exact M_Cutting_told
  ·exact⟨T.cl_Turned,_,_,⟨a50,i50,k50⟩,kL F50 T M_Turned_word MT,b50⟩
 have MR:∀ i,i<2->MHas l.prog w K mg base 3 (sOf cc i) "row_list" ["self"] (spRL cc i):=fun i hi=>by
  rcases(by lia:i=0\/i=1) with rfl | rfl
  ·exact M_Cutting_row_list
  ·exact⟨T.cl_Turned,_,_,⟨a53,i53,k53⟩,gG F53 T HFW,b53⟩
 have H__law_draw:Has l.prog w K mg base 1 "_law_draw" ["_law_state","_law_size"] lE:=⟨_,_,n9 F65 T ,b65,k65,mg_of X G a65⟩
 have H__law_divisor:Has l.prog w K mg base 2 "_law_divisor" ["_law_state","_law_width"] spDiv:=⟨_,_,jP F67 T H__law_draw,b67,k67,mg_of X G a67⟩
 have H__law_signed_divisor:Has l.prog w K mg base 3 "_law_signed_divisor" ["_law_state","_law_width"] uh:=⟨_,_,er F68 T H__law_divisor H__law_draw,b68,k68,mg_of X G a68⟩
 have H__law_row_words:Has l.prog w K mg base 1 "_law_row_words" [] spRW:=⟨_,_,iB F83 T ,b83,k83,mg_of X G a83⟩
 have H__law_prices:Has l.prog w K mg base 2 "_law_prices" ["_law_state"] spPr:=⟨_,_,kD F84 T H__law_draw H__law_row_words,b84,k84,mg_of X G a84⟩
 have H__law_twos:Has l.prog w K mg base 1 "_law_twos" ["_law_d"] jr:=⟨_,_,m6 F66 T ,b66,k66,mg_of X G a66⟩
 have H__law_up:Has l.prog w K mg base 1 "_law_up" ["_law_top","_law_bottom"] gm:=⟨_,_,qM F78 T ,b78,k78,mg_of X G a78⟩
 have H__law_all:Has l.prog w K mg base 2 "_law_all" ["_law_width","_law_d"] ss:=⟨_,_,pB F79 T H__law_twos H__law_up,b79,k79,mg_of X G a79⟩
 have H__law_all_signed:Has l.prog w K mg base 3 "_law_all_signed" ["_law_width","_law_d"] oE:=⟨_,_,gW F80 T H__law_all,b80,k80,mg_of X G a80⟩
 have H__law_made_of:Has l.prog w K mg base 1 "_law_made_of" ["_law_told"] spMO:=⟨_,_,jT F81 T ,b81,k81,mg_of X G a81⟩
 have H__law_made_signed:Has l.prog w K mg base 2 "_law_made_signed" ["_law_told"] spMS:=⟨_,_,gr F82 T H__law_made_of,b82,k82,mg_of X G a82⟩
 have H__law_ranked:Has l.prog w K mg base 4 "_law_ranked" ["_law_width","_law_d","_law_table"] uv:=⟨_,_,kN F85 T H__law_all_signed H__law_made_signed,b85,k85,mg_of X G a85⟩
 have H_need_signed_divisor:Has l.prog w K mg base 4 "need_signed_divisor" ["width","d"] jg:=⟨_,_,et F40 T H_need_width H_is_between,b40,k40,mg_of X G a40⟩
 have H_need_divisor:Has l.prog w K mg base 4 "need_divisor" ["width","d"] pJ:=⟨_,_,jJ F4 T H_need_width H_is_between,b4,k4,mg_of X G a4⟩
 have H_ceiling:Has l.prog w K mg base 1 "ceiling" ["top","bottom"] gm:=⟨_,_,qW F33 T ,b33,k33,mg_of X G a33⟩
 have H_scaled_candidates:Has l.prog w K mg base 6 "scaled_candidates" ["width","d"] (spScC cc):=⟨_,_,fq F35 T H_ceiling C_Scaled,b35,k35,mg_of X G a35⟩
 have H_twos_in:Has l.prog w K mg base 1 "twos_in" ["d"] jr:=⟨_,_,qX F5 T ,b5,k5,mg_of X G a5⟩
 have H_early_candidates:Has l.prog w K mg base 7 "early_candidates" ["width","d"] (spEaC cc):=⟨_,_,gx F36 T H_twos_in H_scaled_candidates C_Early,b36,k36,mg_of X G a36⟩
 have H_more_candidates:Has l.prog w K mg base 6 "more_candidates" ["width","d"] (spMoC cc):=⟨_,_,ir F37 T C_More,b37,k37,mg_of X G a37⟩
 have H_candidates:Has l.prog w K mg base 8 "candidates" ["width","d"] (rC cc):=⟨_,_,mq F34 T H_need_divisor H_scaled_candidates H_early_candidates H_more_candidates H_ceiling C_Shifted C_Wide,b34,k34,mg_of X G a34⟩
 have H_signed_candidates:Has l.prog w K mg base 9 "signed_candidates" ["width","d"] (oB cc):=⟨_,_,fk F60 T H_need_signed_divisor H_candidates C_Turned C_Cutting,b60,k60,mg_of X G a60⟩
 have H_need_prices:Has l.prog w K mg base 3 "need_prices" ["prices"] (spNP0 cc):=⟨_,_,kO F32 T H_is_between,b32,k32,mg_of X G a32⟩
 have H_need_signed_form:Has l.prog w K mg base 6 "need_signed_form" ["width","d","form"] (mI cc):=⟨_,_,gh F54 T H_need_signed_divisor H_twos_in ME,b54,k54,mg_of X G a54⟩
 have H_cut_quotient:Has l.prog w K mg base 1 "cut_quotient" ["x","d"] pE:=⟨_,_,jR F41 T ,b41,k41,mg_of X G a41⟩
 have H_right_at:Has l.prog w K mg base 7 "right_at" ["width","d","form","counts"] (spRAt cc):=⟨_,_,o8 F56 T H_cut_quotient MQ,b56,k56,mg_of X G a56⟩
 have H_corners_to:Has l.prog w K mg base 1 "corners_to" ["last","d"] dJ:=⟨_,_,mP F30 T ,b30,k30,mg_of X G a30⟩
 have H_signed_corners_to:Has l.prog w K mg base 2 "signed_corners_to" ["up","down","d"] spSC:=⟨_,_,fz F55 T H_corners_to,b55,k55,mg_of X G a55⟩
 have H_right_about:Has l.prog w K mg base 8 "right_about" ["width","d","form","far"] (rN cc):=⟨_,_,kR F57 T H_right_at H_signed_corners_to,b57,k57,mg_of X G a57⟩
 have H_right_for_signed:Has l.prog w K mg base 9 "right_for_signed" ["width","d","form"] (spRFS cc):=⟨_,_,fV F58 T H_need_signed_form H_right_about,b58,k58,mg_of X G a58⟩
 have H_first_failing:HasS l.prog w K mg base 10 "first_failing" ["last","holds"] (spFF cc):=⟨_,_,i0 F31 T  H_right_about,b31,k31,mg_of X G a31⟩
 have H_signed_wrong:Has l.prog w K mg base 11 "signed_wrong" ["width","d","form"] (spSW cc PT0):=⟨_,_,jZ F59 T H_right_for_signed H_first_failing H_right_about B0 hcT0 MQ,b59,k59,mg_of X G a59⟩
 have H_first_right:HasS l.prog w K mg base 14 "first_right" ["forms","wrong"] (spFR cc PT0):=⟨_,_,kU F39 T  H_signed_wrong,b39,k39,mg_of X G a39⟩
 have H_signed_words:Has l.prog w K mg base 4 "signed_words" ["form"] (spSWd cc):=⟨_,_,jY F61 T  MR,b61,k61,mg_of X G a61⟩
 have H_price_of_signed:Has l.prog w K mg base 5 "price_of_signed" ["form","prices"] (spPS0 cc):=⟨_,_,gY F62 T H_need_prices H_signed_words,b62,k62,mg_of X G a62⟩
 have H_signed_choose:Has l.prog w K mg base 15 "signed_choose" ["width","d","prices"] (spCh cc PT0 PT1):=⟨_,_,iT F63 T H_signed_candidates H_need_prices H_first_right H_signed_wrong H_price_of_signed B1 hcT1 (by simpa using hne),b63,k63,mg_of X G a63⟩
 have H__law_brought:Has l.prog w K mg base 1 "_law_brought" ["_law_numbers_here","_law_x"] ld:=⟨_,_,jI F71 T ,b71,k71,mg_of X G a71⟩
 have H__law_numbers:Has l.prog w K mg base 1 "_law_numbers" ["_law_told","_law_width"] sk:=⟨_,_,jA F72 T ,b72,k72,mg_of X G a72⟩
 have H__law_signed_quotient:Has l.prog w K mg base 2 "_law_signed_quotient" ["_law_told","_law_width","_law_x"] spSQ:=⟨_,_,d6 F74 T H__law_brought H__law_numbers,b74,k74,mg_of X G a74⟩
 have H__law_cut:Has l.prog w K mg base 1 "_law_cut" ["_law_x","_law_d"] pE:=⟨_,_,pI F73 T ,b73,k73,mg_of X G a73⟩
 have H__law_all_right:Has l.prog w K mg base 3 "_law_all_right" ["_law_told","_law_width","_law_d","_law_counts"] tW:=⟨_,_,iL F76 T H__law_signed_quotient H__law_cut,b76,k76,mg_of X G a76⟩
 have H__law_corners:Has l.prog w K mg base 1 "_law_corners" ["_law_last","_law_d"] dJ:=⟨_,_,kh F70 T ,b70,k70,mg_of X G a70⟩
 have H__law_signed_corners:Has l.prog w K mg base 2 "_law_signed_corners" ["_law_up_here","_law_down","_law_d"] spSC:=⟨_,_,ei F75 T H__law_corners,b75,k75,mg_of X G a75⟩
 have H__law_whole:Has l.prog w K mg base 1 "_law_whole" ["_law_found"] iH:=⟨_,_,mx F69 T ,b69,k69,mg_of X G a69⟩
 have H__law_nearest:Has l.prog w K mg base 4 "_law_nearest" ["_law_told","_law_width","_law_d","_law_count"] spNst:=⟨_,_,jU F77 T H__law_all_right H__law_signed_quotient H__law_cut H__law_signed_corners H__law_whole,b77,k77,mg_of X G a77⟩
 have H__law_told_right:Has l.prog w K mg base 5 "_law_told_right" ["_law_width","_law_d","_law_ranked_here","_law_found"] (spTR cc):=⟨_,_,hZ F86 T H__law_nearest MTS,b86,k86,mg_of X G a86⟩
 have H__law_case:Has l.prog w K mg base 16 "_law_case" ["_law_state"] (mi PT0 PT1):=⟨_,_,nX F87 T H__law_signed_divisor H__law_prices H__law_ranked H_signed_choose H__law_told_right H__law_draw,b87,k87,mg_of X G a87⟩
 have H__law_start:Has l.prog w K mg base 1 "_law_start" ["_law_script","_law_k"] (oM K):=⟨_,_,mN F64 T ,b64,k64,mg_of X G a64⟩
 exact ok_law F88 T H__law_case H__law_start
theorem walk {l:PySem.W.OpenLaw}{q:Program}{loose:List Str}{XP:(Str->Option Value)->Heap->Prop}{YP:World->Heap->Prop}{d:DefRec}{K:Params->Frag}{cT0 PT0 cT1 PT1:Addr}(hn:l.most=some 63) (hdf:d.params.defaults=[])
  (hY:∀ (w:World) (h:Heap),YP w h->(K w.params).In h)
  (hT0:∀ (w:World) (lo:List Str) (mean:ExcName->Option Value) (mg mb:Str->Option Value) (h:Heap),Top q lo mean mg mb h->(K w.params).In h->PySem.W.CodeHd h cT0 PT0/\h.get? PT0=some (PySem.W.tabObj #[])) (hTK0:∀ w:World,(K w.params).lookup PT0=none)
  (hT1:∀ (w:World) (lo:List Str) (mean:ExcName->Option Value) (mg mb:Str->Option Value) (h:Heap),Top q lo mean mg mb h->(K w.params).In h->PySem.W.CodeHd h cT1 PT1/\h.get? PT1=some (PySem.W.tabObj #[])) (hTK1:∀ w:World,(K w.params).lookup PT1=none)
  (F:∀ (w:World) (mg:Str->Option Value) (fa:Addr) (h:Heap),(K w.params).In h->h.Ns mainGlobals mg->mg d.name=some (.ref fa) ->
   ∃ fd:FuncData,(∀ (s:Shared) (u:Value),BindsTo s fd ⟨[u],[]⟩ [("_law_script",u)])/\∀ base:Heap,(K w.params).In base->base.Ns mainGlobals mg->(∀ t∈[(cT0,PT0),(cT1,PT1)],LamBase mg base t.1 t.2)->FnOk l.prog w (K w.params) mg base CX0 17 fa fd ["_law_script"] (spLaw (K w.params) PT0 PT1)) :
  PySem.W.WalkO q loose XP YP l.row.toRowW d [] (fun f vs=>PySem.call f vs) :=
 L2.walk_ofT (n:=63) (k:=17) (x:="_law_script") (CX:=fun _=>CX0) (sp:=fun w=>spLaw (K w.params) PT0 PT1) [(cT0,PT0),(cT1,PT1)] hn (by decide) hdf ⟨rfl,by decide,by decide,rfl⟩ hY (fun w lo mean mg mb h T X=>List.forall_mem_cons.mpr ⟨hT0 w lo mean mg mb h T X,List.forall_mem_cons.mpr ⟨hT1 w lo mean mg mb h T X,fun _ z=>nomatch z⟩⟩) (fun w=>List.forall_mem_cons.mpr ⟨hTK0 w,List.forall_mem_cons.mpr ⟨hTK1 w,fun _ z=>nomatch z⟩⟩) F (fun _ _ a ns hl hT hS=>⟨a,ns,rfl,hS,hl,⟨pS (hT (cT0,PT0) (by simp)),pS (hT (cT1,PT1) (by simp))⟩,fun _=>rfl⟩) fun _ _ _ _ _ z=>z
end Ow
end
end Internal
open Internal
open PySem PySem.W PyProof.Rows
namespace PySem.W.Fast
def tw6985423333574237700:=0
def tw11002104031321804778:=0
def tw11933455060934982002:=0
def tw7867735572040831864:=0
def tw3044858259967229346:=0
def tw3286346653682234383:=0
def tw2387083842258424822:=0
def tw12649001682304345143:=0
def tw3565480126094864197:=0
def tw11981311262704132947:=0
def tw5981168708383317303:=0
def tw7710514955061987080:=0
def tw6619646696254011649:=0
def tw4852467417217528477:=0
def tw8120765515724022552:=0
def tw4204460007697335462:=0
def tw2692599836101865872:=0
def tw16610948328348570868:=0
def tw14194303948482253631:=0
def tw18254099926110705238:=0
def tw8536609429661966895:=0
def tw12222604390813301979:=0
def tw9186186986251878182:=0
def tw4506792817564097457:=0
def tw7706937575892416759:=0
def tw8018058068125974261:=0
def tw4800683662566607391:=0
def tw3626658729127212932:=0
def tw2789051981574198567:=0
def tw2417239215781290638:=0
def tw7985763371433106261:=0
def tw2255230615076400442:=0
def tw1064943185203207676:=0
def tw2973600614824278128:=0
def tw15457901637904375751:=0
def tw14227259012869479497:=0
def tw15610470675851450273:=0
def tw115896608306621393:=0
def tw18085002063500185135:=0
def tw14163357227056535145:=0
def tw16693695397668804854:=0
def tw1802728254003629155:=0
def tw5223184064982219963:=0
def tw11911985453487155095:=0
def tw9462654314404515126:=0
def tw16709921099682522491:=0
def tw8692114351346779189:=0
def tw16604835208525769930:=0
def tw6158396440943128403:=0
def tw17590334729611789082:=0
def tw5983773751460962924:=0
def tw12732946561810882080:=0
def tw17545195019026620081:=0
def tw17227680039851171278:=0
def tw13201334174208363960:=0
def tw9740883618367815971:=0
def tw2920470017996134525:=0
def tw8192475915197690699:=0
def tw17474127377756054735:=0
def tw11637288245506247241:=0
def tw5978212169127492525:=0
def tw6684317449712215307:=0
def tw3785553218480192270:=0
def tw5376595184104595039:=0
def tw13742174247800417967:=0
def tw1731835334948293805:=0
def tw12656969980663036311:=0
def tw4301107340872737729:=0
def tw10439346568069801191:=0
def tw14171783562294704664:=0
def tw7034334412872321197:=0
def tw15727769503503936260:=0
def tw9104395418621638944:=0
def tw3456470542114689858:=0
def tw16611158739370870429:=0
def tw9263029498176370090:=0
def tw16740253664767296691:=0
def tw734425357837815485:=0
def tw14336066303939382509:=0
def tw6476513261835970253:=0
def tw17485732423881974960:=0
def tw3146099721416156343:=0
def tw4969455466559028369:=0
def tw1435731803842710992:=0
def tw16087224883154921277:=0
def tw2140832894594243129:=0
def tw17526529611123092580:=0
def tw9208336293425613796:=0
def tw3636524057430355639:=0
def tw4243263833521582885:=0
def tw7360878285086821757:=0
def tw16834525580889801411:=0
def tw12972743536283512620:=0
def tw16244491669192774045:=0
def tw11442361429074551145:=0
def tw18431995420798783371:=0
def tw3189796249059583254:=0
def tw10972648926499344960:=0
def tw2652269210867075768:=0
def tw17425516109876430645:=0
def tw2996441743721639903:=0
def tw15812066104986878221:=0
def tw2316803224788133472:=0
def tw7306369753131735381:=0
def tw12450079817255293779:=0
def tw11926571285334493101:=0
def tw10583157363491476681:=0
def tw3446941279391151111:=0
def tw4030482224812940044:=0
def tw10766333798251053920:=0
def tw3851792524630788795:=0
def tw16529467417641929664:=0
def tw6602202764510067249:=0
def tw2730895800132550520:=0
def tw15575500848983511770:=0
def tw3562766742739215521:=0
def tw12617159058574388285:=0
def tw1503712919357003423:=0
def tw2492938417781211866:=0
def tw11718077310533551558:=0
def tw6202923471244165948:=0
def tw17648933803898950442:=0
def tw12009071720189822050:=0
def tw7966835044918676543:=0
def tw14218837823888538543:=0
def tw707105351857419283:=0
def tw13977207869500358618:=0
def tw1283350027461808686:=0
def tw12636910089648804839:=0
def tw17690282661075914602:=0
def tw4914647375755230307:=0
def tw6143489636388285457:=0
def tw7147870200603756271:=0
def tw12955776121954406370:=0
def tw14554198177316925047:=0
def tw17775144041906145902:=0
def tw11390592124117708673:=0
def tw18331952784727836019:=0
def tw7132812651316538618:=0
def tw3796342812891178408:=0
def tw8354513685097158053:=0
def tw13143764165935132678:=0
def tw15302352274114281373:=0
def tw10740492389535489656:=0
def tw6430015953293354765:=0
def tw1100836858537220990:=0
def tw10916624290773129534:=0
def tw9140665655636814284:=0
def tw4552518669255107044:=0
def tw7182208868502454062:=0
def tw14025696661338413193:=0
def tw5432748668533133807:=0
def tw8313106554817286049:=0
def tw2623065494023242809:=0
def tw8501664055302579940:=0
def tw7651608841386984721:=0
def tw12793488521266748559:=0
def tw2443492493654352340:=0
def tw15205628368141378705:=0
def tw10226078070841321874:=0
def tw15419166312873700327:=0
def tw9948924372148962642:=0
def tw6566133790054175758:=0
def tw14655526003607635440:=0
def tw4800018831758074840:=0
def tw152352950418515410:=0
def tw13711162424278542419:=0
def tw8266378022322051812:=0
def tw5203822327961855689:=0
def tw11127138215107581690:=0
def tw3039650597489976724:=0
def tw11068685823797134504:=0
def tw7828480956380816546:=0
def tw9055904016088916031:=0
def tw10944092895506341521:=0
def tw7264678044295395662:=0
def tw1401013064755988009:=0
def tw2106609247824117336:=0
def tw394212730700922239:=0
def tw79413286014009397:=0
def tw5124473523291768045:=0
def tw10296456572228375201:=0
def tw8815794484256712739:=0
def tw13408064856582488730:=0
def tw3791866991152893487:=0
def tw5546636555927590313:=0
def tw908561457520146088:=0
def tw18199253345980135339:=0
def tw17341102586633419551:=0
def tw447620267374356716:=0
def tw15345039816475761598:=0
def tw13162266218227047418:=0
def tw6115913284312119562:=0
def tw17099300581799801086:=0
def tw2775460189811211117:=0
def tw14981874733470794414:=0
def tw12416964177938748623:=0
def tw13262532899389259455:=0
def tw17203516442477245370:=0
def tw570133150873594713:=0
def tw11625813653099524886:=0
def tw18194499548280328186:=0
def tw2562924118078786481:=0
def tw13122913953641918911:=0
def tw9887522247456929394:=0
def tw15458980437514034522:=0
def tw535299067502655556:=0
def tw13062593463973584052:=0
def tw7265332786740069674:=0
def tw17324158092064435532:=0
def tw16532870461933151773:=0
def tw16000893036780159722:=0
def tw6510187373946586004:=0
def tw12490839035735359477:=0
def tw16612095591004004091:=0
def tw18159126197416539689:=0
def tw2241275311532022003:=0
def tw15975282664798786567:=0
def tw2847845275354459634:=0
def tw11122771841571370165:=0
def tw10288359665273141021:=0
def tw16397563494622147361:=0
def tw9584959008226401540:=0
def tw9659137275249830037:=0
def tw16847419781081534179:=0
def tw16930816592263182016:=0
def tw10642383951216329695:=0
def tw16427535549009559384:=0
def tw3917454923513693752:=0
def tw14084434145742460264:=0
def tw9741062519894994477:=0
def tw10643172209190179322:=0
def tw17329842046080593064:=0
def tw7827003433970025547:=0
def tw4789812560510642765:=0
def tw11005557917315002512:=0
def tw6193919862635476430:=0
def tw6378519888877358910:=0
def tw2576016351401843343:=0
def tw7611352757357580651:=0
def tw10793394374875817912:=0
def tw12714612210891189694:=0
def tw9048450365419019425:=0
def tw5454430413713467085:=0
def tw4852393435479811577:=0
def tw13363771026676806050:=0
def tw6801572924016523535:=0
def tw10606305752582036872:=0
def tw10919246829425156583:=0
def tw4812135030181822017:=0
def tw6000798147464732266:=0
def tw5725374447074998514:=0
def tw5415003428244577478:=0
def tw17641615424052068524:=0
def tw1630958859733246955:=0
def tw2866584931179550286:=0
def tw8521557299467735973:=0
def tw17583023220566628002:=0
def tw13926332835926615623:=0
def tw13783684913085207083:=0
def tw17624079912775800499:=0
def tw10723751362319227026:=0
def tw255026643235764824:=0
def tw4495902435635368902:=0
def tw3670673054865820878:=0
def tw4933211914180327476:=0
def tw293958830748882766:=0
def tw2882315212845670250:=0
def tw847383040232489724:=0
def tw10125249462920698683:=0
def tw7253810464752242661:=0
def tw12508853981984442831:=0
def tw9466350161598591547:=0
def tw15429753525554150764:=0
def tw9487281573378256606:=0
def tw17653155487265289012:=0
def tw12522004920460413653:=0
def tw9590376269847605456:=0
def tw5428639480625705403:=0
def tw5715730877894536306:=0
def tw1546820463469109525:=0
def tw13919480658204212122:=0
def tw9092945318489326064:=0
def tw17637622784158280090:=0
def tw9134713876703213684:=0
def tw17222245876026378532:=0
def tw4366195518879869639:=0
def tw17910940383105123751:=0
def tw11116663289699065663:=0
def tw2379188205158807289:=0
def tw17146642741357911006:=0
def tw11048709945096966325:=0
def tw4370632872984580187:=0
def tw11638105524130469828:=0
def tw11835763297269905990:=0
def tw16431158150190440627:=0
def tw17683913988869367355:=0
def tw2045462481390608047:=0
def tw15046440604964270489:=0
def tw4250651165174347762:=0
def tw17914832868409793261:=0
def tw1527024322380732910:=0
def tw7226029046920686419:=0
def tw2635166326758629517:=0
def tw363101077933307141:=0
def tw7580743615798551628:=0
def tw12563043636847305724:=0
def tw7379251271223269791:=0
def tw547192237709229766:=0
def tw648364795182508490:=0
def tw655769413678698798:=0
def tw17622891304781764196:=0
def tw1384067145685352536:=0
def tw8363048617970059036:=0
def tw17963262684873252183:=0
def tw12482373133139940128:=0
def tw3803268984653499976:=0
def tw7540934412252568958:=0
def tw15290500579989005367:=0
def tw4958104147925518334:=0
def tw6129824521044895937:=0
def tw6349624470201796487:=0
def tw14464855226061640699:=0
def tw5657211852706903270:=0
def tw696284745820865350:=0
def tw9968371977234804338:=0
def tw8269503899358637495:=0
def tw16309935700958332902:=0
def tw13478885027555953292:=0
def tw4011449801749077886:=0
def tw11374495265572398106:=0
def tw2949188023218135521:=0
def tw6520480556054266527:=0
def tw1874720250048190762:=0
def tw13173480391170267585:=0
def tw11263102733209408336:=0
def tw15776462964357906488:=0
def tw7504091558794124952:=0
def tw12201352619115445525:=0
def tw2854450675765787574:=0
def tw5705590052890271697:=0
def tw13157852540751811623:=0
def tw5747090234149628179:=0
def tw2497617653235887870:=0
def tw1534540670143732345:=0
def tw15315617347416545673:=0
def tw1814038346670042008:=0
def tw5876821413950384502:=0
def tw14369141081507057882:=0
def tw4804675679793956031:=0
def tw8104889124836910488:=0
def tw1686672232072158174:=0
def tw346754931481417785:=0
def tw3104846458574041286:=0
def tw12773168174120072622:=0
def tw1298262737090054982:=0
def tw17909730568949294272:=0
def tw4445797912915568453:=0
def tw7017084987790161797:=0
def tw1034274277405102103:=0
def tw18045402398532480254:=0
def tw10435097000957363246:=0
def tw798613115585755839:=0
def tw6025440897827256863:=0
def tw17875583244185200755:=0
def tw8257408634043958807:=0
def tw16394098939500238814:=0
def tw7194363095429515629:=0
def tw13671586227428071338:=0
def tw13322555571754965265:=0
def tw16454784887952843642:=0
def tw3507652345708090571:=0
def tw3242431574471215030:=0
def tw12380757320021681033:=0
def tw5347442033005875765:=0
def tw17750669707097829631:=0
def tw12606295923980078562:=0
def tw17291578418425085625:=0
def tw6954303677402738948:=0
def tw18042266991920489999:=0
def tw5912079675849344236:=0
def tw10293662987842127913:=0
def tw2347052602285125543:=0
def tw17583701803300106874:=0
def tw713043838042143244:=0
def tw12028130582828448027:=0
def tw13100820654542910271:=0
def tw13670572133446946020:=0
def tw14479829215034702071:=0
def tw5816474817293560570:=0
def tw3843419551037259193:=0
def tw15989069284160341768:=0
def tw8123121353011560399:=0
def tw16182160022856672464:=0
def tw1265201832585945444:=0
def tw378464090584859733:=0
def tw17137327659018342033:=0
def tw12467026808732025876:=0
def tw637146409057096252:=0
def tw7061066798678520040:=0
def tw6616244930925406209:=0
def tw4901694333431737754:=0
def tw12336801715507823396:=0
def tw1336981622116693016:=0
def tw14230121490385284897:=0
def tw5821991361385799801:=0
def tw5531873920077902250:=0
def tw11702713162077791310:=0
def tw2725513620890369024:=0
def tw7549842672685952159:=0
def tw7017854758572012233:=0
def tw12961049809921864346:=0
def tw4535566116547328074:=0
def tw5138250655542466005:=0
def tw797495643971570634:=0
def tw11017759369718177288:=0
def tw8243290711374121034:=0
def tw14792723226208090325:=0
def tw3102874685922838918:=0
def tw18005895167419737888:=0
def tw16117782971956596179:=0
def tw9510975188945361394:=0
def tw13147709362111415816:=0
def tw13461475197173658994:=0
def tw15741838421114423284:=0
def tw11248132513019071558:=0
def tw5906570750379769329:=0
def tw17458268137760813795:=0
def tw7890098649524528564:=0
def tw8689083387391020244:=0
def tw16851861309903113518:=0
def tw18046768808965527492:=0
def tw8992224723685215976:=0
def tw14900893413016519093:=0
def tw9582886761683574071:=0
def tw16015557935542199632:=0
def tw802183569307977897:=0
def tw312467719355040138:=0
def tw3821401644905673533:=0
def tw1890810030718948106:=0
def tw10813687874753459609:=0
def tw10484946763732512022:=0
def tw13939633592874259522:=0
end PySem.W.Fast
set_option maxRecDepth 100000 in
set_option maxHeartbeats 0 in
theorem PySem.Challenge.cw_overwise_k37_whole_cheapest_signed_row_holds : PySem.Challenge.rw_overwise_k37_whole_cheapest_signed_row.Holds := by
 w_on; o_law; k_head; (case hw=>w_witness2)
 k_fill
 refine Ow.walk (l:=PySem.Challenge.rw_overwise_k37_whole_cheapest_signed_row) (cT0:=628) (PT0:=624) (cT1:=652) (PT1:=648) rfl rfl (fun w h Y=>PySem.W.km_in_of Y) (fun w lo mean mg mb h T X=>PySem.W.tab_of (x:=PySem.Str.ofString "signed_wrong") T X rfl (by kernel_rfl)) (fun w=>by kernel_rfl) (fun w lo mean mg mb h T X=>PySem.W.tab_of (x:=PySem.Str.ofString "signed_choose") T X rfl (by kernel_rfl)) (fun w=>by kernel_rfl) ?F
 case F =>
  intro w mg fa h KX G hmg
  refine' Ow.all_mk KX G hmg ?_ ?_ ?_ ?_ ?_ ?_ ?_ ?_ ?_ ?_ ?_ ?_ ?_ ?_ ?_ ?_ ?_ ?_ ?_ ?_ ?_ ?_ ?_ ?_ ?_ ?_ ?_ ?_ ?_ ?_ ?_ ?_ ?_ ?_ ?_ ?_ ?_ ?_ ?_ ?_ ?_ ?_ ?_ ?_ ?_ ?_ ?_ ?_ ?_ ?_ ?_ ?_ ?_ ?_ ?_ ?_ ?_ ?_ ?_ ?_ ?_ ?_ ?_ ?_ ?_ ?_ ?_ ?_ ?_ ?_ ?_ ?_ ?_ ?_ ?_ ?_ ?_ ?_ ?_ ?_ ?_ ?_ ?_ ?_ ?_ ?_ ?_ ?_ ?_ ?_ ?_ ?_ ?_ ?_ ?_ ?_ ?_ ?_ ?_ ?_ ?_ ?_ ?_ ?_ ?_ ?_ ?_ ?_ ?_ ?_ ?_ ?_ ?_ ?_ ?_ ?_ ?_ ?_ ?_ ?_ ?_ ?_ ?_ ?_ ?_ ?_ ?_ ?_ ?_ ?_ ?_ ?_ ?_ ?_ ?_ ?_ ?_ ?_ ?_ ?_ ?_ ?_ ?_ ?_ ?_ ?_ ?_ ?_ ?_ ?_ ?_ ?_ ?_ ?_ ?_ ?_ ?_ ?_ ?_ ?_ ?_ ?_ ?_ ?_ ?_ ?_ ?_ ?_ ?_ ?_ ?_ ?_ ?_ ?_ ?_ ?_ ?_ ?_ ?_ ?_ ?_ ?_ ?_ ?_ ?_ ?_ ?_ ?_ ?_ ?_ ?_ ?_ ?_ ?_ ?_ ?_ ?_ ?_ ?_ ?_ ?_ ?_ ?_ ?_ ?_ ?_ ?_ ?_ ?_ ?_ ?_ ?_ ?_ ?_ ?_ ?_ ?_ ?_ ?_ ?_ ?_ ?_ ?_ ?_ ?_ ?_ ?_ ?_ ?_ ?_ ?_ ?_ ?_ ?_ ?_ ?_ ?_ ?_ ?_ ?_ ?_ ?_ ?_ ?_ ?_ ?_ ?_ ?_ ?_ ?_ ?_ ?_ ?_ ?_ ?_ ?_ ?_ ?_ ?_ ?_ ?_ ?_ ?_ ?_ ?_ ?_ ?_ ?_ ?_ ?_ ?_ ?_ ?_ ?_ ?_ ?_ ?_ ?_ ?_ ?_ ?_ ?_ ?_ ?_ ?_ ?_ ?_ ?_ ?_ ?_ ?_ ?_ ?_ ?_ ?_ ?_ ?_ ?_ ?_ ?_ ?_ ?_ ?_ ?_ ?_ ?_ ?_ ?_ ?_ ?_ ?_ ?_ ?_ ?_ ?_ ?_ ?_ ?_ ?_ ?_ ?_ ?_ ?_ ?_ ?_ ?_ ?_ ?_ ?_ ?_ ?_ ?_ ?_ ?_ ?_ ?_ ?_ ?_ ?_ ?_ ?_ ?_ ?_ ?_ ?_ ?_
  any_goals first | (apply Ow.FB.of <;> k_is) | k_is | rfl | decide
  any_goals first | (apply Ow.FB.of <;> k_is) | k_is | rfl | decide
