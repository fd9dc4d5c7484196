import PyProof.Rows.All
import Wide.All
import OpenK.AllK
import Wide.FinOn
import Lean
import PyProof.EqAt
import PyProof.EqKinds
import PyProof.TupleCall
import PySem.Challenge.RW_dialvault_k43_still_weights_written
set_option Elab.async false
set_option linter.all false
set_option maxRecDepth 100000
set_option maxHeartbeats 0
noncomputable section
namespace L2
open PySem PySem.Spec PyProof.Rows
abbrev Key:=Sum Int Str
def Hk:Key->Value->Bool
 | .inl k,v=>Value.isInt k v
 | .inr x,v=>Value.isStrOf x v
def R3(w:World):Key->Int
 | .inl k=>hashInt k
 | .inr x=>hashStr w x
theorem bY:∀ {k:Key} {v:Value},Hk k v=true->(∃ i t,k=Sum.inl i/\v=Value.int i t)\/(∃ x t,k=Sum.inr x/\v=Value.str x t)
 | .inl i,v,h=>by
  obtain⟨t,e⟩:=Value.isInt_shape (k:=i) (v:=v) h
  exact .inl ⟨i,t,rfl,e⟩
 | .inr x,v,h=>by
  obtain⟨t,e⟩:=Value.isStrOf_shape (x:=x) (v:=v) h
  exact .inr ⟨x,t,rfl,e⟩
theorem Jp(a b:Int):decide ((Sum.inl a:Key)=Sum.inl b)=(a==b):=by
 by_cases e:a=b
 ·subst e;simp
 ·have h:¬ (Sum.inl a:Key)=Sum.inl b:=fun q=>e (Sum.inl.inj q)
  rw[decide_eq_false h]
  exact(beq_eq_false_iff_ne.mpr e).symm
theorem JW(a b:Str):decide ((Sum.inr a:Key)=Sum.inr b)=decide (a=b):=by
 by_cases e:a=b
 ·subst e;simp
 ·have h:¬ (Sum.inr a:Key)=Sum.inr b:=fun q=>e (Sum.inr.inj q)
  rw[decide_eq_false h,decide_eq_false e]
theorem JM(a:Int)(b:Str):decide ((Sum.inl a:Key)=Sum.inr b)=false:=decide_eq_false (fun q=>nomatch q)
theorem Ik(a:Str)(b:Int):decide ((Sum.inr a:Key)=Sum.inl b)=false:=decide_eq_false (fun q=>nomatch q)
def z_(prog:Program)(w:World):PySem.KeyKind prog w Key where
 is:=Hk
 hash:=R3 w
 inj:=fun v a b ha hb=>by
  rcases bY ha with ⟨i,t,rfl,rfl⟩ | ⟨x,t,rfl,rfl⟩
  ·rcases bY hb with ⟨j,u,rfl,e⟩ | ⟨y,u,rfl,e⟩
   ·injection e with e1 _;rw[e1]
   ·exact nomatch e
  ·rcases bY hb with ⟨j,u,rfl,e⟩ | ⟨y,u,rfl,e⟩
   ·exact nomatch e
   ·injection e with e1 _;rw[e1]
 byValue:=fun k v h=>by
  rcases bY h with ⟨i,t,rfl,rfl⟩ | ⟨x,t,rfl,rfl⟩ <;> rfl
 pyHash:=fun hv h=>by
  rcases bY hv with ⟨i,t,rfl,rfl⟩ | ⟨x,t,rfl,rfl⟩
  ·exact wpAny_pyHash_int h
  ·exact wpAny_pyHash_str h
 eqBool:=fun hu hv h=>by
  rcases bY hu with ⟨i,t,rfl,rfl⟩ | ⟨x,t,rfl,rfl⟩
  ·rcases bY hv with ⟨j,u,rfl,rfl⟩ | ⟨y,u,rfl,rfl⟩
   ·rw[Jp] at h;exact wpAny_eqBool_int h
   ·rw[JM] at h;exact SeqAt.EqAt.int_str i t y u _ _ _ _ h
  ·rcases bY hv with ⟨j,u,rfl,rfl⟩ | ⟨y,u,rfl,rfl⟩
   ·rw[Ik] at h;exact SeqAt.EqAt.str_int x t j u _ _ _ _ h
   ·rw[JW] at h;exact wpAny_eqBool_str h
 «strs»:=fun k x t v h=>by
  rcases bY h with ⟨i,u,rfl,e⟩ | ⟨y,u,rfl,e⟩
  ·exact nomatch e
  ·injection e with e1 _
   subst e1
   cases v <;> rfl
end L2
namespace L2
open PySem PySem.Spec PyProof.Rows
inductive V where
 | cz | bl (b:Bool) | int (i:Int) | str (x:Str) | byt (b:Array UInt8) | Hj (b:UInt64) | ref (a:Addr) | ty (n:String)
 deriving DecidableEq
def RelV:V->Value->Prop
 | .cz,u=>u=Value.none
 | .bl b,u=>u=Value.bool b
 | .int i,u=>∃ t,u=Value.int i t
 | .str x,u=>∃ t,u=Value.str x t
 | .byt b,u=>∃ t,u=Value.bytes b t
 | .Hj b,u=>∃ t,u=Value.float b t
 | .ref a,u=>u=Value.ref a
 | .ty n,u=>u=Value.type n
abbrev Vals:List V->List Value->Prop:=Paired RelV
theorem Vals.length{xs:List V}{us:List Value}(r:Vals xs us):xs.length=us.length:=Paired.length r
theorem Vals.get:∀ {xs:List V} {us:List Value} {i:Nat} {x:V},Vals xs us->xs[i]?=some x->∃ u,us[i]?=some u/\RelV x u
 | _,_,_,_,.nil,e=>by simp at e
 | _,_,0,_,.cons r _,e=>by simp at e;subst e;exact⟨_,rfl,r⟩
 | _,_,i+1,x,.cons _ t,e=>by
  obtain⟨u,h1,h2⟩:=Vals.get (i:=i) (x:=x) t (by simpa using e)
  exact⟨u,by simpa using h1,h2⟩
theorem Vals.set{x:V}{u:Value}(r:RelV x u):∀ {xs:List V} {us:List Value} (i:Nat),Vals xs us->Vals (xs.set i x) (us.set i u)
 | _,_,_,.nil=>.nil
 | _,_,0,.cons _ t=>.cons r t
 | _,_,i+1,.cons q t=>.cons q (Vals.set r i t)
theorem Vals.append:∀ {xs ys:List V} {us ws:List Value},Vals xs us->Vals ys ws->Vals (xs++ys) (us++ws)
 | _,_,_,_,.nil,s=>s
 | _,_,_,_,.cons r t,s=>.cons r (Vals.append t s)
theorem Vals.take:∀ {xs:List V} {us:List Value} (n:Nat),Vals xs us->Vals (xs.take n) (us.take n)
 | _,_,0,_=>.nil
 | _,_,_+1,.nil=>.nil
 | _,_,n+1,.cons r t=>.cons r (Vals.take n t)
theorem Vals.drop:∀ {xs:List V} {us:List Value} (n:Nat),Vals xs us->Vals (xs.drop n) (us.drop n)
 | _,_,0,r=>r
 | _,_,_+1,.nil=>.nil
 | _,_,n+1,.cons _ t=>Vals.drop n t
def nQ:Option V->Option Value->Prop
 | some v,some u=>RelV v u
 | none,none=>True
 | _,_=>False
def KV{κ:Type}:List (κ×V)->List (κ×Value)->Prop:=Paired fun (p:κ×V) (q:κ×Value)=>p.1=q.1/\RelV p.2 q.2
def kV:Key->V
 | .inl i=>.int i
 | .inr x=>.str x
inductive HO where
 | lst (xs:List V)
 | tup (xs:List V)
 | dK (kvs:List (Key×V)) | dT (kvs:List (List Key×V))
 | set (S:Int->Bool) (n:Nat)
 | ins (C dx:Addr) (fs:List (Str×V))
 | own (x:Addr)
 | xd (fs:List (Str×V))
 | met (f x:Addr)
 | iG (lo hi:Int)
 | sI (o:Obj) (u:HO)
 | GH (ps:Array Value)
 | ext (φ:Heap->Prop)
abbrev Hp:=Addr->Option HO
def upd(H:Hp)(a:Addr)(o:HO):Hp:=fun b=>if b=a then some o else H b
theorem aC{H:Hp}{a:Addr}{o:HO}:upd H a o a=some o:=by unfold upd;rw[if_pos rfl]
theorem au{H:Hp}{a b:Addr}{o:HO}(h:b≠a):upd H a o b=H b:=by unfold upd;rw[if_neg h]
theorem zD{H:Hp}{a:Addr}{o u:HO}:upd (upd H a o) a u=upd H a u:=by
 funext b;unfold upd;split <;> rfl
theorem bH{H:Hp}{a b:Addr}{o:HO}(h:H a=some o)(h':H b=none):a≠b:=by
 intro e;subst e;rw[h] at h';cases h'
section
variable(P:Program)(w:World)
def bT(H:Hp)(h:Heap)(a:Addr):HO->Prop
 | .lst xs=>xs.length<=sizeLine/\∃ (its:List Value) (n:Nat),Vals xs its/\h.get? a=some { cls:=.type "list", data:=.seq its.toArray n }
 | .tup xs=>xs.length<=sizeLine/\∃ its:List Value,Vals xs its/\IsTup h a its.toArray
 | .dK kvs=>kvs.length<=sizeLine/\(a==sysModules)=false/\∃ vs,KV kvs vs/\h.DictOf (z_ P w) a vs
 | .dT kvs=>kvs.length<=sizeLine/\(a==sysModules)=false/\∃ xs:List (List Key×Addr×Value),
   Paired (fun (p:List Key×V) (q:List Key×Addr×Value)=>p.1=q.1/\H q.2.1=some (.tup (p.1.map kV))/\RelV p.2 q.2.2) kvs xs ∧
   ∃ o es ep,h.get? a=some o/\o.ExactDict/\o.data=.dict es ep/\es.toList=xs.map (entryOfKey (tupleKind (z_ P w)))/\(xs.map (·.1)).Nodup
 | .set S n=>h.SetOf (intKind P w) a S n
 | .ins C dx fs=>H dx=some (.own a)/\fs.length<=1000/\dx≠a/\h.get? a=some (PySem.W.instObj C dx) ∧
   ∃ mA,h.Ns1 dx mA/\(∀ f,nQ (fs.lookup f) (mA f))/\PySem.Within mA (fs.map (·.1))
 | .own _=>∃ o,h.get? a=some o
 | .xd fs=>∃ mA,h.Ns1 a mA/\∀ f,nQ (fs.lookup f) (mA f)
 | .iG lo hi=>∃ t u v,h.get? a=some { cls:=.type "range", data:=.fields #[.int lo t,.int hi u,.int 1 v] }
 | .sI o u=>h.get? a=some o/\bT H h a u
 | .GH ps=>h.get? a=some { cls:=.none,data:=.fields ps }
 | .met f x=>h.get? a=some (PySem.W.methodObj (.ref f) (.ref x))
 | .ext φ=>φ h/\(∃ o,h.get? a=some o)/\∀ h1 h2:Heap,φ h1->(∀ o,h1.get? a=some o->h2.get? a=some o)->φ h2
def n6(H:Hp)(h:Heap):Prop:=∀ a o,H a=some o->bT P w H h a o
end
section
variable{P:Program}{w:World}{H H':Hp}{h h':Heap}{a:Addr}{o:HO}
theorem bT.lt(x:bT P w H h a o):a<h.objs.size:=by
 cases o with
 | lst xs=>obtain⟨_,_,_,_,e⟩:=x;exact Heap.lt_size e
 | tup xs=>obtain⟨_,_,_,p⟩:=x;exact p.lt
 | dK kvs=>obtain⟨_,_,_,_,o,_,_,e,_⟩:=x;exact Heap.lt_size e
 | dT kvs=>obtain⟨_,_,_,_,o,_,_,e,_⟩:=x;exact Heap.lt_size e
 | set S n=>obtain⟨o,_,_,_,e,_⟩:=x;exact Heap.lt_size e
 | ins C dx fs=>obtain⟨_,_,_,e,_⟩:=x;exact Heap.lt_size e
 | own y=>obtain⟨_,e⟩:=x;exact Heap.lt_size e
 | xd fs=>obtain⟨_,⟨_,_,_,e,_⟩,_⟩:=x;exact Heap.lt_size e
 | iG lo hi=>obtain⟨_,_,_,e⟩:=x;exact Heap.lt_size e
 | sI ob u=>obtain⟨e,_⟩:=x;exact Heap.lt_size e
 | GH ps=>exact Heap.lt_size (show h.get? a=some _ from x)
 | met f y=>exact Heap.lt_size (show h.get? a=some _ from x)
 | ext φ=>obtain⟨_,⟨_,e⟩,_⟩:=x;exact Heap.lt_size e
theorem Paired.LJ{α β:Type}{F G:α->β->Prop}:∀ {l₁:List α} {l₂:List β},Paired F l₁ l₂->(∀ a b,F a b->G a b)->Paired G l₁ l₂
 | _,_,.nil,_=>.nil
 | _,_,.cons r t,f=>.cons (f _ _ r) (Paired.LJ t f)
theorem bT.nv(x:bT P w H h a o)(k:∀ b u,(b=a\/H b=some (.own a))->h.get? b=some u->h'.get? b=some u)
  (ho:∀ b,H b=some (.own a)->H' b=some (.own a)) (ht:∀ b xs,H b=some (.tup xs)->H' b=some (.tup xs)):bT P w H' h' a o:=by
 induction o with
 | lst xs=>obtain⟨z,its,n,r,e⟩:=x;exact⟨z,its,n,r,k _ _ (.inl rfl) e⟩
 | tup xs=>obtain⟨z,its,r,ob,e,c⟩:=x;exact⟨z,its,r,ob,k _ _ (.inl rfl) e,c⟩
 | dK kvs=>obtain⟨z,y,vs,r,ob,es,ep,e,c⟩:=x;exact⟨z,y,vs,r,ob,es,ep,k _ _ (.inl rfl) e,c⟩
 | dT kvs =>
  obtain⟨z,y,xs,r,ob,es,ep,e,c⟩:=x
  exact⟨z,y,xs,Paired.LJ r fun p q z=>⟨z.1,ht _ _ z.2.1,z.2.2⟩,ob,es,ep,k _ _ (.inl rfl) e,c⟩
 | set S n=>obtain⟨ob,es,ep,t,e,c⟩:=x;exact⟨ob,es,ep,t,k _ _ (.inl rfl) e,c⟩
 | ins C dx fs =>
  obtain⟨d,z,ne,e,mA,⟨od,es,ep,e2,c⟩,r⟩:=x
  exact⟨ho _ d,z,ne,k _ _ (.inl rfl) e,mA,⟨od,es,ep,k _ _ (.inr d) e2,c⟩,r⟩
 | own y=>obtain⟨ob,e⟩:=x;exact⟨ob,k _ _ (.inl rfl) e⟩
 | xd fs=>obtain⟨mA,⟨od,es,ep,e,c⟩,r⟩:=x;exact⟨mA,⟨od,es,ep,k _ _ (.inl rfl) e,c⟩,r⟩
 | iG lo hi=>obtain⟨t,u,v,e⟩:=x;exact⟨t,u,v,k _ _ (.inl rfl) e⟩
 | sI ob u ih=>obtain⟨e,q⟩:=x;exact⟨k _ _ (.inl rfl) e,ih q⟩
 | GH ps =>
  have e:h.get? a=some { cls:=.none,data:=.fields ps }:=x
  show h'.get? a=some { cls:=.none,data:=.fields ps }
  exact k a _ (.inl rfl) e
 | met f y =>
  have e:h.get? a=some (PySem.W.methodObj (.ref f) (.ref y)):=x
  show h'.get? a=some (PySem.W.methodObj (.ref f) (.ref y))
  exact k a _ (.inl rfl) e
 | ext φ=>obtain⟨p,⟨o,e⟩,st⟩:=x;exact⟨st _ _ p fun o q=>k _ _ (.inl rfl) q,⟨o,k _ _ (.inl rfl) e⟩,st⟩
theorem n6.lt(x:n6 P w H h)(e:H a=some o):a<h.objs.size:=(x a o e).lt
theorem n6.fresh(x:n6 P w H h)(e:h.objs.size<=a):H a=none:=by
 cases q:H a with
 | none=>rfl
 | some u=>exact absurd (Nat.lt_of_lt_of_le (x.lt q) e) (Nat.lt_irrefl _)
theorem n6.kept(x:n6 P w H h)(k:∀ b u,h.get? b=some u->h'.get? b=some u):n6 P w H h':=fun a o e =>
 (x a o e).nv (fun b u _ q=>k b u q) (fun _ q=>q) fun _ _ q=>q
theorem n6.laid(x:n6 P w H h)(k:∀ b u,h.get? b=some u->h'.get? b=some u)(hp:h.objs.size<=a)(new:bT P w (upd H a o) h' a o):n6 P w (upd H a o) h':=fun b u e=>by
 have hn:=x.fresh hp
 by_cases hb:b=a
 ·subst hb;rw[aC] at e;cases e;exact new
 ·rw[au hb] at e
  exact(x b u e).nv (fun c v _ q=>k c v q) (fun c q=>by rw[au (bH q hn)];exact q) fun c xs q=>by rw[au (bH q hn)];exact q
end
def Rd(H:Hp)(a:Addr)(u:HO):Prop:=H a=some u\/∃ o,H a=some (.sI o u)
theorem Rd.ok{P:Program}{w:World}{H:Hp}{h:Heap}{a:Addr}{u:HO}(r:Rd H a u)(x:n6 P w H h):bT P w H h a u:=by
 rcases r with r | ⟨o,r⟩
 ·exact x a u r
 ·obtain⟨_,q⟩:=x a _ r
  exact q
def LY:Option HO->Prop
 | some (.lst _)=>True
 | some (.dK _)=>True
 | some (.dT _)=>True
 | some (.set _ _)=>True
 | some (.ins _ _ _)=>True
 | some (.ext _)=>True
 | _=>False
section
variable{P:Program}{w:World}{H:Hp}{h h':Heap}{x e:Addr}{o':HO}
theorem n6.write(ok:n6 P w H h)(mu:LY (H x))(he:e=x\/H e=some (.own x))(k:∀ b u,b≠e->h.get? b=some u->h'.get? b=some u)(heo:∃ u,h'.get? e=some u)
  (new:bT P w (upd H x o') h' x o'):n6 P w (upd H x o') h':=fun b u q=>by
 have nown:∀ c y,H c=some (.own y)->c≠x:=fun c y r z=>by subst z;rw[r] at mu;exact mu
 have ntup:∀ c xs,H c=some (.tup xs)->c≠x:=fun c xs r z=>by subst z;rw[r] at mu;exact mu
 by_cases hb:b=x
 ·subst hb;rw[aC] at q;cases q;exact new
 ·rw[au hb] at q
  by_cases hbe:b=e
  ·have q':H b=some (.own x):=by
    rcases he with z | z
    ·exact absurd (hbe.trans z) hb
    ·rw[hbe];exact z
   rw[q] at q';cases q'
   obtain⟨v,hv⟩:=heo
   exact⟨v,by rw[hbe];exact hv⟩
  ·refine(ok b u q).nv (fun c v hc r=>k c v ?_ r) (fun c r=>by rw[au (nown c b r)];exact r) fun c xs r=>by rw[au (ntup c xs r)];exact r
   rcases hc with rfl | hc
   ·exact hbe
   ·rintro rfl
    rcases he with z | z
    ·exact nown c b hc z
    ·rw[hc] at z;cases z;exact hb rfl
end
structure Un (fs ex:List Addr) (H H':Hp) (h h':Heap):Prop where
 keep:∀ b o,h.get? b=some o->H b=none->b ∉ fs->b ∉ ex->h'.get? b=some o
 slot:∀ b o,h.get? b=some o->H b=none->b∈fs->b ∉ ex->∃ sl,h'.get? b=some { o with slots:=sl }
 free:∀ b o,h.get? b=some o->H b=none->b ∉ ex->H' b=none
 there:∀ b o,h.get? b=some o->b ∉ ex->∃ o',h'.get? b=some o'
 qA:∀ b xs,H b=some (.tup xs)->H' b=some (.tup xs)
 l9:∀ b o u,H b=some (.sI o u)->H' b=some (.sI o u)
 pS:∀ b ps,H b=some (.GH ps)->∃ more,H' b=some (.GH (ps++more))
section
variable{fs fs' ex ex':List Addr}{H H1 H2:Hp}{h h1 h2 h':Heap}{a x e:Addr}{o:HO}
theorem Un.any(u:Un fs ex H H1 h h1){b:Addr}{ob:Obj}(q:h.get? b=some ob)(n:H b=none)(hx:b ∉ ex):∃ sl,h1.get? b=some { ob with slots:=sl }:=by
 by_cases hb:b∈fs
 ·exact u.slot b ob q n hb hx
 ·exact⟨ob.slots,u.keep b ob q n hb hx⟩
theorem Un.kept(k:∀ b u,h.get? b=some u->h'.get? b=some u):Un fs ex H H h h' :=
 ⟨fun b ob q _ _ _=>k b ob q,fun b ob q _ _ _=>⟨ob.slots,k b ob q⟩,fun _ _ _ n _=>n,fun b ob q _=>⟨ob,k b ob q⟩,fun _ _ q=>q,fun _ _ _ q=>q,fun _ ps q=>⟨#[],by rw[q];simp⟩⟩
theorem Un.refl:Un fs ex H H h h:=Un.kept fun _ _ q=>q
theorem Un.laid(k:∀ b u,h.get? b=some u->h'.get? b=some u)(hp:h.objs.size<=a)(hn:H a=none):Un fs ex H (upd H a o) h h' where
 keep:=fun b u q _ _ _=>k b u q
 slot:=fun b u q _ _ _=>⟨u.slots,k b u q⟩
 free:=fun b u q n _=>by rw[au (Nat.ne_of_lt (Nat.lt_of_lt_of_le (Heap.lt_size q) hp))];exact n
 there:=fun b u q _=>⟨u,k b u q⟩
 qA:=fun b xs q=>by rw[au (bH q hn)];exact q
 l9:=fun b u xs q=>by rw[au (bH q hn)];exact q
 pS:=fun b ps q=>⟨#[],by rw[au (bH q hn),q];simp⟩
theorem Un.write(mu:LY (H x))(he:e=x\/H e=some (.own x))(k:∀ b u,b≠e->h.get? b=some u->h'.get? b=some u)(heo:∃ u,h'.get? e=some u):Un fs ex H (upd H x o) h h':=by
 have hx:∀ b,H b=none->b≠x:=fun b n z=>by subst z;rw[n] at mu;exact mu
 have hb:∀ b,H b=none->b≠e:=fun b n z=>by
  subst z
  rcases he with r | r
  ·exact hx b n r
  ·rw[n] at r;cases r
 have hm:∀ b u,H b=some u->¬ LY (some u)->b≠x:=fun b u q nm z=>by subst z;rw[q] at mu;exact nm mu
 refine⟨fun b u q n _ _=>k b u (hb b n) q,fun b u q n _ _=>⟨u.slots,k b u (hb b n) q⟩,fun b u q n _=>by rw[au (hx b n)];exact n,fun b u q _=>?_,
  fun b xs q=>by rw[au (hm b _ q fun z=>z)];exact q,fun b u xs q=>by rw[au (hm b _ q fun z=>z)];exact q,fun b ps q=>⟨#[],by rw[au (hm b _ q fun z=>z),q];simp⟩⟩
 by_cases hbe:b=e
 ·subst hbe;exact heo
 ·exact⟨u,k b u hbe q⟩
end
def L_(h:Heap)(H:Hp):List Addr:=(List.range h.objs.size).filter fun a=>(H a).isSome
def vv(h:Heap)(H:Hp):Heap:=PySem.W.hideAll h (L_ h H)
theorem AK(h:Heap)(H:Hp):(vv h H).objs.size=h.objs.size:=PySem.W.hideAll_size _ _
theorem C6{h:Heap}{H:Hp}{b:Addr}{o:Obj}(e:h.get? b=some o)(n:H b=none):(vv h H).get? b=some o :=
 PySem.W.hideAll_get _ e fun hm=>by
  have q:(H b).isSome=true:=(List.mem_filter.mp hm).2
  rw[n] at q;simp at q
theorem Ff{h:Heap}{H:Hp}{b:Addr}{o:Obj}(e:(vv h H).get? b=some o):h.get? b=some o/\H b=none:=by
 have e':h.get? b=some o:=PySem.W.of_hideAll (L_ h H) e
 refine⟨e',?_⟩
 cases q:H b with
 | none=>rfl
 | some x =>
  have hm:b∈L_ h H:=List.mem_filter.mpr ⟨List.mem_range.mpr (Heap.lt_size e'),by simp[q]⟩
  have z:(vv h H).get? b=none:=PySem.W.hideAll_none (L_ h H) hm
  rw[z] at e;cases e
def Gm(g h:Heap)(L:Addr):List (Addr×Obj):=(List.range h.objs.size).filterMap fun a=>if a=L\/(g.get? a).isSome=true then none else (h.get? a).map fun o=>(a,o)
def rest(g h:Heap)(L d:Addr):List (Addr×Obj):=(Gm g h L).filter fun p=>decide (p.1≠d)
end L2
namespace L2
open PySem PySem.Spec PyProof.Rows
structure Mod (K:PySem.W.Frag) (mg:Str->Option Value) (base:Heap):Prop where
 G4:K.In base
 glob:base.Ns mainGlobals mg
 blt:∃ mb,base.Ns builtinsNs mb/\∀ x:Str,x ≠ "__name__" -> mb x=bootBuiltins x
 nolimit:base.NoLimit
structure Cx where
 prog:Program
 w:World
 K:PySem.W.Frag
 mg:Str->Option Value
 base:Heap
 A:Around
 N:List Str
 s₀:Shared
 H₀:Hp
 env:Env
 outer:List Env
 stack:List Env
 ex:List Addr
 fn:Str->Bool
 calm:Bool
 pn:List (Addr×Obj)
 xe:Value->Shared->Prop
def xJ(l:List Env):List Addr:=l.filterMap (·.frame)
abbrev Cx.fs(X:Cx):List Addr:=xJ X.outer
def Ez(sc:Scope)(x:Str):Prop:=sc.names.lookup x=some .local\/sc.names.lookup x=some .cell\/sc.names.lookup x=some .free
def Loc(sc:Scope)(x:Str):Prop:=sc.names.lookup x=some .local\/sc.names.lookup x=some .cell
def Look(env:Env)(h:Heap)(m:Str->Option Value)(x:Str)(u:Value):Prop :=
 (env.kindOf x=some .local/\m x=some u)\/((env.kindOf x=some .cell\/env.kindOf x=some .free)/\∃ c,env.cells.lookup x=some c/\h.IsCell c (some u))
structure Cx.Ok (X:Cx):Prop where
 mod:Mod X.K X.mg X.base
 kind:X.env.scope.kind=.function
 glob:X.env.globals=mainGlobals
 blt:X.env.builtins=builtinsNs
 above:X.s₀.heap.objs.size<=X.env.locals
 inj:∀ x y c,X.env.cells.lookup x=some c->X.env.cells.lookup y=some c->x=y
 has:∀ x,(X.env.kindOf x=some .cell\/X.env.kindOf x=some .free)->∃ c,X.env.cells.lookup x=some c
 GV:∀ x c,X.fn x=true->X.env.cells.lookup x=some c->X.s₀.heap.objs.size<=c
 hd:X.calm=true->X.A.handled=none
 frames:X.A.frames=some X.stack
 Hu:X.stack=X.outer\/(X.stack=X.env::X.outer/\X.env.frame=some X.env.locals)
 Kd:∀ b∈X.ex,b≠X.env.locals/\∀ x c,X.env.cells.lookup x=some c->c≠b
 bs:∀ b o,X.base.get? b=some o->X.s₀.heap.get? b=some o/\X.H₀ b=none
 BO:X.base.objs.size<=X.s₀.heap.objs.size
 vD:∀ b o,X.base.get? b=some o->b ∉ X.ex
 wW:∀ b∈X.ex,b ∉ X.fs
 mh:X.s₀.heap.FunFrames X.base X.outer
 EC:∀ b∈X.fs,X.H₀ b=none
structure Inv (X:Cx) (pins:List (Addr×Obj)) (σ:List (Option V)) (H:Hp) (s:Shared):Prop where
 ok:X.Ok
 os:s.os=X.s₀.os
 bare:AllBare s.gens
 base:Un X.fs X.ex X.H₀ H X.s₀.heap s.heap
 loc:∃ m,s.heap.Ns X.env.locals m/\∀ (i:Nat) (x:Str) (v:V),X.N[i]?=some x->σ[i]?=some (some v)->Ez X.env.scope x->∃ u,RelV v u/\Look X.env s.heap m x u
 cell:∀ x c,X.env.cells.lookup x=some c->∃ v,s.heap.IsCell c v
 free:H X.env.locals=none
 f9:∀ x c,X.env.cells.lookup x=some c->H c=none
 pin:∀ p∈X.pn++pins,s.heap.get? p.1=some p.2/\H p.1=none/\p.1≠X.env.locals/\p.1 ∉ X.fs/\∀ v,p.2.data≠.cell v
 bo:n6 X.prog X.w H s.heap
 len:σ.length=X.N.length
section
variable{X:Cx}{pins:List (Addr×Obj)}{σ:List (Option V)}{H H':Hp}{s:Shared}{h':Heap}
theorem Cx.Ok.NW(ok:X.Ok){b:Addr}{o:Obj}(e:X.base.get? b=some o):b ∉ X.fs:=fun hb=>by
 have:=(ok.mh.mem hb).1
 rw[e] at this;cases this
theorem Inv.bs(I:Inv X pins σ H s):∀ b o,X.base.get? b=some o->s.heap.get? b=some o/\H b=none:=fun b o e =>
 ⟨I.base.keep b o (I.ok.bs b o e).1 (I.ok.bs b o e).2 (I.ok.NW e) (I.ok.vD b o e),I.base.free b o (I.ok.bs b o e).1 (I.ok.bs b o e).2 (I.ok.vD b o e)⟩
theorem Inv.bk(I:Inv X pins σ H s):∀ b o,X.base.get? b=some o->s.heap.get? b=some o:=fun b o e=>(I.bs b o e).1
theorem Inv.mod(I:Inv X pins σ H s):Mod X.K X.mg X.base:=I.ok.mod
theorem Inv.j7(I:Inv X pins σ H s):X.K.In s.heap:=I.ok.mod.G4.keeps I.bk
theorem Inv.lt(I:Inv X pins σ H s):X.env.locals<s.heap.objs.size:=let ⟨_,hn,_⟩:=I.loc;hn.lt
theorem Inv.sz(I:Inv X pins σ H s):X.s₀.heap.objs.size<=s.heap.objs.size:=Nat.le_trans I.ok.above (Nat.le_of_lt I.lt)
theorem Inv.Ni(I:Inv X pins σ H s){a:Addr}(h:s.heap.objs.size<=a):a ∉ X.fs:=fun hb=>by
 obtain⟨_,o,ho,_⟩:=I.ok.mh.mem hb
 exact absurd (Nat.lt_of_lt_of_le (Heap.lt_size ho) (Nat.le_trans I.sz h)) (Nat.lt_irrefl _)
theorem Inv.BU(I:Inv X pins σ H s):∀ x c,X.env.cells.lookup x=some c->c≠X.env.locals:=fun x c e z=>by
 obtain⟨v,o,ho,hd⟩:=I.cell x c e
 obtain⟨m,⟨o',es,ep,ho',hd',_⟩,_⟩:=I.loc
 rw[z,ho'] at ho;cases ho;rw[hd'] at hd;cases hd
theorem Inv.mh(I:Inv X pins σ H s):s.heap.FunFrames X.base X.outer:=by
 have all:∀ (l:List Env),(∀ b∈xJ l,b∈X.fs)->X.s₀.heap.FunFrames X.base l->s.heap.FunFrames X.base l:=by
  intro l
  induction l with
  | nil=>intro _ _;trivial
  | cons env r ih =>
   intro hs hl
   obtain⟨hk,⟨L,o,hf,hn,ho,hd⟩,hr⟩:=hl
   have hL:L∈X.fs:=hs L (by unfold xJ;rw[List.filterMap_cons,hf];exact List.mem_cons_self)
   obtain⟨sl,e⟩:=I.base.slot L o ho (I.ok.EC L hL) hL fun z=>I.ok.wW L z hL
   exact⟨hk,⟨L,_,hf,hn,e,hd⟩,ih (fun b hb=>hs b (by unfold xJ;rw[List.filterMap_cons,hf];exact List.mem_cons_of_mem _ hb)) hr⟩
 exact all X.outer (fun _ hb=>hb) I.ok.mh
theorem Inv.stack(I:Inv X pins σ H s):s.heap.FunFrames X.base X.stack:=by
 rcases I.ok.Hu with e | ⟨e,hf⟩
 ·rw[e];exact I.mh
 ·rw[e]
  obtain⟨m,hn,_⟩:=I.loc
  refine .cons (by rw[I.ok.kind];decide) hf hn ?_ I.mh
  exact Heap.get?_none_of_le (Nat.le_trans I.ok.BO I.ok.above)
theorem Inv.vG(I:Inv X pins σ H s):∀ b∈xJ X.stack,b∈X.env.locals::X.fs:=fun b hb=>by
 rcases I.ok.Hu with e | ⟨e,hf⟩
 ·rw[e] at hb;exact List.mem_cons_of_mem _ hb
 ·rw[e] at hb
  unfold xJ at hb
  rw[List.filterMap_cons,hf] at hb
  exact hb
theorem Inv.u5(I:Inv X pins σ H s):∀ b∈xJ X.stack,H b=none:=fun b hb=>by
 rcases List.mem_cons.mp (I.vG b hb) with e | hb
 ·rw[e];exact I.free
 ·obtain⟨_,o,ho,_⟩:=I.ok.mh.mem hb
  exact I.base.free b o ho (I.ok.EC b hb) fun z=>I.ok.wW b z hb
theorem Inv.step{g':Array GenState}{t':Nat}{d':Drawn}{ch:List Addr}(I:Inv X pins σ H s)
  (hch:∀ b∈ch,(b∈X.ex\/X.s₀.heap.objs.size<=b)/\b≠X.env.locals/\(∀ x c,X.env.cells.lookup x=some c->c≠b)/\∀ p∈X.pn++pins,p.1≠b)
  (keep:∀ b o,b≠X.env.locals->b ∉ X.fs->b ∉ ch->s.heap.get? b=some o->H b=none->h'.get? b=some o)
  (slot:∀ b o,b≠X.env.locals->b∈X.fs->b ∉ ch->s.heap.get? b=some o->H b=none->∃ sl,h'.get? b=some { o with slots:=sl }) (free:∀ b o,b ∉ ch->s.heap.get? b=some o->H b=none->H' b=none)
  (there:∀ b o,b ∉ ch->s.heap.get? b=some o->∃ o',h'.get? b=some o')
  (qA:∀ b xs,H b=some (.tup xs)->H' b=some (.tup xs)) (l9:∀ b o u,H b=some (.sI o u)->H' b=some (.sI o u)) (pS:∀ b ps,H b=some (.GH ps)->∃ more,H' b=some (.GH (ps++more)))
  (ns:∀ m,s.heap.Ns X.env.locals m->h'.Ns X.env.locals m) (bo:n6 X.prog X.w H' h') (hg:AllBare g') :
  Inv X pins σ H' { s with heap:=h',gens:=g',drawn:=d',toks:=t' }:=by
 have neL:∀ b o,X.s₀.heap.get? b=some o->b≠X.env.locals:=fun b o e=>Nat.ne_of_lt (Nat.lt_of_lt_of_le (Heap.lt_size e) I.ok.above)
 have neC:∀ b o,X.s₀.heap.get? b=some o->b ∉ X.ex->b ∉ ch:=fun b o e hx hb=>by
  rcases(hch b hb).1 with z | z
  ·exact hx z
  ·exact absurd (Nat.lt_of_lt_of_le (Heap.lt_size e) z) (Nat.lt_irrefl _)
 have cellK:∀ x c,X.env.cells.lookup x=some c->∀ v,s.heap.IsCell c v->h'.IsCell c v:=fun x c e v ⟨o,ho,hd⟩=>by
  have nch:c ∉ ch:=fun z=>(hch c z).2.2.1 x c e rfl
  by_cases hc:c∈X.fs
  ·obtain⟨sl,q⟩:=slot c o (I.BU x c e) hc nch ho (I.f9 x c e)
   exact⟨_,q,hd⟩
  ·exact⟨o,keep c o (I.BU x c e) hc nch ho (I.f9 x c e),hd⟩
 refine⟨I.ok,I.os,hg,⟨fun b o e n hb hx=>?_,fun b o e n hb hx=>?_,fun b o e n hx=>?_,fun b o e hx=>?_,fun b xs e=>qA b xs (I.base.qA b xs e),fun b o xs e=>l9 b o xs (I.base.l9 b o xs e),fun b ps e=>?_⟩,?_,fun x c e=>?_,?_,fun x c e=>?_,fun p hp=>?_,bo,I.len⟩
 ·exact keep b o (neL b o e) hb (neC b o e hx) (I.base.keep b o e n hb hx) (I.base.free b o e n hx)
 ·obtain⟨sl,e1⟩:=I.base.slot b o e n hb hx
  obtain⟨sl',e2⟩:=slot b _ (neL b o e) hb (neC b o e hx) e1 (I.base.free b o e n hx)
  exact⟨sl',e2⟩
 ·obtain⟨o',e1⟩:=I.base.there b o e hx
  exact free b o' (neC b o e hx) e1 (I.base.free b o e n hx)
 ·obtain⟨o',e1⟩:=I.base.there b o e hx
  exact there b o' (neC b o e hx) e1
 ·obtain⟨m1,e1⟩:=I.base.pS b ps e
  obtain⟨m2,e2⟩:=pS b _ e1
  exact⟨m1++m2,by rw[e2,Array.append_assoc]⟩
 ·obtain⟨m,hn,hl⟩:=I.loc
  refine⟨m,ns m hn,fun i x v e1 e2 e3=>?_⟩
  obtain⟨u,r,l⟩:=hl i x v e1 e2 e3
  refine⟨u,r,?_⟩
  rcases l with l | ⟨k,c,e,z⟩
  ·exact .inl l
  ·exact .inr ⟨k,c,e,cellK x c e _ z⟩
 ·obtain⟨v,z⟩:=I.cell x c e
  exact⟨v,cellK x c e v z⟩
 ·obtain⟨m,⟨o,_,_,ho,_⟩,_⟩:=I.loc
  exact free _ o (fun z=>(hch _ z).2.1 rfl) ho I.free
 ·obtain⟨v,o,ho,hd⟩:=I.cell x c e
  exact free c o (fun z=>(hch c z).2.2.1 x c e rfl) ho (I.f9 x c e)
 ·obtain⟨e,n,ne,nf,d⟩:=I.pin p hp
  have nch:p.1 ∉ ch:=fun z=>(hch p.1 z).2.2.2 p hp rfl
  exact⟨keep p.1 p.2 ne nf nch e n,free p.1 p.2 nch e n,ne,nf,d⟩
theorem Inv.un{t':Nat}(I:Inv X pins σ H s)(u:Un X.fs [] H H' s.heap h')(bo:n6 X.prog X.w H' h'):Inv X pins σ H' { s with heap:=h',toks:=t' }:=by
 obtain⟨m,⟨o,es,ep,ho,r⟩,_⟩:=id I.loc
 obtain⟨sl,hL⟩:=u.any ho I.free (by simp)
 exact I.step (g':=s.gens) (d':=s.drawn) (ch:=[]) (fun _ z=>nomatch z) (fun b o _ hb _ e n=>u.keep b o e n hb (by simp)) (fun b o _ hb _ e n=>u.slot b o e n hb (by simp)) (fun b o _ e n=>u.free b o e n (by simp)) (fun b o _ e=>u.there b o e (by simp)) u.qA u.l9 u.pS (fun m' hm=>by
  obtain⟨o',es',ep',ho',r'⟩:=hm
  rw[ho] at ho';cases ho'
  exact⟨_,es',ep',hL,r'⟩) bo I.bare
theorem Inv.call{g':Array GenState}{t':Nat}{d':Drawn}{ch:List Addr}(I:Inv X pins σ H s)(u:Un (xJ X.stack) ch H H' s.heap h')(bo:n6 X.prog X.w H' h')(hg:AllBare g')
  (hch:∀ b∈ch,(b∈X.ex\/X.s₀.heap.objs.size<=b)/\b≠X.env.locals/\(∀ x c,X.env.cells.lookup x=some c->c≠b)/\∀ p∈X.pn++pins,p.1≠b) :
  Inv X pins σ H' { s with heap:=h',gens:=g',drawn:=d',toks:=t' }:=by
 obtain⟨m,⟨o,es,ep,ho,r⟩,_⟩:=id I.loc
 obtain⟨sl,hL⟩:=u.any ho I.free fun z=>(hch _ z).2.1 rfl
 exact I.step (ch:=ch) hch (fun b o hL hb hc e n=>u.keep b o e n (fun z=>(List.mem_cons.mp (I.vG b z)).elim hL hb) hc) (fun b o _ _ hc e n=>u.any e n hc) (fun b o hc e n=>u.free b o e n hc) (fun b o hc e=>u.there b o e hc) u.qA u.l9 u.pS (fun m' hm=>by
  obtain⟨o',es',ep',ho',r'⟩:=hm
  rw[ho] at ho';cases ho'
  exact⟨_,es',ep',hL,r'⟩) bo hg
theorem Inv.turned{t':Nat}{it:Addr}(I:Inv X pins σ H s)(k:∀ b o,b≠it->s.heap.get? b=some o->h'.get? b=some o)(hn:H it=none)(hL:it≠X.env.locals)
  (h1:it∈X.ex\/X.s₀.heap.objs.size<=it) (h2:∀ x c,X.env.cells.lookup x=some c->c≠it) (h3:∀ p∈X.pn++pins,p.1≠it):Inv X pins σ H { s with heap:=h',toks:=t' }:=by
 have nit:∀ b u,H b=some u->b≠it:=fun b u e z=>by rw[z,hn] at e;cases e
 refine I.step (g':=s.gens) (d':=s.drawn) (ch:=[it]) (fun b hb=>?_) (fun b o _ _ hc e _=>k b o (fun z=>hc (by simp[z])) e) (fun b o _ _ hc e _=>⟨o.slots,k b o (fun z=>hc (by simp[z])) e⟩) (fun _ _ _ _ n=>n)
  (fun b o hc e=>⟨o,k b o (fun z=>hc (by simp[z])) e⟩) (fun _ _ e=>e) (fun _ _ _ e=>e) (fun b ps e=>⟨#[],by rw[e];simp⟩) (fun m hm=>?_) (fun b u e=>?_) I.bare
 ·have e:b=it:=by simpa using hb
  subst e
  exact⟨h1,hL,h2,h3⟩
 ·obtain⟨o,es,ep,ho,r⟩:=hm
  exact⟨o,es,ep,k _ o (Ne.symm hL) ho,r⟩
 ·refine(I.bo b u e).nv (fun c v hc q=>k c v ?_ q) (fun _ q=>q) fun _ _ q=>q
  rcases hc with z | z
  ·rw[z];exact nit b u e
  ·exact nit c _ z
theorem Inv.tok(I:Inv X pins σ H s)(t:Nat):Inv X pins σ H { s with toks:=t }:=I.un (h':=s.heap) (t':=t) Un.refl I.bo
theorem Inv.kept{t':Nat}(I:Inv X pins σ H s)(k:∀ b u,s.heap.get? b=some u->h'.get? b=some u):Inv X pins σ H { s with heap:=h',toks:=t' }:=I.un (Un.kept k) (I.bo.kept k)
theorem Inv.laid{a:Addr}{o:HO}{t':Nat}(I:Inv X pins σ H s)(k:∀ b u,s.heap.get? b=some u->h'.get? b=some u)(hp:s.heap.objs.size<=a)(new:bT X.prog X.w (upd H a o) h' a o) :
  Inv X pins σ (upd H a o) { s with heap:=h',toks:=t' }:=I.un (Un.laid k hp (I.bo.fresh hp)) (I.bo.laid k hp new)
theorem Inv.write{x e:Addr}{o:HO}{t':Nat}(I:Inv X pins σ H s)(mu:LY (H x))(he:e=x\/H e=some (.own x))(k:∀ b u,b≠e->s.heap.get? b=some u->h'.get? b=some u)(heo:∃ u,h'.get? e=some u)
  (new:bT X.prog X.w (upd H x o) h' x o):Inv X pins σ (upd H x o) { s with heap:=h',toks:=t' }:=I.un (Un.write mu he k heo) (I.bo.write mu he k heo new)
theorem Inv.zg{pins':List (Addr×Obj)}(I:Inv X pins σ H s)(h:∀ p∈pins',s.heap.get? p.1=some p.2/\H p.1=none/\p.1≠X.env.locals/\p.1 ∉ X.fs/\∀ v,p.2.data≠.cell v):Inv X pins' σ H s :=
 ⟨I.ok,I.os,I.bare,I.base,I.loc,I.cell,I.free,I.f9,fun p hp=>(List.mem_append.mp hp).elim (fun z=>I.pin p (List.mem_append_left _ z)) (h p),I.bo,I.len⟩
theorem qQ{N:List Str}(hN:N.Nodup){i j:Nat}{x:Str}(a:N[i]?=some x)(b:N[j]?=some x):i=j:=by
 obtain⟨h1,e1⟩:=List.getElem?_eq_some_iff.mp a
 obtain⟨h2,e2⟩:=List.getElem?_eq_some_iff.mp b
 exact(List.getElem_inj hN).mp (e1.trans e2.symm)
theorem tW{M:Model}{A:Around}{E:Value->Shared->Prop}{i:Nat}{x:Str}{v:V}{u:Value}{Q:Unit->Shared->Prop}(I:Inv X pins σ H s)(hN:X.N.Nodup)(hi:X.N[i]?=some x)(hx:Loc X.env.scope x)(r:RelV v u)
  (h:∀ s',Inv X pins (σ.set i (some v)) H s'->(∃ a,Heap.SameBut a s.heap s'.heap/\(a=X.env.locals\/X.env.cells.lookup x=some a))->Q () s') (hf:X.fn x=true\/X.env.scope.names.lookup x=some .local:=by first | exact .inl rfl | exact .inr rfl | assumption):wpAny M A (storeName X.env x u) Q E s:=by
 obtain⟨m,hn,hl⟩:=id I.loc
 have hcls:(X.env.scope.kind==.class||(X.env.scope.kind==.module&&X.env.locals != X.env.globals))=false:=by rw[I.ok.kind];rfl
 have hiσ:i<σ.length:=by rw[I.len];exact(List.getElem?_eq_some_iff.mp hi).1
 have BU:=I.BU
 have tracked:∀ {a:Addr} {h':Heap},(∃ o,s.heap.get? a=some o/\H a=none)->Heap.SameBut a s.heap h'->n6 X.prog X.w H h':=fun {a h'} ha hs b ob e=>by
  obtain⟨_,_,hfree⟩:=ha
  refine(I.bo b ob e).nv (fun c w' hc q=>(hs.2 c ?_).trans q) (fun _ q=>q) fun _ _ q=>q
  rintro rfl
  rcases hc with rfl | hc
  ·rw[hfree] at e;cases e
  ·rw[hfree] at hc;cases hc
 rcases hx with hk | hk
 ·refine wpAny_storeName_local hk hn (fun h' hn' hs=>?_) hcls
  obtain⟨oL,_,_,hoL,_⟩:=id hn
  refine h _ ⟨I.ok,I.os,I.bare,⟨fun b o e n hb hx=>?_,fun b o e n hb hx=>?_,I.base.free,fun b o e hx=>?_,I.base.qA,I.base.l9,I.base.pS⟩,⟨_,hn',fun j y v' e1 e2 e3=>?_⟩,fun y c e=>?_,I.free,I.f9,fun p hp=>?_,tracked ⟨oL,hoL,I.free⟩ hs,by simpa using I.len⟩ ⟨_,hs,.inl rfl⟩
  ·exact(hs.2 b (Nat.ne_of_lt (Nat.lt_of_lt_of_le (Heap.lt_size e) I.ok.above))).trans (I.base.keep b o e n hb hx)
  ·obtain⟨sl,e1⟩:=I.base.slot b o e n hb hx
   exact⟨sl,(hs.2 b (Nat.ne_of_lt (Nat.lt_of_lt_of_le (Heap.lt_size e) I.ok.above))).trans e1⟩
  ·obtain⟨o',e1⟩:=I.base.there b o e hx
   exact⟨o',(hs.2 b (Nat.ne_of_lt (Nat.lt_of_lt_of_le (Heap.lt_size e) I.ok.above))).trans e1⟩
  ·by_cases hj:j=i
   ·subst hj
    rw[hi] at e1;cases e1
    rw[List.getElem?_set_self hiσ] at e2
    cases e2
    exact⟨u,r,.inl ⟨hk,by simp⟩⟩
   ·rw[List.getElem?_set_ne (Ne.symm hj)] at e2
    obtain⟨u',r',q⟩:=hl j y v' e1 e2 e3
    refine⟨u',r',?_⟩
    rcases q with ⟨k,e⟩ | ⟨k,c,e,z⟩
    ·refine .inl ⟨k,?_⟩
     have:y≠x:=fun e=>hj (qQ hN e1 (e▸hi))
     simp[this,e]
    ·exact .inr ⟨k,c,e,z.sameBut hs (BU y c e)⟩
  ·obtain⟨w',z⟩:=I.cell y c e
   exact⟨w',z.sameBut hs (BU y c e)⟩
  ·obtain⟨e,n,ne,nf,d⟩:=I.pin p hp
   exact⟨(hs.2 p.1 ne).trans e,n,ne,nf,d⟩
 ·have hfn:X.fn x=true:=by
   rcases hf with z | z
   ·exact z
   ·rw[z] at hk;cases hk
  obtain⟨c,hc⟩:=I.ok.has x (.inl hk)
  obtain⟨w',z⟩:=I.cell x c hc
  refine wpAny_storeName_cell I.ok.kind hk hc z (fun h' hc' hs=>?_)
  obtain⟨oc,hoc,hocd⟩:=id z
  refine h { s with heap:=h' } ⟨I.ok,I.os,I.bare,⟨fun b o e n hb hx=>?_,fun b o e n hb hx=>?_,I.base.free,fun b o e hx=>?_,I.base.qA,I.base.l9,I.base.pS⟩,⟨m,hn.sameBut hs (Ne.symm (BU x c hc)),fun j y v' e1 e2 e3=>?_⟩,fun y c' e=>?_,I.free,I.f9,fun p hp=>?_,tracked ⟨oc,hoc,I.f9 x c hc⟩ hs,by simpa using I.len⟩ ⟨c,hs,.inr hc⟩
  ·exact(hs.2 b (Nat.ne_of_lt (Nat.lt_of_lt_of_le (Heap.lt_size e) (I.ok.GV x c hfn hc)))).trans (I.base.keep b o e n hb hx)
  ·obtain⟨sl,e1⟩:=I.base.slot b o e n hb hx
   exact⟨sl,(hs.2 b (Nat.ne_of_lt (Nat.lt_of_lt_of_le (Heap.lt_size e) (I.ok.GV x c hfn hc)))).trans e1⟩
  ·obtain⟨o',e1⟩:=I.base.there b o e hx
   exact⟨o',(hs.2 b (Nat.ne_of_lt (Nat.lt_of_lt_of_le (Heap.lt_size e) (I.ok.GV x c hfn hc)))).trans e1⟩
  ·by_cases hj:j=i
   ·subst hj
    rw[hi] at e1;cases e1
    rw[List.getElem?_set_self hiσ] at e2
    cases e2
    exact⟨u,r,.inr ⟨.inl hk,c,hc,hc'⟩⟩
   ·rw[List.getElem?_set_ne (Ne.symm hj)] at e2
    obtain⟨u',r',q⟩:=hl j y v' e1 e2 e3
    refine⟨u',r',?_⟩
    rcases q with q | ⟨k,c',e,z'⟩
    ·exact .inl q
    ·refine .inr ⟨k,c',e,z'.sameBut hs ?_⟩
     rintro rfl
     exact hj (qQ hN e1 (I.ok.inj _ _ _ e hc▸hi))
  ·by_cases hcc:c'=c
   ·subst hcc;exact⟨_,hc'⟩
   ·obtain⟨w2,z2⟩:=I.cell y c' e
    exact⟨w2,z2.sameBut hs hcc⟩
  ·obtain⟨e,n,ne,nf,d⟩:=I.pin p hp
   refine⟨(hs.2 p.1 ?_).trans e,n,ne,nf,d⟩
   intro q
   rw[q,hoc] at e
   have q':oc=p.2:=Option.some.inj e
   exact d w' (by rw[← q'];exact hocd)
theorem kW{M:Model}{A:Around}{E:Value->Shared->Prop}{i:Nat}{x:Str}{v:V}{u:Value}{Q:Unit->Shared->Prop}(I:Inv X pins σ H s)(hN:X.N.Nodup)(hi:X.N[i]?=some x)(hx:Loc X.env.scope x)(r:RelV v u)
  (h:∀ s',Inv X pins (σ.set i (some v)) H s'->Q () s') (hf:X.fn x=true\/X.env.scope.names.lookup x=some .local:=by first | exact .inl rfl | exact .inr rfl | assumption):wpAny M A (storeName X.env x u) Q E s :=
 tW I hN hi hx r (fun s' I' _=>h s' I') hf
theorem Inv.Dp{s':Shared}{ch:List Addr}(I:Inv X pins σ H s)(ho:s'.os=s.os)(u:Un (xJ X.stack) ch H H' s.heap s'.heap)(bo:n6 X.prog X.w H' s'.heap)(hg:AllBare s'.gens)
  (hch:∀ b∈ch,(b∈X.ex\/X.s₀.heap.objs.size<=b)/\b≠X.env.locals/\(∀ x c,X.env.cells.lookup x=some c->c≠b)/\∀ p∈X.pn++pins,p.1≠b):Inv X pins σ H' s':=by
 obtain⟨h',g',d',t',o'⟩:=s'
 have e:o'=s.os:=ho
 subst e
 exact I.call (g':=g') (t':=t') (d':=d') u bo hg hch
end
abbrev XK:=Value->Option Addr->Hp->Prop
abbrev St:=List (Option V)
abbrev VK:=V->Hp->Prop
abbrev TE:=St->Hp->VK->Prop
abbrev TT:=St->Hp->(Bool->Hp->Prop)->Prop
abbrev TA:=St->Hp->(List V->Hp->Prop)->Prop
structure Ends where
 nx:St->Hp->Prop
 rt:VK
 bk:St->Hp->Prop:=fun _ _=>False
 ct:St->Hp->Prop:=fun _ _=>False
abbrev TS:=Ends->St->Hp->Prop
def EP(X:Cx)(pins:List (Addr×Obj))(σ:St)(Q:VK)(u:Value)(s':Shared):Prop:=∃ v H',Inv X pins σ H' s'/\RelV v u/\Q v H'
def TP(X:Cx)(pins:List (Addr×Obj))(σ:St)(Q:Bool->Hp->Prop)(b:Bool)(s':Shared):Prop:=∃ H',Inv X pins σ H' s'/\Q b H'
def AP(X:Cx)(pins:List (Addr×Obj))(σ:St)(Q:List V->Hp->Prop)(us:List Value)(s':Shared):Prop:=∃ vs H',Inv X pins σ H' s'/\Vals vs us/\Q vs H'
def SP(X:Cx)(pins:List (Addr×Obj))(D:Ends)(f:Flow)(s':Shared):Prop :=
 match f with
 | .next=>∃ σ' H',Inv X pins σ' H' s'/\D.nx σ' H'
 | .brk=>∃ σ' H',Inv X pins σ' H' s'/\D.bk σ' H'
 | .cont=>∃ σ' H',Inv X pins σ' H' s'/\D.ct σ' H'
 | .ret u=>∃ v σ' H',Inv X pins σ' H' s'/\RelV v u/\D.rt v H'
def PE(X:Cx)(e:Expr)(t:TE):Prop :=
 ∀ (pins:List (Addr×Obj)) (s:Shared) (σ:St) (H:Hp) (Q:VK),Inv X pins σ H s->t σ H Q->wpAny (model X.prog X.w) X.A (eval e X.env) (EP X pins σ Q) X.xe s
def PT(X:Cx)(e:Expr)(t:TT):Prop :=
 ∀ (pins:List (Addr×Obj)) (s:Shared) (σ:St) (H:Hp) (Q:Bool->Hp->Prop),Inv X pins σ H s->t σ H Q->wpAny (model X.prog X.w) X.A (isTrue e X.env (eval e X.env)) (TP X pins σ Q) X.xe s
def PW(X:Cx)(e:Expr)(t:TT):Prop :=
 ∀ (whole:Sem Value) (pins:List (Addr×Obj)) (s:Shared) (σ:St) (H:Hp) (Q:Bool->Hp->Prop),Inv X pins σ H s->t σ H Q->wpAny (model X.prog X.w) X.A (isTrue e X.env whole) (TP X pins σ Q) X.xe s
theorem PW.pt{X:Cx}{e:Expr}{t:TT}(h:PW X e t):PT X e t:=h _
def PA(X:Cx)(es:List Expr)(t:TA):Prop :=
 ∀ (pos:Pos) (pins:List (Addr×Obj)) (s:Shared) (σ:St) (H:Hp) (Q:List V->Hp->Prop),Inv X pins σ H s->t σ H Q->wpAny (model X.prog X.w) X.A (spliced (backTo pos (starEach es X.env))) (AP X pins σ Q) X.xe s
def PS(X:Cx)(st:Stmt)(t:TS):Prop :=
 ∀ (pins:List (Addr×Obj)) (s:Shared) (σ:St) (H:Hp) (D:Ends),Inv X pins σ H s->t D σ H->wpAny (model X.prog X.w) X.A (exec st X.env) (SP X pins D) X.xe s
def l_(X:Cx)(st:List Stmt)(t:TS):Prop :=
 ∀ (pins:List (Addr×Obj)) (s:Shared) (σ:St) (H:Hp) (D:Ends),Inv X pins σ H s->t D σ H->wpAny (model X.prog X.w) X.A (execs st X.env) (SP X pins D) X.xe s
theorem cB{α:Type}{t:Sem α}{Q Q':α->Shared->Prop}{M:Model}{A:Around}{E:Value->Shared->Prop}{s:Shared}(h:wpAny M A t Q E s)(hQ:∀ a s,Q a s->Q' a s):wpAny M A t Q' E s:=wpAny_mono h hQ fun _ _ x=>x
end L2
namespace L2
open PySem PySem.Spec PyProof.Rows
section
variable{X:Cx}
def Me(i:Nat):TE:=fun σ H Q=>∃ v,σ[i]?=some (some v)/\Q v H
def tC(v:V):TE:=fun _ H Q=>Q v H
theorem nY{i:Nat}{x:Str}{pos:Pos}(hN:X.N[i]?=some x)(hv:Ez X.env.scope x)(hd:(x==("__debug__" : Str))=false:=by decide)(hcd:(x==("__classdict__" : Str))=false:=by decide):PE X (.Name x pos) (Me i):=by
 intro pins s σ H Q I h
 obtain⟨v,e,h⟩:=h
 obtain⟨m,hn,hl⟩:=I.loc
 obtain⟨u,r,l⟩:=hl i x v hN e hv
 have fin:EP X pins σ Q u s:=⟨v,H,I,r,h⟩
 rcases l with ⟨hk,hm⟩ | ⟨hk,c,hc,hcell⟩
 ·exact wpAny_Name (wpAny_loadName_local I.ok.kind hk hn hm fin) hd
 ·rcases hk with hk | hk
  ·exact wpAny_Name (wpAny_loadName_cell I.ok.kind hk hc hcell fin) hd
  ·exact wpAny_Name (wpAny_loadName_free I.ok.kind hk hc hcell fin hcd) hd
theorem J1{i j pos}:PE X (.Constant (.int i) j pos) (tC (.int i)):=fun _ _ _ H _ I h=>wpAny_Constant_int ⟨.int i,H,I.tok _,⟨_,rfl⟩,h⟩
theorem K3{b j pos}:PE X (.Constant (.bool b) j pos) (tC (.bl b)):=fun _ _ _ H _ I h=>Constant_bool ⟨.bl b,H,I,rfl,h⟩
theorem Ij{j pos}:PE X (.Constant .none j pos) (tC .cz):=fun _ _ _ H _ I h=>Constant_none ⟨.cz,H,I,rfl,h⟩
theorem Jo{x j pos}:PE X (.Constant (.str x) j pos) (tC (.str x)):=fun _ _ _ H _ I h=>Calls.Constant_str ⟨.str x,H,I.tok _,⟨_,rfl⟩,h⟩
def Gl(X:Cx)(x:Str):Prop:=X.env.kindOf x=some .globalImplicit
theorem jv{E:Value->Shared->Prop}{pins:List (Addr×Obj)}{s:Shared}{σ:St}{H:Hp}{x:Str}{u:Value}{pos:Pos}{Q:Value->Shared->Prop}(I:Inv X pins σ H s)(hg:Gl X x)(hm:X.mg x=some u)(h:Q u s)
  (hd:(x==("__debug__" : Str))=false:=by decide):wpAny (model X.prog X.w) X.A (eval (.Name x pos) X.env) Q E s :=
 Calls.Name_function_global I.ok.kind hg (Calls.loadGlobal_global (by rw[I.ok.glob];exact I.mod.glob.keeps I.bk) hm h) hd
theorem jN{E:Value->Shared->Prop}{pins:List (Addr×Obj)}{s:Shared}{σ:St}{H:Hp}{x:Str}{u:Value}{pos:Pos}{Q:Value->Shared->Prop}(I:Inv X pins σ H s)(hg:Gl X x)(hm:X.mg x=none)(hv:bootBuiltins x=some u)(h:Q u s)
  (hn:x ≠ "__name__" := by decide) (hd:(x==("__debug__" : Str))=false:=by decide):wpAny (model X.prog X.w) X.A (eval (.Name x pos) X.env) Q E s:=by
 obtain⟨mb,h1,h2⟩:=I.mod.blt
 exact Calls.Name_function_global I.ok.kind hg (Calls.loadGlobal_builtin (by rw[I.ok.glob];exact I.mod.glob.keeps I.bk) hm (by rw[I.ok.blt];exact h1.keeps I.bk) ((h2 x hn).trans hv) h) hd
theorem zZ{x:Str}{v:V}{u:Value}{pos:Pos}(hg:Gl X x)(hm:X.mg x=some u)(r:RelV v u)(hd:(x==("__debug__" : Str))=false:=by decide):PE X (.Name x pos) (tC v) :=
 fun _ _ _ H _ I h=>jv I hg hm ⟨v,H,I,r,h⟩ hd
theorem dD{x:Str}{v:V}{u:Value}{pos:Pos}(hg:Gl X x)(hm:X.mg x=none)(hv:bootBuiltins x=some u)(r:RelV v u)(hn:x ≠ "__name__" := by decide)(hd:(x==("__debug__" : Str))=false:=by decide):PE X (.Name x pos) (tC v) :=
 fun _ _ _ H _ I h=>jN I hg hm hv ⟨v,H,I,r,h⟩ hn hd
variable{a b:Expr}{ta tb:TE}{pos:Pos}
def tB(t:TE):TT:=fun σ H Q=>t σ H fun x H1=>∃ c,x=.bl c/\Q c H1
theorem Jq{e:Expr}{t:TE}(h:PE X e t)(he:∀ whole,isTrue e X.env whole=(do let v ← whole;standAt e.pos;holding [v] (truthy v)):=by intro _;rfl):PT X e (tB t):=by
 intro pins s σ H Q I hw
 refine isTrue_plain (cB (h pins s σ H _ I hw) fun v s1 ⟨x,H1,I1,r1,q1⟩=>?_) (he _)
 obtain⟨d,rfl,q⟩:=q1
 cases r1
 exact wpAny_truthy_bool ⟨H1,I1,q⟩
variable{tA tB':TT}{rest:List Expr}
def Ti(t u:TT):TT:=fun σ H Q=>t σ H fun c H1=>if c=true then Q true H1 else u σ H1 Q
def Mr(t:TT):TT:=fun σ H Q=>t σ H fun c H1=>Q (!c) H1
theorem pw_or1(ha:PT X a tA):PW X (.BoolOp .Or [a] pos) tA:=by
 intro wh pins s σ H Q I h
 refine isTrue_or (cB (ha pins s σ H Q I h) fun c s1 e=>?_)
 cases c with
 | false=>exact isTrue_or_nil e
 | true=>exact e
theorem pw_or(ha:PT X a tA)(hb:PW X (.BoolOp .Or (b::rest) pos) tB'):PW X (.BoolOp .Or (a::b::rest) pos) (Ti tA tB'):=by
 intro wh pins s σ H Q I h
 refine isTrue_or (cB (ha pins s σ H _ I h) fun c s1 ⟨H1,I1,q1⟩=>?_)
 cases c with
 | true=>exact⟨H1,I1,q1⟩
 | false=>exact hb wh pins s1 σ H1 Q I1 q1
theorem Hr(ha:PT X a tA):PT X (.UnaryOp .Not a pos) (Mr tA):=by
 intro pins s σ H Q I h
 exact isTrue_not (ha pins s σ H (fun c H1=>Q (!c) H1) I h)
def LC(ta tb:TE):TE:=fun σ H Q=>ta σ H fun x H1=>∃ c,x=.bl c/\if c=true then tb σ H1 Q else Q (.bl false) H1
def KW(ta:TE):TE:=fun σ H Q=>ta σ H fun x H1=>∃ c,x=.bl c/\Q (.bl (!c)) H1
theorem yk{op}{t:TE}(h:PE X a t):PE X (.BoolOp op [a] pos) t:=fun pins s σ H Q I hw=>BoolOp_one (h pins s σ H Q I hw)
theorem JE(ha:PE X a ta)(hb:PE X (.BoolOp .And (b::rest) pos) tb):PE X (.BoolOp .And (a::b::rest) pos) (LC ta tb):=by
 intro pins s σ H Q I h
 refine BoolOp_and (cB (ha pins s σ H _ I h) fun v s1 ⟨x,H1,I1,r1,q1⟩=>?_)
 obtain⟨c,rfl,q1⟩:=q1
 cases r1
 refine wpAny_truthy_bool ?_
 cases c with
 | true=>exact hb pins s1 σ H1 Q I1 q1
 | false=>exact⟨.bl false,H1,I1,rfl,q1⟩
theorem Ir(ha:PE X a ta):PE X (.UnaryOp .Not a pos) (KW ta):=by
 intro pins s σ H Q I h
 refine UnaryOp_ (cB (ha pins s σ H _ I h) fun v s1 ⟨x,H1,I1,r1,q1⟩=>?_)
 obtain⟨c,rfl,q1⟩:=q1
 cases r1
 exact not_of (wpAny_truthy_bool ⟨.bl (!c),H1,I1,rfl,q1⟩)
def S8(t:TT)(ta tb:TE):TE:=fun σ H Q=>t σ H fun c H1=>if c=true then ta σ H1 Q else tb σ H1 Q
theorem Ec{c:Expr}(hc:PT X c tA)(ha:PE X a ta)(hb:PE X b tb):PE X (.IfExp c a b pos) (S8 tA ta tb):=by
 intro pins s σ H Q I h
 refine wpAny_IfExp (cB (hc pins s σ H _ I h) fun d s1 ⟨H1,I1,q1⟩=>?_)
 cases d with
 | true=>exact ha pins s1 σ H1 Q I1 q1
 | false=>exact hb pins s1 σ H1 Q I1 q1
end
end L2
namespace L2
open PySem PySem.Spec PyProof.Rows
def i4(K:PySem.W.Frag)(H:Hp)(a:Addr)(xs:List V):Prop :=
 Rd H a (.lst xs) ∨
  ∃ (o:Obj) (its:Array Value) (n:Nat),K.lookup a=some o/\o.cls=.type "list" /\ o.dict=none/\o.data=.seq its n/\its.size<=sizeLine/\Vals xs its.toList
def gU(K:PySem.W.Frag)(H:Hp)(a:Addr)(xs:List V):Prop :=
 Rd H a (.tup xs) ∨
  ∃ (o:Obj) (its:Array Value) (n:Nat),K.lookup a=some o/\o.cls=.type "tuple" /\ o.data=.seq its n/\its.size<=sizeLine/\Vals xs its.toList
def O5:Value->Option V
 | .none=>some .cz
 | .bool b=>some (.bl b)
 | .int i _=>some (.int i)
 | .str x _=>some (.str x)
 | .bytes b _=>some (.byt b)
 | .float b _=>some (.Hj b)
 | .ref a=>some (.ref a)
 | .type n=>some (.ty n)
 | _=>none
theorem RelV.abs{x:V}{u:Value}(r:RelV x u):O5 u=some x:=by
 cases x with
 | cz=>cases r;rfl
 | bl _=>cases r;rfl
 | int _=>obtain⟨t,rfl⟩:=r;rfl
 | str _=>obtain⟨t,rfl⟩:=r;rfl
 | byt _=>obtain⟨t,rfl⟩:=r;rfl
 | Hj _=>obtain⟨t,rfl⟩:=r;rfl
 | ref _=>cases r;rfl
 | ty _=>cases r;rfl
theorem RelV.inj{x y:V}{u:Value}(r:RelV x u)(q:RelV y u):x=y:=Option.some.inj (r.abs.symm.trans q.abs)
theorem Vals.inj:∀ {xs ys:List V} {us:List Value},Vals xs us->Vals ys us->xs=ys
 | _,_,_,.nil,.nil=>rfl
 | _,_,_,.cons r t,.cons r' t'=>by rw[r.inj r',Vals.inj t t']
section
variable{X:Cx}{pins:List (Addr×Obj)}{σ:St}{H:Hp}{s:Shared}{a:Addr}{xs ys:List V}
theorem i4.of{K:PySem.W.Frag}(h:H a=some (.lst xs)):i4 K H a xs:=.inl (.inl h)
theorem gU.of{K:PySem.W.Frag}(h:H a=some (.tup xs)):gU K H a xs:=.inl (.inl h)
theorem Inv.list(I:Inv X pins σ H s)(h:i4 X.K H a xs):∃ its:List Value,Vals xs its/\PlainL s.heap a its.toArray/\xs.length<=sizeLine:=by
 rcases h with h | ⟨o,its,n,hk,hc,hd,hs,hz,r⟩
 ·obtain⟨z,its,n,r,e⟩:=h.ok I.bo
  exact⟨its,r,⟨_,n,e,rfl,rfl,rfl⟩,z⟩
 ·refine⟨its.toList,r,⟨o,n,I.j7 a o hk,hc,hd,by simpa using hs⟩,?_⟩
  have e:=r.length
  simp only[Array.length_toList] at e
  omega
theorem Inv.tuple(I:Inv X pins σ H s)(h:gU X.K H a xs):∃ its:List Value,Vals xs its/\IsTup s.heap a its.toArray/\xs.length<=sizeLine:=by
 rcases h with h | ⟨o,its,n,hk,hc,hs,hz,r⟩
 ·obtain⟨z,its,r,p⟩:=h.ok I.bo
  exact⟨its,r,p,z⟩
 ·refine⟨its.toList,r,⟨o,I.j7 a o hk,hc,n,by simpa using hs⟩,?_⟩
  have e:=r.length
  simp only[Array.length_toList] at e
  omega
theorem Inv.qJ(I:Inv X pins σ H s)(h:i4 X.K H a xs)(h':i4 X.K H a ys):xs=ys:=by
 obtain⟨its,r,⟨o,n,e,_,_,d⟩,_⟩:=I.list h
 obtain⟨its',r',⟨o',n',e',_,_,d'⟩,_⟩:=I.list h'
 rw[e] at e';cases e'
 rw[d] at d'
 injection d' with d1 _
 have:its=its':=by simpa using congrArg Array.toList d1
 subst this
 exact r.inj r'
theorem Inv.nO(I:Inv X pins σ H s)(h:gU X.K H a xs)(h':gU X.K H a ys):xs=ys:=by
 obtain⟨its,r,⟨o,e,_,n,d⟩,_⟩:=I.tuple h
 obtain⟨its',r',⟨o',e',_,n',d'⟩,_⟩:=I.tuple h'
 rw[e] at e';cases e'
 rw[d] at d'
 injection d' with d1 _
 have:its=its':=by simpa using congrArg Array.toList d1
 subst this
 exact r.inj r'
end
abbrev Cx.pV(X:Cx)(E:Value->Shared->Prop):Cx:={ X with xe:=E }
theorem Cx.Ok.pV{X:Cx}(ok:X.Ok)(E:Value->Shared->Prop):(X.pV E).Ok :=
 ⟨ok.mod,ok.kind,ok.glob,ok.blt,ok.above,ok.inj,ok.has,ok.GV,ok.hd,ok.frames,ok.Hu,ok.Kd,ok.bs,ok.BO,ok.vD,ok.wW,ok.mh,ok.EC⟩
theorem Cx.Ok.eH{X:Cx}{E:Value->Shared->Prop}(ok:(X.pV E).Ok):X.Ok :=
 ⟨ok.mod,ok.kind,ok.glob,ok.blt,ok.above,ok.inj,ok.has,ok.GV,ok.hd,ok.frames,ok.Hu,ok.Kd,ok.bs,ok.BO,ok.vD,ok.wW,ok.mh,ok.EC⟩
section
variable{X:Cx}{pins:List (Addr×Obj)}{σ:St}{H:Hp}{s:Shared}{E:Value->Shared->Prop}
theorem Inv.pV(I:Inv X pins σ H s)(E:Value->Shared->Prop):Inv (X.pV E) pins σ H s:=⟨I.ok.pV E,I.os,I.bare,I.base,I.loc,I.cell,I.free,I.f9,I.pin,I.bo,I.len⟩
theorem Inv.eH(I:Inv (X.pV E) pins σ H s):Inv X pins σ H s:=⟨I.ok.eH,I.os,I.bare,I.base,I.loc,I.cell,I.free,I.f9,I.pin,I.bo,I.len⟩
theorem SP.eH{D:Ends}{f:Flow}{s':Shared}(h:SP (X.pV E) pins D f s'):SP X pins D f s':=by
 cases f with
 | next=>obtain⟨σ',H',I,q⟩:=h;exact⟨σ',H',I.eH,q⟩
 | brk=>obtain⟨σ',H',I,q⟩:=h;exact⟨σ',H',I.eH,q⟩
 | cont=>obtain⟨σ',H',I,q⟩:=h;exact⟨σ',H',I.eH,q⟩
 | ret u=>obtain⟨v,σ',H',I,r,q⟩:=h;exact⟨v,σ',H',I.eH,r,q⟩
end
section
variable{X:Cx}{st:Stmt}{rest:List Stmt}{t u:TS}{e:Expr}{te:TE}{pos:Pos}
def Lr:TS:=fun D σ H=>D.nx σ H
def RH(t u:TS):TS:=fun D σ H=>t { D with nx:=u D } σ H
theorem zM:l_ X [] Lr:=fun _ _ σ H _ I h=>wpAny_execs_nil ⟨σ,H,I,h⟩
theorem wX(h1:PS X st t)(h2:l_ X rest u):l_ X (st::rest) (RH t u):=by
 intro pins s σ H D I h
 refine wpAny_execs_cons (cB (h1 pins s σ H { D with nx:=u D } I h) fun f s1 q=>?_)
 cases f with
 | next =>
  obtain⟨σ',H',I',q⟩:=q
  exact h2 pins s1 σ' H' D I' q
 | ret v=>exact q
 | brk=>exact q
 | cont=>exact q
theorem FW(h1:PS X st t):l_ X [st] t:=by
 intro pins s σ H D I h
 refine wpAny_execs_cons (cB (h1 pins s σ H D I h) fun f s1 q=>?_)
 cases f with
 | next=>exact wpAny_execs_nil q
 | ret v=>exact q
 | brk=>exact q
 | cont=>exact q
theorem Inv.quiet{pins:List (Addr×Obj)}{σ:St}{H:Hp}{s:Shared}(I:Inv X pins σ H s):interactive X.env=false:=by simp[interactive,I.ok.kind]
def LH(te:TE):TS:=fun D σ H=>te σ H fun _ H1=>D.nx σ H1
theorem ur(he:PE X e te)(hs:swapsWith e none pos.line X.env=pure false:=by rfl):PS X (.Expr e pos) (LH te):=by
 intro pins s σ H D I h
 exact wpAny_Expr_any (cB (he pins s σ H _ I h) fun v s1 ⟨x,H1,I1,r1,q1⟩=>⟨σ,H1,I1,q1⟩) I.quiet hs
def Pz(te:TE):TS:=fun D σ H=>te σ H D.rt
theorem HI(he:PE X e te):PS X (.Return (some e) pos) (Pz te):=by
 intro pins s σ H D I h
 exact wpAny_Return_some (cB (he pins s σ H _ I h) fun v s1 ⟨x,H1,I1,r1,q1⟩=>⟨x,σ,H1,I1,r1,q1⟩)
def Qq(c:TT)(t u:TS):TS:=fun D σ H=>c σ H fun b H1=>if b=true then t D σ H1 else u D σ H1
theorem Ke{c:Expr}{a b:List Stmt}{tc:TT}(hc:PT X c tc)(ha:l_ X a t)(hb:l_ X b u):PS X (.If c a b pos) (Qq tc t u):=by
 intro pins s σ H D I h
 refine wpAny_If (cB (hc pins s σ H _ I h) fun d s1 ⟨H1,I1,q1⟩=>?_)
 cases d with
 | true=>exact ha pins s1 σ H1 D I1 q1
 | false=>exact hb pins s1 σ H1 D I1 q1
end
abbrev TG:=V->St->Hp->(St->Hp->Prop)->Prop
abbrev IF:=List V->St->Hp->(St->Hp->Prop)->Prop
def PG(X:Cx)(target:Expr)(t:TG):Prop :=
 ∀ (pins:List (Addr×Obj)) (s:Shared) (σ:St) (H:Hp) (v:V) (u:Value) (Q:St->Hp->Prop),Inv X pins σ H s->RelV v u->t v σ H Q ->
  wpAny (model X.prog X.w) X.A (assign target X.env u) (fun _ s'=>∃ σ' H',Inv X pins σ' H' s'/\Q σ' H') X.xe s
def LX(X:Cx)(ts:List Expr)(t:IF):Prop :=
 ∀ (pins:List (Addr×Obj)) (s:Shared) (σ:St) (H:Hp) (vs:List V) (us:List Value) (Q:St->Hp->Prop),Inv X pins σ H s->Vals vs us->t vs σ H Q ->
  wpAny (model X.prog X.w) X.A (assignInOrder ((assignEach ts X.env).map (·.2)) us) (fun _ s'=>∃ σ' H',Inv X pins σ' H' s'/\Q σ' H') X.xe s
abbrev JG:=V->V->V->Hp->(Hp->Prop)->Prop
def K4(X:Cx)(t:JG):Prop :=
 ∀ (pins:List (Addr×Obj)) (s:Shared) (σ:St) (H:Hp) (o i v:V) (ov iv u:Value) (Q:Hp->Prop),Inv X pins σ H s->RelV o ov->RelV i iv->RelV v u->t o i v H Q ->
  wpAny (model X.prog X.w) X.A (setItem ov iv u) (fun _ s'=>∃ H',Inv X pins σ H' s'/\Q H') X.xe s
section
variable{X:Cx}{pos:Pos}
def aG(i:Nat):TG:=fun v σ H Q=>Q (σ.set i (some v)) H
theorem Fs{i:Nat}{x:Str}(hN:X.N.Nodup)(hi:X.N[i]?=some x)(hx:Loc X.env.scope x)(hf:X.fn x=true\/X.env.scope.names.lookup x=some .local:=by first | exact .inl rfl | exact .inr rfl | assumption):PG X (.Name x pos) (aG i):=by
 intro pins s σ H v u Q I r h
 exact wpAny_assign_Name (kW I hN hi hx r (fun s' I'=>⟨_,H,I',h⟩) hf)
def hZ:IF:=fun vs σ H Q=>vs=[]/\Q σ H
def aY(t:TG)(u:IF):IF:=fun vs σ H Q=>∃ v r,vs=v::r/\t v σ H fun σ' H'=>u r σ' H' Q
theorem bL:LX X [] hZ:=by
 intro pins s σ H vs us Q I r h
 obtain⟨e,h⟩:=h
 subst e
 cases r
 exact assignInOrder_nil ⟨σ,H,I,h⟩
theorem aD{e:Expr}{es:List Expr}{t:TG}{u:IF}(h1:PG X e t)(h2:LX X es u)
  (hs:(assignEach (e::es) X.env).map (·.2)=assign e X.env::(assignEach es X.env).map (·.2):=by rfl):LX X (e::es) (aY t u):=by
 intro pins s σ H vs us Q I r h
 obtain⟨v,vr,e1,h⟩:=h
 subst e1
 cases r with
 | cons r rr =>
  rw[hs]
  refine assignInOrder_cons (cB (h1 pins s σ H _ _ _ I r h) fun _ s1 ⟨σ1,H1,I1,q1⟩=>?_)
  exact h2 pins s1 σ1 H1 _ _ Q I1 rr q1
def h9(K:PySem.W.Frag)(n:Nat)(t:IF):TG:=fun v σ H Q=>∃ a xs,v=.ref a/\gU K H a xs/\xs.length=n/\t xs σ H Q
theorem cL{es:List Expr}{k:Nat}{t:IF}{n:Nat}(hc:X.calm=true)(h:LX X es t)
  (hn:(assignEach es X.env).length=n:=by rfl) (hst:(assignEach es X.env).findIdx? (·.1)=none:=by rfl):PG X (.Tuple es k pos) (h9 X.K n t):=by
 intro pins s σ H v u Q I r hw
 obtain⟨a,xs,e1,hq,hl,hw⟩:=hw
 subst e1
 cases r
 obtain⟨its,rv,ht,hz⟩:=I.tuple hq
 refine assign_Tuple_tuple (I.ok.hd hc) ht (by simp[hn,← hl,rv.length]) hst fun h' hx=>?_
 have I1:Inv X pins σ H { s with heap:=h' }:=I.kept (t':=s.toks) fun b o e=>hx b o (Nat.ne_of_lt (Heap.lt_size e)) e
 exact h pins _ σ H xs _ Q I1 (by simpa using rv) hw
def Nm(to ti:TE)(t:JG):TG:=fun v σ H Q=>to σ H fun o H1=>ti σ H1 fun i H2=>t o i v H2 fun H3=>Q σ H3
theorem Ju{o i:Expr}{to ti:TE}{t:JG}(ho:PE X o to)(hi:PE X i ti)(hs:K4 X t)
  (ha:∀ v,assign (.Subscript o i pos) X.env v=(do
   let ov ← holding [v] (eval o X.env)
   let iv ← holding [v,ov] (eval i X.env)
   standAt pos
   holding [v,ov,iv] (setItem ov iv v)
   release [v,ov,iv] []):=by intro _;rfl):PG X (.Subscript o i pos) (Nm to ti t):=by
 intro pins s σ H v u Q I r h
 rw[ha]
 refine wpAny_bind (wpAny_holding (cB (ho pins s σ H _ I h) fun ov s1 ⟨x,H1,I1,r1,q1⟩=>?_))
 refine wpAny_bind (wpAny_holding (cB (hi pins s1 σ H1 _ I1 q1) fun iv s2 ⟨y,H2,I2,r2,q2⟩=>?_))
 refine wpAny_bind (wpAny_standAt (wpAny_bind (wpAny_holding (cB (hs pins s2 σ H2 x y v ov iv u _ I2 r1 r2 r q2) fun _ s3 ⟨H3,I3,q3⟩=>?_))))
 exact wpAny_release ⟨σ,H3,I3,q3⟩
def IP(te:TE)(g:TG):TS:=fun D σ H=>te σ H fun x H1=>g x σ H1 D.nx
theorem JK{tg e:Expr}{te:TE}{g:TG}(he:PE X e te)(hg:PG X tg g)(hs:swapsWithSole [tg] e pos.line X.env=pure false:=by rfl)(hw:swappedStores [tg] e X.env=pure none:=by rfl)
  (h1:(assignEach [tg] X.env).map (·.2)=[assign tg X.env]:=by rfl):PS X (.Assign [tg] e pos) (IP te g):=by
 intro pins s σ H D I h
 refine wpAny_Assign_stores (cB (he pins s σ H _ I h) fun v s1 ⟨x,H1,I1,r1,q1⟩=>?_) hs hw
 rw[h1]
 exact cB (hg pins s1 σ H1 x v _ I1 r1 q1) fun _ s2 q=>q
theorem Co{i:Nat}{x:Str}{e:Expr}{te:TE}{pos':Pos}(hN:X.N.Nodup)(hi:X.N[i]?=some x)(hx:Loc X.env.scope x)(he:PE X e te)(hs:swapsWith e (some (.Name x pos')) pos.line X.env=pure false:=by rfl)(hf:X.fn x=true\/X.env.scope.names.lookup x=some .local:=by first | exact .inl rfl | exact .inr rfl | assumption) :
  PS X (.Assign [.Name x pos'] e pos) (IP te (aG i)):=by
 intro pins s σ H D I h
 refine wpAny_Assign_Name (cB (he pins s σ H _ I h) fun v s1 ⟨y,H1,I1,r1,q1⟩=>?_) hs
 exact kW I1 hN hi hx r1 (fun s2 I2=>⟨_,H1,I2,q1⟩) hf
def NT(i j:Nat)(ta:TA):TS:=fun D σ H=>ta σ H fun vs H1=>∃ v w,vs=[v,w]/\D.nx ((σ.set i (some v)).set j (some w)) H1
theorem JS{i j:Nat}{x y:Str}{a b:Expr}{ta:TA}{px py pt:Pos}{kt k2 pt2}(hc:X.calm=true)(hN:X.N.Nodup)(hi:X.N[i]?=some x)(hj:X.N[j]?=some y)(hij:i≠j)
  (hx:X.env.scope.names.lookup x=some .local) (hy:X.env.scope.names.lookup y=some .local) (ha:PA X [a,b] ta)
  (hw:swappedStores [.Tuple [.Name x px,.Name y py] kt pt] (.Tuple [a,b] k2 pt2) X.env=pure (some [x,y]))
  (hs:swapsWithSole [.Tuple [.Name x px,.Name y py] kt pt] (.Tuple [a,b] k2 pt2) pos.line X.env=pure false:=by rfl) :
  PS X (.Assign [.Tuple [.Name x px,.Name y py] kt pt] (.Tuple [a,b] k2 pt2) pos) (NT i j ta):=by
 intro pins s σ H D I h
 rw[exec_Assign_arm]
 refine wpAny_bind (wpAny_standAt ?_)
 rw[hs]
 refine wpAny_bind (wpAny_pure ?_)
 rw[if_neg (by decide)]
 refine wpAny_bind (Tuple_ (cB (ha _ pins s σ H _ I h) fun us s1 ⟨vs,H1,I1,r1,q1⟩=>?_))
 obtain⟨v,w,e1,q1⟩:=q1
 subst e1
 obtain⟨u1,u2,rfl,rv,rw'⟩:∃ u1 u2,us=[u1,u2]/\RelV v u1/\RelV w u2:=by
  cases r1 with
  | cons p q =>
   cases q with
   | cons p' q' =>
    cases q'
    exact⟨_,_,rfl,p,p'⟩
 refine wpAny_newObj_type ?_ (by show 2<=sizeLine;decide)
 have I2:Inv X pins σ H1 { s1 with heap:=s1.heap.push { cls:=.type "tuple", data:=.seq [u1,u2].toArray } }:=I1.kept (t':=s1.toks) fun b o e=>Heap.get?_push_of_some _ e
 rw[hw]
 refine wpAny_bind (wpAny_pure ?_)
 show wpAny (model X.prog X.w) X.A (do rule "assign.swapped-stores";let items ← unpackItems (.ref s1.heap.objs.size) 2 none;assignInOrder [fun v=>bindName X.env y v,fun v=>bindName X.env x v] items.reverse;pure Flow.next) _ _ _
 refine wpAny_bind (wpAny_rule (wpAny_bind (unpackItems_tuple (items:=#[u1,u2]) (I.ok.hd hc) (IsTup.new s1.heap _) fun h' hx'=>?_)))
 have I3:=I2.kept (h':=h') (t':=s1.toks) fun b o e=>hx' b o (Nat.ne_of_lt (Heap.lt_size e)) e
 show wpAny _ _ (assignInOrder [fun v=>bindName X.env y v,fun v=>bindName X.env x v] [u2,u1] >>= fun _=>pure Flow.next) _ _ _
 refine wpAny_bind (assignInOrder_cons (wpAny_bindName (kW I3 hN hj (.inl hy) rw' (fun s2 I4=>?_) (.inr hy))))
 refine assignInOrder_cons (wpAny_bindName (kW I4 hN hi (.inl hx) rv (fun s3 I5=>assignInOrder_nil (wpAny_pure ?_)) (.inr hx)))
 rw[List.set_comm _ _ (Ne.symm hij)] at I5
 exact⟨_,H1,I5,q1⟩
end
section
variable{X:Cx}{pos:Pos}
def Il(c:TT)(tb:TS):TS:=fun D σ H=>∃ W:Nat->St->Hp->Prop,(∃ m,W m σ H)/\∀ m σ H,W m σ H ->
 c σ H fun b H1=>if b=true then ∃ N:St->Hp->Prop,(∀ σ' H',N σ' H'->∃ m',m'<m/\W m' σ' H')/\tb { D with nx:=N,ct:=N,bk:=D.nx } σ H1 else D.nx σ H1
theorem DJ{c:Expr}{body:List Stmt}{tc:TT}{tb:TS}(hp:PassesOwn (model X.prog X.w) X.A X.env X.xe)(hc:PT X c tc)(hb:l_ X body tb):PS X (.While c body [] pos) (Il tc tb):=by
 intro pins s σ H D I h
 obtain⟨W,⟨m0,w0⟩,turn⟩:=h
 refine wpAny_While (codeAny_whileLoop (fun n s'=>∃ σ' H',Inv X pins σ' H' s'/\W n σ' H') ?_ m0 ⟨σ,H,I,w0⟩)
 rintro n s1 ⟨σ1,H1,I1,w1⟩
 refine wpAny_passesOwn hp (cB (hc pins s1 σ1 H1 _ I1 (turn n σ1 H1 w1)) fun b s2 ⟨H2,I2,q2⟩=>?_)
 cases b with
 | true =>
  obtain⟨N,hN,q2⟩:=q2
  rw[if_pos rfl]
  refine wpAny_passesOwn hp (cB (hb pins s2 σ1 H2 _ I2 q2) fun f s3 q3=>?_)
  cases f with
  | next =>
   obtain⟨σ3,H3,I3,n3⟩:=q3
   obtain⟨m',hm,w3⟩:=hN σ3 H3 n3
   exact⟨m',hm,σ3,H3,I3,w3⟩
  | cont =>
   obtain⟨σ3,H3,I3,n3⟩:=q3
   obtain⟨m',hm,w3⟩:=hN σ3 H3 n3
   exact⟨m',hm,σ3,H3,I3,w3⟩
  | brk=>exact q3
  | ret v=>exact q3
 | false =>
  rw[if_neg Bool.false_ne_true]
  exact wpAny_execs_nil ⟨σ1,H2,I2,q2⟩
end
structure It where
 go:Nat->Hp->Prop
 xM:Nat->Hp->V->Hp->Prop
 stop:Nat->Hp->Prop
def m_(X:Cx)(pins:List (Addr×Obj))(H:Hp)(b:Addr):Prop :=
 H b=none/\b≠X.env.locals/\b ∉ X.fs/\(b∈X.ex\/X.s₀.heap.objs.size<=b)/\(∀ x c,X.env.cells.lookup x=some c->c≠b)/\∀ p∈X.pn++pins,p.1≠b
theorem Inv.uP{X:Cx}{pins:List (Addr×Obj)}{σ:St}{H H':Hp}{s:Shared}{b:Addr}(I:Inv X pins σ H s)(hb:s.heap.objs.size<=b)(hn:H' b=none):m_ X pins H' b:=by
 refine⟨hn,Nat.ne_of_gt (Nat.lt_of_lt_of_le I.lt hb),I.Ni hb,.inr (Nat.le_trans I.sz hb),fun x c e z=>?_,fun p hp z=>?_⟩
 ·obtain⟨v,q⟩:=I.cell x c e
  exact absurd (Nat.lt_of_lt_of_le q.lt (by rw[z];exact hb)) (Nat.lt_irrefl _)
 ·exact absurd (Nat.lt_of_lt_of_le (Heap.lt_size (I.pin p hp).1) (by rw[z];exact hb)) (Nat.lt_irrefl _)
structure Turn (P:Program) (w:World) (K:PySem.W.Frag) (tg:Expr) (J:It) (fp:List Addr) (it:Addr) (tn:Nat->Heap->Prop):Prop where
 mem:it∈fp
 obj:∀ i h,tn i h->∀ b∈fp,∃ o,h.get? b=some o/\∀ v,o.data≠.cell v
 keep:∀ i h h',tn i h->(∀ b∈fp,∀ o,h.get? b=some o->h'.get? b=some o)->tn i h'
 item:∀ (X:Cx),X.prog=P->X.w=w->X.K=K->X.calm=true->∀ (i:Nat) (pins:List (Addr×Obj)) (s:Shared) (σ:St) (H:Hp) (E:Value->Shared->Prop),Inv X pins σ H s->(∀ b∈fp,m_ X pins H b)->tn i s.heap->J.go i H ->
  wpAny (model P w) X.A (pyNext (.ref it)) (fun r s1=>∃ u,r=some u ∧
   wpAny (model P w) X.A (letOwnedTupleGo tg (.ref it) u) (fun _ s2=>∃ x H',Inv X pins σ H' s2/\RelV x u/\J.xM i H x H'/\tn (i+1) s2.heap/\∀ b∈fp,H' b=none) E s1) E s
 done:∀ (X:Cx),X.prog=P->X.w=w->X.K=K->X.calm=true->∀ (i:Nat) (pins:List (Addr×Obj)) (s:Shared) (σ:St) (H:Hp) (E:Value->Shared->Prop),Inv X pins σ H s->(∀ b∈fp,m_ X pins H b)->tn i s.heap->J.stop i H ->
  wpAny (model P w) X.A (pyNext (.ref it)) (fun r s1=>r=none/\Inv X pins σ H s1) E s
 self:∀ (A:Around) (i:Nat) (s:Shared) (Q:Value->Shared->Prop) (E:Value->Shared->Prop),tn i s.heap->Q (.ref it) s->wpAny (model P w) A (pyIter (.ref it)) Q E s
abbrev TI:=St->Hp->(It->Hp->Prop)->Prop
def MD(X:Cx)(pins:List (Addr×Obj))(σ:St)(tg:Expr)(R:It->Hp->Prop)(itv:Value)(s2:Shared):Prop :=
 ∃ (it:Addr) (fp:List Addr) (tn:Nat->Heap->Prop) (J:It) (H':Hp),itv=.ref it/\Inv X pins σ H' s2/\Turn X.prog X.w X.K tg J fp it tn/\tn 0 s2.heap/\(∀ b∈fp,m_ X pins H' b)/\R J H'
def PI(X:Cx)(tg iter:Expr)(wi:TI):Prop :=
 ∀ (pins:List (Addr×Obj)) (s:Shared) (σ:St) (H:Hp) (R:It->Hp->Prop),Inv X pins σ H s->wi σ H R ->
  wpAny (model X.prog X.w) X.A (eval iter X.env) (fun v s1=>wpAny (model X.prog X.w) X.A (pyIter v) (MD X pins σ tg R) X.xe s1) X.xe s
theorem zH {M : Model} {A : Around} {E : Value -> Shared -> Prop} {s : Shared} {tg : Expr} {it : Addr} {u : Value} {o : Obj} {n : String} {vs : Array Value} {Q : Unit -> Shared -> Prop} (ho : s.heap.get? it = some o) (hc : o.cls = .type n) (hd : o.data = .fields vs)
    (hn : ["enumerate", "zip", "dict_itemiterator", "dict_reverseitemiterator", "odict_iterator", "itertools.zip_longest", "itertools.pairwise"].contains n = false) (hQ : Q () s) : wpAny M A (letOwnedTupleGo tg (.ref it) u) Q E s := by
  unfold letOwnedTupleGo
  cases tg <;> first
    | exact wpAny_pure hQ
    | (cases u <;> first
        | exact wpAny_pure hQ
        | (refine wpAny_bind (wpAny_load ho ?_)
           rw [hc, hd]
           show wpAny M A (if (["enumerate", "zip", "dict_itemiterator", "dict_reverseitemiterator", "odict_iterator", "itertools.zip_longest", "itertools.pairwise"].contains n && vs[0]? == some (rawInt _)) = true then _ else _) Q E s
           rw [if_neg (by intro h; rw [hn, Bool.false_and] at h; cases h)]
           exact wpAny_pure hQ))
def SE(K:PySem.W.Frag)(a:Addr):It :=
 ⟨fun i H=>∃ xs x,i4 K H a xs/\xs[i]?=some x,fun i H x H'=>H'=H/\∀ xs,i4 K H a xs->xs[i]?=some x,fun i H=>∃ xs,i4 K H a xs/\xs.length<=i⟩
def SK(K:PySem.W.Frag)(a:Addr):It :=
 ⟨fun i H=>∃ xs x,gU K H a xs/\xs[i]?=some x,fun i H x H'=>H'=H/\∀ xs,gU K H a xs->xs[i]?=some x,fun i H=>∃ xs,gU K H a xs/\xs.length<=i⟩
def KY(lo:Int)(n:Nat):It:=⟨fun i _=>i<n,fun i H x H'=>H'=H/\x=.int (lo+i),fun i _=>n<=i⟩
theorem A3{P:Program}{w:World}{K:PySem.W.Frag}{tg:Expr}(a it:Addr):Turn P w K tg (SE K a) [it] it (fun i h=>h.IsListIter it a i) where
 mem:=by simp
 obj:=fun i h st b hb=>by
  have e:b=it:=by simpa using hb
  subst e
  obtain⟨o,e,c,d⟩:=st
  exact⟨o,e,fun v z=>by rw[d] at z;cases z⟩
 keep:=fun i h h' st k=>st.at fun o e=>k it (by simp) o e
 item:=by
  intro X hP hw hK hc i pins s σ H E I hf st hg
  subst hP hw hK
  obtain⟨xs,x,hq,hx⟩:=hg
  obtain⟨its,rv,p,hz⟩:=I.list hq
  obtain⟨u,hu,ru⟩:=rv.get hx
  obtain⟨f0,f1,f2,f3,f4,f5⟩:=hf it (by simp)
  refine wpAny_pyNext_list_item st p.isList (x:=u) (by simpa using hu) fun h' st' sb=>?_
  have I1:Inv X pins σ H { s with heap:=h' }:=I.turned (t':=s.toks) (fun b o hb e=>(sb.2 b hb).trans e) f0 f1 f3 f4 f5
  obtain⟨o,e,c,d⟩:=id st'
  exact⟨u,rfl,zH (s:={ s with heap:=h' }) e c d (by decide) ⟨x,H,I1,ru,⟨rfl,fun ys hy=>by rw[I.qJ hy hq];exact hx⟩,st',fun b hb=>(hf b hb).1⟩⟩
 done:=by
  intro X hP hw hK hc i pins s σ H E I hf st hg
  subst hP hw hK
  obtain⟨xs,hq,hx⟩:=hg
  obtain⟨its,rv,p,hz⟩:=I.list hq
  obtain⟨f0,f1,f2,f3,f4,f5⟩:=hf it (by simp)
  have hl:=rv.length
  exact wpAny_pyNext_list_end (I.ok.hd hc) st p.isList (by simp;omega) fun h' eb=>⟨rfl,I.turned (t':=s.toks) (fun b o hb e=>eb b o hb e) f0 f1 f3 f4 f5⟩
 self:=fun _ _ _ _ _ st h=>wpAny_pyIter_listiter st h
theorem xV{P:Program}{w:World}{K:PySem.W.Frag}{tg:Expr}(a it:Addr):Turn P w K tg (SK K a) [it] it (fun i h=>h.IsTupleIter it a i) where
 mem:=by simp
 obj:=fun i h st b hb=>by
  have e:b=it:=by simpa using hb
  subst e
  obtain⟨o,e,c,d⟩:=st
  exact⟨o,e,fun v z=>by rw[d] at z;cases z⟩
 keep:=fun i h h' st k=>st.at fun o e=>k it (by simp) o e
 item:=by
  intro X hP hw hK hc i pins s σ H E I hf st hg
  subst hP hw hK
  obtain⟨xs,x,hq,hx⟩:=hg
  obtain⟨its,rv,p,hz⟩:=I.tuple hq
  obtain⟨u,hu,ru⟩:=rv.get hx
  obtain⟨f0,f1,f2,f3,f4,f5⟩:=hf it (by simp)
  refine wpAny_pyNext_tuple_item st (show s.heap.IsTuple a its.toArray from p) (x:=u) (by simpa using hu) fun h' st' sb=>?_
  have I1:Inv X pins σ H { s with heap:=h' }:=I.turned (t':=s.toks) (fun b o hb e=>(sb.2 b hb).trans e) f0 f1 f3 f4 f5
  obtain⟨o,e,c,d⟩:=id st'
  exact⟨u,rfl,zH (s:={ s with heap:=h' }) e c d (by decide) ⟨x,H,I1,ru,⟨rfl,fun ys hy=>by rw[I.nO hy hq];exact hx⟩,st',fun b hb=>(hf b hb).1⟩⟩
 done:=by
  intro X hP hw hK hc i pins s σ H E I hf st hg
  subst hP hw hK
  obtain⟨xs,hq,hx⟩:=hg
  obtain⟨its,rv,p,hz⟩:=I.tuple hq
  obtain⟨f0,f1,f2,f3,f4,f5⟩:=hf it (by simp)
  have hl:=rv.length
  exact wpAny_pyNext_tuple_end (I.ok.hd hc) st (show s.heap.IsTuple a its.toArray from p) (by simp;omega) fun h' eb=>⟨rfl,I.turned (t':=s.toks) (fun b o hb e=>eb b o hb e) f0 f1 f3 f4 f5⟩
 self:=fun _ _ _ _ _ st h=>wpAny_pyIter_tupleiter st h
theorem yQ{P:Program}{w:World}{K:PySem.W.Frag}{tg:Expr}(it:Addr)(lo:Int)(n:Nat):Turn P w K tg (KY lo n) [it] it (fun i h=>IsRangeIter h it (lo+(i:Nat)*1) ((n:Int)-(i:Nat)) 1) where
 mem:=by simp
 obj:=fun i h st b hb=>by
  have e:b=it:=by simpa using hb
  subst e
  exact⟨_,st,fun v z=>by
   have z':Data.fields _=Data.cell v:=z
   cases z'⟩
 keep:=fun i h h' st k=>k it (by simp) _ st
 item:=by
  intro X hP hw hK hc i pins s σ H E I hf st hg
  subst hP hw hK
  obtain⟨f0,f1,f2,f3,f4,f5⟩:=hf it (by simp)
  have W:=Walks.range (prog:=X.prog) (w:=X.w) (I.ok.hd hc) it lo 1 n
  refine W.item i s _ _ hg st fun v h' tk hv st' kk=>?_
  obtain⟨t,rfl⟩:=hv
  have I1:Inv X pins σ H { s with heap:=h',toks:=tk }:=I.turned (fun b o hb e=>kk b o (by simpa using hb) e) f0 f1 f3 f4 f5
  refine⟨_,rfl,zH (s:={ s with heap:=h',toks:=tk }) (n := "range_iterator") st' rfl rfl (by decide) ⟨.int (lo+i),H,I1,⟨t,?_⟩,⟨rfl,rfl⟩,st',fun b hb=>(hf b hb).1⟩⟩
  rw[Int.mul_one]
 done:=by
  intro X hP hw hK hc i pins s σ H E I hf st hg
  subst hP hw hK
  obtain⟨f0,f1,f2,f3,f4,f5⟩:=hf it (by simp)
  exact wpAny_pyNext_range_end (I.ok.hd hc) st (by have:n<=i:=hg;omega) fun h' eb=>⟨rfl,I.turned (t':=s.toks) (fun b o hb e=>eb b o hb e) f0 f1 f3 f4 f5⟩
 self:=fun _ _ _ _ _ st h=>wpAny_pyIter_rangeiter st h
end L2
namespace L2
open PySem PySem.Spec PyProof.Rows
section
variable{X:Cx}{tg:Expr}
theorem wu{pins:List (Addr×Obj)}{σ:St}{H:Hp}{s:Shared}{R:It->Hp->Prop}{E:Value->Shared->Prop}{lo hi:Int}{t u v:Tok}{tk:Nat}(I:Inv X pins σ H s)(h1:-(2^62)<=lo)(h2:lo<2^62)(h3:-(2^62)<=hi)(h4:hi<2^62)
  (q:R (KY lo (hi-lo).toNat) H):wpAny (model X.prog X.w) X.A (pyIter (.ref s.heap.objs.size)) (MD X pins σ tg R) E { s with heap:=s.heap.push { cls:=.type "range", data:=.fields #[.int lo t,.int hi u,.int 1 v] },toks:=tk }:=by
 refine wpAny_pyIter_range (IsRange.new ..) (small_one h1 h2 h3 h4) ?_
 have I1:Inv X pins σ H { s with heap:=s.heap.push { cls:=.type "range", data:=.fields #[.int lo t,.int hi u,.int 1 v] },toks:=tk }:=I.kept fun b o e=>Heap.get?_push_of_some _ e
 refine⟨(s.heap.push { cls:=.type "range", data:=.fields #[.int lo t,.int hi u,.int 1 v] }).objs.size,[(s.heap.push { cls:=.type "range", data:=.fields #[.int lo t,.int hi u,.int 1 v] }).objs.size],_,_,H,rfl,
  I1.kept (t':=tk) fun b o e=>Heap.get?_push_of_some _ e,yQ _ lo (hi-lo).toNat,?_,fun b hb=>?_,q⟩
 ·have e1:lo+((0:Nat):Int)*1=lo:=by simp
  have e2:(((hi-lo).toNat:Nat):Int)-((0:Nat):Int)=Builtin.Range.rangeSize lo hi 1:=by rw[rangeSize_one];split <;> omega
  show IsRangeIter _ _ (lo+((0:Nat):Int)*1) ((((hi-lo).toNat:Nat):Int)-((0:Nat):Int)) 1
  rw[e1,e2]
  exact Heap.get?_push_size _ rfl
 ·have e:b=(s.heap.push { cls:=.type "range", data:=.fields #[.int lo t,.int hi u,.int 1 v] }).objs.size:=by simpa using hb
  subst e
  exact I1.uP (Nat.le_refl _) (I1.bo.fresh (Nat.le_refl _))
def GG(ta:TA):TI:=fun σ H R=>ta σ H fun vs H1=>∃ j:Int,vs=[.int j]/\-(2^62)<=j/\j<2^62/\R (KY 0 j.toNat) H1
def GZ(ta:TA):TI:=fun σ H R=>ta σ H fun vs H1=>∃ i j:Int,vs=[.int i,.int j]/\(-(2^62)<=i/\i<2^62/\-(2^62)<=j/\j<2^62)/\R (KY i (j-i).toNat) H1
theorem gF{a:Expr}{ta:TA}{p pos:Pos}(hg:Gl X "range")(hm:X.mg "range" = none)(ha:PA X [a] ta)(hs:starEach [a] X.env=[(false,eval a X.env)]:=by rfl):PI X tg (.Call (.Name "range" p) [a] [] pos) (GG ta):=by
 intro pins s σ H R I h
 refine Call_ (jN I hg hm boot_range (PyProof.Rows.callWith_type1 (cB (ha pos pins s σ H _ I h) fun us s1 ⟨vs,H1,I1,r1,q1⟩=>?_) hs rfl))
 obtain⟨j,e,q1,q2,q⟩:=q1
 subst e
 cases r1 with
 | cons r rr =>
  cases rr
  obtain⟨t,rfl⟩:=r
  exact call_range_1 (wu I1 (by omega) (by omega) q1 q2 (by simpa using q))
theorem AB{a b:Expr}{ta:TA}{p pos:Pos}(hg:Gl X "range")(hm:X.mg "range" = none)(ha:PA X [a,b] ta)(hs:starEach [a,b] X.env=[(false,eval a X.env),(false,eval b X.env)]:=by rfl)(hs2:starEach [b] X.env=[(false,eval b X.env)]:=by rfl) :
  PI X tg (.Call (.Name "range" p) [a,b] [] pos) (GZ ta):=by
 intro pins s σ H R I h
 refine Call_ (jN I hg hm boot_range (PyProof.Rows.callWith_type1 (cB (ha pos pins s σ H _ I h) fun us s1 ⟨vs,H1,I1,r1,q1⟩=>?_) (by rw[hs,hs2]) (by rw[hs2];rfl)))
 obtain⟨i,j,e,⟨q1,q2,q3,q4⟩,q⟩:=q1
 subst e
 cases r1 with
 | cons r rr =>
  cases rr with
  | cons r' rr =>
   cases rr
   obtain⟨t,rfl⟩:=r
   obtain⟨t',rfl⟩:=r'
   exact call_range_2 (wu I1 q1 q2 q3 q4 q)
def Qh(wi:TI)(g:TG)(tb:TS):TS:=fun D σ H=>wi σ H fun J H1=>∃ W:Nat->Nat->St->Hp->Prop,(∃ m,W 0 m σ H1)/\∀ i m σ H,W i m σ H ->
 (J.stop i H/\D.nx σ H)\/(J.go i H/\∃ N:St->Hp->Prop,(∀ σ' H',N σ' H'->∃ m',m'<m/\W (i+1) m' σ' H')/\∀ x H',J.xM i H x H'->g x σ H' fun σ2 H2=>tb { D with nx:=N,ct:=N,bk:=D.nx } σ2 H2)
def nW(fp:List Addr)(h:Heap):List (Addr×Obj):=fp.filterMap fun b=>(h.get? b).map fun o=>(b,o)
theorem jJ{fp:List Addr}{h:Heap}{b:Addr}{o:Obj}(hb:b∈fp)(e:h.get? b=some o):(b,o)∈nW fp h:=List.mem_filterMap.mpr ⟨b,hb,by rw[e];rfl⟩
theorem Bq{fp:List Addr}{h:Heap}{p:Addr×Obj}(hp:p∈nW fp h):p.1∈fp/\h.get? p.1=some p.2:=by
 obtain⟨b,hb,e⟩:=List.mem_filterMap.mp hp
 cases q:h.get? b with
 | none=>rw[q] at e;cases e
 | some o =>
  rw[q] at e
  have e':(b,o)=p:=Option.some.inj e
  subst e'
  exact⟨hb,q⟩
theorem Inv.pinned{pins:List (Addr×Obj)}{σ:St}{H:Hp}{s:Shared}{fp:List Addr}(I:Inv X pins σ H s)(hf:∀ b∈fp,m_ X pins H b)(ho:∀ b∈fp,∃ o,s.heap.get? b=some o/\∀ v,o.data≠.cell v):Inv X (pins++nW fp s.heap) σ H s :=
 I.zg fun p hp=>(List.mem_append.mp hp).elim (fun z=>I.pin p (List.mem_append_right _ z)) fun z=>by
  obtain⟨hb,e⟩:=Bq z
  obtain⟨f0,f1,f2,_⟩:=hf p.1 hb
  obtain⟨o,e',d⟩:=ho p.1 hb
  rw[e] at e';cases e'
  exact⟨e,f0,f1,f2,d⟩
theorem Inv.nB{pins pl:List (Addr×Obj)}{σ:St}{H:Hp}{s:Shared}(I:Inv X (pins++pl) σ H s):Inv X pins σ H s:=I.zg fun p hp=>I.pin p (List.mem_append_right _ (List.mem_append_left _ hp))
theorem JY{iter:Expr}{body:List Stmt}{wi:TI}{g:TG}{tb:TS}{pos:Pos}(hp:PassesOwn (model X.prog X.w) X.A X.env X.xe)(hc:X.calm=true)(hi:PI X tg iter wi)(hg:PG X tg g)(hb:l_ X body tb)
  (hs:∀ x,foldedSetIterable iter X.env x=pure x:=by intro _;rfl):PS X (.For tg iter body [] pos) (Qh wi g tb):=by
 intro pins s σ H D I h
 refine wpAny_For (cB (hi pins s σ H _ I h) fun v s1 h1=>cB h1 fun itv s2 h2=>?_) hs
 obtain⟨it,fp,tn,J,H2,e,I2,T,st2,f2,W,⟨m0,w0⟩,turn⟩:=h2
 subst e
 have stat:∀ {H':Hp},(∀ b∈fp,H' b=none)->∀ b∈fp,m_ X pins H' b:=fun hn b hb=>⟨hn b hb,(f2 b hb).2⟩
 refine codeAny_forLoop_any (fun n s'=>∃ i σ' H',Inv X pins σ' H' s'/\tn i s'.heap/\(∀ b∈fp,H' b=none)/\W i n σ' H') ?_ m0 ⟨0,σ,H2,I2,st2,fun b hb=>(f2 b hb).1,w0⟩
 rintro n s3 ⟨i,σ3,H3,I3,st3,fr3,w3⟩
 rcases turn i n σ3 H3 w3 with ⟨stop,qn⟩ | ⟨go,N,hN,step⟩
 ·refine wpAny_passesOwn hp (cB (T.done X rfl rfl rfl hc i pins s3 σ3 H3 X.xe I3 (stat fr3) st3 stop) fun r s4 ⟨hr,I4⟩=>?_)
  subst hr
  exact wpAny_execs_nil ⟨σ3,H3,I4,qn⟩
 ·refine wpAny_passesOwn hp (cB (T.item X rfl rfl rfl hc i pins s3 σ3 H3 X.xe I3 (stat fr3) st3 go) fun r s4 ⟨u,hr,h4⟩=>?_)
  subst hr
  refine wpAny_passesOwn hp (cB h4 fun _ s5 ⟨x,H5,I5,r5,y5,st5,fr5⟩=>?_)
  have I5':=I5.pinned (stat fr5) (T.obj _ _ st5)
  refine wpAny_passesOwn hp (cB (hg _ s5 σ3 H5 x u _ I5' r5 (step x H5 y5)) fun _ s6 ⟨σ6,H6,I6,q6⟩=>?_)
  refine wpAny_passesOwn hp (cB (hb _ s6 σ6 H6 _ I6 q6) fun f s7 q7=>?_)
  have again:∀ {σ7:St} {H7:Hp},Inv X (pins++nW fp s5.heap) σ7 H7 s7->N σ7 H7->∃ m,m<n/\∃ i σ' H',Inv X pins σ' H' s7/\tn i s7.heap/\(∀ b∈fp,H' b=none)/\W i m σ' H':=fun {σ7 H7} I7 n7=>by
   obtain⟨m',hm,w7⟩:=hN σ7 H7 n7
   refine⟨m',hm,i+1,σ7,H7,I7.nB,T.keep _ _ _ st5 fun b hb o e=>(I7.pin (b,o) (List.mem_append_right _ (List.mem_append_right _ (jJ hb e)))).1,fun b hb=>?_,w7⟩
   obtain⟨o,e,d⟩:=T.obj _ _ st5 b hb
   exact(I7.pin (b,o) (List.mem_append_right _ (List.mem_append_right _ (jJ hb e)))).2.1
  cases f with
  | next=>obtain⟨σ7,H7,I7,n7⟩:=q7;exact again I7 n7
  | cont=>obtain⟨σ7,H7,I7,n7⟩:=q7;exact again I7 n7
  | brk=>obtain⟨σ7,H7,I7,q7⟩:=q7;exact⟨σ7,H7,I7.nB,q7⟩
  | ret v=>obtain⟨x7,σ7,H7,I7,r7,q7⟩:=q7;exact⟨x7,σ7,H7,I7.nB,r7,q7⟩
end
end L2
namespace L2
open PySem PySem.Spec PyProof.Rows
abbrev R2:=V->V->Hp->VK->Prop
def gq(X:Cx)(f:Value->Value->Sem Value)(r:R2):Prop :=
 ∀ (pins:List (Addr×Obj)) (s:Shared) (σ:St) (H:Hp) (x y:V) (v u:Value) (Q:VK),Inv X pins σ H s->RelV x v->RelV y u->r x y H Q ->
  wpAny (model X.prog X.w) X.A (f v u) (EP X pins σ Q) X.xe s
def R7(X:Cx)(f:Value->Sem Value)(r:V->Hp->VK->Prop):Prop :=
 ∀ (pins:List (Addr×Obj)) (s:Shared) (σ:St) (H:Hp) (x:V) (v:Value) (Q:VK),Inv X pins σ H s->RelV x v->r x H Q ->
  wpAny (model X.prog X.w) X.A (f v) (EP X pins σ Q) X.xe s
def cN(X:Cx)(f:Value)(r:List V->Hp->VK->Prop):Prop :=
 ∀ (pins:List (Addr×Obj)) (s:Shared) (σ:St) (H:Hp) (xs:List V) (us:List Value) (Q:VK),Inv X pins σ H s->Vals xs us->r xs H Q ->
  wpAny (model X.prog X.w) X.A (call f us) (EP X pins σ Q) X.xe s
def Lj(r:R2)(ta tb:TE):TE:=fun σ H Q=>ta σ H fun x H1=>tb σ H1 fun y H2=>r x y H2 Q
def SI(r:V->Hp->VK->Prop)(ta:TE):TE:=fun σ H Q=>ta σ H fun x H1=>r x H1 Q
def rI(C:Int->Int->Prop)(g:Int->Int->V):R2:=fun x y H Q=>∃ i j,x=.int i/\y=.int j/\C i j/\Q (g i j) H
def z9(g:Int->Int->V):R2:=fun x y H Q=>∃ i j,x=.int i/\y=.int j/\Q (g i j) H
def rU(g:Int->V):V->Hp->VK->Prop:=fun x H Q=>∃ i,x=.int i/\Q (g i) H
section
variable{X:Cx}{a b c:Expr}{ta tb tc:TE}{pos:Pos}
theorem Hq(ha:PE X a ta)(hb:PE X b tb){pins:List (Addr×Obj)}{s:Shared}{σ:St}{H:Hp}{R:V->V->Hp->Prop}(I:Inv X pins σ H s)
  (h:ta σ H fun x H1=>tb σ H1 fun y H2=>R x y H2) {Q:Value->Shared->Prop} {f:Value->Value->Sem Value}
  (hf:∀ v u s2 x y H2,Inv X pins σ H2 s2->RelV x v->RelV y u->R x y H2->wpAny (model X.prog X.w) X.A (f v u) Q X.xe s2) :
  wpAny (model X.prog X.w) X.A (eval a X.env) (fun v s₁=>wpAny (model X.prog X.w) X.A (eval b X.env) (fun u s₂=>wpAny (model X.prog X.w) X.A (f v u) Q X.xe s₂) X.xe s₁) X.xe s:=by
 refine cB (ha pins s σ H _ I h) fun v s1 ⟨x,H1,I1,r1,q1⟩=>?_
 refine cB (hb pins s1 σ H1 _ I1 q1) fun u s2 ⟨y,H2,I2,r2,q2⟩=>?_
 exact hf v u s2 x y H2 I2 r1 r2 q2
theorem Hf{op:Operator}{r:R2}(ho:gq X (binaryOp op) r)(ha:PE X a ta)(hb:PE X b tb):PE X (.BinOp a op b pos) (Lj r ta tb):=by
 intro pins s σ H Q I h
 exact wpAny_BinOp (Hq ha hb I h fun v u s2 x y H2 I2 rx ry q=>ho pins s2 σ H2 x y v u Q I2 rx ry q)
theorem K_{op:UnaryOp}{r:V->Hp->VK->Prop}(ho:R7 X (unaryOp op) r)(ha:PE X a ta):PE X (.UnaryOp op a pos) (SI r ta):=by
 intro pins s σ H Q I h
 exact UnaryOp_ (cB (ha pins s σ H _ I h) fun v s1 ⟨x,H1,I1,r1,q1⟩=>ho pins s1 σ H1 x v Q I1 r1 q1)
theorem LV{f:Value->Value->Sem Value}{C:Int->Int->Prop}{g:Int->Int->Int}
  (rule:∀ (i j:Int) (t u:Tok) (s:Shared) (Q:Value->Shared->Prop) (E:Value->Shared->Prop),C i j->Q (.int (g i j) s.toks) { s with toks:=s.toks+1 }->wpAny (model X.prog X.w) X.A (f (.int i t) (.int j u)) Q E s) :
  gq X f (rI C fun i j=>.int (g i j)):=by
 intro pins s σ H x y v u Q I rx ry h
 obtain⟨i,j,rfl,rfl,hc,q⟩:=h
 obtain⟨t,rfl⟩:=rx
 obtain⟨t',rfl⟩:=ry
 exact rule i j t t' s _ _ hc ⟨.int (g i j),H,I.tok _,⟨_,rfl⟩,q⟩
theorem K8{f:Value->Value->Sem Value}{g:Int->Int->Int}
  (rule:∀ (i j:Int) (t u:Tok) (s:Shared) (Q:Value->Shared->Prop) (E:Value->Shared->Prop),Q (.int (g i j) s.toks) { s with toks:=s.toks+1 }->wpAny (model X.prog X.w) X.A (f (.int i t) (.int j u)) Q E s) :
  gq X f (z9 fun i j=>.int (g i j)):=by
 intro pins s σ H x y v u Q I rx ry h
 obtain⟨i,j,rfl,rfl,q⟩:=h
 obtain⟨t,rfl⟩:=rx
 obtain⟨t',rfl⟩:=ry
 exact rule i j t t' s _ _ ⟨.int (g i j),H,I.tok _,⟨_,rfl⟩,q⟩
theorem F1{f:Value->Value->Sem Value}{g:Int->Int->Bool}
  (rule:∀ (i j:Int) (t u:Tok) (s:Shared) (Q:Value->Shared->Prop) (E:Value->Shared->Prop),Q (.bool (g i j)) s->wpAny (model X.prog X.w) X.A (f (.int i t) (.int j u)) Q E s) :
  gq X f (z9 fun i j=>.bl (g i j)):=by
 intro pins s σ H x y v u Q I rx ry h
 obtain⟨i,j,rfl,rfl,q⟩:=h
 obtain⟨t,rfl⟩:=rx
 obtain⟨t',rfl⟩:=ry
 exact rule i j t t' s _ _ ⟨.bl (g i j),H,I,rfl,q⟩
def IJ(i j:Int):Prop:=0<=j/\j<=1000000/\i.natAbs<2^64
theorem Jd:gq X (binaryOp .Add) (z9 fun i j=>.int (i+j)):=K8 fun _ _ _ _ _ _ _ q=>add_int q
theorem HG:gq X (binaryOp .Sub) (z9 fun i j=>.int (i-j)):=K8 fun _ _ _ _ _ _ _ q=>sub_int q
theorem Ge:gq X (binaryOp .Mod) (rI (fun _ j=>j≠0) fun i j=>.int (i.fmod j)):=LV fun _ _ _ _ _ _ _ hc q=>mod_int' hc q
theorem Im:gq X (binaryOp .Pow) (rI IJ fun i j=>.int (i^j.toNat)):=LV fun _ _ _ _ _ _ _ hc q=>pow_int_small hc.1 hc.2.1 hc.2.2 q
theorem Uz{f:Value->Sem Value}{g:Int->Int}
  (rule:∀ (i:Int) (t:Tok) (s:Shared) (Q:Value->Shared->Prop) (E:Value->Shared->Prop),Q (.int (g i) s.toks) { s with toks:=s.toks+1 }->wpAny (model X.prog X.w) X.A (f (.int i t)) Q E s) :
  R7 X f (rU fun i=>.int (g i)):=by
 intro pins s σ H x v Q I rx h
 obtain⟨i,rfl,q⟩:=h
 obtain⟨t,rfl⟩:=rx
 exact rule i t s _ _ ⟨.int (g i),H,I.tok _,⟨_,rfl⟩,q⟩
theorem Hn:R7 X (unaryOp .USub) (rU fun i=>.int (-i)):=Uz fun _ _ _ _ _ q=>neg_int q
end
section
variable{X:Cx}{a b c:Expr}{ta tb tc:TE}{pos:Pos}
theorem va{pins:List (Addr×Obj)}{σ:St}{H:Hp}{s:Shared}{Q:VK}{k k':Bool}(I:Inv X pins σ H s)(q:Q (.bl k) H)(e:k=k'):EP X pins σ Q (.bool k') s:=by
 subst e
 exact⟨.bl k,H,I,rfl,q⟩
theorem z8:gq X (compareOp .Lt) (z9 fun i j=>.bl (decide (i<j))):=F1 fun _ _ _ _ _ _ _ q=>lt_int q
theorem ug:gq X (compareOp .LtE) (z9 fun i j=>.bl (decide (i<=j))):=F1 fun _ _ _ _ _ _ _ q=>le_int q
theorem GI:gq X (compareOp .Gt) (z9 fun i j=>.bl (decide (j<i))):=F1 fun _ _ _ _ _ _ _ q=>gt_int q
theorem G8:gq X (compareOp .GtE) (z9 fun i j=>.bl (decide (j<=i))):=F1 fun _ _ _ _ _ _ _ q=>ge_int q
theorem Cm:gq X (compareOp .Is) (fun x y H Q=>y=.cz/\Q (.bl (decide (x=.cz))) H):=by
 intro pins s σ H x y v u Q I rx ry h
 obtain⟨rfl,q⟩:=h
 cases ry
 refine is_none_gen (va I q ?_)
 cases x <;> first
  | (cases rx;rfl)
  | (obtain⟨t,rfl⟩:=rx;rfl)
theorem zV:gq X (compareOp .IsNot) (fun x y H Q=>y=.cz/\Q (.bl (!decide (x=.cz))) H):=by
 intro pins s σ H x y v u Q I rx ry h
 obtain⟨rfl,q⟩:=h
 cases ry
 refine isnot_none_gen (va I q ?_)
 cases x <;> first
  | (cases rx;rfl)
  | (obtain⟨t,rfl⟩:=rx;rfl)
theorem gq.or{f:Value->Value->Sem Value}{r r':R2}(h:gq X f r)(h':gq X f r'):gq X f (fun x y H Q=>r x y H Q\/r' x y H Q):=by
 intro pins s σ H x y v u Q I rx ry q
 rcases q with q | q
 ·exact h pins s σ H x y v u Q I rx ry q
 ·exact h' pins s σ H x y v u Q I rx ry q
theorem dw(b:Expr){op:CmpOp}(h:op≠.In:=by decide)(h2:op≠.NotIn:=by decide):behindInMarks op b=false:=by
 have e1:(op==CmpOp.In)=false:=by cases op <;> first | rfl | exact absurd rfl h
 have e2:(op==CmpOp.NotIn)=false:=by cases op <;> first | rfl | exact absurd rfl h2
 cases b <;> simp[behindInMarks,e1,e2]
theorem Fh{op:CmpOp}{r:R2}(ho:gq X (compareOp op) r)(ha:PE X a ta)(hb:PE X b tb)(hm:behindInMarks op b=false):PE X (.Compare a [op] [b] pos) (Lj r ta tb):=by
 intro pins s σ H Q I h
 exact wpAny_Compare1 (Hq ha hb I h fun v u s2 x y H2 I2 rx ry q=>ho pins s2 σ H2 x y v u Q I2 rx ry q) hm
def GU(t:TE):TT:=fun σ H Q=>t σ H fun x H'=>∃ k,x=.bl k/\Q k H'
theorem FI{op:CmpOp}{r:R2}(ho:gq X (compareOp op) r)(ha:PE X a ta)(hb:PE X b tb)(hm:behindInMarks op b=false):PT X (.Compare a [op] [b] pos) (GU (Lj r ta tb)):=by
 intro pins s σ H Q I h
 refine wpAny_isTrue_Compare1 (cB (ha pins s σ H _ I h) fun v s1 ⟨x,H1,I1,r1,q1⟩=>cB (hb pins s1 σ H1 _ I1 q1) fun u s2 ⟨y,H2,I2,r2,q2⟩ =>
  cB (ho pins s2 σ H2 x y v u _ I2 r1 r2 q2) fun c s3 ⟨z,H3,I3,r3,k,e,q3⟩=>?_) hm
 subst e
 cases r3
 exact wpAny_truthy_bool ⟨H3,I3,q3⟩
def yr(r r':R2)(ta tb tc:TE):TE:=fun σ H Q=>ta σ H fun x H1=>tb σ H1 fun y H2=>r x y H2 fun z H3=>∃ k,z=.bl k ∧
 (if k=true then tc σ H3 fun w' H4=>r' y w' H4 Q else Q (.bl false) H3)
theorem CC{op op':CmpOp}{r r':R2}(ho:gq X (compareOp op) r)(ho':gq X (compareOp op') r')(ha:PE X a ta)(hb:PE X b tb)(hc:PE X c tc)
  (hm:lastMarks [op,op'] [b,c]=false:=by with_unfolding_all rfl):PE X (.Compare a [op,op'] [b,c] pos) (yr r r' ta tb tc):=by
 intro pins s σ H Q I h
 refine Compare_chain (cB (ha pins s σ H _ I h) fun v s1 ⟨x,H1,I1,r1,q1⟩=>chain_link (cB (hb pins s1 σ H1 _ I1 q1) fun u s2 ⟨y,H2,I2,r2,q2⟩ =>
  cB (ho pins s2 σ H2 x y v u _ I2 r1 r2 q2) fun d s3 ⟨z,H3,I3,r3,k,e,q3⟩=>?_)) hm
 subst e
 cases r3
 refine wpAny_truthy_bool ?_
 cases k with
 | false=>exact ite_ff ⟨.bl false,H3,I3,rfl,q3⟩
 | true=>exact ite_tt (chain_last (cB (hc pins s3 σ H3 _ I3 q3) fun w' s4 ⟨z',H4,I4,r4,q4⟩=>ho' pins s4 σ H4 y z' u w' Q I4 r2 r4 q4))
theorem Cs{op op':CmpOp}{r r':R2}(ho:gq X (compareOp op) r)(ho':gq X (compareOp op') r')(ha:PE X a ta)(hb:PE X b tb)(hc:PE X c tc)
  (hm:lastMarks [op,op'] [b,c]=false:=by with_unfolding_all rfl):PT X (.Compare a [op,op'] [b,c] pos) (GU (yr r r' ta tb tc)):=by
 intro pins s σ H Q I h
 refine isTrue_chain (cB (ha pins s σ H _ I h) fun v s1 ⟨x,H1,I1,r1,q1⟩=>test_link (cB (hb pins s1 σ H1 _ I1 q1) fun u s2 ⟨y,H2,I2,r2,q2⟩ =>
  cB (ho pins s2 σ H2 x y v u _ I2 r1 r2 q2) fun d s3 ⟨z,H3,I3,r3,k,e,q3⟩=>?_)) hm
 subst e
 cases r3
 refine wpAny_truthy_bool ?_
 cases k with
 | false =>
  obtain⟨k',e',q'⟩:=q3
  cases e'
  exact ite_ff ⟨H3,I3,q'⟩
 | true =>
  refine ite_tt (test_last (cB (hc pins s3 σ H3 _ I3 q3) fun w' s4 ⟨z',H4,I4,r4,q4⟩=>cB (ho' pins s4 σ H4 y z' u w' _ I4 r2 r4 q4) fun d' s5 ⟨z2,H5,I5,r5,k2,e2,q5⟩=>?_))
  subst e2
  cases r5
  exact wpAny_truthy_bool ⟨H5,I5,q5⟩
theorem ou:(sizeLine:Nat)<2^63:=by rw[sizeLine_eq];decide
theorem y_:gq X (binaryOp .Add) (fun x y H Q=>∃ i j,x=.str i/\y=.str j/\i.length+j.length<=sizeLine/\Q (.str (i++j)) H):=by
 intro pins s σ H x y v u Q I rx ry h
 obtain⟨i,j,rfl,rfl,hz,q⟩:=h
 obtain⟨t,rfl⟩:=rx
 obtain⟨t',rfl⟩:=ry
 exact add_str (fun t' tk=>⟨.str (i++j),H,I.tok _,⟨_,rfl⟩,q⟩) hz
theorem vals1{x:V}{us:List Value}(r:Vals [x] us):∃ u,us=[u]/\RelV x u:=by
 cases r with
 | cons r1 r2=>cases r2;exact⟨_,rfl,r1⟩
theorem vals2{x y:V}{us:List Value}(r:Vals [x,y] us):∃ u w',us=[u,w']/\RelV x u/\RelV y w':=by
 cases r with
 | cons r1 r2 =>
  cases r2 with
  | cons r3 r4=>cases r4;exact⟨_,_,rfl,r1,r3⟩
theorem Bx(hc:X.calm=true):cN X (.builtin "max") (fun xs H Q=>∃ i j,xs=[.int i,.int j]/\Q (.int (if j>i then j else i)) H):=by
 intro pins s σ H xs us Q I r h
 obtain⟨i,j,rfl,q⟩:=h
 obtain⟨u,w',rfl,⟨t,rfl⟩,⟨t',rfl⟩⟩:=vals2 r
 refine max_two_ints (I.ok.hd hc) fun h' tk k=>⟨_,H,I.kept k,?_,q⟩
 by_cases hj:j>i
 ·rw[if_pos hj,if_pos hj];exact⟨_,rfl⟩
 ·rw[if_neg hj,if_neg hj];exact⟨_,rfl⟩
end
end L2
namespace L2
open PySem PySem.Spec PyProof.Rows
structure yZ (h:Heap) (x dx C:Addr) (mA:Str->Option Value):Prop where
 obj:h.get? x=some (PySem.W.instObj C dx)
 ns:h.Ns1 dx mA
 ne:dx≠x
theorem oA{h:Heap}{dx:Addr}{mA:Str->Option Value}(n:h.Ns1 dx mA):∃ od,h.get? dx=some od/\∀ name,PySem.W.lookIn name od=some (mA name):=by
 obtain⟨o,es,ep,ho,hd,hk,_,hm⟩:=n
 refine⟨o,ho,fun name=>?_⟩
 have e:=hm name
 unfold nsFind findBy at e
 rw[← Array.find?_toList] at e
 unfold PySem.W.lookIn
 rw[hd]
 dsimp only
 split
 ·rename_i y q
  rw[q] at e
  exact congrArg some e
 ·rename_i q
  rw[q] at e
  have a:es.toList.any (·.refKey)=false:=by
   rw[List.any_eq_false]
   intro y hy
   obtain⟨z,t,hkey⟩:=hk y (Array.mem_toList_iff.mp hy)
   simp[DictEntry.refKey,hkey]
  have a':¬ es.toList.any (·.refKey)=true:=by rw[a];exact Bool.false_ne_true
  rw[if_neg a']
  exact congrArg some e
theorem yZ.look{h:Heap}{x dx C:Addr}{mA:Str->Option Value}(I:yZ h x dx C mA):∃ od,PySem.W.InstAt h x (PySem.W.instObj C dx) C (some od)/\∀ name,PySem.W.lookIn name od=some (mA name) :=
 let ⟨od,ho,hl⟩:=oA I.ns
 ⟨od,⟨I.obj,rfl,rfl,ho⟩,hl⟩
section
variable{prog:Program}{w:World}{A:Around}{E:Value->Shared->Prop}{s:Shared}{K:PySem.W.Frag}{x dx C f:Addr}{mA:Str->Option Value}{name:Str}{v:Value}
theorem get_map{expr:Bool}{Q:Value->Shared->Prop}(X:K.In s.heap)(I:yZ s.heap x dx C mA)(hg:PySem.W.plainGet K C name=true)(hh:PySem.W.hasDictIn K C=true)
  (ha:PySem.W.findIn K (.ref C) name=some none) (hv:mA name=some v) (hv':PySem.W.handedIn v=true) (h:Q v { s with toks:=s.toks+1 }) :
  wpAny (model prog w) A (getAttr (.ref x) name expr) Q E s:=by
 obtain⟨od,J,hl⟩:=I.look
 exact PySem.W.get_value X J (PySem.W.plainGet_of hg).1 (PySem.W.findObj_own hh ha rfl (by rw[hl,hv])) hv' h
theorem DX{pl:Sem Bool}{Q:Value×List Value->Shared->Prop}(X:K.In s.heap)(I:yZ s.heap x dx C mA)(hg:PySem.W.plainGet K C name=true)
  (hf:PySem.W.findIn K (.ref C) name=some (some (.ref f))) (ht:PySem.W.isFn K (.ref f)=true) (hv:mA name=none) (h:Q (.ref f,[.ref x]) s) :
  wpAny (model prog w) A (getMethod (.ref x) name pl) Q E s:=by
 obtain⟨od,J,hl⟩:=I.look
 exact PySem.W.method_fn X J (PySem.W.plainGet_of hg).1 (PySem.W.plainGet_of hg).2 hf (beq_iff_eq.mp ht) (by show (PySem.W.lookIn name od).map (·.isSome)=some false;rw[hl,hv];rfl) h
theorem Gw{ns:List Str}{Q:Unit->Shared->Prop}(X:K.In s.heap)(I:yZ s.heap x dx C mA)
  (hs:PySem.W.findIn K (.ref C) "__setattr__" = some (some (.builtin "object.__setattr__"))) (hp:PySem.W.plainOver K C=true) (ht:PySem.W.takerIn K C name=some none) (hh:PySem.W.hasDictIn K C=true)
  (hw:PySem.Within mA ns) (hsz:ns.length<=sizeLine)
  (h:∀ h',yZ h' x dx C (fun y=>if y=name then some v else mA y)->Heap.SameBut dx s.heap h'->Q () { s with heap:=h',toks:=s.toks+2 }) :
  wpAny (model prog w) A (setAttr (.ref x) name v) Q E s:=by
 obtain⟨od,J,hl⟩:=I.look
 refine PySem.W.set_plain X J hs (PySem.W.osa_open (s:={ s with toks:=s.toks+1 }) (r:=none) X J hp ht fun b=>?_)
 obtain⟨cd,hc,hd'⟩:=PySem.W.any_some hh
 have hx:s.heap.get? x=some ⟨.ref C,some dx,.plain,#[]⟩:=I.obj
 refine wpAny_bind (wpAny_pure (wpAny_bind (wpAny_bind (wpAny_loadPart hx (wpAny_bind (PySem.W.Looks.here (s:={ s with toks:=s.toks+1 }) (PySem.W.looks_clsIn X hc) ?_))))))
 rw[hd']
 refine wpAny_pure (a:=some dx) (wpAny_bind (wpAny_pure (wpAny_bind ?_)))
 refine wpAny_nsSet1 (s:={ s with toks:=s.toks+1 }) I.ns fun h' hn2 hs2=>?_
 obtain⟨oD,esD,epD,hoD,hdD,hcD⟩:=hn2.count (PySem.Within.cons name v hw)
 refine wpAny_bind (wpAny_lookBehind hoD (by rw[hdD];exact pastItsLine_dict (Nat.le_trans hcD (by rw[List.length_cons];omega))) ?_)
 exact wpAny_pure (h _ ⟨(hs2.2 _ (Ne.symm I.ne)).trans I.obj,hn2,I.ne⟩ hs2)
theorem Ea{R:Result->Shared->Prop}{vs:List Value}{kw:List (Str×Value)}(X:K.In s.heap)(hm:PySem.W.makesIn K C=true)
  (hi:PySem.W.findIn K (.ref C) "__init__" = some (some (.ref f))) (hf:PySem.W.typeIn K (.ref f)=some (.type "function"))
  (h:codeAny (model prog w) (A.under (.builtin "type.__call__" ⟨.ref C::vs,kw⟩)) (.call (.ref f) ⟨.ref (s.heap.objs.size+1)::vs,kw⟩) (PySem.W.InitBack (s.heap.objs.size+1) R)
   { s with heap:=(s.heap.push PySem.W.emptyDict).push (PySem.W.instObj C s.heap.objs.size) }) :
  codeAny (model prog w) A (.call (.ref C) ⟨vs,kw⟩) R s:=by
 obtain⟨hh,g,d,t,os⟩:=s
 exact PySem.W.make_core (PySem.W.makes_of X hm) (PySem.W.looks_findIn X hi) (fun self=>PySem.W.bind_fn X self hf) (.inl rfl) h
end
def j6(f:Str)(v:V):List (Str×V)->List (Str×V)
 | []=>[(f,v)]
 | (g,x)::r=>if g=f then (g,v)::r else (g,x)::j6 f v r
theorem oQ(f g:Str)(v:V):∀ fs:List (Str×V),(j6 f v fs).lookup g=if g=f then some v else fs.lookup g
 | []=>by
  show List.lookup g [(f,v)]=_
  by_cases h:g=f
  ·have hb:(g==f)=true:=beq_iff_eq.mpr h
   simp only[List.lookup,hb,if_pos h]
  ·have hb:(g==f)=false:=beq_eq_false_iff_ne.mpr h
   simp only[List.lookup,hb,if_neg h]
 | (k,x)::r=>by
  have ih:=oQ f g v r
  rw[show j6 f v ((k,x)::r)=(if k=f then (k,v)::r else (k,x)::j6 f v r) from rfl]
  by_cases hk:k=f
  ·rw[if_pos hk]
   by_cases h:g=k
   ·have hb:(g==k)=true:=beq_iff_eq.mpr h
    simp only[List.lookup,hb,if_pos (h.trans hk)]
   ·have hb:(g==k)=false:=beq_eq_false_iff_ne.mpr h
    simp only[List.lookup,hb,if_neg (fun e:g=f=>h (e.trans hk.symm))]
  ·rw[if_neg hk]
   by_cases h:g=k
   ·have hb:(g==k)=true:=beq_iff_eq.mpr h
    simp only[List.lookup,hb,if_neg (fun e:g=f=>hk (h.symm.trans e))]
   ·have hb:(g==k)=false:=beq_eq_false_iff_ne.mpr h
    simp only[List.lookup,hb]
    exact ih
theorem nN(f:Str)(v:V):∀ fs:List (Str×V),f∈(j6 f v fs).map (·.1)/\∀ g,g∈fs.map (·.1)->g∈(j6 f v fs).map (·.1)
 | []=>⟨by simp[j6],fun g h=>by simp at h⟩
 | (k,x)::r=>by
  obtain⟨i1,i2⟩:=nN f v r
  rw[show j6 f v ((k,x)::r)=(if k=f then (k,v)::r else (k,x)::j6 f v r) from rfl]
  by_cases hk:k=f
  ·rw[if_pos hk]
   subst hk
   exact⟨by simp,fun g h=>by simpa using h⟩
  ·rw[if_neg hk]
   refine⟨?_,fun g h=>?_⟩
   ·rw[List.map_cons]
    exact List.mem_cons_of_mem _ i1
   ·rw[List.map_cons] at h ⊢
    rcases List.mem_cons.mp h with e | e
    ·exact List.mem_cons.mpr (.inl e)
    ·exact List.mem_cons_of_mem _ (i2 g e)
theorem oS(f:Str)(v:V):∀ fs:List (Str×V),(j6 f v fs).length<=fs.length+1
 | []=>by simp[j6]
 | (k,x)::r=>by
  have ih:=oS f v r
  rw[show j6 f v ((k,x)::r)=(if k=f then (k,v)::r else (k,x)::j6 f v r) from rfl]
  by_cases hk:k=f
  ·rw[if_pos hk,List.length_cons,List.length_cons];omega
  ·rw[if_neg hk,List.length_cons,List.length_cons];omega
theorem nQ.some_of{v:V}{o:Option Value}(r:nQ (some v) o):∃ u,o=some u/\RelV v u:=by
 cases o with
 | none=>exact(show False from r).elim
 | some u=>exact⟨u,rfl,r⟩
theorem nQ.none_of{o:Option Value}(r:nQ none o):o=none:=by
 cases o with
 | none=>rfl
 | some u=>exact(show False from r).elim
theorem Am{v:V}{u:Value}(r:RelV v u):PySem.W.handedIn u=true:=by
 cases v with
 | cz=>cases (show u=Value.none from r);rfl
 | bl b=>cases (show u=Value.bool b from r);rfl
 | int i=>obtain⟨t,e⟩:=(show ∃ t,u=Value.int i t from r);cases e;rfl
 | str x=>obtain⟨t,e⟩:=(show ∃ t,u=Value.str x t from r);cases e;rfl
 | byt b=>obtain⟨t,e⟩:=(show ∃ t,u=Value.bytes b t from r);cases e;rfl
 | Hj b=>obtain⟨t,e⟩:=(show ∃ t,u=Value.float b t from r);cases e;rfl
 | ref a=>cases (show u=Value.ref a from r);rfl
 | ty n=>cases (show u=Value.type n from r);rfl
section
variable{P:Program}{w:World}{H H':Hp}{h h':Heap}{a C dx:Addr}{fs fs':List (Str×V)}
theorem mI(bo:n6 P w H h)(e:H a=some (.ins C dx fs)):∃ mA,yZ h a dx C mA/\(∀ f,nQ (fs.lookup f) (mA f))/\PySem.Within mA (fs.map (·.1))/\fs.length<=1000/\H dx=some (.own a):=by
 obtain⟨d,z,ne,ob,mA,n,r,q⟩:=(show bT P w H h a (.ins C dx fs) from bo a _ e)
 exact⟨mA,⟨ob,n,ne⟩,r,q,z,d⟩
end
structure n5 (K:PySem.W.Frag) (C:Addr):Prop where
 pg:PySem.W.plainGet K C Str.empty=true
 hd:PySem.W.hasDictIn K C=true
 po:PySem.W.plainOver K C=true
 sa:PySem.W.findIn K (.ref C) "__setattr__" = some (some (.builtin "object.__setattr__"))
theorem n5.get{K:PySem.W.Frag}{C:Addr}(c:n5 K C)(f:Str):PySem.W.plainGet K C f=true:=c.pg
def bM(K:PySem.W.Frag)(C:Addr)(f:Str):Prop:=PySem.W.findIn K (.ref C) f=some none
theorem bM.GL{K:PySem.W.Frag}{C:Addr}{f:Str}(n:bM K C f):PySem.W.takerIn K C f=some none:=by
 unfold PySem.W.takerIn
 rw[show PySem.W.findIn K (.ref C) f=some none from n]
 rfl
structure Meth (K:PySem.W.Frag) (C:Addr) (m:Str) (f:Addr):Prop where
 at_:PySem.W.findIn K (.ref C) m=some (some (.ref f))
 fn:PySem.W.isFn K (.ref f)=true
 kp:PySem.W.keepIn K (.ref f)=true
section
variable{X:Cx}{pins:List (Addr×Obj)}{σ:St}{H:Hp}{s:Shared}{a C dx:Addr}{fs:List (Str×V)}{f:Str}{v:V}{A:Around}{E:Value->Shared->Prop}
theorem yB{b:Bool}{Q:Value->Shared->Prop}(I:Inv X pins σ H s)(e:H a=some (.ins C dx fs))(c:n5 X.K C)(n:bM X.K C f)(l:fs.lookup f=some v)
  (h:∀ u s',Inv X pins σ H s'->RelV v u->Q u s'):wpAny (model X.prog X.w) A (getAttr (.ref a) f b) Q E s:=by
 obtain⟨mA,O,r,_,_,_⟩:=mI I.bo e
 obtain⟨u,hu,ru⟩:=nQ.some_of (v:=v) (o:=mA f) (by rw[← l];exact r f)
 exact get_map I.j7 O (c.get f) c.hd n hu (Am ru) (h u _ (I.tok _) ru)
theorem rA{m:Str}{g:Addr}{pl:Sem Bool}{Q:Value×List Value->Shared->Prop}(I:Inv X pins σ H s)(e:H a=some (.ins C dx fs))(c:n5 X.K C)(k:Meth X.K C m g)(l:fs.lookup m=none)
  (h:Q (.ref g,[.ref a]) s):wpAny (model X.prog X.w) A (getMethod (.ref a) m pl) Q E s:=by
 obtain⟨mA,O,r,_,_,_⟩:=mI I.bo e
 have hn:mA m=none:=nQ.none_of (by rw[← l];exact r m)
 exact DX I.j7 O (c.get m) k.at_ k.fn hn h
theorem xP{y:V}{u:Value}{Q:Unit->Shared->Prop}(I:Inv X pins σ H s)(e:H a=some (.ins C dx fs))(c:n5 X.K C)(n:bM X.K C f)(hl:fs.length<1000)(ry:RelV y u)
  (h:∀ s',Inv X pins σ (upd H a (.ins C dx (j6 f y fs))) s'->Q () s'):wpAny (model X.prog X.w) A (setAttr (.ref a) f u) Q E s:=by
 obtain⟨mA,O,r,wi,_,ho⟩:=mI I.bo e
 have hz:(fs.map (·.1)).length<=sizeLine:=by rw[List.length_map,sizeLine_eq];omega
 refine Gw I.j7 O c.sa c.po n.GL c.hd wi hz fun h' O' sb=>h _ ?_
 have hd:∃ o,h'.get? dx=some o:=let ⟨o,_,_,e',_⟩:=O'.ns;⟨o,e'⟩
 refine I.write (x:=a) (e:=dx) (by rw[e];exact True.intro) (.inr ho) (fun b q hb z=>(sb.2 b hb).trans z) hd ?_
 refine⟨by rw[au O.ne];exact ho,?_,O.ne,O'.obj,_,O'.ns,fun g=>?_,fun g hg=>?_⟩
 ·have:=oS f y fs;omega
 ·show nQ ((j6 f y fs).lookup g) (if g=f then some u else mA g)
  rw[oQ]
  by_cases q:g=f
  ·rw[if_pos q,if_pos q];exact ry
  ·rw[if_neg q,if_neg q];exact r g
 ·by_cases q:g=f
  ·rw[q];exact(nN f y fs).1
  ·refine(nN f y fs).2 g (wi g fun z=>hg ?_)
   show (if g=f then some u else mA g)=none
   rw[if_neg q];exact z
theorem Inv.made(I:Inv X pins σ H s):Inv X pins σ (upd (upd H s.heap.objs.size (.own (s.heap.objs.size+1))) (s.heap.objs.size+1) (.ins C s.heap.objs.size []))
  { s with heap:=(s.heap.push PySem.W.emptyDict).push (PySem.W.instObj C s.heap.objs.size) }:=by
 have e1:(s.heap.push PySem.W.emptyDict).get? s.heap.objs.size=some PySem.W.emptyDict:=Heap.get?_push_size s.heap rfl
 have e2:((s.heap.push PySem.W.emptyDict).push (PySem.W.instObj C s.heap.objs.size)).get? (s.heap.objs.size+1)=some (PySem.W.instObj C s.heap.objs.size):=by
  have:=Heap.get?_push_size (s.heap.push PySem.W.emptyDict) (o:=PySem.W.instObj C s.heap.objs.size) rfl
  rwa [Heap.size_push] at this
 have e3:(s.heap.push PySem.W.emptyDict).Ns s.heap.objs.size (fun _=>none):=⟨PySem.W.emptyDict,#[],_,e1,rfl,(fun e he=>absurd he (by simp)),fun _=>rfl⟩
 have I1:=I.laid (a:=s.heap.objs.size) (o:=.own (s.heap.objs.size+1)) (h':=s.heap.push PySem.W.emptyDict) (t':=s.toks) (fun b u q=>Heap.get?_push_of_some _ q) (Nat.le_refl _) ⟨_,e1⟩
 refine I1.laid (a:=s.heap.objs.size+1) (o:=.ins C s.heap.objs.size []) (t':=s.toks) (fun b u q=>Heap.get?_push_of_some _ q) (Nat.le_of_eq (Heap.size_push _ _)) ?_
 have ne:s.heap.objs.size≠s.heap.objs.size+1:=Nat.ne_of_lt (Nat.lt_succ_self _)
 refine⟨by rw[au ne,aC],Nat.zero_le _,ne,e2,fun _=>none,(Heap.Ns1.of_empty e3).at fun o q=>Heap.get?_push_of_some _ q,fun _=>True.intro,fun y hy=>absurd rfl hy⟩
theorem FL{prog:Program}{w:World}{env:Env}{e:Expr}{f:Str}{pos:Pos}{s:Shared}{Q:Value->Shared->Prop}(hb:attributeBase e f env (eval e env)=eval e env)
  (h:wpAny (model prog w) A (eval e env) (fun o s₁=>wpAny (model prog w) A (getAttr o f true) Q E s₁) E s):wpAny (model prog w) A (eval (.Attribute e f pos) env) Q E s :=
 Attribute_any_ h (by rw[arm_eval_Attribute,hb])
end
def Mc(K:PySem.W.Frag)(ta:TE)(f:Str):TE:=fun σ H Q=>ta σ H fun x H1=>∃ a C dx fs v,x=.ref a/\H1 a=some (.ins C dx fs)/\n5 K C/\bM K C f/\fs.lookup f=some v/\Q v H1
def PB(K:PySem.W.Frag)(ta tv:TE)(f:Str):TS:=fun D σ H=>tv σ H fun y H1=>ta σ H1 fun x H2=>∃ a C dx fs,x=.ref a/\H2 a=some (.ins C dx fs)/\n5 K C/\bM K C f/\fs.length<1000 ∧
 D.nx σ (upd H2 a (.ins C dx (j6 f y fs)))
section
variable{X:Cx}{o e value:Expr}{f:Str}{pos pos' tpos:Pos}{ta tv:TE}
theorem Ii(he:PE X e ta)(hb:attributeBase e f X.env (eval e X.env)=eval e X.env):PE X (.Attribute e f pos) (Mc X.K ta f):=by
 intro pins s σ H Q I h
 refine FL hb (cB (he pins s σ H _ I h) fun u s1 ⟨x,H1,I1,rx,a,C,dx,fs,v,ex,ea,c,n,l,q⟩=>?_)
 subst ex
 obtain rfl:u=Value.ref a:=rx
 exact yB I1 ea c n l fun u' s2 I2 ru=>⟨v,H1,I2,ru,q⟩
theorem HP(ha:PE X o ta)(hv:PE X value tv)(hs:swapsWith value (some (.Attribute o f pos')) pos.line X.env=pure false):PS X (.Assign [.Attribute o f pos'] value pos) (PB X.K ta tv f):=by
 intro pins s σ H D I h
 refine plainObj_wpAny_Assign_Attribute (cB (hv pins s σ H _ I h) fun u s1 ⟨y,H1,I1,ry,q⟩=>cB (ha pins s1 σ H1 _ I1 q) fun ov s2 ⟨x,H2,I2,rx,a,C,dx,fs,ex,ea,c,n,l,q2⟩=>?_) hs
 subst ex
 obtain rfl:ov=Value.ref a:=rx
 exact xP I2 ea c n l ry fun s3 I3=>⟨σ,_,I3,q2⟩
end
section
variable{X:Cx}{pins:List (Addr×Obj)}{σ:St}{H:Hp}{s:Shared}{A:Around}{E:Value->Shared->Prop}{Q:Value->Shared->Prop}{c:Value}{b:Bool}
inductive j9 (K:PySem.W.Frag) (H:Hp):V->Value->Prop where
 | cz:j9 K H .cz (.type "NoneType")
 | bl (x:Bool):j9 K H (.bl x) (.type "bool")
 | int (i:Int):j9 K H (.int i) (.type "int")
 | str (x:Str):j9 K H (.str x) (.type "str")
 | Hj (x:UInt64):j9 K H (.Hj x) (.type "float")
 | lst {a:Addr} {xs:List V} (e:H a=some (.lst xs)):j9 K H (.ref a) (.type "list")
 | sI {a:Addr} {o:Obj} {xs:List V} (e:H a=some (.sI o (.lst xs))):j9 K H (.ref a) (.type "list")
 | tup {a:Addr} {xs:List V} (e:H a=some (.tup xs)):j9 K H (.ref a) (.type "tuple")
 | dK {a:Addr} {kvs:List (Key×V)} (e:H a=some (.dK kvs)):j9 K H (.ref a) (.type "dict")
 | dT {a:Addr} {kvs:List (List Key×V)} (e:H a=some (.dT kvs)):j9 K H (.ref a) (.type "dict")
 | ins {a C dx:Addr} {fs:List (Str×V)} (e:H a=some (.ins C dx fs)) (cl:n5 K C) (ha:PySem.W.findIn K (.ref C) "__class__" = some (some (.builtin "object.__class__")))
   (hn:PySem.W.specialIn K (.builtin "object.__class__") "__get__" = some (some (.builtin "getset_descriptor.__get__"))) (Kc:PySem.W.takesIn K (.builtin "object.__class__")=some true)
   (hm:PySem.W.mroIn K C (.type "object")=some true):j9 K H (.ref a) (.ref C)
theorem tD{x:V}{u t:Value}(I:Inv X pins σ H s)(rx:RelV x u)(ty:j9 X.K H x t)(e:PySem.W.kitOne X.K t c=some b)(h:∀ tk,Q (.bool b) { s with toks:=tk }) :
  wpAny (model X.prog X.w) A (call (.builtin "isinstance") [u,c]) Q E s:=by
 cases ty with
 | cz=>cases (show u=Value.none from rx);exact PySem.W.kia_one PySem.W.kitx_none I.j7 True.intro e (fun z=>nomatch z) h
 | bl y=>cases (show u=Value.bool y from rx);exact PySem.W.kia_one PySem.W.kitx_bool I.j7 True.intro e (fun z=>nomatch z) h
 | int i=>obtain⟨t,q⟩:=(show ∃ t,u=Value.int i t from rx);cases q;exact PySem.W.kia_one PySem.W.kitx_int I.j7 True.intro e (fun z=>nomatch z) h
 | str y=>obtain⟨t,q⟩:=(show ∃ t,u=Value.str y t from rx);cases q;exact PySem.W.kia_one PySem.W.kitx_str I.j7 True.intro e (fun z=>nomatch z) h
 | Hj y=>obtain⟨t,q⟩:=(show ∃ t,u=Value.float y t from rx);cases q;exact PySem.W.kia_one PySem.W.kitx_float I.j7 True.intro e (fun z=>nomatch z) h
 | @lst a xs ea =>
  cases (show u=Value.ref a from rx)
  obtain⟨_,_,n,_,h1⟩:=(show bT X.prog X.w H s.heap a (.lst xs) from I.bo a _ ea)
  exact PySem.W.kia_one PySem.W.kitx_list I.j7 ⟨_,h1,rfl⟩ e (fun z=>nomatch z) h
 | @sI a ob xs ea =>
  cases (show u=Value.ref a from rx)
  obtain⟨_,_,_,n,_,h1⟩:=(show bT X.prog X.w H s.heap a (.sI ob (.lst xs)) from I.bo a _ ea)
  exact PySem.W.kia_one PySem.W.kitx_list I.j7 ⟨_,h1,rfl⟩ e (fun z=>nomatch z) h
 | @tup a xs ea =>
  cases (show u=Value.ref a from rx)
  obtain⟨_,_,_,p⟩:=(show bT X.prog X.w H s.heap a (.tup xs) from I.bo a _ ea)
  obtain⟨o,h1,h2,_⟩:=p
  exact PySem.W.kia_one PySem.W.kitx_tuple I.j7 ⟨o,h1,h2⟩ e (fun z=>nomatch z) h
 | @dK a kvs ea =>
  cases (show u=Value.ref a from rx)
  obtain⟨_,_,vs,_,p⟩:=(show bT X.prog X.w H s.heap a (.dK kvs) from I.bo a _ ea)
  obtain⟨o,es,ep,h1,h2,_⟩:=p
  exact PySem.W.kia_one PySem.W.kitx_dict I.j7 ⟨o,h1,h2.1⟩ e (fun z=>nomatch z) h
 | @dT a kvs ea =>
  cases (show u=Value.ref a from rx)
  obtain⟨_,_,xs,_,o,es,ep,h1,h2,_⟩:=(show bT X.prog X.w H s.heap a (.dT kvs) from I.bo a _ ea)
  exact PySem.W.kia_one PySem.W.kitx_dict I.j7 ⟨o,h1,h2.1⟩ e (fun z=>nomatch z) h
 | @ins a C dx fs ea cl ha hn Kc hm =>
  cases (show u=Value.ref a from rx)
  obtain⟨mA,O,_⟩:=mI I.bo ea
  obtain⟨od,J,_⟩:=O.look
  exact PySem.W.kia_one (PySem.W.kitx_own (cl.get _) cl.hd ha hn Kc hm) I.j7 J e (fun z=>nomatch z) h
end
end L2
namespace L2
open PySem PySem.Spec PyProof.Rows
structure cp (k:Nat) (A:Around):Prop where
 hd:A.handled=none
 dp:A.depth+3*k+5<recursionLimit
 un:A.units+16*k+200<cLine
theorem cp.mono{j k:Nat}{A:Around}(r:cp k A)(h:j<=k):cp j A:=⟨r.hd,by have:=r.dp;omega,by have:=r.un;omega⟩
theorem cp.deeper{k:Nat}{A:Around}(r:cp (k+1) A)(env:Env):cp k (A.deeper env) :=
 ⟨r.hd,by have:=r.dp;show A.depth+1+3*k+5<_;omega,by have:=r.un;show A.units+3+16*k+200<_;omega⟩
theorem yH{A:Around}{C:Addr}{us:List Value}{kw:List (Str×Value)}:(A.under (.builtin "type.__call__" ⟨.ref C::us,kw⟩)).depth=A.depth+1:=by
 first | rfl | simp[Around.under,Code.weight,Code.isCreation,Code.isGuard,Code.isCaller,Code.frames,Code.isFrame,guardIds]
theorem yd{A:Around}{C:Addr}{us:List Value}{kw:List (Str×Value)}:(A.under (.builtin "type.__call__" ⟨.ref C::us,kw⟩)).units=A.units+1:=by
 first | rfl | simp[Around.under,Code.cUnits,Code.frames,Code.isFrame]
theorem cp.make{k:Nat}{A:Around}(r:cp (k+1) A)(C:Addr)(us:List Value)(kw:List (Str×Value)):cp k (A.under (.builtin "type.__call__" ⟨.ref C::us,kw⟩)) :=
 ⟨r.hd,by have:=r.dp;rw[yH];omega,by have:=r.un;rw[yd];omega⟩
theorem cp.depth{k:Nat}{A:Around}(r:cp k A):A.depth<recursionLimit:=by have:=r.dp;omega
theorem cp.units{k:Nat}{A:Around}(r:cp k A):A.units+64<cLine:=by have:=r.un;omega
def Ly:TA:=fun _ H Q=>Q [] H
def Lq(ta:TE)(tr:TA):TA:=fun σ H Q=>ta σ H fun x H1=>tr σ H1 fun xs H2=>Q (x::xs) H2
section
variable{X:Cx}{e:Expr}{es:List Expr}{te:TE}{t:TA}{pos:Pos}
theorem mi:PA X [] Ly:=fun _ _ _ _ H Q I h=>Calls.spliced_nil ⟨[],H,I,.nil,h⟩
theorem dF(ha:PE X e te)(hr:PA X es t)(hs:starEach (e::es) X.env=(false,eval e X.env)::starEach es X.env:=by rfl):PA X (e::es) (Lq te t):=by
 intro pos pins s σ H Q I h
 rw[hs]
 show wpAny _ _ (spliced ((false,eval e X.env)::backTo pos (starEach es X.env))) _ _ s
 refine Calls.spliced_cons (cB (ha pins s σ H _ I h) fun u s1 ⟨x,H1,I1,r1,q1⟩=>?_)
 exact cB (hr pos pins s1 σ H1 _ I1 q1) fun us s2 ⟨xs,H2,I2,r2,q2⟩=>⟨x::xs,H2,I2,.cons r1 r2,q2⟩
def Nv(t:TA):TE:=fun σ H Q=>t σ H fun xs H1=>xs.length<=sizeLine/\∀ p,H1 p=none->Q (.ref p) (upd H1 p (.tup xs))
def MR(t:TA):TE:=fun σ H Q=>t σ H fun xs H1=>xs.length<=sizeLine/\∀ p,H1 p=none->Q (.ref p) (upd H1 p (.lst xs))
theorem CJ{x1}(h:PA X es t):PE X (.Tuple es x1 pos) (Nv t):=by
 intro pins s σ H Q I hq
 refine wpAny_Tuple_spliced (cB (h pos pins s σ H _ I hq) fun us s1 ⟨xs,H1,I1,r,z,q⟩=>⟨by rw[← r.length];exact z,?_⟩)
 have hf:H1 s1.heap.objs.size=none:=I1.bo.fresh (Nat.le_refl _)
 refine⟨.ref s1.heap.objs.size,upd H1 s1.heap.objs.size (.tup xs),I1.laid (t':=s1.toks) (fun b u e=>Heap.get?_push_of_some _ e) (Nat.le_refl _) ?_,rfl,q _ hf⟩
 exact⟨z,us,r,⟨_,Heap.get?_push_size _ rfl,rfl,_,rfl⟩⟩
theorem BC(h:PA X es t):PE X (.List es pos) (MR t):=by
 intro pins s σ H Q I hq
 refine wpAny_List_spliced (cB (h pos pins s σ H _ I hq) fun us s1 ⟨xs,H1,I1,r,z,q⟩=>⟨by rw[← r.length];exact z,?_⟩)
 have hf:H1 s1.heap.objs.size=none:=I1.bo.fresh (Nat.le_refl _)
 refine⟨.ref s1.heap.objs.size,upd H1 s1.heap.objs.size (.lst xs),I1.laid (t':=s1.toks) (fun b u e=>Heap.get?_push_of_some _ e) (Nat.le_refl _) ?_,rfl,q _ hf⟩
 exact⟨z,us,0,r,Heap.get?_push_size _ rfl⟩
end
abbrev Sp:=List V->Hp->VK->XK->Prop
abbrev Gf:=List Env->Hp->Shared->XK->Value->Shared->Prop
structure yO (P:Program) (w:World) (K:PySem.W.Frag) (mg:Str->Option Value) (base:Heap) (A:Around) (outer:List Env) (s:Shared) (H:Hp):Prop where
 frames:A.frames=some outer
 mod:Mod K mg base
 bs:∀ b o,base.get? b=some o->s.heap.get? b=some o/\H b=none
 BO:base.objs.size<=s.heap.objs.size
 mh:s.heap.FunFrames base outer
 EC:∀ b∈xJ outer,H b=none
 bo:n6 P w H s.heap
 bare:AllBare s.gens
def CE(outer:List Env)(P:Program)(w:World)(H:Hp)(s:Shared)(Q:VK)(u:Value)(s':Shared):Prop :=
 ∃ v H',s'.os=s.os/\AllBare s'.gens/\Un (xJ outer) [] H H' s.heap s'.heap/\n6 P w H' s'.heap/\RelV v u/\Q v H'
def CR(CX:Gf)(outer:List Env)(P:Program)(w:World)(H:Hp)(s:Shared)(Q:VK)(E:XK)(r:Result)(s':Shared):Prop :=
 match r with
 | .ok (.ret u)=>CE outer P w H s Q u s'
 | .ok _=>False
 | .error e=>CX outer H s E e s'
structure aQ (P:Program) (w:World) (K:PySem.W.Frag) (mg:Str->Option Value) (base:Heap) (CX:Gf) (k:Nat) (f:Addr) (fd:FuncData) (ps:List Str) (sp:Sp):Prop where
 len:∀ vs H Q E,sp vs H Q E->vs.length=ps.length
 run:∀ (A:Around) (outer:List Env) (s:Shared) (H:Hp) (args:Args) (us:List Value) (vs:List V) (Q:VK) (E:XK),cp k A->yO P w K mg base A outer s H->BindsTo s fd args (ps.zip us)->Vals vs us->sp vs H Q E ->
  codeAny (model P w) A (.call (.ref f) args) (CR CX outer P w H s Q E) s
theorem yO.make{P:Program}{w:World}{K:PySem.W.Frag}{mg:Str->Option Value}{base:Heap}{A:Around}{outer:List Env}{s:Shared}{H:Hp}(e:yO P w K mg base A outer s H)(C:Addr)(us:List Value)(kw:List (Str×Value)) :
  yO P w K mg base (A.under (.builtin "type.__call__" ⟨.ref C::us,kw⟩)) outer s H:=⟨by first | exact e.frames | (simpa [Around.under,Code.envs,Code.isFrame,pushEnvs] using e.frames),e.mod,e.bs,e.BO,e.mh,e.EC,e.bo,e.bare⟩
section
variable{X:Cx}{pins:List (Addr×Obj)}{σ:St}{H:Hp}{s s':Shared}
theorem Inv.mj(I:Inv X pins σ H s):yO X.prog X.w X.K X.mg X.base X.A X.stack s H :=
 ⟨I.ok.frames,I.ok.mod,I.bs,Nat.le_trans I.ok.BO I.sz,I.stack,I.u5,I.bo,I.bare⟩
theorem Inv.after{Q:VK}{u:Value}(I:Inv X pins σ H s)(h:CE X.stack X.prog X.w H s Q u s'):EP X pins σ Q u s':=by
 obtain⟨v,H',os,bare,un,bo,r,q⟩:=h
 obtain⟨hh,g,d,t,os'⟩:=s'
 obtain rfl:os'=s.os:=os
 exact⟨v,H',I.call (h':=hh) (g':=g) (d':=d) (t':=t) (ch:=[]) un bo bare (fun b z=>absurd z (by simp)),r,q⟩
end
def Binds(K:PySem.W.Frag)(fd:FuncData)(ps:List Str)(ds:List Value):Prop :=
 ∀ (s:Shared) (us:List Value),K.In s.heap->(us++ds).length=ps.length->BindsTo s fd ⟨us,[]⟩ (ps.zip (us++ds))
theorem Binds.all{K:PySem.W.Frag}{fd:FuncData}{ps:List Str}(h:∀ us:List Value,us.length=ps.length->bindArgs fd ⟨us,[]⟩=pure (ps.zip us)):Binds K fd ps []:=fun s us _ hl=>by
 rw[List.append_nil] at hl ⊢
 exact .of_eq (h us hl)
section
variable{X:Cx}{CX:Gf}{k:Nat}{f C:Addr}{fd:FuncData}{ps:List Str}{sp:Sp}{dvs:List V}{ds:List Value}{E:XK}{x m:Str}{p pos apos:Pos}{e o:Expr}{es:List Expr}{ta:TE}{t:TA}
structure Mk (K:PySem.W.Frag) (C f:Addr):Prop where
 makes:PySem.W.makesIn K C=true
 init:PySem.W.findIn K (.ref C) "__init__" = some (some (.ref f))
 fn:PySem.W.isFn K (.ref f)=true
 kp:PySem.W.keepIn K (.ref C)=true
end
section
variable{X:Cx}{CX:Gf}{k:Nat}{f C:Addr}{fd:FuncData}{ps ks:List Str}{sp:Sp}{E:XK}{x m:Str}{p pos apos kpos:Pos}{e o:Expr}{es:List Expr}{kws:List Keyword}{te ta:TE}{t tk:TA}{nm:Option Str}
variable{g:List Value->List Value->List Value}{gV:List V->List V->List V}
end
structure az (N P:List Str) (sc:Scope):Prop where
 kind:sc.kind=.function
 co:sc.isCoroutine=false
 gen:sc.isGenerator=false
 nd:N.Nodup
 pre:N.take P.length=P
 par:∀ x∈P,sc.names.lookup x=some .local\/sc.names.lookup x=some .cell
 Je:∀ y∈sc.names,y.2≠.free
theorem tj{kindOf:Str->Option NameKind}{x:Str}:∀ {binds:List (Str×Value)} {m:Str->Option Value},(∀ v,(x,v) ∉ binds)->bindL kindOf binds m x=m x
 | [],_,_=>rfl
 | (n,v)::r,m,h=>by
  unfold bindL
  rw[tj fun w hw=>h w (List.mem_cons_of_mem _ hw)]
  split
  ·have:x≠n:=by rintro rfl;exact h v List.mem_cons_self
   simp[this]
  ·rfl
theorem tQ{kindOf:Str->Option NameKind}{x:Str}:∀ {binds:List (Str×Value)} {m:Str->Option Value},(∀ v,(x,v) ∉ binds)->bindC kindOf binds m x=m x
 | [],_,_=>rfl
 | (n,v)::r,m,h=>by
  unfold bindC
  rw[tQ fun w hw=>h w (List.mem_cons_of_mem _ hw)]
  split
  ·rfl
  ·have:x≠n:=by rintro rfl;exact h v List.mem_cons_self
   simp[this]
theorem ue{kindOf:Str->Option NameKind}{x:Str}{v:Value}:∀ {P:List Str} {vs:List Value} {i:Nat} {m:Str->Option Value},P.Nodup->P[i]?=some x->vs[i]?=some v->kindOf x=some .local ->
  bindL kindOf (P.zip vs) m x=some v
 | [],_,_,_,_,h,_,_=>by simp at h
 | _::_,[],_,_,_,_,h,_=>by simp at h
 | p::P,w::vs,0,m,nd,h1,h2,hk=>by
  simp at h1 h2;subst h1;subst h2
  show bindL kindOf ((p,w)::P.zip vs) m p=_
  unfold bindL
  rw[tj fun v hv=>(List.nodup_cons.mp nd).1 (List.of_mem_zip hv).1,if_pos hk]
  simp
 | p::P,w::vs,i+1,m,nd,h1,h2,hk=>by
  show bindL kindOf ((p,w)::P.zip vs) m x=_
  unfold bindL
  exact ue (i:=i) (List.nodup_cons.mp nd).2 (by simpa using h1) (by simpa using h2) hk
theorem tN{kindOf:Str->Option NameKind}{x:Str}{v:Value}:∀ {P:List Str} {vs:List Value} {i:Nat} {m:Str->Option Value},P.Nodup->P[i]?=some x->vs[i]?=some v->kindOf x≠some .local ->
  bindC kindOf (P.zip vs) m x=some v
 | [],_,_,_,_,h,_,_=>by simp at h
 | _::_,[],_,_,_,_,h,_=>by simp at h
 | p::P,w::vs,0,m,nd,h1,h2,hk=>by
  simp at h1 h2;subst h1;subst h2
  show bindC kindOf ((p,w)::P.zip vs) m p=_
  unfold bindC
  rw[tQ fun v hv=>(List.nodup_cons.mp nd).1 (List.of_mem_zip hv).1,if_neg hk]
  simp
 | p::P,w::vs,i+1,m,nd,h1,h2,hk=>by
  show bindC kindOf ((p,w)::P.zip vs) m x=_
  unfold bindC
  exact tN (i:=i) (List.nodup_cons.mp nd).2 (by simpa using h1) (by simpa using h2) hk
def start(N:List Str)(vs:List V):St:=vs.map some++List.replicate (N.length-vs.length) none
def pf(CX:Gf)(P:Program)(w:World)(K:PySem.W.Frag)(mg:Str->Option Value)(base:Heap)(N:List Str)(qual:Str)(scope:Scope)(f:Addr)(cd:Value)(A:Around)(outer:List Env)(s:Shared)(H:Hp)(E:XK):Cx where
 prog:=P
 w:=w
 K:=K
 mg:=mg
 base:=base
 A:=A.deeper (envOfC qual scope s.heap.objs.size f cd)
 N:=N
 s₀:=s
 H₀:=H
 env:=envOfC qual scope s.heap.objs.size f cd
 outer:=outer
 stack:=envOfC qual scope s.heap.objs.size f cd::outer
 ex:=[]
 calm:=true
 fn:=fun _=>true
 pn:=[]
 xe:=fun e s'=>wpAny (model P w) (A.deeper (envOfC qual scope s.heap.objs.size f cd)) (leaving (envOfC qual scope s.heap.objs.size f cd) e) (fun _ s''=>CX outer H s E e s'') (fun e' s''=>CX outer H s E e' s'') s'
theorem v_{sc:Scope}{n:Nat}{x:Str}(h:sc.names.lookup x=some .cell):∃ c,(cellsFrom n sc.names []).lookup x=some c:=by
 have q:=PySem.W.cellsFrom_some sc.names n [] (.inl h)
 exact Option.isSome_iff_exists.mp q
theorem A8{CX:Gf}{P:Program}{w:World}{K:PySem.W.Frag}{mg:Str->Option Value}{base:Heap}{N ps:List Str}{qual:Str}{scope:Scope}{f:Addr}{cd:Value}{A:Around}{outer:List Env}{s s1:Shared}{H:Hp}{E:XK}{us:List Value}{vs:List V}
  (S:az N ps scope) (hd:A.handled=none) (e0:yO P w K mg base A outer s H) (hl:vs.length=ps.length) (r:Vals vs us)
  (x:InCallC s s.heap.objs.size (bindL (envOfC qual scope s.heap.objs.size f cd).kindOf (ps.zip us) fun _=>none) (cellsFrom (s.heap.objs.size+1) scope.names []) (bindC (envOfC qual scope s.heap.objs.size f cd).kindOf (ps.zip us) fun _=>none) s1) :
  Inv (pf CX P w K mg base N qual scope f cd A outer s H E) [] (start N vs) H s1:=by
 have hpl:ps.length<=N.length:=by have:=congrArg List.length S.pre;rw[List.length_take] at this;omega
 obtain⟨h1,tk,rfl,hk⟩:=x.done
 have oh:∀ b:Addr,b ∉ (pf CX P w K mg base N qual scope f cd A outer s H E).ex:=fun b z=>absurd (show b∈([]:List Addr) from z) (by simp)
 refine⟨⟨e0.mod,S.kind,rfl,rfl,Nat.le_refl _,fun y z c h1 h2=>?_,fun y hy=>?_,fun y c _ h=>?_,fun _=>hd,Around.frames_deeper e0.frames,.inr ⟨rfl,rfl⟩,fun b z=>absurd z (oh b),e0.bs,e0.BO,fun b _ _=>oh b,fun b z=>absurd z (oh b),e0.mh,e0.EC⟩,
  rfl,e0.bare,Un.kept hk,⟨_,x.toInCall.ns,fun i y v h1 h2 h3=>?_⟩,fun y c h=>⟨_,x.cell y c h⟩,e0.bo.fresh (Nat.le_refl _),fun y c h=>?_,fun p hp=>absurd (show p∈([]:List (Addr×Obj)) from hp) (by simp),e0.bo.kept hk,?_⟩
 ·exact name_of_addr x.apart (PySem.mem_of_lookup h1) (PySem.mem_of_lookup h2)
 ·have hy:scope.names.lookup y=some .cell\/scope.names.lookup y=some .free:=hy
  rcases hy with hy | hy
  ·exact v_ hy
  ·exact absurd rfl (S.Je _ (PySem.mem_of_lookup hy))
 ·exact Nat.le_of_lt (x.above y c (PySem.mem_of_lookup h))
 ·have hi:i<vs.length:=by
   unfold start at h2
   by_cases hi:i<vs.length
   ·exact hi
   ·rw[List.getElem?_append_right (by simpa using hi)] at h2
    rw[List.getElem?_replicate] at h2
    split at h2 <;> cases h2
  have ha:vs[i]?=some v:=by
   unfold start at h2
   rw[List.getElem?_append_left (by simpa using hi),List.getElem?_map] at h2
   cases e:vs[i]? with
   | none=>rw[e] at h2;cases h2
   | some a=>rw[e] at h2;cases h2;rfl
  obtain⟨u,hu,rv⟩:=r.get ha
  have hp:ps[i]?=some y:=by
   rw[← S.pre,List.getElem?_take_of_lt (by omega)];exact h1
  have ndP:ps.Nodup:=by rw[← S.pre];exact S.nd.sublist (List.take_sublist _ _)
  refine⟨u,rv,?_⟩
  rcases S.par y (List.mem_of_getElem? hp) with k | k
  ·exact .inl ⟨k,ue ndP hp hu k⟩
  ·obtain⟨c,e⟩:=v_ (n:=s.heap.objs.size+1) k
   refine .inr ⟨.inl k,c,e,?_⟩
   have q:=x.cell y c e
   rw[tN ndP hp hu (by show scope.names.lookup y≠_;rw[k];decide)] at q
   exact q
 ·exact e0.bo.fresh (Nat.le_of_lt (x.above y c (PySem.mem_of_lookup h)))
 ·unfold start
  show _=N.length
  rw[List.length_append,List.length_map,List.length_replicate]
  omega
theorem LB{CX:Gf}{P:Program}{w:World}{K:PySem.W.Frag}{mg:Str->Option Value}{base:Heap}{k:Nat}{f:Addr}{name qual:Str}{params:Arguments}{body:List Stmt}{scope:Scope}{dV kV doc pm cdv ct oc:Value}{an od:Option Addr}
  {osl:Array (Option Value)} {N ps:List Str} {sp:Sp} (lk:K.lookup f=some ⟨oc,od,.func (PySem.W.fnOf name qual params body scope dV kV doc pm an cdv ct),osl⟩) (hcd:PySem.W.codeIn K cdv qual=true) (S:az N ps scope)
  (len:∀ vs H Q E,sp vs H Q E->vs.length=ps.length)
  (hbody:∀ (A:Around) (outer:List Env) (s:Shared) (H:Hp) (vs:List V) (Q:VK) (E:XK),cp k (A.deeper (envOfC qual scope s.heap.objs.size f cdv))->sp vs H Q E ->
   ∃ t,l_ (pf CX P w K mg base N qual scope f cdv A outer s H E) body t/\t { nx:=fun _ H'=>Q .cz H',rt:=Q } (start N vs) H) :
  aQ P w K mg base CX (k+1) f (PySem.W.fnOf name qual params body scope dV kV doc pm an cdv ct) ps sp:=by
 refine⟨len,fun A outer s H args us vs Q E hr e0 hb r hsp=>?_⟩
 have hl:=len _ _ _ _ hsp
 have KX:K.In s.heap:=e0.mod.G4.keeps fun b o e=>(e0.bs b o e).1
 have lim:s.heap.NoLimit:=e0.mod.nolimit.keeps fun b o e=>(e0.bs b o e).1
 have hkind:∀ y∈ps.zip us,scope.names.lookup y.1=some .local\/(scope.names.lookup y.1=some .cell/\((cellsFrom (s.heap.objs.size+1) scope.names []).lookup y.1).isSome=true):=fun ⟨n,v⟩ hy=>by
  rcases S.par n (List.of_mem_zip hy).1 with q | q
  ·exact .inl q
  ·exact .inr ⟨q,PySem.W.cellsFrom_some _ _ _ (.inl q)⟩
 refine codeAny_call_function hr.depth (KX _ _ lk) rfl S.co S.gen rfl (PySem.W.codeRec_of KX hcd) (hb _ _ _ _ ?_)
 refine wpAny_newFunctionEnv_cells S.kind hkind fun env he s1 x=>?_
 subst he
 refine⟨lim.keeps x.toInCall.keep,codeAny_func ?_⟩
 obtain⟨t,ht,hq⟩:=hbody A outer s H vs Q E (hr.deeper _) hsp
 have I:Inv (pf CX P w K mg base N qual scope f cdv A outer s H E) [] (start N vs) H s1:=A8 S hr.hd e0 hl r x
 refine wpAny_mono (ht [] s1 (start N vs) H _ I hq) (fun fl s' hs=>?_) fun e s' hs=>hs
 have fin:∀ {σ':St} {H':Hp} {v:V} {u:Value},Inv (pf CX P w K mg base N qual scope f cdv A outer s H E) [] σ' H' s'->RelV v u->Q v H'->CE outer P w H s Q u s' :=
  fun {σ' H' v u} J rv q=>⟨v,H',J.os,J.bare,J.base,J.bo,rv,q⟩
 cases fl with
 | ret u =>
  obtain⟨v,σ',H',J,rv,q⟩:=hs
  exact fin J rv q
 | next =>
  obtain⟨σ',H',J,q⟩:=hs
  exact fin (v:=V.cz) (u:=Value.none) J rfl q
 | brk =>
  obtain⟨_,_,_,q⟩:=hs
  exact False.elim q
 | cont =>
  obtain⟨_,_,_,q⟩:=hs
  exact False.elim q
end L2
namespace L2
open PySem PySem.Spec PyProof.Rows
section
variable{X:Cx}{x:Str}{p pos:Pos}{e:Expr}{es:List Expr}{t:TA}{id T:String}{r:List V->Hp->VK->Prop}
def Mg(r:List V->Hp->VK->Prop)(t:TA):TE:=fun σ H Q=>t σ H fun vs H1=>r vs H1 Q
theorem ke(hc:cN X (.builtin id) r)(hg:Gl X x)(hm:X.mg x=none)(hv:bootBuiltins x=some (.builtin id))(ha:PA X (e::es) t)(hn:x ≠ "__name__" := by decide)(hdb:(x==("__debug__" : Str))=false:=by decide)
  (he:starEach (e::es) X.env=(false,eval e X.env)::starEach es X.env:=by rfl) (hpl:(backTo pos (starEach es X.env)).any (·.1)=false:=by rfl):PE X (.Call (.Name x p) (e::es) [] pos) (Mg r t):=by
 intro pins s σ H Q I h
 refine wpAny_Call_Name_kw (jN I hg hm hv ?_ hn hdb)
 exact PyProof.Rows.callWith_builtin1 (cB (ha pos pins s σ H _ I h) fun us s1 ⟨vs,H1,I1,r1,q1⟩=>hc pins s1 σ H1 vs us Q I1 r1 q1) he hpl
theorem Ab(hc:cN X (.type T) r)(hg:Gl X x)(hm:X.mg x=none)(hv:bootBuiltins x=some (.type T))(ha:PA X (e::es) t)(hn:x ≠ "__name__" := by decide)(hdb:(x==("__debug__" : Str))=false:=by decide)
  (he:starEach (e::es) X.env=(false,eval e X.env)::starEach es X.env:=by rfl) (hpl:(backTo pos (starEach es X.env)).any (·.1)=false:=by rfl):PE X (.Call (.Name x p) (e::es) [] pos) (Mg r t):=by
 intro pins s σ H Q I h
 refine wpAny_Call_Name_kw (jN I hg hm hv ?_ hn hdb)
 exact PyProof.Rows.callWith_type1 (cB (ha pos pins s σ H _ I h) fun us s1 ⟨vs,H1,I1,r1,q1⟩=>hc pins s1 σ H1 vs us Q I1 r1 q1) he hpl
end
end L2
namespace HT
open PySem PyProof.Rows
section
open PySem.SeqAt
open PySem.AutoSeq1 (wpAny_loadPart')
open PySem.MeetsSeq PySem.MeetsSeq2 PySem.MeetsSeq3
end
section
variable{prog:Program}{w:World}{A:Around}{E:Value->Shared->Prop}{s:Shared}
theorem E4{t b:Addr}{vs ws:List Value}{Q:Value->Shared->Prop}(ht:IsTup s.heap t vs.toArray)(hb:IsTup s.heap b ws.toArray)(hv:vs≠[])
  (h1:ws=[]->Q (.ref t) s) (h2:ws≠[]->Q (.ref s.heap.objs.size) { s with heap:=s.heap.push { cls:=.type "tuple", data:=.seq (vs++ws).toArray } })
  (hsz:vs.length+ws.length<=sizeLine):wpAny (model prog w) A (binaryOp .Add (.ref t) (.ref b)) Q E s:=by
 obtain⟨⟨cls,dd,data,sl⟩,ho,hc,n,hd⟩:=id ht
 obtain⟨⟨cls2,dd2,data2,sl2⟩,ho2,hc2,n2,hd2⟩:=id hb
 simp only at hc hd hc2 hd2
 subst hc hd hc2 hd2
 have e:vs.toArray++ws.toArray=(vs++ws).toArray:=by simp
 by_cases hw:ws=[]
 ·exact concat_meets ⟨_,ho,rfl⟩ ⟨_,ho2,rfl⟩ noFill_tuple_add seq_tuple_add PySem.F.slot_tuple_add PySem.F.entry_tuple_add (PySem.F.args_tuple_add_2 _ _)
   (tuple_addW1 t b vs.toArray ws.toArray n n2 dd dd2 sl sl2 (by simpa using hv) (by simp[hw])) ⟨ho,ho2,h1 hw⟩
 ·refine concat_meets ⟨_,ho,rfl⟩ ⟨_,ho2,rfl⟩ noFill_tuple_add seq_tuple_add PySem.F.slot_tuple_add PySem.F.entry_tuple_add (PySem.F.args_tuple_add_2 _ _)
   (tuple_addW2 t b vs.toArray ws.toArray n n2 dd dd2 sl sl2 (by simpa using hv) (by simpa using hw) (by rw[List.size_toArray,List.size_toArray];exact hsz)) ⟨ho,ho2,?_⟩
  rw[e]
  exact h2 hw
def de(n d:Nat):Option Int->Nat
 | none=>d
 | some v=>if v<0 then (v+(n:Int)).toNat else min v.toNat n
theorem v7(n d:Nat):de n d none=d:=rfl
theorem pL(n d k:Nat):de n d (some (k:Int))=min k n:=by
 show (if (k:Int)<0 then ((k:Int)+(n:Int)).toNat else min (k:Int).toNat n)=min k n
 rw[if_neg (by omega),Int.toNat_natCast]
theorem JO(n d:Nat)(hd:d<=n)(o:Option Int):de n d o<=n:=by
 cases o with
 | none=>exact hd
 | some v =>
  show (if v<0 then (v+(n:Int)).toNat else min v.toNat n)<=n
  by_cases hv:v<0
  ·rw[if_pos hv];omega
  ·rw[if_neg hv];exact Nat.min_le_right _ _
theorem z6(v:Int)(n d:Nat):(if v<0 then max (v+(n:Int)) 0 else min v (n:Int))=((de n d (some v):Nat):Int):=by
 show (if v<0 then max (v+(n:Int)) 0 else min v (n:Int))=(((if v<0 then (v+(n:Int)).toNat else min v.toNat n):Nat):Int)
 by_cases hv:v<0
 ·simp only[if_pos hv];omega
 ·simp only[if_neg hv];omega
theorem xX(lo hi:Option Int)(n:Nat):Builtin.Slice.sliceAdjust lo hi 1 (n:Int)=(((de n 0 lo:Nat):Int),((de n n hi:Nat):Int)):=by
 have h1:¬ ((1:Int)<0):=by omega
 unfold Builtin.Slice.sliceAdjust
 simp only[h1,if_false]
 refine Prod.ext ?_ ?_
 ·cases lo with
  | none=>rfl
  | some v=>exact z6 v n 0
 ·cases hi with
  | none=>rfl
  | some v=>exact z6 v n n
theorem yn(i j:Nat):Builtin.Slice.slicePlaces (i:Int) (j:Int) 1=j-i:=by
 unfold Builtin.Slice.slicePlaces
 have h1:(1:Int)>0:=by omega
 simp only[h1,if_true,Int.ediv_one]
 split <;> omega
theorem qx{v:Value}{o:Option Int}{Q:Option Int->Shared->Prop}(p:IsPart v o)(h:Q o s):wpAny (model prog w) A (Builtin.Slice.slicePartIndex v) Q E s:=by
 cases p with
 | none=>exact slicePart_none h
 | int i t=>exact slicePart_int h
theorem jf{sl:Addr}{vl vu:Value}{lo hi:Option Int}{n:Nat}{Q:Int×Int×Nat->Shared->Prop}(hs:s.heap.IsSliceOf sl vl vu .none)(pl:IsPart vl lo)(pu:IsPart vu hi)
  (h:Q (((de n 0 lo:Nat):Int),1,de n n hi-de n 0 lo) s):wpAny (model prog w) A (Builtin.Slice.sliceApplied (.ref sl) (pure (n:Int))) Q E s:=by
 obtain⟨os,hos,hcs,hds⟩:=id hs
 unfold Builtin.Slice.sliceApplied Builtin.Slice.sliceFields
 refine wpAny_bind (wpAny_bind (wpAny_field hos hds (x:=vl) rfl (wpAny_bind (wpAny_field hos hds (x:=vu) rfl (wpAny_bind (wpAny_field hos hds (x:=.none) rfl (wpAny_pure ?_)))))))
 refine wpAny_bind (slicePart_none ?_)
 show wpAny _ _ (if ((1:Int)==0)=true then _ else _) _ _ s
 rw[if_neg (by decide)]
 refine wpAny_bind (qx pl (wpAny_bind (qx pu (wpAny_bind (wpAny_pure ?_)))))
 show wpAny _ _ (match Builtin.Slice.sliceAdjust lo hi 1 (n:Int) with | (lo,hi)=>pure (lo,(1:Int),Builtin.Slice.slicePlaces lo hi 1)) _ _ s
 rw[xX lo hi n]
 show wpAny _ _ (pure (((de n 0 lo:Nat):Int),(1:Int),Builtin.Slice.slicePlaces ((de n 0 lo:Nat):Int) ((de n n hi:Nat):Int) 1)) _ _ s
 rw[yn]
 exact wpAny_pure h
theorem Eo(xs:Array Value)(i k:Nat):((List.range k).filterMap fun (m:Nat)=>xs[((i:Int)+(m:Int)*1).toNat]?).toArray=((xs.toList.drop i).take k).toArray:=by
 have e:(fun (m:Nat)=>xs[((i:Int)+(m:Int)*1).toNat]?)=fun m=>xs[i+m]?:=by
  funext m
  have:((i:Int)+(m:Int)*1).toNat=i+m:=by omega
  rw[this]
 rw[e]
 have:=pick_run xs i k
 rw[List.filterMap_map] at this
 have e2:((fun x=>xs[x]?)∘fun x=>i+x)=fun m=>xs[i+m]?:=rfl
 rw[e2] at this
 rw[this]
theorem mK{t sl:Addr}{items:Array Value}{vl vu:Value}{lo hi:Option Int}{Q:Value->Shared->Prop}(ht:IsTup s.heap t items)(hs:s.heap.IsSliceOf sl vl vu .none)(pl:IsPart vl lo)(pu:IsPart vu hi)
  (hw:¬ (de items.size 0 lo=0/\de items.size items.size hi=items.size))
  (h:Q (.ref s.heap.objs.size) { s with heap:=s.heap.push { cls:=.type "tuple", data:=.seq ((items.toList.drop (de items.size 0 lo)).take (de items.size items.size hi-de items.size 0 lo)).toArray } })
  (hsz:items.size<=sizeLine):wpAny (model prog w) A (getItem (.ref t) (.ref sl)) Q E s:=by
 have htake:sizeOk (.seq ((items.toList.drop (de items.size 0 lo)).take (de items.size items.size hi-de items.size 0 lo)).toArray):=by
  show ((items.toList.drop (de items.size 0 lo)).take (de items.size items.size hi-de items.size 0 lo)).toArray.size<=sizeLine
  rw[List.size_toArray,List.length_take,List.length_drop,Array.length_toList]
  omega
 have hj:de items.size items.size hi<=items.size:=JO _ _ (Nat.le_refl _) hi
 obtain⟨os,hos,hcs,hds⟩:=id hs
 have hTs:s.TypeIs (.ref sl) "slice" := ⟨os,hos,hcs⟩
 unfold getItem
 try with_reducible refine wpAny_holding ?_
 first | refine wpAny_bind (wpAny_pure ?_) | skip
 refine wpAny_bind (wpAny_sequenceKey ht.typeIs (by decide) ?_)
 refine wpAny_bind (wpAny_callSpecial?_slot (name:=Str.ofString "__getitem__") ht.typeIs PyProof.Rows.slot_tuple_getitem
  (wpAny_call_entry PyProof.Rows.slot_tuple_getitem ht.typeIs entry_tuple_getitem ?_ (args_tuple_getitem _ _)))
 show wpAny _ _ (Builtin.Tuple.tupleItemsOf (.ref t) >>= _) _ _ s
 refine wpAny_bind (tupleItemsOf_ ht ?_)
 refine wpAny_bind (wpAny_typeOf hTs ?_)
 rw[if_pos (by decide)]
 refine wpAny_bind (jf hs pl pu ?_)
 have hno:¬ ((((de items.size 0 lo:Nat):Int)==0&&(1:Int)==1&&(de items.size items.size hi-de items.size 0 lo)==items.size)=true):=by
  intro q
  rw[Bool.and_eq_true,Bool.and_eq_true] at q
  have q1:((de items.size 0 lo:Nat):Int)=0:=eq_of_beq q.1.1
  have q2:de items.size items.size hi-de items.size 0 lo=items.size:=eq_of_beq q.2
  exact hw ⟨by omega,by omega⟩
 show wpAny _ _ (if (((de items.size 0 lo:Nat):Int)==0&&(1:Int)==1&&(de items.size items.size hi-de items.size 0 lo)==items.size)=true then _ else _) _ _ s
 rw[if_neg hno,Eo]
 first
  | exact wpAny_bind (m:=Builtin.Tuple.tupleExact _) (wpAny_newObj_type (wpAny_pure ⟨_,rfl,wpAny_pure h⟩) htake)
  | exact wpAny_bind (m:=Builtin.Tuple.tupleExact _) (wpAny_newObj_type (wpAny_bind (wpAny_pure (wpAny_pure ⟨_,rfl,wpAny_pure h⟩))) htake)
  | exact wpAny_bind (wpAny_bind (m:=Builtin.Tuple.tupleExact _) (wpAny_newObj_type (wpAny_pure (wpAny_pure ⟨_,rfl,wpAny_pure h⟩)) htake))
  | exact wpAny_bind (wpAny_bind (m:=Builtin.Tuple.tupleExact _) (wpAny_newObj_type (wpAny_pure ⟨_,rfl,wpAny_pure h⟩) htake))
end
end HT
namespace L2
open PySem PySem.Spec PyProof.Rows
abbrev TO:=St->Hp->(Option Int->Hp->Prop)->Prop
def PO(X:Cx)(e:Option Expr)(t:TO):Prop :=
 ∀ (pins:List (Addr×Obj)) (s:Shared) (σ:St) (H:Hp) (Q:Option Int->Hp->Prop),Inv X pins σ H s->t σ H Q ->
  wpAny (model X.prog X.w) X.A (evalPart e X.env) (fun u s'=>∃ o H',Inv X pins σ H' s'/\IsPart u o/\Q o H') X.xe s
def FC:TO:=fun _ H Q=>Q none H
def Lf(t:TE):TO:=fun σ H Q=>t σ H fun x H1=>∃ i,x=.int i/\Q (some i) H1
theorem intsAre_of{ns:List Int}:∀ {us:List Value},Vals (ns.map V.int) us->IntsAre us ns:=by
 induction ns with
 | nil=>intro us r;rw[List.map_nil] at r;cases r;exact .nil
 | cons n ns ih =>
  intro us r
  rw[List.map_cons] at r
  cases r with
  | cons r1 r2 =>
   obtain⟨t,e⟩:=r1
   subst e
   exact .cons n t (ih r2)
section
variable{X:Cx}{e:Expr}{te:TE}{lo hi:Option Expr}{tl th:TO}{pos p2:Pos}
theorem Gv:PO X none FC:=by
 intro pins s σ H Q I h
 rw[evalPart_none]
 exact wpAny_pure ⟨none,H,I,.none,h⟩
theorem Fb(h:PE X e te):PO X (some e) (Lf te):=by
 intro pins s σ H Q I hw
 rw[evalPart_some]
 refine cB (h pins s σ H _ I hw) fun u s1 ⟨x,H1,I1,r1,q1⟩=>?_
 obtain⟨i,rfl,q⟩:=q1
 obtain⟨t,rfl⟩:=r1
 exact⟨some i,H1,I1,.int i t,q⟩
def EB(X:Cx)(r:V->Option Int->Option Int->Hp->VK->Prop):Prop :=
 ∀ (pins:List (Addr×Obj)) (s:Shared) (σ:St) (H:Hp) (x:V) (v vl vu:Value) (lo hi:Option Int) (sl:Addr) (Q:VK),Inv X pins σ H s->RelV x v->s.heap.IsSliceOf sl vl vu .none->IsPart vl lo->IsPart vu hi->r x lo hi H Q ->
  ∃ T id,typeLookup (.type T) "__getitem__" = pure (some (.builtin id))/\s.TypeIs v T/\wpAny (model X.prog X.w) X.A (getItem v (.ref sl)) (EP X pins σ Q) X.xe s
theorem EB.or{r r':V->Option Int->Option Int->Hp->VK->Prop}(h:EB X r)(h':EB X r'):EB X (fun x lo hi H Q=>r x lo hi H Q\/r' x lo hi H Q):=by
 intro pins s σ H x v vl vu lo hi sl Q I rx hs pl pu q
 rcases q with q | q
 ·exact h pins s σ H x v vl vu lo hi sl Q I rx hs pl pu q
 ·exact h' pins s σ H x v vl vu lo hi sl Q I rx hs pl pu q
def U0(r:V->Option Int->Option Int->Hp->VK->Prop)(te:TE)(tl th:TO):TE:=fun σ H Q=>te σ H fun x H1=>tl σ H1 fun l H2=>th σ H2 fun u H3=>r x l u H3 Q
theorem Ej{r:V->Option Int->Option Int->Hp->VK->Prop}(hr:EB X r)(he:PE X e te)(hl:PO X lo tl)(hu:PO X hi th):PE X (.Subscript e (.Slice lo hi none p2) pos) (U0 r te tl th):=by
 intro pins s σ H Q I h
 refine Subscript_ (cB (he pins s σ H _ I h) fun v s1 ⟨x,H1,I1,r1,q1⟩=>?_)
 refine wpAny_Slice (cB (hl pins s1 σ H1 _ I1 q1) fun vl s2 ⟨l,H2,I2,pl,q2⟩=>cB (hu pins s2 σ H2 _ I2 q2) fun vu s3 ⟨u,H3,I3,pu,q3⟩=>?_)
 rw[evalPart_none]
 refine wpAny_pure ?_
 have I4:Inv X pins σ H3 { s3 with heap:=s3.heap.push { cls:=.type "slice", data:=.fields #[vl,vu,.none] } }:=I3.kept (t':=s3.toks) fun b ob q=>Heap.get?_push_of_some _ q
 obtain⟨T,id,hT,ht,hg⟩:=hr pins { s3 with heap:=s3.heap.push { cls:=.type "slice", data:=.fields #[vl,vu,.none] } } σ H3 x v vl vu l u s3.heap.objs.size Q I4 r1 (Heap.IsSliceOf.new ..) pl pu q3
 show wpAny (model X.prog X.w) X.A (subscriptTail e (.Slice lo hi none p2) v (.ref s3.heap.objs.size)) (EP X pins σ Q) X.xe { s3 with heap:=s3.heap.push { cls:=.type "slice", data:=.fields #[vl,vu,.none] } }
 exact tail_any (ops:=[.ref s3.heap.objs.size,v]) ht hT hg (by with_unfolding_all rfl)
def wo(xs:List V)(lo hi:Option Int):List V:=(xs.drop (HT.de xs.length 0 lo)).take (HT.de xs.length xs.length hi-HT.de xs.length 0 lo)
theorem oP(xs:List V)(lo hi:Option Int):(wo xs lo hi).length<=xs.length:=by
 unfold wo
 rw[List.length_take,List.length_drop]
 omega
def Q8(K:PySem.W.Frag):V->Option Int->Option Int->Hp->VK->Prop:=fun x lo hi H Q=>∃ a xs,x=.ref a/\gU K H a xs ∧
 ¬ (HT.de xs.length 0 lo=0/\HT.de xs.length xs.length hi=xs.length)/\∀ p,H p=none->Q (.ref p) (upd H p (.tup (wo xs lo hi)))
theorem Iu:EB X (Q8 X.K):=by
 intro pins s σ H x v vl vu lo hi sl Q I rx hs pl pu h
 obtain⟨a,xs,rfl,hx,hw,q⟩:=h
 cases rx
 obtain⟨its,r,ht,hz⟩:=I.tuple hx
 have hlen:its.toArray.size=xs.length:=by rw[List.size_toArray];exact r.length.symm
 refine⟨"tuple", _,PyProof.Rows.slot_tuple_getitem.lookup,ht.typeIs,?_⟩
 refine HT.mK ht hs pl pu (by rw[hlen];exact hw) ?_ (by rw[hlen];exact hz)
 rw[hlen]
 refine⟨.ref s.heap.objs.size,_,I.laid (t':=s.toks) (o:=.tup (wo xs lo hi)) (fun b ob q=>Heap.get?_push_of_some _ q) (Nat.le_refl _) ?_,rfl,q _ (I.bo.fresh (Nat.le_refl _))⟩
 exact⟨Nat.le_trans (oP xs lo hi) hz,_,(r.drop (HT.de xs.length 0 lo)).take (HT.de xs.length xs.length hi-HT.de xs.length 0 lo),IsTup.new _ _⟩
def GJ(K:PySem.W.Frag):R2:=fun x y H Q=>∃ a b xs ys,x=.ref a/\y=.ref b/\gU K H a xs/\gU K H b ys/\xs≠[]/\xs.length+ys.length<=sizeLine ∧
 (ys=[]->Q (.ref a) H)/\(ys≠[]->∀ p,H p=none->Q (.ref p) (upd H p (.tup (xs++ys))))
theorem Vals.ni{xs:List V}{us:List Value}(r:Vals xs us):us=[] ↔ xs=[]:=by
 cases r with
 | nil=>simp
 | cons _ _=>simp
theorem FO:gq X (binaryOp .Add) (GJ X.K):=by
 intro pins s σ H x y v u Q I rx ry h
 obtain⟨a,b,xs,ys,rfl,rfl,ha,hb,hx,hz,q1,q2⟩:=h
 cases rx
 cases ry
 obtain⟨its,r1,p1,_⟩:=I.tuple ha
 obtain⟨its2,r2,p2,_⟩:=I.tuple hb
 refine HT.E4 p1 p2 (fun z=>hx (r1.ni.mp z)) (fun z=>⟨.ref a,H,I,rfl,q1 (r2.ni.mp z)⟩) (fun z=>?_) (by rw[← r1.length,← r2.length];exact hz)
 refine⟨.ref s.heap.objs.size,_,I.laid (t':=s.toks) (o:=.tup (xs++ys)) (fun b ob q=>Heap.get?_push_of_some _ q) (Nat.le_refl _) ?_,rfl,q2 (fun w=>z (r2.ni.mpr w)) _ (I.bo.fresh (Nat.le_refl _))⟩
 exact⟨by rw[List.length_append];exact hz,_,r1.append r2,IsTup.new _ _⟩
end
end L2
namespace L2
open PySem PySem.Spec PyProof.Rows
def BB(n:Nat)(i:Int):Option Nat:=if 0<=i then (if i<n then some i.toNat else none) else if -(n:Int)<=i then some (i+n).toNat else none
def vJ{α:Type}(xs:List α)(i:Int):Option α:=(BB xs.length i).bind fun j=>xs[j]?
theorem zG{n:Nat}{i:Int}{j:Nat}(h:BB n i=some j):seqIndex? i n=some j/\j<n/\-(n:Int)<=i/\i<n:=by
 unfold BB at h
 by_cases h0:0<=i
 ·rw[if_pos h0] at h
  by_cases h1:i<n
  ·rw[if_pos h1] at h
   have e:i.toNat=j:=Option.some.inj h
   exact⟨by rw[seqIndex_of h0 h1,e],by omega,by omega,h1⟩
  ·rw[if_neg h1] at h;cases h
 ·rw[if_neg h0] at h
  by_cases h1:-(n:Int)<=i
  ·rw[if_pos h1] at h
   have e:(i+n).toNat=j:=Option.some.inj h
   exact⟨by rw[seqIndex_neg (by omega) h1,e],by omega,h1,by omega⟩
  ·rw[if_neg h1] at h;cases h
theorem vd{α:Type}{xs:List α}{i:Int}{v:α}(h:vJ xs i=some v):∃ j,seqIndex? i xs.length=some j/\xs[j]?=some v/\j<xs.length/\-(xs.length:Int)<=i/\i<xs.length:=by
 unfold vJ at h
 cases e:BB xs.length i with
 | none=>rw[e] at h;cases h
 | some j =>
  rw[e] at h
  obtain⟨h1,h2,h3,h4⟩:=zG e
  exact⟨j,h1,h,h2,h3,h4⟩
theorem uO{α:Type}{xs:List α}{j:Nat}{v:α}(h:xs[j]?=some v):vJ xs (j:Int)=some v:=by
 have hj:j<xs.length:=(List.getElem?_eq_some_iff.mp h).1
 have e:BB xs.length (j:Int)=some j:=by
  unfold BB
  rw[if_pos (by omega),if_pos (by omega)];simp
 unfold vJ;rw[e];exact h
def um(b:Expr):Prop:=∀ o i,subscripted b false o i=operate [o,i] (getItem o i)
def Gz(X:Cx)(r:R2):Prop :=
 ∀ (value slice:Expr) (pins:List (Addr×Obj)) (s:Shared) (σ:St) (H:Hp) (x y:V) (v u:Value) (Q:VK),Inv X pins σ H s->RelV x v->RelV y u->r x y H Q ->
  subscripted slice false v u=operate [v,u] (getItem v u)->wpAny (model X.prog X.w) X.A (subscriptTail value slice v u) (EP X pins σ Q) X.xe s
def Uy(X:Cx)(id:String)(r:V->List V->Hp->VK->Prop):Prop :=
 ∀ (pins:List (Addr×Obj)) (s:Shared) (σ:St) (H:Hp) (x:V) (xs:List V) (v:Value) (us:List Value) (Q:VK),Inv X pins σ H s->RelV x v->Vals xs us->r x xs H Q ->
  wpAny (model X.prog X.w) X.A (call (.builtin id) (v::us)) (EP X pins σ Q) X.xe s
section
variable{X:Cx}{a b:Expr}{ta tb:TE}{pos:Pos}
theorem Gz.or{r r':R2}(h:Gz X r)(h':Gz X r'):Gz X (fun x y H Q=>r x y H Q\/r' x y H Q):=by
 intro value slice pins s σ H x y v u Q I rx ry q hs
 rcases q with q | q
 ·exact h value slice pins s σ H x y v u Q I rx ry q hs
 ·exact h' value slice pins s σ H x y v u Q I rx ry q hs
theorem Lk{r:R2}(hr:Gz X r)(ha:PE X a ta)(hb:PE X b tb)(hs:um b):PE X (.Subscript a b pos) (Lj r ta tb):=by
 intro pins s σ H Q I h
 exact Subscript_ (Hq ha hb I h fun v u s2 x y H2 I2 rx ry q=>hr a b pins s2 σ H2 x y v u Q I2 rx ry q (hs _ _))
def Kj(K:PySem.W.Frag):R2:=fun x y H Q=>∃ p xs i v,x=.ref p/\y=.int i/\i4 K H p xs/\vJ xs i=some v/\Q v H
def K2(K:PySem.W.Frag):R2:=fun x y H Q=>∃ p xs i v,x=.ref p/\y=.int i/\gU K H p xs/\vJ xs i=some v/\Q v H
def Lp:R2:=fun x y H Q=>∃ z i c,x=.str z/\y=.int i/\z.length<=sizeLine/\vJ z.cps.toList i=some c/\Q (.str ⟨#[c]⟩) H
theorem EK:Gz X (Kj X.K):=by
 intro value slice pins s σ H x y v u Q I rx ry h hs
 obtain⟨p,xs,i,z,rfl,rfl,hq,he,q⟩:=h
 cases rx
 obtain⟨t,rfl⟩:=ry
 obtain⟨its,r,pl,hz⟩:=I.list hq
 obtain⟨j,h1,h2,h3,h4,h5⟩:=vd he
 obtain⟨w,ew,rw'⟩:=r.get h2
 have hl:=r.length
 have hn:=ou
 have fin:EP X pins σ Q w s:=⟨z,H,I,rw',q⟩
 by_cases h0:0<=i
 ·have hj:i.toNat=j:=by
   rw[seqIndex_of h0 h5] at h1
   exact Option.some.inj h1
  exact item_listR pl.isList h0 (by omega) (by rw[hj];simpa using ew) fin hs
 ·have hj:(i+(its.toArray.size:Int)).toNat=j:=by
   rw[seqIndex_neg (by omega) h4] at h1
   rw[List.size_toArray,← hl]
   exact Option.some.inj h1
  exact subscriptTail_builtinR (x:=w) pl.isList.typeIs slot_list_getitem.lookup
   (wpAny_getItem_list_neg (Q:=fun r s'=>r=w/\EP X pins σ Q r s') pl.isList (by omega) (by rw[List.size_toArray] <;> omega) (by omega) (by rw[hj];simpa using ew) ⟨rfl,fin⟩) hs
theorem Iw:Gz X (K2 X.K):=by
 intro value slice pins s σ H x y v u Q I rx ry h hs
 obtain⟨p,xs,i,z,rfl,rfl,hq,he,q⟩:=h
 cases rx
 obtain⟨t,rfl⟩:=ry
 obtain⟨its,r,pl,hz⟩:=I.tuple hq
 obtain⟨j,h1,h2,h3,h4,h5⟩:=vd he
 obtain⟨w,ew,rw'⟩:=r.get h2
 have hl:=r.length
 have hn:=ou
 have fin:EP X pins σ Q w s:=⟨z,H,I,rw',q⟩
 exact subscriptTail_builtinR (x:=w) pl.typeIs slot_tuple_getitem.lookup
  (getItem_tuple (j:=j) (Q:=fun r s'=>r=w/\EP X pins σ Q r s') pl (by omega) (by omega) (by rw[List.size_toArray,← hl];exact h1) (by simpa using ew) ⟨rfl,fin⟩) hs
theorem ID:Gz X Lp:=by
 intro value slice pins s σ H x y v u Q I rx ry h hs
 obtain⟨z,i,c,rfl,rfl,hz,he,q⟩:=h
 obtain⟨t,rfl⟩:=rx
 obtain⟨t',rfl⟩:=ry
 obtain⟨j,h1,h2,h3,h4,h5⟩:=vd he
 have hl:z.cps.toList.length=z.length:=by simp[Str.length]
 rw[hl] at h1 h4 h5
 have hn:=ou
 exact tail_any (typeIs_str s z t) slot_str_getitem.lookup (getItem_str (c:=c) (by
  have e1:decide (i < -(2^63:Int))=false:=decide_eq_false (by omega)
  have e2:decide (i>=2^63)=false:=decide_eq_false (by omega)
  rw[e1,e2,Bool.or_false]) (by rw[h1];simpa using h2) ⟨.str ⟨#[c]⟩,H,I.tok _,⟨_,rfl⟩,q⟩) hs
def Sw(K:PySem.W.Frag):R2:=fun x y H Q=>Kj K x y H Q\/K2 K x y H Q\/Lp x y H Q
theorem Jj:Gz X (Sw X.K):=EK.or (Iw.or ID)
theorem xO(its:List Value)(n j:Nat)(u:Value):Obj.mapSeq (·.setIfInBounds j u) { cls:=.type "list", data:=.seq its.toArray n }={ cls:=.type "list", data:=.seq (its.set j u).toArray n }:=by
 simp[Obj.mapSeq]
theorem Inv.lst{pins:List (Addr×Obj)}{σ:St}{H:Hp}{s:Shared}{p:Addr}{xs:List V}(I:Inv X pins σ H s)(h:H p=some (.lst xs)) :
  ∃ (its:List Value) (n:Nat),Vals xs its/\s.heap.get? p=some { cls:=.type "list", data:=.seq its.toArray n }/\xs.length<=sizeLine:=by
 obtain⟨z,its,n,r,e⟩:=I.bo p _ h
 exact⟨its,n,r,e,z⟩
theorem Inv.HJ{pins:List (Addr×Obj)}{σ:St}{H:Hp}{s:Shared}{p:Addr}{xs ys:List V}{its its':List Value}{n n':Nat}{f:Obj->Obj}(I:Inv X pins σ H s)(h:H p=some (.lst xs))
  (ho:s.heap.get? p=some { cls:=.type "list", data:=.seq its.toArray n }) (hf:f { cls:=.type "list", data:=.seq its.toArray n }={ cls:=.type "list", data:=.seq its'.toArray n' }) (r:Vals ys its') (hz:ys.length<=sizeLine) (t:Nat) :
  Inv X pins σ (upd H p (.lst ys)) { s with heap:=s.heap.update p f,toks:=t }:=by
 have e:(s.heap.update p f).get? p=some { cls:=.type "list", data:=.seq its'.toArray n' }:=by
  rw[Heap.get?_update_self f ho (by rw[hf] <;> rfl),hf]
 refine I.write (x:=p) (e:=p) (by rw[h];trivial) (.inl rfl) (fun b u hb q=>(Heap.get?_update_other _ _ (Ne.symm hb)).trans q) ⟨_,e⟩ ?_
 exact⟨hz,its',n',r,e⟩
def Lz:V->V->V->Hp->(Hp->Prop)->Prop:=fun o i v H Q=>∃ p xs k j,o=.ref p/\i=.int k/\H p=some (.lst xs)/\BB xs.length k=some j/\Q (upd H p (.lst (xs.set j v)))
theorem set_list:K4 X Lz:=by
 intro pins s σ H o i v ov iv u Q I ro ri rv h
 obtain⟨p,xs,k,j,rfl,rfl,hp,hj,q⟩:=h
 cases ro
 obtain⟨t,rfl⟩:=ri
 obtain⟨its,n,r,ho,hz⟩:=I.lst hp
 obtain⟨h1,h2,h3,h4⟩:=zG hj
 have hl:=r.length
 have hn:=ou
 have I':Inv X pins σ (upd H p (.lst (xs.set j v))) { s with heap:=s.heap.update p (Obj.mapSeq (·.setIfInBounds j u)) } :=
  I.HJ hp ho (xO its n j u) (r.set rv j) (by rw[List.length_set];exact hz) s.toks
 by_cases h0:0<=k
 ·have hk:k.toNat=j:=by
   rw[seqIndex_of h0 h4] at h1
   exact Option.some.inj h1
  exact PySem.W.ki_setAt ho h0 (by omega) (by rw[List.size_toArray,← hl];exact h4) (by rw[hk];exact⟨_,I',q⟩)
 ·have hk:(k+(its.toArray.size:Int)).toNat=j:=by
   rw[seqIndex_neg (by omega) h3] at h1
   rw[List.size_toArray,← hl]
   exact Option.some.inj h1
  exact PySem.W.ki_setBack ho (by omega) (by rw[List.size_toArray,← hl];exact h3) (by omega) (by rw[hk];exact⟨_,I',q⟩)
theorem u9(lo hi:Option Int)(n:Nat):(sliceBounds lo hi none n).1=((HT.de n 0 lo:Nat):Int)/\(sliceBounds lo hi none n).2.1=((HT.de n n hi:Nat):Int)/\(sliceBounds lo hi none n).2.2=1:=by
 refine⟨?_,?_,rfl⟩
 ·cases lo with
  | none=>simp[sliceBounds,HT.de]
  | some i =>
   simp only[sliceBounds,HT.de,Option.getD_none,show (1:Int)>0 by decide,if_true]
   by_cases h:i<0
   ·simp only[h,if_true] <;> omega
   ·simp only[h,if_false] <;> omega
 ·cases hi with
  | none=>simp[sliceBounds,HT.de]
  | some i =>
   simp only[sliceBounds,HT.de,Option.getD_none,show (1:Int)>0 by decide,if_true]
   by_cases h:i<0
   ·simp only[h,if_true] <;> omega
   ·simp only[h,if_false] <;> omega
theorem sR(its:List Value)(lo hi:Option Int):slicePick its.toArray lo hi none=((its.drop (HT.de its.length 0 lo)).take (HT.de its.length its.length hi-HT.de its.length 0 lo)).toArray:=by
 obtain⟨h1,h2,h3⟩:=u9 lo hi its.toArray.size
 unfold slicePick
 rw[h1,h2,h3]
 simp only[sliceRange_one,pick_run,List.size_toArray] <;> rfl
def NL(K:PySem.W.Frag):V->Option Int->Option Int->Hp->VK->Prop:=fun x lo hi H Q=>∃ a xs,x=.ref a/\i4 K H a xs/\∀ p,H p=none->Q (.ref p) (upd H p (.lst (wo xs lo hi)))
theorem Gx:EB X (NL X.K):=by
 intro pins s σ H x v vl vu lo hi sl Q I rx hs pl pu h
 obtain⟨a,xs,rfl,hx,q⟩:=h
 cases rx
 obtain⟨its,r,ht,hz⟩:=I.list hx
 have hlen:=r.length
 refine⟨"list", _,slot_list_getitem.lookup,ht.isList.typeIs,?_⟩
 refine wpAny_getItem_list_slice ht.isList hs pl pu .none (by simp) ?_ (by rw[List.size_toArray] <;> omega)
 rw[sR,← hlen]
 refine⟨.ref s.heap.objs.size,_,I.laid (t':=s.toks) (o:=.lst (wo xs lo hi)) (fun b ob q=>Heap.get?_push_of_some _ q) (Nat.le_refl _) ?_,rfl,q _ (I.bo.fresh (Nat.le_refl _))⟩
 exact⟨Nat.le_trans (oP xs lo hi) hz,_,0,(r.drop (HT.de xs.length 0 lo)).take (HT.de xs.length xs.length hi-HT.de xs.length 0 lo),Heap.get?_push_size _ rfl⟩
theorem u7:cN X (.builtin "len") (fun xs H Q=>∃ p ys,xs=[.ref p]/\(i4 X.K H p ys\/gU X.K H p ys)/\Q (.int ys.length) H):=by
 intro pins s σ H xs us Q I r h
 obtain⟨p,ys,rfl,hq,q⟩:=h
 obtain⟨u,rfl,rx⟩:=vals1 r
 cases rx
 have hn:=ou
 rcases hq with hq | hq
 ·obtain⟨its,r',pl,hz⟩:=I.list hq
  have hlen:=r'.length
  exact Calls.call_len_list pl.isList (by simp only[List.size_toArray] <;> omega) ⟨.int ys.length,H,I.tok _,⟨s.toks+1,by rw[List.size_toArray,hlen]⟩,q⟩
 ·obtain⟨its,r',pl,hz⟩:=I.tuple hq
  have hlen:=r'.length
  exact len_tuple pl (by simp only[List.size_toArray] <;> omega) ⟨.int ys.length,H,I.tok _,⟨s.toks+1,by rw[List.size_toArray,hlen]⟩,q⟩
theorem vz:cN X (.builtin "len") (fun xs H Q=>∃ z,xs=[.str z]/\z.length<=sizeLine/\Q (.int z.length) H):=by
 intro pins s σ H xs us Q I r h
 obtain⟨z,rfl,hz,q⟩:=h
 obtain⟨u,rfl,t,rfl⟩:=vals1 r
 have hn:=ou
 exact len_str (by omega) ⟨.int z.length,H,I.tok _,⟨_,rfl⟩,q⟩
theorem cN.or{f:Value}{r r':List V->Hp->VK->Prop}(h:cN X f r)(h':cN X f r'):cN X f (fun xs H Q=>r xs H Q\/r' xs H Q):=by
 intro pins s σ H xs us Q I rs q
 rcases q with q | q
 ·exact h pins s σ H xs us Q I rs q
 ·exact h' pins s σ H xs us Q I rs q
theorem uw:cN X (.type "list") (fun xs H Q=>∃ p ys,xs=[.ref p]/\(i4 X.K H p ys\/gU X.K H p ys)/\∀ l,H l=none->Q (.ref l) (upd H l (.lst ys))):=by
 intro pins s σ H xs us Q I r h
 obtain⟨p,ys,rfl,hq,q⟩:=h
 obtain⟨u,rfl,rx⟩:=vals1 r
 cases rx
 have fin:∀ (its:List Value),Vals ys its->ys.length<=sizeLine->∀ (h':Heap) (c':Nat),(∀ b o',s.heap.get? b=some o'->h'.get? b=some o') ->
   h'.get? s.heap.objs.size=some { cls:=.type "list", dict:=none,data:=.seq its.toArray c',slots:=#[] }->EP X pins σ Q (.ref s.heap.objs.size) { s with heap:=h' }:=fun its r' hz h' c' kp e =>
  ⟨.ref s.heap.objs.size,_,I.laid (t':=s.toks) kp (Nat.le_refl _) (show bT X.prog X.w _ h' _ (.lst ys) from ⟨hz,its,c',r',e⟩),rfl,q _ (I.bo.fresh (Nat.le_refl _))⟩
 rcases hq with hq | hq
 ·obtain⟨its,r',pl,hz⟩:=I.list hq
  have hlen:=r'.length
  obtain⟨o,ho,hc,n,hd⟩:=pl.isList
  exact call_list_seq p (.inl rfl) ho hc hd (fun h' c' kp e=>fin its r' hz h' c' kp e) (by simp only[List.size_toArray] <;> omega)
 ·obtain⟨its,r',pl,hz⟩:=I.tuple hq
  have hlen:=r'.length
  obtain⟨o,ho,hc,n,hd⟩:=pl
  exact call_list_seq p (.inr rfl) ho hc hd (fun h' c' kp e=>fin its r' hz h' c' kp e) (by simp only[List.size_toArray] <;> omega)
theorem sd:cN X (.type "tuple") (fun xs H Q=>∃ p ys,xs=[.ref p]/\((i4 X.K H p ys/\∀ l,H l=none->Q (.ref l) (upd H l (.tup ys)))\/(gU X.K H p ys/\Q (.ref p) H))):=by
 intro pins s σ H xs us Q I r h
 obtain⟨p,ys,rfl,h⟩:=h
 obtain⟨u,rfl,rx⟩:=vals1 r
 cases rx
 rcases h with ⟨hq,q⟩ | ⟨hq,q⟩
 ·obtain⟨its,r',pl,hz⟩:=I.list hq
  have hlen:=r'.length
  refine call_tuple_list pl.isList (fun h' kp=>?_) (by simp only[List.size_toArray] <;> omega)
  have I1:Inv X pins σ H { s with heap:=h' }:=I.kept (t':=s.toks) kp
  have I2:Inv X pins σ (upd H h'.objs.size (.tup ys)) { s with heap:=h'.push { cls:=.type "tuple", data:=.seq its.toArray } } :=
   I1.laid (t':=s.toks) (fun b o e=>Heap.get?_push_of_some _ e) (Nat.le_refl _) (show bT X.prog X.w _ _ _ (.tup ys) from ⟨hz,its,r',IsTup.new _ _⟩)
  exact⟨.ref h'.objs.size,_,I2,rfl,q _ (I1.bo.fresh (Nat.le_refl _))⟩
 ·obtain⟨its,r',pl,hz⟩:=I.tuple hq
  exact call_tuple_same pl ⟨.ref p,H,I,rfl,q⟩
def Sx(K:PySem.W.Frag)(T:String)(x:V)(H:Hp):Prop:=match x with
 | .str _=>T = "str"
 | .int _=>T = "int"
 | .ref p=>(T = "list" /\ ∃ xs,i4 K H p xs)\/(T = "tuple" /\ ∃ o,K.lookup p=some o/\o.cls=.type "tuple" /\ o.dict=none) ∨
   (T = "dict" /\ ((∃ kvs,H p=some (.dK kvs))\/∃ kvs,H p=some (.dT kvs)))\/(T = "set" /\ ∃ S n,H p=some (.set S n))
 | _=>False
theorem HW{pins:List (Addr×Obj)}{σ:St}{H:Hp}{s:Shared}{T:String}{x:V}{v:Value}(I:Inv X pins σ H s)(r:RelV x v)(ty:Sx X.K T x H) :
  s.TypeIs v T/\∀ a,v=.ref a->∃ ob,s.heap.get? a=some ob/\ob.dict=none:=by
 cases x with
 | str z =>
  obtain⟨t,rfl⟩:=r
  cases (show T = "str" from ty)
  exact⟨typeIs_str s z t,fun _ e=>nomatch e⟩
 | int i =>
  obtain⟨t,rfl⟩:=r
  cases (show T = "int" from ty)
  exact⟨typeIs_int s i t,fun _ e=>nomatch e⟩
 | ref p =>
  cases r
  rcases ty with ⟨rfl,xs,hq⟩ | ⟨rfl,o,hk,hc,hd⟩ | ⟨rfl,hk⟩ | ⟨rfl,S,n,hk⟩
  ·obtain⟨its,_,pl,_⟩:=I.list hq
   refine⟨pl.isList.typeIs,fun a e=>?_⟩
   cases e
   obtain⟨o,n,e,c,hd,_⟩:=pl
   exact⟨o,e,hd⟩
  ·refine⟨⟨o,I.j7 p o hk,hc⟩,fun a e=>?_⟩
   cases e
   exact⟨o,I.j7 _ o hk,hd⟩
  ·have z:∃ o,s.heap.get? p=some o/\o.ExactDict:=by
    rcases hk with ⟨kvs,hk⟩ | ⟨kvs,hk⟩
    ·obtain⟨_,_,_,_,o,_,_,e,ex,_⟩:=I.bo p _ hk
     exact⟨o,e,ex⟩
    ·obtain⟨_,_,_,_,o,_,_,e,ex,_⟩:=I.bo p _ hk
     exact⟨o,e,ex⟩
   obtain⟨o,e,ex⟩:=z
   refine⟨⟨o,e,ex.1⟩,fun a e2=>?_⟩
   cases e2
   exact⟨o,e,ex.2.1⟩
  ·obtain⟨o,_,_,_,e,ex,_⟩:=I.bo p _ hk
   refine⟨⟨o,e,ex.1⟩,fun a e2=>?_⟩
   cases e2
   exact⟨o,e,ex.2.1⟩
 | _=>exact False.elim ty
def SO(K:PySem.W.Frag)(T:String)(r:V->List V->Hp->VK->Prop)(to:TE)(t:TA):TE:=fun σ H Q=>to σ H fun x H1=>Sx K T x H1/\t σ H1 fun xs H2=>r x xs H2 Q
variable{o e:Expr}{es:List Expr}{to:TE}{t:TA}{name:Str}{apos cpos:Pos}{T id:String}{r:V->List V->Hp->VK->Prop}
theorem Kh(pa:PlainAttrs T)(slot:Slot T name id)(hty:typeOf (.builtin id)=pure (.type "method_descriptor"))(hm:Uy X id r)(ho:PE X o to)(ha:PA X (e::es) t)
  (hbase:attributeBase o name X.env (eval o X.env)=eval o X.env:=by rfl)
  (hfew:((backTo cpos (starEach (e::es) X.env)).all (fun x=>!x.1)&&(backToKw cpos (keywordEach [] X.env)).all (fun x=>x.1.isSome)
   && decide ((e::es).length+([]:List Keyword).length+(if ([]:List Keyword).isEmpty then 0 else 1)<30))=true:=by rfl)
  (hline:(apos.endLine==cpos.line)=true:=by rfl) (hs:starEach (e::es) X.env=(false,eval e X.env)::starEach es X.env:=by rfl) (hplain:(backTo cpos (starEach es X.env)).any (·.1)=false:=by rfl) :
  PE X (.Call (.Attribute o name apos) (e::es) [] cpos) (SO X.K T r to t):=by
 intro pins s σ H Q I h
 refine wpAny_Call_method_late hbase hfew hline rfl (cB (ho pins s σ H _ I h) fun v s1 ⟨x,H1,I1,r1,ty,q1⟩=>?_)
 obtain⟨h1,h2⟩:=HW I1 r1 ty
 refine⟨T,id,pa,slot,hty,h1,h2,?_⟩
 have hA:=ha cpos pins s1 σ H1 _ I1 q1
 rw[hs] at hA ⊢
 refine Calls.callWith_builtin (by show (false||(backTo cpos (starEach es X.env)).any (·.1))=false;rw[hplain] <;> rfl) (Calls.evalArgs_plain ?_)
 exact cB hA fun us s2 ⟨vs,H2,I2,r2,q2⟩=>hm pins s2 σ H2 x vs v us Q I2 r1 r2 q2
end
end L2
namespace L2
open PySem PySem.Spec PyProof.Rows
def Uk(X:Cx)(id:String)(r:V->List V->Hp->VK->Prop):Prop :=
 ∀ (pins:List (Addr×Obj)) (s:Shared) (σ:St) (H:Hp) (x:V) (xs:List V) (v:Value) (us:List Value) (Q:VK),Inv X pins σ H s->RelV x v->Vals xs us->r x xs H Q ->
  wpAny (model X.prog X.w) X.A (call (.builtin id) (v::us)) (EP X pins σ Q) X.xe s
theorem Vals.one:∀ {x:V} {us:List Value},Vals [x] us->∃ u,us=[u]/\RelV x u
 | _,_,.cons r .nil=>⟨_,rfl,r⟩
theorem Vals.rep{xs:List V}{us:List Value}(h:Vals xs us):∀ k:Nat,Vals (List.replicate k xs).flatten (List.replicate k us).flatten
 | 0=>.nil
 | k+1=>by
  rw[List.replicate_succ,List.replicate_succ,List.flatten_cons,List.flatten_cons]
  exact Vals.append h (Vals.rep h k)
theorem foldl_rep(its:List Value):∀ (k:Nat) (acc:List Value),
  List.foldl (fun x1 x2=>x1++x2) acc.toArray (List.replicate k its.toArray)=(acc++(List.replicate k its).flatten).toArray
 | 0,acc=>by simp
 | k+1,acc=>by
  have e:acc.toArray++its.toArray=(acc++its).toArray:=by simp
  have e2:(acc++its)++(List.replicate k its).flatten=acc++(List.replicate (k+1) its).flatten:=by
   rw[List.replicate_succ,List.flatten_cons,List.append_assoc]
  rw[← e2,← foldl_rep its k (acc++its),← e,List.replicate_succ,List.foldl_cons]
section
variable{X:Cx}{pins:List (Addr×Obj)}{σ:St}{H:Hp}{s:Shared}{l b:Addr}{xs ys zs:List V}
theorem Inv.MS{its its':List Value}{n:Nat}{f:Array Value->Array Value}{t':Nat}(I:Inv X pins σ H s)(hH:H l=some (.lst xs))
  (e:s.heap.get? l=some { cls:=.type "list", data:=.seq its.toArray n }) (hf:f its.toArray=its'.toArray) (hv:Vals ys its') (hz:ys.length<=sizeLine) :
  Inv X pins σ (upd H l (.lst ys)) { s with heap:=s.heap.update l (Obj.mapSeq f),toks:=t' }:=by
 have q:=PySem.IsL.update e f
 rw[hf] at q
 refine I.write (x:=l) (e:=l) (by rw[hH];exact trivial) (.inl rfl) (fun b' u hb hu=>(Heap.get?_update_other s.heap (Obj.mapSeq f) (Ne.symm hb)).trans hu) ⟨_,q⟩ ?_
 exact⟨hz,its',_,hv,q⟩
theorem Inv.KR{its:List Value}{t':Nat}(I:Inv X pins σ H s)(hv:Vals ys its)(hz:ys.length<=sizeLine) :
  Inv X pins σ (upd H s.heap.objs.size (.lst ys)) { s with heap:=s.heap.push { cls:=.type "list", data:=.seq its.toArray },toks:=t' } :=
 I.laid (fun _ _ q=>Heap.get?_push_of_some _ q) (Nat.le_refl _) ⟨hz,its,0,hv,Heap.get?_push_size _ rfl⟩
theorem Inv.fresh(I:Inv X pins σ H s):H s.heap.objs.size=none:=I.bo.fresh (Nat.le_refl _)
theorem Inv.E7(I:Inv X pins σ H s)(hH:H l=some (.lst xs)):xs.length<=sizeLine/\∃ (its:List Value) (n:Nat),Vals xs its/\xs.length=its.length/\s.heap.get? l=some { cls:=.type "list", data:=.seq its.toArray n }:=by
 obtain⟨z,its,n,r,e⟩:=I.bo l _ hH
 exact⟨z,its,n,r,r.length,e⟩
theorem Cy{n:Nat}(h:n<=sizeLine):Builtin.List.listTooLong n=false:=by
 unfold Builtin.List.listTooLong
 exact decide_eq_false (by omega)
end
section
variable{X:Cx}
def Fe:V->List V->Hp->VK->Prop:=fun x vs H Q=>∃ l xs y,x=.ref l/\vs=[y]/\H l=some (.lst xs)/\xs.length<sizeLine/\Q .cz (upd H l (.lst (xs++[y])))
theorem tf:Uk X "list.append" Fe:=by
 intro pins s σ H x vs v us Q I rx rv h
 obtain⟨l,xs,y,rfl,rfl,hH,hz,q⟩:=h
 cases rx
 obtain⟨u,rfl,ru⟩:=rv.one
 obtain⟨z,its,n,r,hl,e⟩:=I.E7 hH
 refine call_meets F.slot_list_append ⟨_,e,rfl⟩ F.entry_list_append (F.args_list_append_2 _ _) (PySem.list_append l its.toArray n u (by rw[List.size_toArray];omega)) ⟨e,?_⟩
 refine⟨.cz,_,I.MS (its':=its++[u]) hH e (by simp) (r.append (.cons ru .nil)) ?_,rfl,q⟩
 rw[List.length_append,List.length_singleton]
 omega
def KD:R2:=fun x y H Q=>∃ l b xs zs,x=.ref l/\y=.ref b/\H l=some (.lst xs)/\H b=some (.lst zs)/\xs.length+zs.length<=sizeLine/\∀ p,H p=none->Q (.ref p) (upd H p (.lst (xs++zs)))
theorem J0:gq X (binaryOp .Add) KD:=by
 intro pins s σ H x y v u Q I rx ry h
 obtain⟨l,b,xs,zs,rfl,rfl,hH,hB,hz,q⟩:=h
 cases rx
 cases ry
 obtain⟨z,its,n,r,hl,e⟩:=I.E7 hH
 obtain⟨z2,its2,n2,r2,hl2,e2⟩:=I.E7 hB
 refine PySem.P.add_list e e2 ?_ (by rw[List.size_toArray,List.size_toArray];omega)
 have ea:its.toArray++its2.toArray=(its++its2).toArray:=by simp
 rw[ea]
 exact⟨.ref _,_,I.KR (t':=s.toks) (r.append r2) (by rw[List.length_append];omega),rfl,q _ I.fresh⟩
def Kw:R2:=fun x y H Q=>∃ l k xs,x=.ref l/\y=.int k/\H l=some (.lst xs)/\-(2^63)<=k/\k<2^63/\xs.length*k.toNat<=sizeLine ∧
 ∀ p,H p=none->Q (.ref p) (upd H p (.lst (List.replicate k.toNat xs).flatten))
theorem len_rep{α:Type}(xs:List α)(k:Nat):(List.replicate k xs).flatten.length=k*xs.length:=by
 induction k with
 | zero=>simp
 | succ k ih=>rw[List.replicate_succ,List.flatten_cons,List.length_append,ih,Nat.succ_mul,Nat.add_comm]
theorem C2:gq X (binaryOp .Mult) Kw:=by
 intro pins s σ H x y v u Q I rx ry h
 obtain⟨l,k,xs,rfl,rfl,hH,h1,h2,hz,q⟩:=h
 cases rx
 obtain⟨t,rfl⟩:=ry
 obtain⟨z,its,n,r,hl,e⟩:=I.E7 hH
 have hlen:its.toArray.size*k.toNat<=sizeLine:=by rw[List.size_toArray,← hl];exact hz
 have hcap:¬ its.toArray.size*k.toNat>(2^63-1)/8:=by
  have:(sizeLine:Nat)<=(2^63-1)/8:=by decide
  omega
 have hfit:¬ (!Builtin.List.listFitsIndex k)=true:=by
  rw[fitsIndex_both h1 h2]
  exact Bool.false_ne_true
 have hlong:¬ Builtin.List.listTooLong (its.toArray.size*k.toNat)=true:=by
  rw[Cy hlen]
  exact Bool.false_ne_true
 have hnew:List.foldl (fun x1 x2=>x1++x2) #[] (List.replicate (if its.toArray.isEmpty=true then 0 else k.toNat) its.toArray)=(List.replicate k.toNat its).flatten.toArray:=by
  have f0:∀ m:Nat,List.foldl (fun x1 x2=>x1++x2) #[] (List.replicate m its.toArray)=(List.replicate m its).flatten.toArray:=fun m=>by
   have:=foldl_rep its m []
   rw[List.nil_append] at this
   exact this
  rw[f0]
  cases its with
  | nil=>simp
  | cons a r'=>rw[if_neg (by simp)]
 refine wpAny_binaryOp_repeat_ref (T := "list") (U := "int") (by decide) ⟨_,e,rfl⟩ (fun s'=>typeIs_int s' k t) noFill_list_mul F.fills_int_mul F.slot_int_rmul repeat_list F.slot_int_index.lookup
  (call_meets F.slot_int_rmul (typeIs_int s k t) F.entry_int_rmul (F.args_int_rmul_2 _ _) (int___rmul___int_list k t l its.toArray n)
   ⟨e,rfl,⟨_,e,rfl⟩,call_meets F.slot_list_mul ⟨_,e,rfl⟩ F.entry_list_mul (F.args_list_mul_2 _ _) (AutoListH.list___mul___list_int_3 l its.toArray n k t hfit hcap hlong) ⟨e,?_⟩⟩)
 rw[hnew]
 exact⟨.ref _,_,I.KR (t':=s.toks) (r.rep k.toNat) (by rw[len_rep,Nat.mul_comm];exact hz),rfl,q _ I.fresh⟩
end
section
variable{prog:Program}{w:World}{A:Around}{E:Value->Shared->Prop}{s:Shared}
end
section
variable{X:Cx}
end
end L2
namespace L2
open PySem PySem.Spec PyProof.Rows
section
variable{κ:Type}[DecidableEq κ]
end
section
variable{P:Program}{w:World}{H:Hp}{h:Heap}{a:Addr}
end
section
variable{X:Cx}{pins:List (Addr×Obj)}{σ:St}{H:Hp}{s:Shared}{a:Addr}{y v:V}{u r:Value}{o:Option V}{A:Around}{E:Value->Shared->Prop}
end
section
variable{X:Cx}{pins:List (Addr×Obj)}{σ:St}{H:Hp}{s:Shared}{a:Addr}{kvs:List (Key×V)}{k:Key}{u:Value}{A:Around}{E:Value->Shared->Prop}
end
section
variable{X:Cx}{o i e value:Expr}{pos pos' tpos:Pos}{td ty tv:TE}
end
section
variable{X:Cx}{pos:Pos}
end
section
variable{X:Cx}{pins:List (Addr×Obj)}{σ:St}{H:Hp}{s:Shared}{a:Addr}{y d:V}{u r:Value}{o:Option V}{A:Around}{E:Value->Shared->Prop}
end
section
variable{X:Cx}{o e f:Expr}{apos cpos:Pos}{td ty tx:TE}
end
section
variable{X:Cx}{pins:List (Addr×Obj)}{σ:St}{H:Hp}{s:Shared}{a:Addr}{kvs:List (Key×V)}{A:Around}{E:Value->Shared->Prop}
end
section
variable{X:Cx}{pins:List (Addr×Obj)}{σ:St}{H:Hp}{s:Shared}{a:Addr}{y:V}{u:Value}{A:Around}{E:Value->Shared->Prop}
end
end L2
namespace Att
open PySem PySem.W PySem.Calls PyProof.Rows
theorem pk{P:Params}{h:Heap}:∀ (ns:List Int) (vs:List Value),WellAll P h vs (ns.map WData.int)->IntsAre vs ns:=by
 intro ns
 induction ns with
 | nil =>
  intro vs w
  rw[List.map_nil] at w
  cases w
  exact .nil
 | cons n ns ih =>
  intro vs w
  rw[List.map_cons] at w
  cases w with
  | cons a b =>
   cases a
   exact .cons _ _ (ih _ b)
theorem AY{l:OpenLaw}{n:Nat}(hn:l.most=some n){P:Params}{h:Heap}{args:List WData}{vals:List Value}
  (Bp:l.row.toRowW.claim.pre args=true) (hwl:WellAll P h vals args) :
  ∃ a vs ns,vals=[Value.ref a]/\args=[WData.list (ns.map WData.int)]/\h.get? a=some { cls:=.type "list", data:=.seq vs.toArray }/\IntsAre vs ns/\ns.length<=n:=by
 have hsh:WShape.hasAll [] args [.list .int]=true:=(pre_splitW Bp).1
 have hc:l.pre.holds [] { args:=args }=true:=(pre_splitW Bp).2
 obtain⟨d,r,rfl,h1,h2⟩:=hasAllW_cons hsh
 obtain rfl:=hasAllW_nil h2
 obtain⟨xs,rfl,h3⟩:=hasW_list h1
 obtain⟨ns,rfl⟩:=items_int h3
 have hlen:ns.length<=n:=by
  unfold OpenLaw.pre at hc
  have h4:(WTm.not (.lt (.lit (.int (n:Int))) (.len (.arg 0)))).holds [] { args:=[.list (ns.map .int)] }=true:=by
   have h4:=(holds_andW hc).1
   rw[hn] at h4
   exact h4
  have h5:=condW_of h4 (w_not (w_lt w_lit (w_len_list (w_arg rfl))))
  rw[List.length_map] at h5
  refine Nat.le_of_not_lt fun q=>?_
  have q':(n:Int)<((ns.length:Nat):Int):=by omega
  first
   | (rw[decide_eq_true q'] at h5;exact absurd h5 (by decide))
   | (simp at h5;omega)
 cases hwl with
 | cons w1 w2 =>
  cases w2
  cases w1 with
  | list ho hall=>exact⟨_,_,ns,rfl,rfl,ho,pk ns _ hall,hlen⟩
theorem AH(l:OpenLaw)(args:List WData):l.row.toRowW.claim.post args (.bool true) args=true :=
 postW_of (r:=l.row.toRowW) (X:=(true==true))
  (show WShape.has [] (.bool true) .bool=true by first | rfl | decide | simp[WShape.has,WShape.arms,WShape.armsAll])
  (show (WTm.eq .res (.lit (.bool true))).value [] { args:=args,res:=some (.bool true),after:=args }=some (.bool (true==true)) from w_eq_bool (w_res rfl) w_lit) rfl
section
variable{prog:Program}{w:World}{A:Around}{E:Value->Shared->Prop}{s:Shared}{K:Frag}
end
end Att
namespace L2
open PySem PySem.Spec PyProof.Rows
theorem sW:∀ {vs:List Value} {ns:List Int},IntsAre vs ns->Vals (ns.map V.int) vs
 | _,_,.nil=>.nil
 | _,_,.cons n t h=>.cons ⟨t,rfl⟩ (sW h)
def Kq(H:Hp):Prop:=∀ b,H b=none\/∃ o xs,H b=some (.sI o (.lst xs))
theorem Dw{P:Program}{w:World}{K:PySem.W.Frag}{mg mb:Str->Option Value}{CX:Gf}{k:Nat}{fa a:Addr}{fd:FuncData}{x:Str}{sp:Sp}{s₁:Shared}{vs:List Value}{ns:List Int}
  (KX:K.In s₁.heap) (hns:s₁.heap.Ns mainGlobals mg) (hb:s₁.heap.Ns builtinsNs mb) (hbb:∀ x:Str,x ≠ "__name__" -> mb x=bootBuiltins x) (hlim:s₁.heap.NoLimit) (hg:s₁.gens=#[])
  (ha:s₁.heap.get? a=some { cls:=.type "list", data:=.seq vs.toArray }) (hi:IntsAre vs ns) (hl:ns.length<=sizeLine) (hr:cp k callerA)
  (F:∀ base:Heap,K.In base->base.Ns mainGlobals mg->aQ P w K mg base CX k fa fd [x] sp) (hbind:∀ (s:Shared) (u:Value),BindsTo s fd ⟨[u],[]⟩ [(x,u)])
  (hsp:∀ H:Hp,Kq H->i4 K H a (ns.map V.int)->sp [.ref a] H (fun v _=>v=.bl true) fun _ _ _=>False)
  (hCX:∀ H e s',CX [] H s₁ (fun _ _ _=>False) e s'->False) :
  codeAny (model P w) callerA (.call (.ref fa) ⟨[.ref a],[]⟩) (fun r s'=>r=.ok (.ret (.bool true))/\OldK s₁.heap s'.heap/\s'.os=s₁.os/\AllBare s'.gens) s₁:=by
 have rv:=sW hi
 have lenV:=hi.length
 have core:∀ H:Hp,Kq H->i4 K H a (ns.map V.int)->n6 P w H s₁.heap->(∀ b,H b≠none->b=a)->(H a≠none->K.lookup a=none) ->
   codeAny (model P w) callerA (.call (.ref fa) ⟨[.ref a],[]⟩) (fun r s'=>r=.ok (.ret (.bool true))/\OldK s₁.heap s'.heap/\s'.os=s₁.os/\AllBare s'.gens) s₁:=by
  intro H hO hS bo hA hK
  have base_of:∀ {b:Addr} {o:Obj},s₁.heap.get? b=some o->H b=none->(vv s₁.heap H).get? b=some o:=fun e n=>C6 e n
  have oh:∀ {b:Addr} {o:Obj} {es:Array DictEntry} {ep:Nat},s₁.heap.get? b=some o->o.data=.dict es ep->H b=none:=fun {b o es ep} e d=>by
   cases q:H b with
   | none=>rfl
   | some u =>
    have e':b=a:=hA b (by rw[q];simp)
    subst e'
    rw[ha] at e;cases e
    have d':Data.seq vs.toArray _=Data.dict es ep:=d
    cases d'
  have nsK:∀ {b:Addr} {m:Str->Option Value},s₁.heap.Ns b m->(vv s₁.heap H).Ns b m:=fun {b m} ⟨o,es,ep,e,d,r⟩=>⟨o,es,ep,base_of e (oh e d),d,r⟩
  have hKb:K.In (vv s₁.heap H):=fun b o e=>base_of (KX b o e) (by
   cases q:H b with
   | none=>rfl
   | some u =>
    have e':b=a:=hA b (by rw[q];simp)
    subst e'
    rw[hK (by rw[q];simp)] at e;cases e)
  have hM:Mod K mg (vv s₁.heap H):=⟨hKb,nsK hns,⟨mb,nsK hb,hbb⟩,let ⟨mc,h1,h2⟩:=hlim;⟨mc,nsK h1,h2⟩⟩
  have e0:yO P w K mg (vv s₁.heap H) callerA [] s₁ H:=⟨rfl,hM,fun b o e=>Ff e,Nat.le_of_eq (AK _ _),trivial,fun b hb=>absurd (show b∈([]:List Addr) from hb) (by simp),bo,.of_eq hg⟩
  refine codeAny_mono ((F _ hKb (nsK hns)).run callerA [] s₁ H ⟨[.ref a],[]⟩ [.ref a] [.ref a] _ _ hr e0 (hbind s₁ (.ref a)) (.cons rfl .nil) (hsp H hO hS)) fun r s' h=>?_
  cases r with
  | error e=>exact(hCX H e s' h).elim
  | ok fl =>
   cases fl with
   | next=>exact False.elim h
   | brk=>exact False.elim h
   | cont=>exact False.elim h
   | ret u =>
    obtain⟨v,H',os,bare,un,hok',r',q⟩:=h
    have q':v=.bl true:=q
    subst q'
    obtain rfl:u=Value.bool true:=r'
    refine⟨rfl,OldK.of_keep fun b o e=>?_,os,bare⟩
    cases q:H b with
    | none=>exact un.keep b o e q (by intro z;exact absurd (show b∈([]:List Addr) from z) (by simp)) (by simp)
    | some u =>
     rcases hO b with z | ⟨ob,xs,z⟩
     ·rw[q] at z;cases z
     ·have z2:=un.l9 b ob _ z
      obtain⟨e1,_⟩:=bo b _ z
      obtain⟨e2,_⟩:=hok' b _ z2
      rw[e] at e1;cases e1
      exact e2
 cases hk:K.lookup a with
 | some o =>
  have e:=KX a o hk
  rw[ha] at e
  cases e
  refine core (fun _=>none) (fun _=>.inl rfl) (.inr ⟨_,vs.toArray,_,hk,rfl,rfl,rfl,by rw[List.size_toArray,lenV];exact hl,by simpa using rv⟩) (fun b u z=>by have z':(none:Option HO)=some u:=z;cases z') (fun b z=>absurd rfl z) fun z=>absurd rfl z
 | none =>
  refine core (fun b=>if b=a then some (.sI { cls:=.type "list", data:=.seq vs.toArray } (.lst (ns.map V.int))) else none) (fun b=>?_) (.inl (.inr ⟨{ cls:=.type "list", data:=.seq vs.toArray },if_pos rfl⟩)) (fun b u z=>?_) (fun b z=>?_) fun _=>hk
  ·by_cases hb:b=a
   ·exact .inr ⟨_,_,if_pos hb⟩
   ·exact .inl (if_neg hb)
  ·by_cases hb:b=a
   ·have z':=(if_pos hb).symm.trans z
    cases z'
    subst hb
    exact⟨ha,by rw[List.length_map];exact hl,vs,_,rv,ha⟩
   ·have z':=(if_neg hb).symm.trans z
    cases z'
  ·by_cases hb:b=a
   ·exact hb
   ·exact absurd (if_neg hb) z
end L2
namespace L2
open PySem PySem.Spec PyProof.Rows
end L2
namespace L2
open PySem PySem.Spec PyProof.Rows
def inClass(s:Stmt)(j:Nat):Stmt:=match s with
 | .ClassDef _ _ _ body _ _ _ _ _ _ _=>body.getD j (.Pass ⟨0,0,0,0⟩)
 | _=>.Pass ⟨0,0,0,0⟩
def ir(s:Stmt):Arguments:=match s with
 | .FunctionDef _ a _ _ _ _ _ _ _ _=>a
 | _=>{ posonlyargs:=[],args:=[],vararg:=none,kwonlyargs:=[],kw_defaults:=[],kwarg:=none,defaults:=[] }
def fx(s:Stmt):List Stmt:=match s with
 | .FunctionDef _ _ b _ _ _ _ _ _ _=>b
 | _=>[]
def aq(s:Stmt):Scope:=match s with
 | .FunctionDef _ _ _ _ _ _ sc _ _ _=>sc
 | _=>{ kind:=.function,names:=[],isGenerator:=false,isCoroutine:=false }
abbrev E0:XK:=fun _ _ _=>False
section
variable{P:Program}{w:World}{K:PySem.W.Frag}{mg:Str->Option Value}{base:Heap}
end
theorem nV{n:Nat}(h:n<=1000):n<sizeLine:=Nat.lt_of_le_of_lt h (by decide)
section
variable{X:Cx}
end
def a_(H H':Hp):Prop:=∀ b o,H b=some o->H' b=some o
end L2
namespace L2
open PySem PySem.Spec PyProof.Rows
section
variable{X:Cx}
def BE(_ j:Int):Prop:=j≠0/\j.natAbs.log2<9000
theorem DH:gq X (binaryOp .FloorDiv) (rI BE fun i j=>.int (i.fdiv j)):=LV fun _ _ _ _ _ _ _ hc q=>floordiv_int hc.1 q (.inl (PyProof.noPylong_of_log2 hc.2))
theorem FV:gq X (binaryOp .Mult) (rI (fun i j=>IntMulOk i j) fun i j=>.int (i*j)):=LV fun _ _ _ _ _ _ _ hc q=>mul_int q hc
theorem CD{a b:Int}{m n:Nat}(ha:a.natAbs<2^m)(hb:b.natAbs<2^n)(h:m+n<=134217728):IntMulOk a b:=IntMulOk.of_le (intBits_le_iff.mpr ha) (intBits_le_iff.mpr hb) h
theorem uM:bootBuiltins "isinstance" = some (.builtin "isinstance"):=by decide +kernel
theorem vF:bootBuiltins "int" = some (.type "int"):=by decide +kernel
theorem vy:bootBuiltins "bool" = some (.type "bool"):=by decide +kernel
theorem kA:bootBuiltins "tuple" = some (.type "tuple"):=by decide +kernel
theorem zT:bootBuiltins "list" = some (.type "list"):=by decide +kernel
theorem HX:bootBuiltins "sum" = some (.builtin "sum"):=by decide +kernel
def Q9(K:PySem.W.Frag):List V->Hp->VK->Prop:=fun xs H Q=>∃ x T t b,xs=[x,.ty T]/\j9 K H x t/\PySem.W.kitOne K t (.type T)=some b/\Q (.bl b) H
def RV(K:PySem.W.Frag):List V->Hp->VK->Prop:=fun xs H Q=>∃ x C t b,xs=[x,.ref C]/\j9 K H x t/\PySem.W.kitOne K t (.ref C)=some b/\Q (.bl b) H
theorem xh:cN X (.builtin "isinstance") (Q9 X.K):=by
 intro pins s σ H xs us Q I r h
 obtain⟨x,T,t,b,rfl,ty,e,q⟩:=h
 cases r with
 | cons r1 r2 =>
  cases r2 with
  | cons r3 r4 =>
   cases r4
   cases (show _=Value.type T from r3)
   exact tD I r1 ty e fun tk=>⟨.bl b,H,I.tok tk,rfl,q⟩
theorem DZ:cN X (.builtin "isinstance") (RV X.K):=by
 intro pins s σ H xs us Q I r h
 obtain⟨x,C,t,b,rfl,ty,e,q⟩:=h
 cases r with
 | cons r1 r2 =>
  cases r2 with
  | cons r3 r4 =>
   cases r4
   cases (show _=Value.ref C from r3)
   exact tD I r1 ty e fun tk=>⟨.bl b,H,I.tok tk,rfl,q⟩
end
section
variable(K:PySem.W.Frag)
end
section
variable{X:Cx}
theorem Inv.lj{pins:List (Addr×Obj)}{σ:St}{H:Hp}{s:Shared}{h':Heap}{t':Nat}{ch:List Addr}{a:Addr}{o:HO}(I:Inv X pins σ H s)(k:∀ b u,b ∉ ch->s.heap.get? b=some u->h'.get? b=some u)
  (hch:∀ b∈ch,m_ X pins H b) (hp:s.heap.objs.size<=a) (hl:∀ b∈ch,∃ u,s.heap.get? b=some u) (new:bT X.prog X.w (upd H a o) h' a o):Inv X pins σ (upd H a o) { s with heap:=h',toks:=t' }:=by
 have ne:∀ b u,s.heap.get? b=some u->b≠a:=fun b u e=>Nat.ne_of_lt (Nat.lt_of_lt_of_le (Heap.lt_size e) hp)
 have hfr:H a=none:=I.bo.fresh hp
 have nitH:∀ b u,H b=some u->b ∉ ch:=fun b u e z=>by rw[(hch b z).1] at e;cases e
 have nea:∀ b u,H b=some u->b≠a:=fun b u e z=>by rw[z,hfr] at e;cases e
 refine I.step (g':=s.gens) (d':=s.drawn) (ch:=ch) (fun b hb=>?_) (fun b u _ _ hc e _=>k b u hc e) (fun b u _ _ hc e _=>⟨u.slots,k b u hc e⟩)
  (fun b u _ e n=>by rw[au (ne b u e)];exact n) (fun b u hc e=>⟨u,k b u hc e⟩)
  (fun b xs e=>by rw[au (nea b _ e)];exact e) (fun b ob u e=>by rw[au (nea b _ e)];exact e) (fun b ps e=>⟨#[],by rw[au (nea b _ e),e];simp⟩) (fun m hm=>?_) (fun b u e=>?_) I.bare
 ·obtain⟨_,f1,_,f3,f4,f5⟩:=hch b hb
  exact⟨f3,f1,f4,f5⟩
 ·obtain⟨ob,es,ep,ho,r⟩:=hm
  exact⟨ob,es,ep,k _ ob (fun z=>(hch _ z).2.1 rfl) ho,r⟩
 ·by_cases z:b=a
  ·subst z
   rw[aC] at e
   cases e
   exact new
  ·rw[au z] at e
   refine(I.bo b u e).nv (fun c v hc q=>k c v ?_ q) (fun c q=>?_) fun c ys q=>?_
   ·rcases hc with z' | z'
    ·rw[z'];exact nitH b u e
    ·exact nitH c _ z'
   ·rw[au (nea c _ q)];exact q
   ·rw[au (nea c _ q)];exact q
def JN (K : PySem.W.Frag) (a : Addr) : It :=
  ⟨fun i H => ∃ xs x, i4 K H a xs /\ xs[i]? = some x,
   fun i H y H' => ∃ p x, H p = none /\ y = .ref p /\ H' = upd H p (.tup [.int i, x]) /\ ∀ xs, i4 K H a xs -> xs[i]? = some x,
   fun i H => ∃ xs, i4 K H a xs /\ xs.length <= i⟩
theorem Bh{P:Program}{w:World}{K:PySem.W.Frag}{elts:List Expr}{x1:Nat}{tp:Pos}(a e it:Addr)(hne:e≠it):Turn P w K (.Tuple elts x1 tp) (JN K a) [e,it] e (fun i h=>(∃ old,IsEnum h e it i old)/\h.IsListIter it a i) where
 mem:=by simp
 obj:=fun i h st b hb=>by
  obtain⟨⟨old,he⟩,⟨o,e1,c,d⟩⟩:=st
  rcases List.mem_cons.mp hb with z | z
  ·subst z
   exact⟨_,he,fun v z=>by cases z⟩
  ·have z':b=it:=by simpa using z
   subst z'
   exact⟨o,e1,fun v z=>by rw[d] at z;cases z⟩
 keep:=fun i h h' st k=>by
  obtain⟨⟨old,he⟩,hit⟩:=st
  exact⟨⟨old,k e (by simp) _ he⟩,hit.at fun o x=>k it (by simp) o x⟩
 item:=by
  intro X hP hw hK hc i pins s σ H E I hf st hg
  subst hP hw hK
  obtain⟨xs,x,hq,hx⟩:=hg
  obtain⟨its,rv,p,hz⟩:=I.list hq
  obtain⟨u,hu,ru⟩:=rv.get hx
  obtain⟨⟨old,he⟩,hit⟩:=st
  have helt:e<s.heap.objs.size:=Heap.lt_size he
  have hilt:it<s.heap.objs.size:=by obtain⟨_,z,_⟩:=hit;exact Heap.lt_size z
  refine wpAny_pyNext_enum_item he hit p.isList (x:=u) (by simpa using hu) hne fun h' ho hit' hT hsz hk=>⟨_,rfl,?_⟩
  refine wpAny_letOwnedTupleGo_enum (s:={ s with heap:=h',toks:=s.toks+1 }) ho fun h2 he2 hs2=>?_
  have keep2:∀ b o,b ∉ [e,it]->s.heap.get? b=some o->h2.get? b=some o:=fun b o hb q=>by
   have n1:b≠e:=fun z=>hb (by simp[z])
   have n2:b≠it:=fun z=>hb (by simp[z])
   exact(hs2.2 b n1).trans (hk b o n1 n2 q)
  have hT2:h2.get? s.heap.objs.size=some { cls:=.type "tuple", data:=.seq #[.int i s.toks,u] }:=(hs2.2 _ (Nat.ne_of_gt helt)).trans hT
  have I2:Inv X pins σ (upd H s.heap.objs.size (.tup [.int i,x])) { s with heap:=h2,toks:=s.toks+1 } :=
   I.lj (ch:=[e,it]) keep2 hf (Nat.le_refl _) (fun b hb=>by
    rcases List.mem_cons.mp hb with z | z
    ·subst z;exact⟨_,he⟩
    ·have z':b=it:=by simpa using z
     subst z'
     obtain⟨o,z,_⟩:=hit
     exact⟨o,z⟩)
    ⟨by show 2<=sizeLine;decide,[.int i s.toks,u],.cons ⟨_,rfl⟩ (.cons ru .nil),⟨_,hT2,rfl,_,rfl⟩⟩
  have hnew:H s.heap.objs.size=none:=I.bo.fresh (Nat.le_refl _)
  refine⟨.ref s.heap.objs.size,_,I2,rfl,⟨_,x,hnew,rfl,rfl,fun ys hy=>by rw[I.qJ hy hq];exact hx⟩,⟨⟨u,by simpa using he2⟩,hit'.at fun o z=>(hs2.2 it (Ne.symm hne)).trans z⟩,fun b hb=>?_⟩
  have nb:b≠s.heap.objs.size:=by
   rcases List.mem_cons.mp hb with z | z
   ·rw[z];exact Nat.ne_of_lt helt
   ·have z':b=it:=by simpa using z
    rw[z'];exact Nat.ne_of_lt hilt
  rw[au nb]
  exact(hf b hb).1
 done:=by
  intro X hP hw hK hc i pins s σ H E I hf st hg
  subst hP hw hK
  obtain⟨xs,hq,hx⟩:=hg
  obtain⟨its,rv,p,hz⟩:=I.list hq
  have hl:=rv.length
  obtain⟨⟨old,he⟩,hit⟩:=st
  obtain⟨f0,f1,f2,f3,f4,f5⟩:=hf it (by simp)
  exact wpAny_pyNext_enum_end (I.ok.hd hc) he hit p.isList (by simp;omega) fun h' eb=>⟨rfl,I.turned (t':=s.toks) (fun b o hb e=>eb b o hb e) f0 f1 f3 f4 f5⟩
 self:=fun _ _ _ _ _ st h=>by
  obtain⟨⟨old,he⟩,_⟩:=st
  exact wpAny_pyIter_enum he h
end
end L2
namespace L2
open PySem PySem.Spec PyProof.Rows
section
variable{prog:Program}{w:World}{A:Around}{R:Result->Shared->Prop}{s:Shared}
theorem Au{elt target iter:Expr}{ifs:List Expr}{scope:Scope}{pos:Pos}{it acc:Value}{env:Env}(I:Nat->Shared->Prop)
  (turn:∀ n s,I n s->wpAny (model prog w) A (pyNext it) (fun r s₁=>match r with
   | none=>R (.ok .next) s₁
   | some v=>wpAny (model prog w) A (letOwnedTupleGo target it v) (fun _ s₂=>wpAny (model prog w) A (assign target env v) (fun _ s₃ =>
     wpAny (model prog w) A (forIn ifs true fun c r=>if r=true then do let ok ← isTrue c env (eval c env);pure (ForInStep.yield ok) else pure (ForInStep.yield r)) (fun ok s₄ =>
      if ok=true then wpAny (model prog w) A (eval elt env) (fun x s₅ =>
       wpAny (model prog w) A (call (.builtin "list.append") [acc,x]) (fun _ s₆=>∃ m,m<n/\I m s₆) (fun _ _=>False) s₅) (fun _ _=>False) s₄
      else ∃ m,m<n/\I m s₄) (fun _ _=>False) s₃) (fun _ _=>False) s₂) (fun _ _=>False) s₁) (fun _ _=>False) s)
  (n:Nat) (h:I n s) :
  codeAny (model prog w) A (.compLoop (.ListComp elt [⟨target,iter,ifs,0⟩] scope pos) 0 it acc env) R s:=by
 refine codeAny_loop rfl I (fun n s hI=>?_) n h
 show wpAny _ A ((compTurn (.ListComp elt [⟨target,iter,ifs,0⟩] scope pos) 0 it acc env).onRaise (fun x=>do noteFrame x env;theTreesLotGoes x)) _ _ s
 refine wpAny_noted ?_
 rw[compTurn_list]
 refine wpAny_bind (wpAny_standAt (wpAny_bind (wpAny_mono (turn n s hI) (fun r s₁ h₁=>?_) fun _ _ h'=>h'.elim)))
 cases r with
 | none=>exact wpAny_pure h₁
 | some v =>
  refine wpAny_bind (wpAny_mono h₁ (fun _ s₂ h₂=>wpAny_bind (wpAny_mono h₂ (fun _ s₃ h₃=>wpAny_bind (wpAny_mono h₃ (fun ok s₄ h₄=>?_) fun _ _ h'=>h'.elim)) fun _ _ h'=>h'.elim)) fun _ _ h'=>h'.elim)
  cases ok with
  | false=>exact wpAny_pure ⟨rfl,h₄⟩
  | true =>
   exact wpAny_bind (wpAny_bind (wpAny_mono h₄ (fun x s₅ h₅=>wpAny_bind (wpAny_mono h₅ (fun _ s₆ h₆=>wpAny_pure (wpAny_pure ⟨rfl,h₆⟩)) fun _ _ h'=>h'.elim)) fun _ _ h'=>h'.elim))
end
def xN(X:Cx)(scope:Scope)(cl:List (Str×Addr))(N:List Str)(C:Addr)(s₀:Shared)(H₀:Hp)(ex:List Addr)(pins:List (Addr×Obj)):Cx :=
 { X with N:=N,s₀:=s₀,H₀:=H₀,env:=compEnvC scope cl C X.env,outer:=X.stack,stack:=X.stack,ex:=ex,fn:=fun _=>false,pn:=X.pn++pins,xe:=fun _ _=>False }
inductive kr (X:Cx) (sc:Scope) (cl:List (Str×Addr)):List Str->List Nat->Prop where
 | nil:kr X sc cl [] []
 | cons {x:Str} {j:Nat} {c:Addr} {fs:List Str} {js:List Nat} (hN:X.N[j]?=some x) (hf:sc.names.lookup x=some .free) (hv:X.env.kindOf x=some .cell\/X.env.kindOf x=some .free) (hc:X.env.cells.lookup x=some c) (hl:cl.lookup x=some c) (r:kr X sc cl fs js):kr X sc cl (x::fs) (j::js)
inductive fU (X:Cx):List (Str×Addr)->Prop where
 | nil:fU X []
 | cons {x:Str} {c:Addr} {r:List (Str×Addr)} (h:X.env.cells.lookup x=some c) (t:fU X r):fU X ((x,c)::r)
theorem fU.at{X:Cx}:∀ {cl:List (Str×Addr)},fU X cl->∀ x c,cl.lookup x=some c->X.env.cells.lookup x=some c
 | _,.nil,_,_,e=>by simp at e
 | _,.cons (x:=y) (c:=d) h t,x,c,e=>by
  rw[List.lookup_cons] at e
  cases q:x==y with
  | true =>
   rw[q] at e
   have e':d=c:=Option.some.inj e
   have q':x=y:=by simpa using q
   rw[q',← e'];exact h
  | false =>
   rw[q] at e
   exact fU.at t x c e
def lq(cl:List (Str×Addr))(names:List (Str×NameKind)):Bool:=names.all fun y=>y.2 != .free||(cl.lookup y.1).isSome
def iQ(names:List (Str×NameKind)):Bool:=names.all fun y=>y.2 != .cell
def lB(names:List (Str×NameKind)):Bool:=names.all fun y=>y.2 != .local||(names.lookup y.1==some .local)
def gu(ts:List Str)(js:List Nat)(σ:St):St:=ts.map (fun _=>none)++js.map fun j=>(σ[j]?).join
def Du(wi:TI)(g:TG)(tt:Option TT)(te:TE)(ts:List Str)(js:List Nat):TE:=fun σ H Q=>wi σ H fun J H1=>∀ D,H1 D=none ->
 ∃ W:Nat->Nat->St->Hp->Prop,(∃ m,W 0 m (gu ts js σ) (upd H1 D (.lst [])))/\∀ i m σ' H',W i m σ' H' ->
  (J.stop i H'/\Q (.ref D) H')\/(J.go i H'/\∃ N:St->Hp->Prop,(∀ σ'' H'',N σ'' H''->∃ m',m'<m/\W (i+1) m' σ'' H'') ∧
   ∀ x H2,J.xM i H' x H2->g x σ' H2 fun σ2 H3=>match tt with
    | none=>te σ2 H3 fun y H4=>∃ ys,H4 D=some (.lst ys)/\ys.length<sizeLine/\N σ2 (upd H4 D (.lst (ys++[y])))
    | some t=>t σ2 H3 fun b H3'=>if b=true then te σ2 H3' fun y H4=>∃ ys,H4 D=some (.lst ys)/\ys.length<sizeLine/\N σ2 (upd H4 D (.lst (ys++[y]))) else N σ2 H3')
theorem rh {scope : Scope} {cl : List (Str × Addr)} {C : Addr} {env : Env} {x : Str} (h : (compEnvC scope cl C env).kindOf x = some .cell \/ (compEnvC scope cl C env).kindOf x = some .free) (nc : iQ scope.names = true) : scope.names.lookup x = some .free := by
  have key : ∀ (names : List (Str × NameKind)), iQ names = true ->
      ((names.map fun (n, k) => if (k == NameKind.free && env.scope.kind == .function && env.kindOf n == some .cell) then (n, NameKind.cell) else (n, k)).lookup x = some .cell ∨
       (names.map fun (n, k) => if (k == NameKind.free && env.scope.kind == .function && env.kindOf n == some .cell) then (n, NameKind.cell) else (n, k)).lookup x = some .free) -> names.lookup x = some .free := by
    intro names
    induction names with
    | nil => intro _ h; simp at h
    | cons p r ih =>
      obtain ⟨n, k⟩ := p
      intro nc h
      have nc' : (k != .cell) = true /\ iQ r = true := by
        unfold iQ at nc
        rw [List.all_cons, Bool.and_eq_true] at nc
        exact nc
      rw [List.map_cons] at h
      dsimp only at h
      by_cases hc : (k == NameKind.free && env.scope.kind == .function && env.kindOf n == some .cell) = true
      · rw [if_pos hc] at h
        rw [List.lookup_cons] at h ⊢
        cases q : x == n with
        | true =>
          have : k = .free := by
            rw [Bool.and_eq_true, Bool.and_eq_true] at hc
            simpa using hc.1.1
          rw [this]
        | false =>
          rw [q] at h
          exact ih nc'.2 h
      · rw [if_neg hc] at h
        rw [List.lookup_cons] at h ⊢
        cases q : x == n with
        | true =>
          rw [q] at h
          have nk : k ≠ .cell := by simpa using nc'.1
          rcases h with h | h
          · exact absurd (Option.some.inj h) nk
          · exact h
        | false =>
          rw [q] at h
          exact ih nc'.2 h
  exact key scope.names nc h
theorem vW{X:Cx}{tg elt iter:Expr}{ifs:List Expr}{scope:Scope}{cl:List (Str×Addr)}{pos cpos:Pos}{wi:TI}{g:TG}{tt:Option TT}{te:TE}{ts fs:List Str}{js:List Nat}(hcalm:X.calm=true)
  (hclos:closureFor scope X.env=pure cl) (hk:scope.kind=.function) (nc:iQ scope.names=true) (lo:lB scope.names=true) (fh:lq cl scope.names=true) (ag:fU X cl) (fr:kr X scope cl fs js)
  (hi:PI X tg iter wi) (hg:∀ C s₀ H₀ ex pins,PG (xN X scope cl (ts++fs) C s₀ H₀ ex pins) tg g)
  (ht:∀ C s₀ H₀ ex pins,match ifs,tt with | [],none=>True | [c],some t=>PT (xN X scope cl (ts++fs) C s₀ H₀ ex pins) c t | _,_=>False)
  (he:∀ C s₀ H₀ ex pins,PE (xN X scope cl (ts++fs) C s₀ H₀ ex pins) elt te)
  (hs:∀ x,foldedSetIterable iter X.env x=pure x) {pins:List (Addr×Obj)} {s:Shared} {σ:St} {H:Hp} {Q:VK} (I:Inv X pins σ H s) (h:Du wi g tt te ts js σ H Q)
  (use:Option (Value->Sem Unit)) (Qv:Value->Shared->Prop)
  (Ia:∀ (D:Addr) (H':Hp) (s':Shared) (C:Addr),Inv X pins σ H' s'->Q (.ref D) H'->(∃ m,s'.heap.Ns C m)->m_ X pins H' C->compPost (model X.prog X.w) X.A X.xe use Qv (.ref D) C (.ok .next) s') :
  wpAny (model X.prog X.w) X.A (comprehension (.ListComp elt [⟨tg,iter,ifs,0⟩] scope pos) scope X.env cpos (newList []) false (eval iter X.env) use) Qv X.xe s:=by
 have hcell:∀ y∈scope.names,y.2≠.cell:=fun y hy=>by
  have:=List.all_eq_true.mp nc y hy
  simpa using this
 have hnames:∀ y∈scope.names,y.2=.local->scope.names.lookup y.1=some .local:=fun y hy hl=>by
  have:=List.all_eq_true.mp lo y hy
  rw[hl] at this
  simpa using this
 refine wpAny_comprehension_free (use:=use) rfl hs hclos hk hnames (cB (hi pins s σ H _ I h) fun v s1 h1=>cB h1 fun itv s2 h2=>?_)
 obtain⟨it,fp,tn,J,H1,e,I2,T,st2,f2,hJ⟩:=h2
 subst e
 refine wpAny_newObj_type (wpAny_newFunctionEnv hcell (by intro y hy;simp at hy) (fun h₁ hns1 hsb1=>?_) hk)
 dsimp only at hns1 hsb1 ⊢
 generalize hH2:s2.heap.push { cls:=.type "list", dict:=none,data:=.seq ([]:List Value).toArray }=G at hns1 hsb1 ⊢
 have hC:G.objs.size=s2.heap.objs.size+1:=by rw[← hH2,Heap.size_push]
 have old:∀ b o,s2.heap.get? b=some o->h₁.get? b=some o:=fun b o e=>by
  have hb:=Heap.lt_size e
  refine hsb1.extBut b o (Nat.ne_of_lt (Nat.lt_of_lt_of_le hb (Nat.le_of_lt (by rw[hC];exact Nat.lt_succ_self _)))) (Heap.get?_push_of_some _ ?_)
  rw[← hH2]
  exact Heap.get?_push_of_some _ e
 have hacc:h₁.get? s2.heap.objs.size=some { cls:=.type "list", dict:=none,data:=.seq #[] }:=by
  refine hsb1.extBut _ _ (Nat.ne_of_lt (by rw[hC];exact Nat.lt_succ_self _)) (Heap.get?_push_of_some _ ?_)
  rw[← hH2]
  exact Heap.get?_push_size _ rfl
 have nD:H1 s2.heap.objs.size=none:=I2.bo.fresh (Nat.le_refl _)
 have nC:H1 G.objs.size=none:=I2.bo.fresh (by omega)
 obtain⟨W,⟨m0,w0⟩,turn⟩:=hJ _ nD
 have hfpS:∀ b∈fp,b<s2.heap.objs.size:=fun b hb=>by
  obtain⟨o,e,_⟩:=T.obj _ _ st2 b hb
  exact Heap.lt_size e
 have ltk:∀ (x:Str) (c:Addr),cl.lookup x=some c->c<s2.heap.objs.size/\H1 c=none/\(∃ v,s2.heap.IsCell c v):=fun x c e=>by
  have e':=ag.at x c e
  obtain⟨v,q⟩:=I2.cell x c e'
  exact⟨q.lt,I2.f9 x c e',v,q⟩
 let X':=xN X scope cl (ts++fs) G.objs.size s2 H1 fp pins
 have okX:X'.Ok:=by
  refine⟨I2.ok.mod,hk,I2.ok.glob,I2.ok.blt,by show s2.heap.objs.size<=G.objs.size;omega,fun x y c e1 e2=>I2.ok.inj x y c (ag.at x c e1) (ag.at y c e2),fun x hx=>?_,fun x c hf _=>(nomatch (show (false:Bool)=true from hf)),I2.ok.hd,I2.ok.frames,.inl rfl,fun b hb=>⟨?_,fun x c e z=>?_⟩,fun b o e=>I2.bs b o e,Nat.le_trans I2.ok.BO I2.sz,fun b o e hb=>?_,fun b hb hz=>?_,I2.stack,fun b hb=>I2.u5 b hb⟩
  ·have hfree:=rh (env:=X.env) hx nc
   have hm:∃ y∈scope.names,y.1=x/\y.2=.free:=by
    have:∀ (l:List (Str×NameKind)),l.lookup x=some .free->∃ y∈l,y.1=x/\y.2=.free:=by
     intro l
     induction l with
     | nil=>intro h;simp at h
     | cons p r ih =>
      intro h
      rw[List.lookup_cons] at h
      cases q:x==p.1 with
      | true =>
       rw[q] at h
       exact⟨p,List.mem_cons_self,(by simpa using q:x=p.1).symm,Option.some.inj h⟩
      | false =>
       rw[q] at h
       obtain⟨y,hy,r1,r2⟩:=ih h
       exact⟨y,List.mem_cons_of_mem _ hy,r1,r2⟩
    exact this _ hfree
   obtain⟨y,hy,r1,r2⟩:=hm
   have:=List.all_eq_true.mp fh y hy
   rw[r2] at this
   have h':(cl.lookup y.1).isSome=true:=by simpa using this
   rw[r1] at h'
   exact Option.isSome_iff_exists.mp h'
  ·exact Nat.ne_of_lt (Nat.lt_of_lt_of_le (hfpS b hb) (by show s2.heap.objs.size<=G.objs.size;omega))
  ·exact(f2 b hb).2.2.2.2.1 x c (ag.at x c e) z
  ·obtain⟨_,_,_,f3,_,_⟩:=f2 b hb
   rcases f3 with z | z
   ·exact I2.ok.vD b o e z
   ·exact absurd (Nat.lt_of_lt_of_le (Heap.lt_size (I2.ok.bs b o e).1) z) (Nat.lt_irrefl _)
  ·rcases List.mem_cons.mp (I2.vG b hz) with z | z
   ·exact(f2 b hb).2.1 z
   ·exact(f2 b hb).2.2.1 z
 have keepB:∀ b o,s2.heap.get? b=some o->h₁.get? b=some o:=old
 have I3:Inv X' [] (gu ts js σ) (upd H1 s2.heap.objs.size (.lst [])) { s2 with heap:=h₁,toks:=s2.toks+([]:List (Str×Value)).length }:=by
  have neD:∀ b o,s2.heap.get? b=some o->b≠s2.heap.objs.size:=fun b o e=>Nat.ne_of_lt (Heap.lt_size e)
  refine⟨okX,rfl,I2.bare,⟨fun b o e n hb hx=>old b o e,fun b o e n hb hx=>⟨o.slots,old b o e⟩,fun b o e n hx=>by rw[au (neD b o e)];exact n,fun b o e hx=>⟨o,old b o e⟩,fun b xs e=>?_,fun b o u e=>?_,fun b ps e=>?_⟩,⟨_,hns1,fun i x v e1 e2 e3=>?_⟩,fun x c e=>?_,?_,fun x c e=>?_,fun p hp=>?_,?_,?_⟩
  ·rw[au (bH e nD)];exact e
  ·rw[au (bH e nD)];exact e
  ·exact⟨#[],by rw[au (bH e nD)];exact Eq.trans e (by simp)⟩
  ·
   have hlen:(ts.map (fun _=>(none:Option V))).length=ts.length:=List.length_map _
   unfold gu at e2
   by_cases hlt:i<ts.length
   ·rw[List.getElem?_append_left (by rw[hlen];exact hlt),List.getElem?_map] at e2
    cases q:ts[i]? <;> rw[q] at e2 <;> cases e2
   ·rw[List.getElem?_append_right (by rw[hlen];omega),hlen] at e2
    have e1':fs[i-ts.length]?=some x:=by
     have e1':(ts++fs)[i]?=some x:=e1
     rw[List.getElem?_append_right (by omega)] at e1'
     exact e1'
    have all:∀ {fs:List Str} {js:List Nat},kr X scope cl fs js->∀ k:Nat,fs[k]?=some x->(js.map fun j=>(σ[j]?).join)[k]?=some (some v) ->
      ∃ (j:Nat) (c:Addr),X.N[j]?=some x/\σ[j]?=some (some v)/\(X.env.kindOf x=some .cell\/X.env.kindOf x=some .free)/\X.env.cells.lookup x=some c/\cl.lookup x=some c/\scope.names.lookup x=some .free:=by
     intro fs js r
     induction r with
     | nil=>intro k e;simp at e
     | @cons y j c fs js hN hf hv hc hl r ih =>
      intro k e e'
      cases k with
      | zero =>
       have e0:y=x:=by simpa using e
       subst e0
       have e0':(σ[j]?).join=some v:=by simpa using e'
       refine⟨j,c,hN,?_,hv,hc,hl,hf⟩
       cases q:σ[j]? with
       | none=>rw[q] at e0';cases e0'
       | some z=>rw[q] at e0';cases z with
        | none=>cases e0'
        | some z =>
         have:z=v:=by simpa using e0'
         rw[this]
      | succ k=>exact ih k (by simpa using e) (by simpa using e')
    obtain⟨j,c,q1,q2,q3,q4,q5,q6⟩:=all fr (i-ts.length) e1' e2
    obtain⟨m,hn,hl⟩:=I2.loc
    have vis:Ez X.env.scope x:=by
     rcases q3 with z | z
     ·exact .inr (.inl z)
     ·exact .inr (.inr z)
    obtain⟨u,ru,lk⟩:=hl j x v q1 q2 vis
    refine⟨u,ru,.inr ⟨?_,c,q5,?_⟩⟩
    ·rcases e3 with z | z | z
     ·exfalso
      have key:∀ (l:List (Str×NameKind)),(l.map fun (n,k)=>if (k==NameKind.free&&X.env.scope.kind==.function&&X.env.kindOf n==some .cell) then (n,NameKind.cell) else (n,k)).lookup x=some .local->l.lookup x=some .local:=by
       intro l
       induction l with
       | nil=>intro h;simp at h
       | cons p r ih =>
        obtain⟨n,k⟩:=p
        intro h
        rw[List.map_cons] at h
        dsimp only at h
        by_cases hc:(k==NameKind.free&&X.env.scope.kind==.function&&X.env.kindOf n==some .cell)=true
        ·rw[if_pos hc] at h
         rw[List.lookup_cons] at h ⊢
         cases q:x==n with
         | true=>rw[q] at h;cases h
         | false=>rw[q] at h;exact ih h
        ·rw[if_neg hc] at h
         rw[List.lookup_cons] at h ⊢
         cases q:x==n with
         | true=>rw[q] at h;exact h
         | false=>rw[q] at h;exact ih h
      have:=key _ z
      rw[q6] at this
      cases this
     ·exact .inl z
     ·exact .inr z
    ·rcases lk with ⟨k,_⟩ | ⟨_,c',e4,z⟩
     ·rcases q3 with z | z <;> rw[z] at k <;> cases k
     ·rw[q4] at e4
      cases e4
      obtain⟨o,ho,hd⟩:=z
      exact⟨o,old c o ho,hd⟩
  ·obtain⟨_,_,v,o,ho,hd⟩:=ltk x c e
   exact⟨v,o,old c o ho,hd⟩
  ·show upd H1 s2.heap.objs.size (.lst []) G.objs.size=none
   rw[au (Nat.ne_of_gt (by rw[hC];exact Nat.lt_succ_self _))];exact nC
  ·obtain⟨q1,q2,_⟩:=ltk x c e
   rw[au (Nat.ne_of_lt q1)];exact q2
  ·have hp':p∈X.pn++pins:=by
    have:p∈(X.pn++pins)++[]:=hp
    rwa [List.append_nil] at this
   obtain⟨e,n,ne,nf,d⟩:=I2.pin p hp'
   have hlt:=Heap.lt_size e
   refine⟨old _ _ e,by rw[au (Nat.ne_of_lt hlt)];exact n,?_,fun hz=>?_,d⟩
   ·show p.1≠G.objs.size
    exact Nat.ne_of_lt (Nat.lt_trans hlt (by rw[hC];exact Nat.lt_succ_self _))
   ·rcases List.mem_cons.mp (I2.vG _ hz) with z | z
    ·exact ne z
    ·exact nf z
  ·exact I2.bo.laid old (Nat.le_refl _) ⟨Nat.zero_le _,[],0,.nil,hacc⟩
  ·show (gu ts js σ).length=(ts++fs).length
   have frl:∀ {fs:List Str} {js:List Nat},kr X scope cl fs js->fs.length=js.length:=by
    intro fs js r
    induction r with
    | nil=>rfl
    | cons _ _ _ _ _ _ ih=>rw[List.length_cons,List.length_cons,ih]
   unfold gu
   rw[List.length_append,List.length_append,List.length_map,List.length_map,frl fr]
 have stat:∀ {H':Hp},(∀ b∈fp,H' b=none)->∀ b∈fp,m_ X' [] H' b:=fun {H'} hn b hb=>by
  obtain⟨_,f1,f3,_,f4,f5⟩:=f2 b hb
  refine⟨hn b hb,okX.Kd b hb |>.1,okX.wW b hb,.inl hb,fun x c e=>f4 x c (ag.at x c e),fun p hp=>f5 p ?_⟩
  have:p∈(X.pn++pins)++[]:=hp
  rwa [List.append_nil] at this
 have fin:∀ {σ':St} {H':Hp} {s':Shared},Inv X' [] σ' H' s'->Q (.ref s2.heap.objs.size) H' ->
   compPost (model X.prog X.w) X.A X.xe use Qv (.ref s2.heap.objs.size) G.objs.size (.ok .next) s':=by
  intro σ' H' s' I4 q
  obtain⟨m,hn,_⟩:=I4.loc
  have fC:H' G.objs.size=none:=I4.free
  have Io:Inv X pins σ H' s':=by
   refine I2.Dp (s':=s') (ch:=fp) I4.os ⟨fun b o e n hb hx=>?_,fun b o e n hb hx=>?_,fun b o e n hx=>I4.base.free b o e n hx,fun b o e hx=>?_,I4.base.qA,I4.base.l9,I4.base.pS⟩ I4.bo I4.bare fun b hb=>?_
   ·exact I4.base.keep b o e n hb hx
   ·exact I4.base.slot b o e n hb hx
   ·exact I4.base.there b o e hx
   ·obtain⟨_,f1,_,f3,f4,f5⟩:=f2 b hb
    exact⟨f3,f1,f4,f5⟩
  have hCl:s2.heap.objs.size<=G.objs.size:=by rw[hC];exact Nat.le_succ _
  exact Ia _ H' s' _ Io q ⟨m,hn⟩ (I2.uP hCl fC)
 have loop:∀ s3:Shared,s3={ s2 with heap:=h₁,toks:=s2.toks+([]:List (Str×Value)).length } ->
   codeAny (model X.prog X.w) X.A (.compLoop (.ListComp elt [⟨tg,iter,ifs,0⟩] scope pos) 0 (.ref it) (.ref s2.heap.objs.size) (compEnvC scope cl G.objs.size X.env))
    (compPost (model X.prog X.w) X.A X.xe use Qv (.ref s2.heap.objs.size) G.objs.size) s3:=by
  rintro s3 rfl
  refine Au (fun n s'=>∃ i σ' H',Inv X' [] σ' H' s'/\tn i s'.heap/\(∀ b∈fp,H' b=none)/\W i n σ' H') ?_ m0 ⟨0,_,_,I3,T.keep _ _ _ st2 fun b _ o e=>old b o e,fun b hb=>?_,w0⟩
  ·rintro n s3 ⟨i,σ3,H3,I3,st3,fr3,w3⟩
   rcases turn i n σ3 H3 w3 with ⟨stop,qn⟩ | ⟨go,N,hN,step⟩
   ·refine cB (T.done X' rfl rfl rfl hcalm i [] s3 σ3 H3 _ I3 (stat fr3) st3 stop) fun r s4 ⟨hr,I4⟩=>?_
    subst hr
    exact fin I4 qn
   ·refine cB (T.item X' rfl rfl rfl hcalm i [] s3 σ3 H3 _ I3 (stat fr3) st3 go) fun r s4 ⟨u,hr,h4⟩=>?_
    subst hr
    refine cB h4 fun _ s5 ⟨x,H5,I5,r5,y5,st5,fr5⟩=>?_
    have I5':=I5.pinned (stat fr5) (T.obj _ _ st5)
    refine cB (hg _ _ _ _ _ _ s5 σ3 H5 x u _ I5' r5 (step x H5 y5)) fun _ s6 ⟨σ6,H6,I6,q6⟩=>?_
    have again:∀ {σ7:St} {H7:Hp} {s7:Shared},Inv X' ([]++nW fp s5.heap) σ7 H7 s7->N σ7 H7->∃ m,m<n/\∃ i σ' H',Inv X' [] σ' H' s7/\tn i s7.heap/\(∀ b∈fp,H' b=none)/\W i m σ' H':=fun {σ7 H7 s7} I7 n7=>by
     obtain⟨m',hm,w7⟩:=hN σ7 H7 n7
     refine⟨m',hm,i+1,σ7,H7,I7.nB,T.keep _ _ _ st5 fun b hb o e=>(I7.pin (b,o) (List.mem_append_right _ (List.mem_append_right _ (jJ hb e)))).1,fun b hb=>?_,w7⟩
     obtain⟨o,e,d⟩:=T.obj _ _ st5 b hb
     exact(I7.pin (b,o) (List.mem_append_right _ (List.mem_append_right _ (jJ hb e)))).2.1
    have tail:∀ {H7:Hp} {s7:Shared},Inv X' ([]++nW fp s5.heap) σ6 H7 s7->(te σ6 H7 fun y H4=>∃ ys,H4 s2.heap.objs.size=some (.lst ys)/\ys.length<sizeLine/\N σ6 (upd H4 s2.heap.objs.size (.lst (ys++[y])))) ->
      wpAny (model X.prog X.w) X.A (eval elt (compEnvC scope cl G.objs.size X.env)) (fun x s₅=>wpAny (model X.prog X.w) X.A (call (.builtin "list.append") [.ref s2.heap.objs.size,x])
       (fun _ s₆=>∃ m,m<n/\∃ i σ' H',Inv X' [] σ' H' s₆/\tn i s₆.heap/\(∀ b∈fp,H' b=none)/\W i m σ' H') (fun _ _=>False) s₅) (fun _ _=>False) s7:=by
     intro H7 s7 I7 q7
     refine cB (he _ _ _ _ _ _ s7 σ6 H7 _ I7 q7) fun uy s8 ⟨y,H8,I8,ry,ys,hy,hl,q8⟩=>?_
     refine cB (tf (X:=X') _ s8 σ6 H8 (.ref s2.heap.objs.size) [y] (.ref s2.heap.objs.size) [uy] (fun _ H9=>N σ6 H9) I8 rfl (.cons ry .nil) ⟨_,ys,y,rfl,rfl,hy,hl,q8⟩) fun _ s9 ⟨_,H9,I9,_,q9⟩=>?_
     exact again I9 q9
    cases ifs with
    | nil =>
     cases tt with
     | none=>exact wpAny_tests_nil (tail I6 q6)
     | some t=>exact(ht 0 s2 H1 [] []).elim
    | cons c r =>
     cases r with
     | nil =>
      cases tt with
      | none=>exact(ht 0 s2 H1 [] []).elim
      | some t =>
       refine wpAny_tests_one (cB (ht G.objs.size s2 H1 fp pins _ s6 σ6 H6 _ I6 q6) fun b s7 ⟨H7,I7,q7⟩=>?_)
       cases b with
       | true =>
        rw[if_pos rfl] at q7 ⊢
        exact tail I7 q7
       | false =>
        rw[if_neg Bool.false_ne_true] at q7 ⊢
        exact again I7 q7
     | cons _ _=>cases tt <;> exact(ht 0 s2 H1 [] []).elim
  ·rw[au (Nat.ne_of_lt (hfpS b hb))]
   exact(f2 b hb).1
 exact codeAny_compStart_list (loop _ rfl) (T.self _ 0 _ _ _ (T.keep _ _ _ st2 fun b _ o e=>old b o e) (loop _ rfl))
theorem Inv.other{X:Cx}{pins:List (Addr×Obj)}{σ:St}{H:Hp}{s:Shared}{C:Addr}{h':Heap}(I:Inv X pins σ H s)(f:m_ X pins H C)(hs:Heap.SameBut C s.heap h'):Inv X pins σ H { s with heap:=h' }:=by
 obtain⟨f0,f1,_,f3,f4,f5⟩:=f
 refine I.Dp (s':={ s with heap:=h' }) (ch:=[C]) rfl ⟨fun b o e n hb hx=>?_,fun b o e n hb hx=>?_,fun b o e n hx=>n,fun b o e hx=>?_,fun _ _ q=>q,fun _ _ _ q=>q,fun b ps q=>⟨#[],by rw[q];simp⟩⟩ (fun b u e=>?_) I.bare fun b hb=>?_
 ·exact(hs.2 b (fun z=>hx (by rw[z];exact List.mem_singleton.mpr rfl))).trans e
 ·exact⟨o.slots,(hs.2 b (fun z=>hx (by rw[z];exact List.mem_singleton.mpr rfl))).trans e⟩
 ·exact⟨o,(hs.2 b (fun z=>hx (by rw[z];exact List.mem_singleton.mpr rfl))).trans e⟩
 ·refine(I.bo b u e).nv (fun c v hc q=>(hs.2 c ?_).trans q) (fun _ q=>q) fun _ _ q=>q
  rcases hc with z | z
  ·rw[z];exact bH e f0
  ·exact bH z f0
 ·rw[List.mem_singleton.mp hb]
  exact⟨f3,f1,f4,f5⟩
theorem E_{X:Cx}{tg elt iter:Expr}{ifs:List Expr}{scope:Scope}{cl:List (Str×Addr)}{pos:Pos}{wi:TI}{g:TG}{tt:Option TT}{te:TE}{ts fs:List Str}{js:List Nat}(hcalm:X.calm=true)
  (hclos:closureFor scope X.env=pure cl) (hk:scope.kind=.function) (nc:iQ scope.names=true) (lo:lB scope.names=true) (fh:lq cl scope.names=true) (ag:fU X cl) (fr:kr X scope cl fs js)
  (hi:PI X tg iter wi) (hg:∀ C s₀ H₀ ex pins,PG (xN X scope cl (ts++fs) C s₀ H₀ ex pins) tg g)
  (ht:∀ C s₀ H₀ ex pins,match ifs,tt with | [],none=>True | [c],some t=>PT (xN X scope cl (ts++fs) C s₀ H₀ ex pins) c t | _,_=>False)
  (he:∀ C s₀ H₀ ex pins,PE (xN X scope cl (ts++fs) C s₀ H₀ ex pins) elt te)
  (hs:∀ x,foldedSetIterable iter X.env x=pure x:=by intro _;rfl) :
  PE X (.ListComp elt [⟨tg,iter,ifs,0⟩] scope pos) (Du wi g tt te ts js):=by
 intro pins s σ H Q I h
 rw[eval_ListComp]
 refine vW hcalm hclos hk nc lo fh ag fr hi hg ht he hs I h none _ fun D H' s' C Io q hm f=>?_
 obtain⟨m,hn⟩:=hm
 exact⟨m,hn,fun h' hs'=>⟨.ref D,H',Io.other f hs',rfl,q⟩⟩
def xU(wi:TI)(g:TG)(te:TE)(ts:List Str)(js:List Nat):TE:=fun σ H Q=>wi σ H fun J H1=>∀ D,H1 D=none ->
 ∃ W:Nat->Nat->St->Hp->Prop,(∃ m,W 0 m (gu ts js σ) (upd H1 D (.lst [])))/\∀ i m σ' H',W i m σ' H' ->
  (J.stop i H'/\Q (.ref D) H')\/(J.go i H'/\∃ N:St->Hp->Prop,(∀ σ'' H'',N σ'' H''->∃ m',m'<m/\W (i+1) m' σ'' H'') ∧
   ∀ x H2,J.xM i H' x H2->g x σ' H2 fun σ2 H3=>te σ2 H3 fun y H4=>∃ ys,H4 D=some (.lst ys)/\ys.length<sizeLine/\N σ2 (upd H4 D (.lst (ys++[y]))))
theorem CH{X:Cx}{tg elt iter:Expr}{scope:Scope}{cl:List (Str×Addr)}{pos:Pos}{wi:TI}{g:TG}{te:TE}{ts fs:List Str}{js:List Nat}(hcalm:X.calm=true)
  (hclos:closureFor scope X.env=pure cl) (hk:scope.kind=.function) (nc:iQ scope.names=true) (lo:lB scope.names=true) (fh:lq cl scope.names=true) (ag:fU X cl) (fr:kr X scope cl fs js)
  (hi:PI X tg iter wi) (hg:∀ C s₀ H₀ ex pins,PG (xN X scope cl (ts++fs) C s₀ H₀ ex pins) tg g) (he:∀ C s₀ H₀ ex pins,PE (xN X scope cl (ts++fs) C s₀ H₀ ex pins) elt te)
  (hs:∀ x,foldedSetIterable iter X.env x=pure x:=by intro _;rfl):PE X (.ListComp elt [⟨tg,iter,[],0⟩] scope pos) (xU wi g te ts js) :=
 E_ (tt:=none) hcalm hclos hk nc lo fh ag fr hi hg (fun _ _ _ _ _=>trivial) he hs
end L2
namespace L2
open PySem PySem.Spec PyProof.Rows
def fS(h:Heap)(b:Bool)(l:Addr)(xs:Array Value):Prop:=match b with
 | true=>h.IsList l xs
 | false=>h.IsTuple l xs
def dX(h:Heap)(b:Bool)(it l:Addr)(i:Nat):Prop:=match b with
 | true=>h.IsListIter it l i
 | false=>h.IsTupleIter it l i
theorem fS.at{h h':Heap}{b:Bool}{l:Addr}{xs:Array Value}(x:fS h b l xs)(k:∀ o,h.get? l=some o->h'.get? l=some o):fS h' b l xs:=by
 cases b with
 | true=>obtain⟨o,ho,r⟩:=(show h.IsList l xs from x);exact(show h'.IsList l xs from ⟨o,k o ho,r⟩)
 | false=>obtain⟨o,ho,r⟩:=(show h.IsTuple l xs from x);exact(show h'.IsTuple l xs from ⟨o,k o ho,r⟩)
theorem dX.at{h h':Heap}{b:Bool}{it l:Addr}{i:Nat}(x:dX h b it l i)(k:∀ o,h.get? it=some o->h'.get? it=some o):dX h' b it l i:=by
 cases b with
 | true=>obtain⟨o,ho,r⟩:=(show h.IsListIter it l i from x);exact(show h'.IsListIter it l i from ⟨o,k o ho,r⟩)
 | false=>obtain⟨o,ho,r⟩:=(show h.IsTupleIter it l i from x);exact(show h'.IsTupleIter it l i from ⟨o,k o ho,r⟩)
theorem dX.obj{h:Heap}{b:Bool}{it l:Addr}{i:Nat}(x:dX h b it l i):∃ o vs,h.get? it=some o/\o.data=.fields vs:=by
 cases b with
 | true=>obtain⟨o,ho,_,hd⟩:=(show h.IsListIter it l i from x);exact⟨o,_,ho,hd⟩
 | false=>obtain⟨o,ho,_,hd⟩:=(show h.IsTupleIter it l i from x);exact⟨o,_,ho,hd⟩
theorem fS.obj{h:Heap}{b:Bool}{l:Addr}{xs:Array Value}(x:fS h b l xs):∃ o n,h.get? l=some o/\o.data=.seq xs n:=by
 cases b with
 | true=>obtain⟨o,ho,_,n,hd⟩:=(show h.IsList l xs from x);exact⟨o,n,ho,hd⟩
 | false=>obtain⟨o,ho,_,n,hd⟩:=(show h.IsTuple l xs from x);exact⟨o,n,ho,hd⟩
section
variable{prog:Program}{w:World}{A:Around}{E:Value->Shared->Prop}{s:Shared}
theorem iq{it t:Addr}{i:Nat}{items:Array Value}{x:Value}{Q:Value->Shared->Prop}(hit:s.heap.IsTupleIter it t i)
  (ht:s.heap.IsTuple t items) (hx:items[i]?=some x)
  (hQ:∀ h',h'.IsTupleIter it t (i+1)->Heap.SameBut it s.heap h'->Q x { s with heap:=h' }) :
  wpAny (model prog w) A (Builtin.SmallTypes.nextOf (.ref it)) Q E s:=by
 obtain⟨o,ho,hc,hd⟩:=id hit
 obtain⟨ol,hol,_,nl,hdl⟩:=ht
 unfold Builtin.SmallTypes.nextOf
 refine wpAny_bind (wpAny_callSpecial?_slot (name:=Str.ofString "__next__") hit.typeIs F.slot_tuple_iterator_next
  (wpAny_call_entry F.slot_tuple_iterator_next hit.typeIs F.entry_tuple_iterator_next ?_ (F.args_tuple_iterator_next_1 _)))
 show wpAny _ _ (field (.ref it) 0 >>= _) _ _ s
 refine wpAny_bind (wpAny_field ho hd (x:=.ref t) rfl ?_)
 show wpAny _ _ (if (Value.ref t==Value.none)=true then _ else _) _ _ s
 rw[if_neg (show ¬ ((Value.ref t==Value.none)=true) from Bool.false_ne_true)]
 show wpAny _ _ (field (.ref it) 1 >>= _) _ _ s
 refine wpAny_bind (wpAny_field ho hd (x:=.int i 0) rfl ?_)
 show wpAny _ _ (seqItems? (.ref t) >>= _) _ _ s
 refine wpAny_bind (wpAny_seqItems hol hdl ?_)
 simp only[Int.toNat_natCast,hx]
 refine wpAny_bind (wpAny_setField ho hd (by simp) (wpAny_pure ⟨x,rfl,wpAny_pure (hQ _ ?_ (Heap.SameBut.update ..))⟩))
 exact⟨_,Heap.get?_update_self _ ho (Obj.isFreed_of_fields (Obj.data_mapFields hd _)),(Obj.cls_mapFields ..).trans hc,by
  rw[Obj.data_mapFields hd];simp[rawInt]⟩
theorem e9{it t:Addr}{i:Nat}{items:Array Value}{Q:Value->Shared->Prop}(hh:A.handled=none)
  (hit:s.heap.IsTupleIter it t i) (ht:s.heap.IsTuple t items) (hx:items[i]?=none)
  (hE:∀ h' e,Heap.ExtBut it s.heap h'->(∃ o,h'.get? e=some o/\o.cls=.type "StopIteration")->E (.ref e) { s with heap:=h' }) :
  wpAny (model prog w) A (Builtin.SmallTypes.nextOf (.ref it)) Q E s:=by
 obtain⟨o,ho,hc,hd⟩:=id hit
 obtain⟨ol,hol,_,nl,hdl⟩:=ht
 unfold Builtin.SmallTypes.nextOf
 refine wpAny_bind (wpAny_callSpecial?_slot (name:=Str.ofString "__next__") hit.typeIs F.slot_tuple_iterator_next
  (wpAny_call_entry F.slot_tuple_iterator_next hit.typeIs F.entry_tuple_iterator_next ?_ (F.args_tuple_iterator_next_1 _)))
 show wpAny _ _ (field (.ref it) 0 >>= _) _ _ s
 refine wpAny_bind (wpAny_field ho hd (x:=.ref t) rfl ?_)
 show wpAny _ _ (if (Value.ref t==Value.none)=true then _ else _) _ _ s
 rw[if_neg (show ¬ ((Value.ref t==Value.none)=true) from Bool.false_ne_true)]
 show wpAny _ _ (field (.ref it) 1 >>= _) _ _ s
 refine wpAny_bind (wpAny_field ho hd (x:=.int i 0) rfl ?_)
 show wpAny _ _ (seqItems? (.ref t) >>= _) _ _ s
 refine wpAny_bind (wpAny_seqItems hol hdl ?_)
 simp only[Int.toNat_natCast,hx]
 refine wpAny_bind (wpAny_rule (wpAny_bind (wpAny_setField ho hd (by simp) ?_)))
 show wpAny _ _ (newExc (.type "StopIteration") [] >>= _) _ _ _
 refine wpAny_bind ?_
 simp only[newExc,newTuple]
 refine wpAny_bind (wpAny_newObj_type ?_ (by size_fits))
 refine wpAny_bind (m:=firstArgMember _ _) (wpAny_of_eq (a:=Value.none) (by first | rfl | (simp only[firstArgMember];rfl)) ?_)
 refine wpAny_newObj_type ?_ (by size_fits)
 simp only[raiseNew]
 refine wpAny_bind (wpAny_handled ?_)
 first | rw[show A.in1.handled=none from hh] | rw[hh]
 refine wpAny_bind (wpAny_pure (wpAny_throw ?_))
 exact hE _ _ (((Heap.SameBut.update ..).extBut.push _).push _) ⟨_,Heap.get?_push_size _ rfl,rfl⟩
theorem cI{b:Bool}{it l:Addr}{i:Nat}{items:Array Value}{x:Value}{Q:Value->Shared->Prop}(hit:dX s.heap b it l i)(hl:fS s.heap b l items)(hx:items[i]?=some x)
  (hQ:∀ h',dX h' b it l (i+1)->Heap.SameBut it s.heap h'->Q x { s with heap:=h' }):wpAny (model prog w) A (Builtin.SmallTypes.nextOf (.ref it)) Q E s:=by
 cases b with
 | true=>exact wpAny_nextOf_list_item hit hl hx hQ
 | false=>exact iq hit hl hx hQ
theorem gH{b:Bool}{it l:Addr}{i:Nat}{items:Array Value}{Q:Value->Shared->Prop}(hh:A.handled=none)(hit:dX s.heap b it l i)(hl:fS s.heap b l items)(hx:items[i]?=none)
  (hE:∀ h' e,Heap.ExtBut it s.heap h'->(∃ o,h'.get? e=some o/\o.cls=.type "StopIteration")->E (.ref e) { s with heap:=h' }):wpAny (model prog w) A (Builtin.SmallTypes.nextOf (.ref it)) Q E s:=by
 cases b with
 | true=>exact wpAny_nextOf_list_end hh hit hl hx hE
 | false=>exact e9 hh hit hl hx hE
theorem Bv{b1 b2:Bool}{z TI TO i1 i2 l1 l2:Addr}{k1 k2:Nat}{xs ys:Array Value}{x y a b:Value}{Q:Value->Shared->Prop}(D:ZipApart z TI TO i1 i2 l1 l2)
  (hz:IsZip s.heap z TI TO .none) (hTI:IsPair s.heap TI (.ref i1) (.ref i2)) (hTO:IsPair s.heap TO a b)
  (h1:dX s.heap b1 i1 l1 k1) (h2:dX s.heap b2 i2 l2 k2) (hl1:fS s.heap b1 l1 xs) (hl2:fS s.heap b2 l2 ys) (hx:xs[k1]?=some x) (hy:ys[k2]?=some y)
  (hQ:∀ h',IsZip h' z TI TO (rawInt s.heap.objs.size)->IsPair h' TO x y->dX h' b1 i1 l1 (k1+1)->dX h' b2 i2 l2 (k2+1)->IsPair h' s.heap.objs.size x y->h'.objs.size=s.heap.objs.size+1 ->
   (∀ c o,c≠z->c≠TO->c≠i1->c≠i2->s.heap.get? c=some o->h'.get? c=some o)->Q (.ref s.heap.objs.size) { s with heap:=h' }) :
  wpAny (model prog w) A (Builtin.«zip.__next__» ⟨[.ref z],[]⟩) (fun fin s'=>∃ v,fin=.done (.ret v)/\Q v s') E s:=by
 show wpAny _ _ (field (.ref z) 2 >>= _) _ _ _
 refine wpAny_bind (wpAny_field hz rfl (x:=.bool false) rfl ?_)
 show wpAny _ _ (field (.ref z) 3 >>= _) _ _ _
 refine wpAny_bind (wpAny_field hz rfl (x:=.ref TI) rfl ?_)
 refine wpAny_bind (wpAny_seqItems hTI rfl ?_)
 show wpAny _ _ (Builtin.SmallTypes.ownedTupleIsFree (.ref z) >>= _) _ _ _
 refine wpAny_bind ?_
 unfold Builtin.SmallTypes.ownedTupleIsFree
 refine wpAny_bind (wpAny_field hz rfl (x:=.none) rfl (wpAny_pure ?_))
 simp only[if_true]
 refine wpAny_bind (wpAny_rule ?_)
 refine wpAny_bind (wpAny_field hz rfl (x:=.ref TO) rfl ?_)
 refine wpAny_bind (wpAny_setField_rec hz (by simp) fun h₁ hz₁ hs1=>?_)
 replace hz₁:IsZip h₁ z TI TO .ellipsis:=hz₁
 refine wpAny_bind ?_
 simp only[List.zipIdx_cons,List.zipIdx_nil,List.forIn_cons,List.forIn_nil]
 refine wpAny_bind (wpAny_bind (wpAny_onRaise ?_))
 show wpAny _ _ (Builtin.SmallTypes.nextOf (.ref i1) >>= _) _ _ _
 refine wpAny_bind (cI (h1.at fun o e=>hs1.extBut _ _ D.i1z e) (hl1.at fun o e=>hs1.extBut _ _ D.l1z e) hx fun h₂ h1₂ hs₂=>wpAny_pure ?_)
 have hTO2:IsPair h₂ TO a b:=hs₂.extBut _ _ D.TOi1 (hs1.extBut _ _ D.TOz hTO)
 refine wpAny_bind (wpAny_seqItems hTO2 rfl ?_)
 refine wpAny_bind (wpAny_updateSeq_pair hTO2 fun h₃ hTO3 hs₃=>?_)
 replace hTO3:IsPair h₃ TO x b:=hTO3
 refine wpAny_bind (wpAny_letGo (wpAny_pure ?_))
 refine wpAny_bind (wpAny_bind (wpAny_onRaise ?_))
 show wpAny _ _ (Builtin.SmallTypes.nextOf (.ref i2) >>= _) _ _ _
 refine wpAny_bind (cI (h2.at fun o e=>hs₃.extBut _ _ D.TOi2.symm (hs₂.extBut _ _ D.i12.symm (hs1.extBut _ _ D.i2z e)))
  (hl2.at fun o e=>hs₃.extBut _ _ D.l2TO (hs₂.extBut _ _ D.l2i1 (hs1.extBut _ _ D.l2z e))) hy fun h₄ h2₄ hs4=>wpAny_pure ?_)
 have hTO4:IsPair h₄ TO x b:=hs4.extBut _ _ D.TOi2 hTO3
 refine wpAny_bind (wpAny_seqItems hTO4 rfl ?_)
 refine wpAny_bind (wpAny_updateSeq_pair hTO4 fun h₅ hTO5 hs5=>?_)
 replace hTO5:IsPair h₅ TO x y:=hTO5
 refine wpAny_bind (wpAny_letGo (wpAny_pure (wpAny_pure ?_)))
 refine wpAny_bind (wpAny_seqItems hTO5 rfl ?_)
 refine wpAny_bind (wpAny_newTuple ?_)
 have hsz:h₅.objs.size=s.heap.objs.size:=by rw[hs5.1,hs4.1,hs₃.1,hs₂.1,hs1.1]
 have hz5:IsZip h₅ z TI TO .ellipsis:=hs5.extBut _ _ D.TOz.symm (hs4.extBut _ _ D.i2z.symm (hs₃.extBut _ _ D.TOz.symm (hs₂.extBut _ _ D.i1z.symm hz₁)))
 have hk5:∀ c o,c≠z->c≠TO->c≠i1->c≠i2->s.heap.get? c=some o->h₅.get? c=some o:=fun c o c1 c2 c3 c4 e =>
  hs5.extBut _ _ c2 (hs4.extBut _ _ c4 (hs₃.extBut _ _ c2 (hs₂.extBut _ _ c3 (hs1.extBut _ _ c1 e))))
 have h1₅:dX h₅ b1 i1 l1 (k1+1):=h1₂.at fun o e=>hs5.extBut _ _ D.TOi1.symm (hs4.extBut _ _ D.i12 (hs₃.extBut _ _ D.TOi1.symm e))
 have h2₅:dX h₅ b2 i2 l2 (k2+1):=h2₄.at fun o e=>hs5.extBut _ _ D.TOi2.symm e
 have hzlt:z<h₅.objs.size:=Heap.lt_size hz5
 show wpAny _ _ (Builtin.SmallTypes.ownedTupleHandOut (.ref z) (.ref h₅.objs.size) >>= _) _ _ _
 refine wpAny_bind ?_
 unfold Builtin.SmallTypes.ownedTupleHandOut
 have hz6:IsZip (h₅.push { cls:=.type "tuple", data:=.seq #[x,y] }) z TI TO .ellipsis:=Heap.get?_push_of_some _ hz5
 refine wpAny_bind (wpAny_setField_rec hz6 (by simp) fun h₇ hz7 hs7=>?_)
 replace hz7:IsZip h₇ z TI TO (rawInt h₅.objs.size):=hz7
 refine wpAny_setField_rec hz7 (by simp) fun h₈ hz₈ hs8=>?_
 replace hz₈:IsZip h₈ z TI TO (rawInt h₅.objs.size):=hz₈
 have up:∀ c o,c≠z->h₅.get? c=some o->h₈.get? c=some o:=fun c o c1 e=>hs8.extBut _ _ c1 (hs7.extBut _ _ c1 (Heap.get?_push_of_some _ e))
 have hT8:IsPair h₈ h₅.objs.size x y:=hs8.extBut _ _ (Nat.ne_of_gt hzlt) (hs7.extBut _ _ (Nat.ne_of_gt hzlt) (Heap.get?_push_size _ rfl))
 have hz8:h₈.objs.size=h₅.objs.size+1:=by rw[hs8.1,hs7.1,Heap.size_push]
 rw[hsz] at hz₈ hT8 hz8
 refine wpAny_pure ⟨_,rfl,?_⟩
 show Q (.ref h₅.objs.size) _
 rw[hsz]
 exact hQ h₈ hz₈ (up _ _ D.TOz hTO5) (h1₅.at fun o e=>up _ o D.i1z e) (h2₅.at fun o e=>up _ o D.i2z e) hT8 hz8 fun c o c1 c2 c3 c4 e=>up c o c1 (hk5 c o c1 c2 c3 c4 e)
theorem CS{b1 b2:Bool}{z TI TO i1 i2 l1 l2:Addr}{k1 k2:Nat}{xs ys:Array Value}{a b:Value}{Q:Fin->Shared->Prop}(hh:A.handled=none)(D:ZipApart z TI TO i1 i2 l1 l2)
  (hz:IsZip s.heap z TI TO .none) (hTI:IsPair s.heap TI (.ref i1) (.ref i2)) (hTO:IsPair s.heap TO a b)
  (h1:dX s.heap b1 i1 l1 k1) (h2:dX s.heap b2 i2 l2 k2) (hl1:fS s.heap b1 l1 xs) (hl2:fS s.heap b2 l2 ys) (hend:xs[k1]?=none\/ys[k2]?=none)
  (hE:∀ h' e,(∀ c o,c≠z->c≠TO->c≠i1->c≠i2->s.heap.get? c=some o->h'.get? c=some o)->(∃ o,h'.get? e=some o/\o.cls=.type "StopIteration")->E (.ref e) { s with heap:=h' }) :
  wpAny (model prog w) A (Builtin.«zip.__next__» ⟨[.ref z],[]⟩) Q E s:=by
 show wpAny _ _ (field (.ref z) 2 >>= _) _ _ _
 refine wpAny_bind (wpAny_field hz rfl (x:=.bool false) rfl ?_)
 show wpAny _ _ (field (.ref z) 3 >>= _) _ _ _
 refine wpAny_bind (wpAny_field hz rfl (x:=.ref TI) rfl ?_)
 refine wpAny_bind (wpAny_seqItems hTI rfl ?_)
 show wpAny _ _ (Builtin.SmallTypes.ownedTupleIsFree (.ref z) >>= _) _ _ _
 refine wpAny_bind ?_
 unfold Builtin.SmallTypes.ownedTupleIsFree
 refine wpAny_bind (wpAny_field hz rfl (x:=.none) rfl (wpAny_pure ?_))
 simp only[if_true]
 refine wpAny_bind (wpAny_rule ?_)
 refine wpAny_bind (wpAny_field hz rfl (x:=.ref TO) rfl ?_)
 refine wpAny_bind (wpAny_setField_rec hz (by simp) fun h₁ hz₁ hs1=>?_)
 replace hz₁:IsZip h₁ z TI TO .ellipsis:=hz₁
 refine wpAny_bind ?_
 simp only[List.zipIdx_cons,List.zipIdx_nil,List.forIn_cons,List.forIn_nil]
 refine wpAny_bind (wpAny_bind (wpAny_onRaise ?_))
 show wpAny _ _ (Builtin.SmallTypes.nextOf (.ref i1) >>= _) _ _ _
 cases hx:xs[k1]? with
 | none =>
  refine wpAny_bind (gH hh (h1.at fun o e=>hs1.extBut _ _ D.i1z e) (hl1.at fun o e=>hs1.extBut _ _ D.l1z e) hx fun h₂ e hs₂ he=>?_)
  obtain⟨oe,hoe,hce⟩:=he
  have hz₂:IsZip h₂ z TI TO .ellipsis:=hs₂ _ _ D.i1z.symm hz₁
  have hez:e≠z:=fun x=>by subst x;rw[hz₂] at hoe;cases hoe;simp at hce
  refine wpAny_setField_rec hz₂ (by simp) fun h₃ _ hs₃=>hE h₃ e (fun c o c1 _ c3 _ x=>hs₃.extBut _ _ c1 (hs₂ _ _ c3 (hs1.extBut _ _ c1 x))) ⟨oe,hs₃.extBut _ _ hez hoe,hce⟩
 | some x =>
  have hy:ys[k2]?=none:=by rcases hend with h | h;rw[hx] at h;cases h;exact h
  refine wpAny_bind (cI (h1.at fun o e=>hs1.extBut _ _ D.i1z e) (hl1.at fun o e=>hs1.extBut _ _ D.l1z e) hx fun h₂ h1₂ hs₂=>wpAny_pure ?_)
  have hTO2:IsPair h₂ TO a b:=hs₂.extBut _ _ D.TOi1 (hs1.extBut _ _ D.TOz hTO)
  refine wpAny_bind (wpAny_seqItems hTO2 rfl ?_)
  refine wpAny_bind (wpAny_updateSeq_pair hTO2 fun h₃ hTO3 hs₃=>?_)
  refine wpAny_bind (wpAny_letGo (wpAny_pure ?_))
  refine wpAny_bind (wpAny_bind (wpAny_onRaise ?_))
  show wpAny _ _ (Builtin.SmallTypes.nextOf (.ref i2) >>= _) _ _ _
  refine wpAny_bind (gH hh (h2.at fun o e=>hs₃.extBut _ _ D.TOi2.symm (hs₂.extBut _ _ D.i12.symm (hs1.extBut _ _ D.i2z e)))
   (hl2.at fun o e=>hs₃.extBut _ _ D.l2TO (hs₂.extBut _ _ D.l2i1 (hs1.extBut _ _ D.l2z e))) hy fun h₄ e hs4 he=>?_)
  obtain⟨oe,hoe,hce⟩:=he
  have hz4:IsZip h₄ z TI TO .ellipsis:=hs4 _ _ D.i2z.symm (hs₃.extBut _ _ D.TOz.symm (hs₂.extBut _ _ D.i1z.symm hz₁))
  have hez:e≠z:=fun x=>by subst x;rw[hz4] at hoe;cases hoe;simp at hce
  refine wpAny_setField_rec hz4 (by simp) fun h₅ _ hs5=>hE h₅ e (fun c o c1 c2 c3 c4 x=>hs5.extBut _ _ c1 (hs4 _ _ c4 (hs₃.extBut _ _ c2 (hs₂.extBut _ _ c3 (hs1.extBut _ _ c1 x))))) ⟨oe,hs5.extBut _ _ hez hoe,hce⟩
theorem wj{b:Bool}{l:Addr}{items:Array Value}{Q:Value->Shared->Prop}(hl:fS s.heap b l items)
  (h:∀ o,o=({ cls:=.type (if b then "list_iterator" else "tuple_iterator"),data:=.fields #[.ref l,.int 0 0] }:Obj)->Q (.ref s.heap.objs.size) { s with heap:=s.heap.push o }):wpAny (model prog w) A (pyIter (.ref l)) Q E s:=by
 cases b with
 | true=>exact wpAny_pyIter_list hl (h _ rfl)
 | false=>exact wpAny_pyIter_tuple hl (h _ rfl)
theorem n_{b1 b2:Bool}{z TI TO i1 i2 l1 l2:Addr}{k1 k2:Nat}{xs ys:Array Value}{x y a b:Value}{Q:Option Value->Shared->Prop}(D:ZipApart z TI TO i1 i2 l1 l2)
  (hz:IsZip s.heap z TI TO .none) (hTI:IsPair s.heap TI (.ref i1) (.ref i2)) (hTO:IsPair s.heap TO a b)
  (h1:dX s.heap b1 i1 l1 k1) (h2:dX s.heap b2 i2 l2 k2) (hl1:fS s.heap b1 l1 xs) (hl2:fS s.heap b2 l2 ys) (hx:xs[k1]?=some x) (hy:ys[k2]?=some y)
  (hQ:∀ h',IsZip h' z TI TO (rawInt s.heap.objs.size)->IsPair h' TO x y->dX h' b1 i1 l1 (k1+1)->dX h' b2 i2 l2 (k2+1)->IsPair h' s.heap.objs.size x y->h'.objs.size=s.heap.objs.size+1 ->
   (∀ c o,c≠z->c≠TO->c≠i1->c≠i2->s.heap.get? c=some o->h'.get? c=some o)->Q (some (.ref s.heap.objs.size)) { s with heap:=h' }) :
  wpAny (model prog w) A (pyNext (.ref z)) Q E s:=by
 have hT:s.TypeIs (.ref z) "zip" := ⟨_,hz,rfl⟩
 unfold pyNext
 exact wpAny_bind (wpAny_attempt (wpAny_callSpecial?_slot (name:=Str.ofString "__next__") hT F.slot_zip_next
  (wpAny_call_entry F.slot_zip_next hT F.entry_zip_next
   (Bv D hz hTI hTO h1 h2 hl1 hl2 hx hy fun h' a1 a2 a3 a4 a5 a6 a7=>wpAny_pure (hQ h' a1 a2 a3 a4 a5 a6 a7)) (F.args_zip_next_1 _))))
theorem pj{b1 b2:Bool}{z TI TO i1 i2 l1 l2:Addr}{k1 k2:Nat}{xs ys:Array Value}{a b:Value}{Q:Option Value->Shared->Prop}(hh:A.handled=none)(D:ZipApart z TI TO i1 i2 l1 l2)
  (hz:IsZip s.heap z TI TO .none) (hTI:IsPair s.heap TI (.ref i1) (.ref i2)) (hTO:IsPair s.heap TO a b)
  (h1:dX s.heap b1 i1 l1 k1) (h2:dX s.heap b2 i2 l2 k2) (hl1:fS s.heap b1 l1 xs) (hl2:fS s.heap b2 l2 ys) (hend:xs[k1]?=none\/ys[k2]?=none)
  (hQ:∀ h',(∀ c o,c≠z->c≠TO->c≠i1->c≠i2->s.heap.get? c=some o->h'.get? c=some o)->Q none { s with heap:=h' }):wpAny (model prog w) A (pyNext (.ref z)) Q E s:=by
 have hT:s.TypeIs (.ref z) "zip" := ⟨_,hz,rfl⟩
 unfold pyNext
 refine wpAny_bind (wpAny_attempt (wpAny_callSpecial?_slot (name:=Str.ofString "__next__") hT F.slot_zip_next
  (wpAny_call_entry F.slot_zip_next hT F.entry_zip_next (CS hh D hz hTI hTO h1 h2 hl1 hl2 hend fun h' e hk he=>?_) (F.args_zip_next_1 _))))
 obtain⟨o,ho,hc⟩:=he
 refine wpAny_bind (wpAny_isInstance (T := "StopIteration") (b:=true) ⟨o,ho,hc⟩ isSubtype_stop ?_)
 exact wpAny_pure (hQ _ hk)
abbrev F3(b:Bool)(l:Addr):Obj:={ cls:=.type (if b then "list_iterator" else "tuple_iterator"),data:=.fields #[.ref l,.int 0 0] }
abbrev J2(h:Heap)(b1:Bool)(l1:Addr):Heap:=h.push (F3 b1 l1)
abbrev Hi(h:Heap)(b1 b2:Bool)(l1 l2:Addr):Heap:=(J2 h b1 l1).push (F3 b2 l2)
abbrev LW(h:Heap)(b1 b2:Bool)(l1 l2:Addr):Heap:=(Hi h b1 b2 l1 l2).push { cls:=.type "tuple", data:=.seq #[.ref h.objs.size,.ref (J2 h b1 l1).objs.size] }
abbrev LR(h:Heap)(b1 b2:Bool)(l1 l2:Addr):Heap:=(LW h b1 b2 l1 l2).push { cls:=.type "tuple", data:=.seq #[.none,.none] }
abbrev Jl(h:Heap)(b1 b2:Bool)(l1 l2:Addr):Heap:=(LR h b1 b2 l1 l2).push { cls:=.type "zip", data:=.fields #[.none,.bool false,.bool false,.ref (Hi h b1 b2 l1 l2).objs.size,.ref (LW h b1 b2 l1 l2).objs.size] }
end
theorem fN{prog:Program}{w:World}{A:Around}{E:Value->Shared->Prop}{s:Shared}{b:Bool}{l:Addr}{items:Array Value}{Q:Value->Shared->Prop}(hl:fS s.heap b l items)
  (h:Q (.ref s.heap.objs.size) { s with heap:=s.heap.push (F3 b l) }):wpAny (model prog w) A (pyIter (.ref l)) Q E s:=wj hl fun o e=>by subst e;exact h
theorem fS.push{h:Heap}{b:Bool}{l:Addr}{xs:Array Value}(x:fS h b l xs)(o:Obj):fS (h.push o) b l xs:=x.at fun _ e=>Heap.get?_push_of_some _ e
theorem qB(b1 b2:Bool)(l1 l2:Addr)(xs ys:Array Value) :
  Meets (Builtin.«zip.__new__» ⟨[.type "zip", .ref l1,.ref l2],[]⟩) (fun _ R s=>fS s.heap b1 l1 xs/\fS s.heap b2 l2 ys ∧
   R (.ok (.ret (.ref (LR s.heap b1 b2 l1 l2).objs.size))) { s with heap:=Jl s.heap b1 b2 l1 l2 }) :=
 .of_wp fun prog w A R s h=>by
  obtain⟨hp,g,d,tk,os⟩:=s;obtain⟨hl1,hl2,h⟩:=h
  have hsub:=sub_zip
  have hL1:fS (Shared.heap ⟨hp,g,d,tk,os⟩) b1 l1 xs:=hl1
  have hL2:fS (Shared.heap ⟨hp.push (F3 b1 l1),g,d,tk,os⟩) b2 l2 ys:=fS.push hl2 _
  wp_walk using fN hL1,fN hL2
  exact⟨_,rfl,h⟩
section
variable{prog:Program}{w:World}{A:Around}{E:Value->Shared->Prop}{s:Shared}
theorem dX.new(h:Heap)(b:Bool)(it l:Addr)(e:h.get? it=some (F3 b l)):dX h b it l 0:=by
 cases b with
 | true=>exact⟨_,e,rfl,rfl⟩
 | false=>exact⟨_,e,rfl,rfl⟩
theorem Av{b1 b2:Bool}{l1 l2:Addr}{xs ys:Array Value}{Q:Value->Shared->Prop}(hl1:fS s.heap b1 l1 xs)(hl2:fS s.heap b2 l2 ys)
  (h:∀ h',IsZip h' (s.heap.objs.size+4) (s.heap.objs.size+2) (s.heap.objs.size+3) .none->IsPair h' (s.heap.objs.size+2) (.ref s.heap.objs.size) (.ref (s.heap.objs.size+1)) ->
   IsPair h' (s.heap.objs.size+3) .none .none->dX h' b1 s.heap.objs.size l1 0->dX h' b2 (s.heap.objs.size+1) l2 0->h'.objs.size=s.heap.objs.size+5 ->
   (∀ c o,s.heap.get? c=some o->h'.get? c=some o)->Q (.ref (s.heap.objs.size+4)) { s with heap:=h' }) :
  wpAny (model prog w) A (call (.type "zip") [.ref l1,.ref l2]) Q E s:=by
 refine callType_new F.called_zip (by decide) (F.typeCall_zip_2 _ _) (F.newCall_zip_2 _ _) (fun obj=>F.args_object_init_3 obj _ _) F.entry_zip_new
  (qB b1 b2 l1 l2 xs ys) ⟨hl1,hl2,?_⟩
 have z1:(J2 s.heap b1 l1).objs.size=s.heap.objs.size+1:=Heap.size_push ..
 have z2:(Hi s.heap b1 b2 l1 l2).objs.size=s.heap.objs.size+2:=by rw[Heap.size_push,z1]
 have z3:(LW s.heap b1 b2 l1 l2).objs.size=s.heap.objs.size+3:=by rw[Heap.size_push,z2]
 have z4:(LR s.heap b1 b2 l1 l2).objs.size=s.heap.objs.size+4:=by rw[Heap.size_push,z3]
 have z5:(Jl s.heap b1 b2 l1 l2).objs.size=s.heap.objs.size+5:=by rw[Heap.size_push,z4]
 have g5:(Jl s.heap b1 b2 l1 l2).get? (LR s.heap b1 b2 l1 l2).objs.size=some _:=Heap.get?_push_size _ rfl
 have g4:(Jl s.heap b1 b2 l1 l2).get? (LW s.heap b1 b2 l1 l2).objs.size=some _:=Heap.get?_push_of_some _ (Heap.get?_push_size _ rfl)
 have g3:(Jl s.heap b1 b2 l1 l2).get? (Hi s.heap b1 b2 l1 l2).objs.size=some _:=Heap.get?_push_of_some _ (Heap.get?_push_of_some _ (Heap.get?_push_size _ rfl))
 have g2:(Jl s.heap b1 b2 l1 l2).get? (J2 s.heap b1 l1).objs.size=some _:=Heap.get?_push_of_some _ (Heap.get?_push_of_some _ (Heap.get?_push_of_some _ (Heap.get?_push_size _ rfl)))
 have g1:(Jl s.heap b1 b2 l1 l2).get? s.heap.objs.size=some _:=Heap.get?_push_of_some _ (Heap.get?_push_of_some _ (Heap.get?_push_of_some _ (Heap.get?_push_of_some _ (Heap.get?_push_size _ rfl))))
 show _/\_
 rw[z2,z3,z4] at g5
 rw[z1,z2] at g3
 rw[z3] at g4
 rw[z1] at g2
 rw[z4]
 exact⟨⟨_,g5,rfl⟩,h _ g5 g3 g4 (dX.new _ b1 _ _ g1) (dX.new _ b2 _ _ g2) z5 fun c o x =>
  Heap.get?_push_of_some _ (Heap.get?_push_of_some _ (Heap.get?_push_of_some _ (Heap.get?_push_of_some _ (Heap.get?_push_of_some _ x))))⟩
end
def lH(K:PySem.W.Frag)(H:Hp)(b:Bool)(a:Addr)(xs:List V):Prop:=match b with
 | true=>i4 K H a xs
 | false=>gU K H a xs
section
variable{X:Cx}
theorem Inv.row{pins:List (Addr×Obj)}{σ:St}{H:Hp}{s:Shared}{b:Bool}{a:Addr}{xs:List V}(I:Inv X pins σ H s)(h:lH X.K H b a xs):∃ its:List Value,Vals xs its/\fS s.heap b a its.toArray/\xs.length<=sizeLine:=by
 cases b with
 | true =>
  obtain⟨its,r,p,z⟩:=I.list h
  exact⟨its,r,p.isList,z⟩
 | false =>
  obtain⟨its,r,p,z⟩:=I.tuple h
  exact⟨its,r,p,z⟩
theorem Inv.mD{pins:List (Addr×Obj)}{σ:St}{H:Hp}{s:Shared}{b:Bool}{a:Addr}{xs ys:List V}(I:Inv X pins σ H s)(h:lH X.K H b a xs)(h':lH X.K H b a ys):xs=ys:=by
 cases b with
 | true=>exact I.qJ h h'
 | false=>exact I.nO h h'
theorem Inv.zB{pins:List (Addr×Obj)}{σ:St}{H:Hp}{s:Shared}{h':Heap}{t':Nat}{ch:List Addr}(I:Inv X pins σ H s)(k:∀ b u,b ∉ ch->s.heap.get? b=some u->h'.get? b=some u)
  (hch:∀ b∈ch,m_ X pins H b):Inv X pins σ H { s with heap:=h',toks:=t' }:=by
 have nitH:∀ b u,H b=some u->b ∉ ch:=fun b u e z=>by rw[(hch b z).1] at e;cases e
 refine I.step (g':=s.gens) (d':=s.drawn) (ch:=ch) (fun b hb=>?_) (fun b u _ _ hc e _=>k b u hc e) (fun b u _ _ hc e _=>⟨u.slots,k b u hc e⟩)
  (fun b u _ e n=>n) (fun b u hc e=>⟨u,k b u hc e⟩) (fun b xs e=>e) (fun b ob u e=>e) (fun b ps e=>⟨#[],by rw[e];simp⟩) (fun m hm=>?_) (fun b u e=>?_) I.bare
 ·obtain⟨_,f1,_,f3,f4,f5⟩:=hch b hb
  exact⟨f3,f1,f4,f5⟩
 ·obtain⟨ob,es,ep,ho,r⟩:=hm
  exact⟨ob,es,ep,k _ ob (fun z=>(hch _ z).2.1 rfl) ho,r⟩
 ·refine(I.bo b u e).nv (fun c v hc q=>k c v ?_ q) (fun c q=>q) fun c ys q=>q
  rcases hc with z' | z'
  ·rw[z'];exact nitH b u e
  ·exact nitH c _ z'
theorem cn{pins:List (Addr×Obj)}{σ:St}{H:Hp}{s:Shared}{b:Bool}{a c:Addr}{xs:List V}(I:Inv X pins σ H s)(h:lH X.K H b a xs)(f:m_ X pins H c):a≠c:=by
 have rd:∀ {u:HO},Rd H a u->a≠c:=fun {u} r=>by
  rcases r with r | ⟨o,r⟩
  ·exact bH r f.1
  ·exact bH r f.1
 have mk:∀ {o:Obj},X.K.lookup a=some o->a≠c:=fun {o} e z=>by
  subst z
  have e':=I.ok.mod.G4 _ _ e
  rcases f.2.2.2.1 with q | q
  ·exact I.ok.vD _ _ e' q
  ·exact absurd (Nat.lt_of_lt_of_le (Heap.lt_size (I.ok.bs _ _ e').1) q) (Nat.lt_irrefl _)
 cases b with
 | true =>
  rcases(show i4 X.K H a xs from h) with r | ⟨o,its,n,e,_⟩
  ·exact rd r
  ·exact mk e
 | false =>
  rcases(show gU X.K H a xs from h) with r | ⟨o,its,n,e,_⟩
  ·exact rd r
  ·exact mk e
def MU (K : PySem.W.Frag) (b1 b2 : Bool) (a1 a2 : Addr) : It :=
  ⟨fun i H => ∃ xs ys x y, lH K H b1 a1 xs /\ lH K H b2 a2 ys /\ xs[i]? = some x /\ ys[i]? = some y,
   fun i H v H' => ∃ p x y, H p = none /\ v = .ref p /\ H' = upd H p (.tup [x, y]) /\ (∀ xs, lH K H b1 a1 xs -> xs[i]? = some x) /\ (∀ ys, lH K H b2 a2 ys -> ys[i]? = some y),
   fun i H => ∃ xs ys, lH K H b1 a1 xs /\ lH K H b2 a2 ys /\ (xs.length <= i \/ ys.length <= i)⟩
theorem Cg{P:Program}{w:World}{K:PySem.W.Frag}{elts:List Expr}{x1:Nat}{tp:Pos}(b1 b2:Bool)(a1 a2 z TI TO i1 i2:Addr)(D:TI≠z/\TO≠z/\i1≠z/\i2≠z/\TI≠TO/\TI≠i1/\TI≠i2/\TO≠i1/\TO≠i2/\i1≠i2) :
  Turn P w K (.Tuple elts x1 tp) (MU K b1 b2 a1 a2) [z,TO,i1,i2,TI] z (fun i h=>IsZip h z TI TO .none/\IsPair h TI (.ref i1) (.ref i2)/\(∃ a b,IsPair h TO a b)/\dX h b1 i1 a1 i/\dX h b2 i2 a2 i) where
 mem:=by simp
 obj:=fun i h st b hb=>by
  obtain⟨hz,hTI,⟨a,c,hTO⟩,h1,h2⟩:=st
  simp only[List.mem_cons,List.mem_nil_iff,or_false] at hb
  rcases hb with q | q | q | q | q <;> subst q
  ·exact⟨_,hz,fun v z=>by cases z⟩
  ·exact⟨_,hTO,fun v z=>by cases z⟩
  ·obtain⟨o,vs,e,d⟩:=h1.obj
   exact⟨o,e,fun v z=>by rw[d] at z;cases z⟩
  ·obtain⟨o,vs,e,d⟩:=h2.obj
   exact⟨o,e,fun v z=>by rw[d] at z;cases z⟩
  ·exact⟨_,hTI,fun v z=>by cases z⟩
 keep:=fun i h h' st k=>by
  obtain⟨hz,hTI,⟨a,c,hTO⟩,h1,h2⟩:=st
  exact⟨k z (by simp) _ hz,k TI (by simp) _ hTI,⟨a,c,k TO (by simp) _ hTO⟩,h1.at fun o e=>k i1 (by simp) o e,h2.at fun o e=>k i2 (by simp) o e⟩
 item:=by
  intro X hP hw hK hc i pins s σ H E I hf st hg
  subst hP hw hK
  obtain⟨xs,ys,x,y,hq1,hq2,hx,hy⟩:=hg
  obtain⟨its1,rv1,p1,hz1⟩:=I.row hq1
  obtain⟨its2,rv2,p2,hz2⟩:=I.row hq2
  obtain⟨u1,hu1,ru1⟩:=rv1.get hx
  obtain⟨u2,hu2,ru2⟩:=rv2.get hy
  obtain⟨hz,hTI,⟨a,c,hTO⟩,h1,h2⟩:=st
  obtain⟨d1,d2,d3,d4,d5,d6,d7,d8,d9,d10⟩:=D
  obtain⟨o1,n1,e1,dd1⟩:=p1.obj
  obtain⟨o2,n2,e2,dd2⟩:=p2.obj
  obtain⟨oi1,vs1,ei1,di1⟩:=h1.obj
  obtain⟨oi2,vs2,ei2,di2⟩:=h2.obj
  have D:ZipApart z TI TO i1 i2 a1 a2:=⟨d1,d2,d3,d4,d5,d6,d7,d8,d9,d10,cn I hq1 (hf z (by simp)),cn I hq1 (hf TO (by simp)),cn I hq1 (hf i1 (by simp)),cn I hq1 (hf i2 (by simp)),
   cn I hq2 (hf z (by simp)),cn I hq2 (hf TO (by simp)),cn I hq2 (hf i1 (by simp)),cn I hq2 (hf i2 (by simp))⟩
  refine n_ D hz hTI hTO h1 h2 p1 p2 (x:=u1) (y:=u2) (by simpa using hu1) (by simpa using hu2) fun h' g1 g2 g3 g4 g5 g6 g7=>⟨_,rfl,?_⟩
  refine wpAny_letOwnedTupleGo_zip (s:={ s with heap:=h' }) g1 fun h3 hz3 hs3=>?_
  have hnew:H s.heap.objs.size=none:=I.bo.fresh (Nat.le_refl _)
  have lt:∀ {c:Addr} {o:Obj},s.heap.get? c=some o->c≠s.heap.objs.size:=fun e=>Nat.ne_of_lt (Heap.lt_size e)
  have keep3:∀ b o,b ∉ [z,TO,i1,i2,TI]->s.heap.get? b=some o->h3.get? b=some o:=fun b o hb q=>by
   simp only[List.mem_cons,List.mem_nil_iff,or_false,not_or] at hb
   exact(hs3.2 b hb.1).trans (g7 b o hb.1 hb.2.1 hb.2.2.1 hb.2.2.2.1 q)
  have hT3:h3.get? s.heap.objs.size=some { cls:=.type "tuple", data:=.seq #[u1,u2] }:=(hs3.2 _ (lt hz).symm).trans g5
  have I3:Inv X pins σ (upd H s.heap.objs.size (.tup [x,y])) { s with heap:=h3,toks:=s.toks } :=
   I.lj (ch:=[z,TO,i1,i2,TI]) keep3 hf (Nat.le_refl _) (fun b hb=>by
    simp only[List.mem_cons,List.mem_nil_iff,or_false] at hb
    rcases hb with q | q | q | q | q <;> subst q
    ·exact⟨_,hz⟩
    ·exact⟨_,hTO⟩
    ·exact⟨_,ei1⟩
    ·exact⟨_,ei2⟩
    ·exact⟨_,hTI⟩)
    ⟨by show 2<=sizeLine;decide,[u1,u2],.cons ru1 (.cons ru2 .nil),⟨_,hT3,rfl,_,rfl⟩⟩
  refine⟨.ref s.heap.objs.size,_,I3,rfl,⟨_,x,y,hnew,rfl,rfl,fun zs hzs=>by rw[I.mD hzs hq1];exact hx,fun zs hzs=>by rw[I.mD hzs hq2];exact hy⟩,
   ⟨hz3,(hs3.2 TI d1).trans (g7 TI _ d1 d5 d6 d7 hTI),⟨_,_,(hs3.2 TO d2).trans g2⟩,g3.at fun o e=>(hs3.2 i1 d3).trans e,g4.at fun o e=>(hs3.2 i2 d4).trans e⟩,fun b hb=>?_⟩
  have nb:b≠s.heap.objs.size:=by
   simp only[List.mem_cons,List.mem_nil_iff,or_false] at hb
   rcases hb with q | q | q | q | q <;> subst q
   ·exact lt hz
   ·exact lt hTO
   ·exact lt ei1
   ·exact lt ei2
   ·exact lt hTI
  rw[au nb]
  exact(hf b hb).1
 done:=by
  intro X hP hw hK hc i pins s σ H E I hf st hg
  subst hP hw hK
  obtain⟨xs,ys,hq1,hq2,hend⟩:=hg
  obtain⟨its1,rv1,p1,hz1⟩:=I.row hq1
  obtain⟨its2,rv2,p2,hz2⟩:=I.row hq2
  obtain⟨hz,hTI,⟨a,c,hTO⟩,h1,h2⟩:=st
  obtain⟨d1,d2,d3,d4,d5,d6,d7,d8,d9,d10⟩:=D
  have D:ZipApart z TI TO i1 i2 a1 a2:=⟨d1,d2,d3,d4,d5,d6,d7,d8,d9,d10,cn I hq1 (hf z (by simp)),cn I hq1 (hf TO (by simp)),cn I hq1 (hf i1 (by simp)),cn I hq1 (hf i2 (by simp)),
   cn I hq2 (hf z (by simp)),cn I hq2 (hf TO (by simp)),cn I hq2 (hf i1 (by simp)),cn I hq2 (hf i2 (by simp))⟩
  have l1:=rv1.length
  have l2:=rv2.length
  refine pj (I.ok.hd hc) D hz hTI hTO h1 h2 p1 p2 ?_ fun h' k=>⟨rfl,?_⟩
  ·rcases hend with q | q
   ·exact .inl (by simp;omega)
   ·exact .inr (by simp;omega)
  ·exact I.zB (t':=s.toks) (ch:=[z,TO,i1,i2,TI]) (fun b u hb e=>by
    simp only[List.mem_cons,List.mem_nil_iff,or_false,not_or] at hb
    exact k b u hb.1 hb.2.1 hb.2.2.1 hb.2.2.2.1 e) hf
 self:=fun _ _ _ _ _ st h=>by
  obtain⟨hz,_⟩:=st
  exact wpAny_pyIter_zip hz h
theorem Js(n:Nat):n+2≠n+4/\n+3≠n+4/\n≠n+4/\n+1≠n+4/\n+2≠n+3/\n+2≠n/\n+2≠n+1/\n+3≠n/\n+3≠n+1/\n≠n+1:=by
 refine⟨?_,?_,?_,?_,?_,?_,?_,?_,?_,?_⟩ <;> omega
def LK(K:PySem.W.Frag)(tl:TA):TI:=fun σ H R=>tl σ H fun vs H1=>∃ b1 b2 a1 a2,vs=[.ref a1,.ref a2]/\(∃ xs,lH K H1 b1 a1 xs)/\(∃ ys,lH K H1 b2 a2 ys)/\R (MU K b1 b2 a1 a2) H1
theorem gP{elts:List Expr}{x1:Nat}{tp:Pos}{l1 l2:Expr}{tl:TA}{p pos:Pos}(hg:Gl X "zip")(hm:X.mg "zip" = none)(hl:PA X [l1,l2] tl)(hs:starEach [l1,l2] X.env=[(false,eval l1 X.env),(false,eval l2 X.env)]:=by rfl)(hs2:starEach [l2] X.env=[(false,eval l2 X.env)]:=by rfl) :
  PI X (.Tuple elts x1 tp) (.Call (.Name "zip" p) [l1,l2] [] pos) (LK X.K tl):=by
 intro pins s σ H R I h
 refine Call_ (jN I hg hm PyProof.Rows.boot_zip (PyProof.Rows.callWith_type1 (cB (hl pos pins s σ H _ I h) fun us s1 ⟨vs,H1,I1,r1,q1⟩=>?_) (by rw[hs,hs2]) (by rw[hs2];rfl)))
 obtain⟨b1,b2,a1,a2,e,⟨xs,hq1⟩,⟨ys,hq2⟩,q⟩:=q1
 subst e
 cases r1 with
 | cons r rr =>
  cases rr with
  | cons r' rr =>
   cases rr
   cases (show _=Value.ref a1 from r)
   cases (show _=Value.ref a2 from r')
   obtain⟨its1,rv1,p1,hz1⟩:=I1.row hq1
   obtain⟨its2,rv2,p2,hz2⟩:=I1.row hq2
   refine Av p1 p2 fun h' g1 g2 g3 g4 g5 g6 g7=>?_
   have I2:Inv X pins σ H1 { s1 with heap:=h' }:=I1.kept (t':=s1.toks) g7
   refine wpAny_pyIter_zip (s:={ s1 with heap:=h' }) g1 ?_
   refine⟨s1.heap.objs.size+4,[s1.heap.objs.size+4,s1.heap.objs.size+3,s1.heap.objs.size,s1.heap.objs.size+1,s1.heap.objs.size+2],_,_,H1,rfl,I2,
    Cg b1 b2 a1 a2 _ _ _ _ _ (Js s1.heap.objs.size),⟨g1,g2,⟨_,_,g3⟩,g4,g5⟩,fun b hb=>?_,q⟩
   have hle:s1.heap.objs.size<=b:=by
    simp only[List.mem_cons,List.mem_nil_iff,or_false] at hb
    rcases hb with q | q | q | q | q
    ·rw[q];exact Nat.le_add_right _ 4
    ·rw[q];exact Nat.le_add_right _ 3
    ·rw[q];exact Nat.le_refl _
    ·rw[q];exact Nat.le_add_right _ 1
    ·rw[q];exact Nat.le_add_right _ 2
   exact I1.uP hle (I1.bo.fresh hle)
end
end L2
namespace L2
open PySem PySem.Spec PyProof.Rows
def Ro(K:PySem.W.Frag)(b:Bool)(a:Addr):It:=match b with
 | true=>SE K a
 | false=>SK K a
section
variable{X:Cx}{tg:Expr}
def KJ(K:PySem.W.Frag)(tl:TE):TI:=fun σ H R=>tl σ H fun x H1=>∃ b a,x=.ref a/\(∃ xs,lH K H1 b a xs)/\R (Ro K b a) H1
theorem g_{l:Expr}{tl:TE}(hl:PE X l tl):PI X tg l (KJ X.K tl):=by
 intro pins s σ H R I h
 refine cB (hl pins s σ H _ I h) fun v s1 ⟨x,H1,I1,r1,q1⟩=>?_
 obtain⟨b,a,e,⟨xs,hq⟩,q⟩:=q1
 subst e
 cases r1
 cases b with
 | true =>
  obtain⟨its,rv,p,hz⟩:=I1.list hq
  refine wpAny_pyIter_list p.isList ?_
  refine⟨s1.heap.objs.size,[s1.heap.objs.size],_,_,H1,rfl,I1.kept (t':=s1.toks) fun b o e=>Heap.get?_push_of_some _ e,A3 a _,⟨_,Heap.get?_push_size _ rfl,rfl,rfl⟩,fun b hb=>?_,q⟩
  have e:b=s1.heap.objs.size:=by simpa using hb
  subst e
  exact I1.uP (Nat.le_refl _) (I1.bo.fresh (Nat.le_refl _))
 | false =>
  obtain⟨its,rv,p,hz⟩:=I1.tuple hq
  refine wpAny_pyIter_tuple (show s1.heap.IsTuple a its.toArray from p) ?_
  refine⟨s1.heap.objs.size,[s1.heap.objs.size],_,_,H1,rfl,I1.kept (t':=s1.toks) fun b o e=>Heap.get?_push_of_some _ e,xV a _,⟨_,Heap.get?_push_size _ rfl,rfl,rfl⟩,fun b hb=>?_,q⟩
  have e:b=s1.heap.objs.size:=by simpa using hb
  subst e
  exact I1.uP (Nat.le_refl _) (I1.bo.fresh (Nat.le_refl _))
end
section
end
section
variable{X:Cx}
theorem A6(hc:X.calm=true):cN X (.builtin "sum") (fun xs H Q=>∃ (a:Addr) (ns:List Int),xs=[.ref a]/\i4 X.K H a (ns.map V.int)/\Q (.int ns.sum) H):=by
 intro pins s σ H xs us Q I r h
 obtain⟨a,ns,rfl,hq,q⟩:=h
 cases r with
 | cons r1 r2 =>
  cases r2
  cases (show _=Value.ref a from r1)
  obtain⟨its,rv,p,hz⟩:=I.list hq
  have hi:=intsAre_of rv
  obtain⟨xs',e⟩:=hi.allInts.items
  have e3:numsOf (intItems xs').toList=ns:=by rw[← e];exact hi.numsOf
  rw[nums_intItems] at e3
  refine sum_intListG (I.ok.hd hc) (by rw[← e];exact p.isList) fun h' tk t' hk=>⟨.int ns.sum,H,I.kept (t':=tk) hk,⟨t',?_⟩,q⟩
  rw[preSum_eq,List.take_of_length_le (by simp),e3]
end
end L2
namespace L2
open PySem PySem.Spec PyProof.Rows
structure fY (K:PySem.W.Frag) (C:Addr):Prop where
 ga:PySem.W.findIn K (.ref C) "__getattribute__" = some (some (.builtin "BaseException.__getattribute__"))
 gn:PySem.W.findIn K (.ref C) "__getattr__" = some none
 hd:PySem.W.hasDictIn K C=true
 sa:PySem.W.findIn K (.ref C) "__setattr__" = some (some (.builtin "object.__setattr__"))
 mb:PySem.W.mroIn K C (.type "BaseException")=some true
 mo:PySem.W.mroIn K C (.type "object")=some true
 ca:PySem.W.findIn K (.ref C) "__class__" = some (some (.builtin "object.__class__"))
 cg:PySem.W.specialIn K (.builtin "object.__class__") "__get__" = some (some (.builtin "getset_descriptor.__get__"))
 ct:PySem.W.takesIn K (.builtin "object.__class__")=some true
section
variable{prog:Program}{w:World}{A:Around}{E:Value->Shared->Prop}{s:Shared}{K:PySem.W.Frag}{x C:Addr}{ox:Obj}{od:Option Obj}{name:Str}
theorem Dg:builtinKind "BaseException.__getattribute__" = some .slot:=by decide +kernel
theorem An:splitId "BaseException.__getattribute__" = some ("BaseException", "__getattribute__"):=by decide +kernel
theorem Jx{tk:Tok}{fill expr:Bool}{Q:Value->Shared->Prop}(c:fY K C)(X:K.In s.heap)(I:PySem.W.InstAt s.heap x ox C od)
  (h:wpAny (model prog w) A.in1 (Builtin.«object.__getattribute__» ⟨[.ref x,.str name tk],[]⟩)
   (fun fin s'=>match fin with | .done (.ret v)=>wpAny (model prog w) A (handedOut v) Q E s' | _=>False) (fun _ _=>False) s) :
  wpAny (model prog w) A (getAttrBy (.ref x) (.str name tk) fill expr) Q E s:=by
 have hx2:(Value.builtin "BaseException.__getattribute__" == Value.builtin "object.__getattribute__")=false:=by decide +kernel
 have hx1:(onTheHeap (Value.ref C)&&Value.builtin "BaseException.__getattribute__" == Value.builtin "object.__getattribute__")=false:=by rw[hx2];rfl
 have hx0:(expr&&onTheHeap (Value.builtin "BaseException.__getattribute__"))=false:=by cases expr <;> rfl
 have sub:PySem.W.Looks (model prog w) s.heap (isInstance (.ref x) (.type "BaseException")) true:=I.type.andThen (PySem.W.looks_mroIn X c.mb)
 unfold getAttrBy
 refine wpAny_holding (wpAny_bind (I.type.here (wpAny_bind ((PySem.W.looks_findIn X c.ga).here ?_))))
 dsimp only
 rw[hx1,if_neg Bool.false_ne_true]
 unfold getAttrByItsOwn hookBefore
 refine wpAny_bind ?_
 show wpAny _ _ (typeLookup (.ref C) "__getattr__") _ _ _
 refine(PySem.W.looks_findIn X c.gn).here ?_
 refine wpAny_bind (wpAny_attempt (wpAny_holding ?_))
 unfold callGetattribute
 rw[hx0,if_neg Bool.false_ne_true]
 unfold boundAndCalled
 refine wpAny_bind (wpAny_of_eq (PySem.F.attr_ValueError.ga.bind _) ?_)
 refine wpAny_call (codeAny_call_builtin PySem.F.attr_ValueError.ga.plain PySem.F.entry_bexc_ga (@PySem.W.check_slot (model prog w) _ _ s "BaseException.__getattribute__" "BaseException" "__getattribute__" (.ref x) [.str name tk] [] _ Dg An sub (PySem.F.args_bexc_ga _ _) ?_))
 refine wpAny_mono h (fun fin s' z=>?_) (fun _ _ z=>z.elim)
 rcases fin with (v | _ | _ | _) | _ <;> first | exact z | exact z.elim
end
end L2
namespace L2
open PySem PySem.Spec PyProof.Rows
open PySem.Builtin.ObjectAttr (storeInOwnDict storeTaker? setByDescriptor)
abbrev e8:List Value:=[.type "ValueError", .type "Exception", .type "BaseException", .type "object"]
def gj:List Value->Bool
 | .ref _::r=>gj r
 | l=>l==e8
theorem rM(self:Value):refuseLoop self "__setattr__" e8=pure ():=by kernel_rfl
theorem oF(self:Value):∀ {l:List Value},gj l=true->refuseLoop self "__setattr__" l=pure ()
 | .ref c::r,e=>by rw[PySem.refuseLoop_ref];exact oF self e
 | [],e=>by cases (show false=true from e)
 | .type n::r,e=>by rw[show Value.type n::r=e8 from beq_iff_eq.mp e];exact rM self
 | .none::r,e=>by rw[show Value.none::r=e8 from beq_iff_eq.mp e];exact rM self
section
variable{prog:Program}{w:World}{A:Around}{E:Value->Shared->Prop}{s:Shared}{K:PySem.W.Frag}{x C:Addr}{ox:Obj}{od:Option Obj}{name:Str}
theorem r_{a g:Value}(hc:(PySem.W.clsIn K C).isSome=true)(ha:PySem.W.findIn K (.ref C) name=some (some a))(hg:PySem.W.specialIn K a "__get__" = some (some g))(ht:PySem.W.takesIn K a=some true):PySem.W.findObj K C od name=some (.bind g a):=by
 obtain⟨cd,hc⟩:=Option.isSome_iff_exists.mp hc
 unfold PySem.W.findObj
 rw[hc,Option.bind_some,ha,Option.bind_some]
 simp[hg,ht]
theorem AW{Q:Option Value->Shared->Prop}(c:fY K C)(X:K.In s.heap)(I:PySem.W.InstAt s.heap x ox C od)(h:Q (some (.ref C)) { s with toks:=s.toks+1 }):wpAny (model prog w) A (getAttr? (.ref x) "__class__") Q E s:=by
 have hc:(PySem.W.clsIn K C).isSome=true:=by obtain⟨cd,hc,_⟩:=PySem.W.any_some c.hd;rw[hc];rfl
 have hf:PySem.W.findObj K C od "__class__" = some (.bind (.builtin "getset_descriptor.__get__") (.builtin "object.__class__")):=r_ hc c.ca c.cg c.ct
 unfold getAttr? getAttrBy?
 refine wpAny_bind (wpAny_mkText (wpAny_bind (wpAny_attempt ?_)))
 refine Jx (s:={ s with toks:=s.toks+1 }) c X I ?_
 unfold Builtin.«object.__getattribute__»
 refine wpAny_bind (wpAny_pure ?_)
 dsimp only
 refine wpAny_bind (wpAny_pure ?_)
 refine wpAny_bind (I.type.here (s:={ s with toks:=s.toks+1 }) (wpAny_bind ((PySem.W.looks_find X I hf).here (s:={ s with toks:=s.toks+1 }) ?_)))
 show wpAny _ _ (holding [.builtin "object.__class__"] (call (.builtin "getset_descriptor.__get__") [.builtin "object.__class__", .ref x,.ref C]) >>= ret) _ _ _
 refine wpAny_bind (wpAny_holding (wpAny_call (PySem.W.class_get (s:={ s with toks:=s.toks+1 }) (ox:=ox) (od:=od) X I c.mo ?_)))
 refine wpAny_pure ?_
 exact PySem.W.handed_on rfl (wpAny_pure h)
theorem wI(c:fY K C):PySem.W.KitX K (.ref x) (.ref C) (fun h=>PySem.W.InstAt h x ox C od) where
 ty:=fun _ _ _ I=>I.type
 it:=fun _ _ X _=>by
  obtain⟨cdD,hcD,_⟩:=PySem.W.any_some c.hd
  unfold PySem.W.clsIn at hcD
  split at hcD
  ·rename_i c' d' cd' sl' ho
   intro A' Q' E' s' k q
   unfold isType loadHead
   exact wpAny_bind (wpAny_loadPart (k _ _ (X _ _ ho)) (wpAny_pure q))
  ·cases hcD
 ne:=fun h tp dd its n sl X htp=>by
  obtain⟨cdD,hcD,_⟩:=PySem.W.any_some c.hd
  refine Bool.eq_false_iff.mpr fun q=>?_
  have e:C=tp:=Value.ref.inj (beq_iff_eq.mp q)
  subst e
  unfold PySem.W.clsIn at hcD
  split at hcD
  ·rename_i c' d' cd' sl' ho
   have z:=(X _ _ ho).symm.trans htp
   cases z
  ·cases hcD
 ca:=fun X I k=>AW c X I k
theorem Ga{tk:Tok}{v:Value}{R:Result->Shared->Prop}(po:((PySem.W.clsIn K C).any fun cd=>gj cd.mro)=true)(c:fY K C)(X:K.In s.heap)(I:PySem.W.InstAt s.heap x ox C od)(ht:PySem.W.takerIn K C name=some none)
  (h:∀ b,wpAny (model prog w) A.in1 (storeInOwnDict (.ref x) (.ref C) (.str name tk) name v b)
   (fun fin s'=>match fin with | .done f=>R (.ok f) s' | .again c'=>c'.quiet=true/\codeAny (model prog w) A c' R s') (fun e s'=>R (.error e) s') s) :
  codeAny (model prog w) A (.call (.builtin "object.__setattr__") ⟨[.ref x,.str name tk,v],[]⟩) R s:=by
 have SF:=PySem.F.store_object
 obtain⟨cd,hc,ho⟩:=PySem.W.any_some po
 have sub:PySem.W.Looks (model prog w) s.heap (isInstance (.ref x) (.type "object")) true:=I.type.andThen (PySem.W.looks_mroIn X c.mo)
 refine codeAny_call_builtin SF.slot.plain SF.entry (@PySem.W.check_slot (model prog w) _ _ s "object.__setattr__" "object" "__setattr__" (.ref x) [.str name tk,v] [] _ SF.kind SF.split sub (SF.args (.ref x) (.str name tk) v) ?_)
 obtain⟨attr,ha,hr⟩:=Option.bind_eq_some_iff.mp ht
 have hm:PySem.W.Looks (model prog w) s.heap (mroOf (.ref C)) cd.mro:=(PySem.W.looks_clsIn X hc).andThen .now
 have L3:PySem.W.Looks (model prog w) s.heap (storeTaker? attr) none:=by
  cases attr with
  | none=>cases hr;exact .now
  | some a =>
   obtain⟨b,hb,e⟩:=Option.map_eq_some_iff.mp hr
   refine(PySem.W.looks_takesIn X hb).andThen ?_
   cases b with
   | true=>cases e
   | false=>exact .now
 rw[PySem.W.osa_eq,PySem.refuse_eq]
 refine wpAny_bind (wpAny_bind (I.type.here (wpAny_bind (hm.here ?_))))
 rw[oF _ ho]
 refine wpAny_pure (wpAny_bind (I.type.here (wpAny_bind ((PySem.W.looks_findIn X ha).here (wpAny_bind (L3.here ?_))))))
 exact h _
theorem B9{vs:Array Value}{v:Value}{Q:Unit->Shared->Prop}(po:((PySem.W.clsIn K C).any fun cd=>gj cd.mro)=true)(c:fY K C)(X:K.In s.heap)(hx:s.heap.get? x=some ⟨.ref C,none,.fields vs,#[]⟩)(ht:PySem.W.takerIn K C name=some none)
  (h:∀ h' tk d,h'.get? x=some ⟨.ref C,some d,.fields vs,#[]⟩->s.heap.get? d=none->h'.Ns1 d (fun y=>if y=name then some v else none)->(∀ b o,b≠x->s.heap.get? b=some o->h'.get? b=some o)->Q () { s with heap:=h',toks:=tk }) :
  wpAny (model prog w) A (setAttr (.ref x) name v) Q E s:=by
 have I:PySem.W.InstAt s.heap x ⟨.ref C,none,.fields vs,#[]⟩ C none:=⟨hx,rfl,rfl,trivial⟩
 refine PySem.W.set_plain X I c.sa (Ga (s:={ s with toks:=s.toks+1 }) po c X I ht fun b=>?_)
 obtain⟨cd,hc,hd'⟩:=PySem.W.any_some c.hd
 have hlt:=Heap.lt_size hx
 refine wpAny_bind (wpAny_pure (wpAny_bind (wpAny_bind (wpAny_loadPart hx (wpAny_bind (PySem.W.Looks.here (s:={ s with toks:=s.toks+1 }) (PySem.W.looks_clsIn X hc) ?_))))))
 rw[hd']
 refine wpAny_bind (wpAny_alloc ?_)
 have hx1:(s.heap.push { cls:=.type "dict", data:=.dict #[] }).get? x=some ⟨.ref C,none,.fields vs,#[]⟩:=Heap.get?_push_of_some _ hx
 refine wpAny_bind (wpAny_update hx1 ?_)
 refine wpAny_pure (a:=some s.heap.objs.size) (wpAny_bind (wpAny_pure (wpAny_bind ?_)))
 have hx2:((s.heap.push { cls:=.type "dict", data:=.dict #[] }).update x fun o=>{ o with dict:=some s.heap.objs.size }).get? x=some ⟨.ref C,some s.heap.objs.size,.fields vs,#[]⟩:=Heap.get?_update_self _ hx1 rfl
 have e1:(s.heap.push { cls:=.type "dict", data:=.dict #[] }).get? s.heap.objs.size=some { cls:=.type "dict", data:=.dict #[] }:=Heap.get?_push_size s.heap rfl
 have nxd:s.heap.objs.size≠x:=Nat.ne_of_gt hlt
 have e2:((s.heap.push { cls:=.type "dict", data:=.dict #[] }).update x fun o=>{ o with dict:=some s.heap.objs.size }).get? s.heap.objs.size=some { cls:=.type "dict", data:=.dict #[] }:=by
  rw[Heap.get?_update_other _ _ (Ne.symm nxd)]
  exact e1
 have e3:((s.heap.push { cls:=.type "dict", data:=.dict #[] }).update x fun o=>{ o with dict:=some s.heap.objs.size }).Ns s.heap.objs.size (fun _=>none):=⟨_,#[],_,e2,rfl,(fun e he=>absurd he (by simp)),fun _=>rfl⟩
 refine wpAny_nsSet1 (s:={ s with heap:=(s.heap.push { cls:=.type "dict", data:=.dict #[] }).update x fun o=>{ o with dict:=some s.heap.objs.size },toks:=s.toks+1 }) (Heap.Ns1.of_empty e3) fun h' hn2 hs2=>?_
 obtain⟨oD,esD,epD,hoD,hdD,hcD⟩:=hn2.count (PySem.Within.cons (ns:=[]) name v (fun y hy=>absurd rfl hy))
 refine wpAny_bind (wpAny_lookBehind hoD (by rw[hdD];exact pastItsLine_dict (Nat.le_trans hcD (by show 1<=sizeLine+1;exact Nat.le_add_left _ _))) ?_)
 refine wpAny_pure (h h' _ s.heap.objs.size ((hs2.2 x (Ne.symm nxd)).trans hx2) (Heap.get?_none_of_le (Nat.le_refl _)) hn2 fun b o hb e=>?_)
 refine(hs2.2 b (Nat.ne_of_lt (Heap.lt_size e))).trans ?_
 rw[Heap.get?_update_other _ _ (Ne.symm hb)]
 exact Heap.get?_push_of_some _ e
end
def qS(K:PySem.W.Frag)(C:Addr)(newId:String)(f:Addr):Bool:=match K.lookup C with
 | some ⟨.type "type", _,.cls cd,sl⟩=>(match cd.mro,sl.toList with
  | .ref C'::bm,[_,_,_,_,some (.builtin n),_]=>C'==C&&n==newId&&!cd.hasDel&&PySem.W.tailIn K e8 bm&&PySem.W.nsOkIn K cd.ns&&PySem.W.nsIn K cd.ns "__init__" == some (some (.ref f))
  | _,_=>false)
 | _=>false
section
variable{prog:Program}{w:World}{A:Around}{E:Value->Shared->Prop}{h:Heap}{g:Array GenState}{d:Drawn}{t:Nat}{os:OsState}
variable{nm q:Str}{C N:Addr}{bs bm:List Value}{hdct:Bool}{sn:List Str}{sub:List Value}{ab:Bool}{col:Option Bool}{dd:Option Addr}{k0 k1 k2 k3 k5:Option Value}{newId initId:String}
theorem rG(F:ExcBaseFacts "ValueError" newId initId e8)(T:OwnTail h e8 bm){mN:Str->Option Value}{rest:List Value}{f:Addr}{Q:Fin->Shared->Prop}
  (hC:h.get? C=some (excClassObj nm q C N bs bm hdct sn sub ab col dd k0 k1 k2 k3 k5 newId)) (hn:h.Ns N mN) (hni:mN "__init__" = some (.ref f))
  (hb:∀ h':Heap,(∀ b o,h.get? b=some o->h'.get? b=some o)->∀ self,PySem.W.Looks (model prog w) h' (bindSpecial (.ref f) self) (.ref f,[self]))
  (hq:∀ h':Heap,(∀ b o,h.get? b=some o->h'.get? b=some o)->h'.get? h.objs.size=some { cls:=.type "tuple", data:=.seq rest.toArray } ->
   h'.get? (h.objs.size+1)=some { cls:=.ref C,data:=.fields #[.ref h.objs.size,.none,.none,.none,.bool false,.none] }->h'.objs.size=h.objs.size+2 ->
   wpAny (model prog w) A (call (.ref f) (.ref (h.objs.size+1)::rest)) (fun v s'=>v=.none/\Q (.done (.ret (.ref (h.objs.size+1)))) s') E ⟨h',g,d,t,os⟩) (C8:rest.length<=sizeLine:=by size_fits) :
  wpAny (model prog w) A (Builtin.«type.__call__» ⟨.ref C::rest,[]⟩) Q E ⟨h,g,d,t,os⟩:=by
 repeat (first | with_reducible refine wpAny_loadPart_at hC ?_ | with_reducible refine wpAny_madeBy_exc hC ?_ | wp_step)
 refine codeAny_call_builtin_code (Code.quiet_builtin _ F.quiet) (wpAny_check_new_subT F T hC ?_)
 refine codeAny_exc_new_subT F T hC ?_ C8
 show wpAny _ _ _ _ _ _
 have kp:∀ b o,h.get? b=some o->((h.push { cls:=.type "tuple", data:=.seq rest.toArray }).push { cls:=.ref C,data:=.fields #[.ref h.objs.size,.none,.none,.none,.bool false,.none] }).get? b=some o:=fun b o e=>Heap.get?_push_of_some _ (Heap.get?_push_of_some _ e)
 have hC1:=kp _ _ hC
 have hn₁:((h.push { cls:=.type "tuple", data:=.seq rest.toArray }).push { cls:=.ref C,data:=.fields #[.ref h.objs.size,.none,.none,.none,.bool false,.none] }).Ns N mN:=hn.keeps kp
 have hget:((h.push { cls:=.type "tuple", data:=.seq rest.toArray }).push
   { cls:=.ref C,data:=.fields #[.ref h.objs.size,.none,.none,.none,.bool false,.none] }).get? (h.objs.size+1)=some
   { cls:=.ref C,data:=.fields #[.ref h.objs.size,.none,.none,.none,.bool false,.none] }:=by heap_get
 have htup:((h.push { cls:=.type "tuple", data:=.seq rest.toArray }).push
   { cls:=.ref C,data:=.fields #[.ref h.objs.size,.none,.none,.none,.bool false,.none] }).get? h.objs.size=some { cls:=.type "tuple", data:=.seq rest.toArray }:=Heap.get?_push_of_some _ (Heap.get?_push_size _ rfl)
 have hsz:((h.push { cls:=.type "tuple", data:=.seq rest.toArray }).push { cls:=.ref C,data:=.fields #[.ref h.objs.size,.none,.none,.none,.bool false,.none] }).objs.size=h.objs.size+2:=by rw[Heap.size_push,Heap.size_push]
 have hcC:(Value.ref C::bm).contains (.ref C)=true:=by simp
 have T₁:=T.keeps kp
 have hb₁:=hb _ kp (.ref (h.objs.size+1))
 have fin:=hq _ kp htup hget hsz
 generalize ((h.push { cls:=.type "tuple", data:=.seq rest.toArray }).push { cls:=.ref C,data:=.fields #[.ref h.objs.size,.none,.none,.none,.bool false,.none] })=h1 at *
 unfold isInstance
 repeat (first | with_reducible refine wpAny_loadPart_at hget ?_ | (with_reducible refine wpAny_isSubtype_exc hC1 ?_;rw[hcC]) | wp_step)
 show wpAny _ _ (typeLookup (.ref C) _) _ _ _
 refine wpAny_typeLookup_tail hC1 hn₁ T₁ F.mroIs F.init.lookup ?_
 rw[hni]
 refine wpAny_holding (wpAny_bind (hb₁.here ?_))
 refine wpAny_bind (wpAny_mono fin (fun v s' z=>?_) fun _ _ z=>z)
 obtain⟨rfl,z⟩:=z
 wp_walk
 exact z
end
end L2
namespace L2
open PySem PySem.Spec PyProof.Rows
def h_(C:Addr)(dd:Option Addr)(e:Addr):HO:=.ext fun h=>∃ vs,h.get? e=some ⟨.ref C,dd,.fields vs,#[]⟩
theorem FX{P:Program}{w:World}{H:Hp}{h:Heap}{C e:Addr}{dd:Option Addr}{vs:Array Value}(he:h.get? e=some ⟨.ref C,dd,.fields vs,#[]⟩):bT P w H h e (h_ C dd e) :=
 ⟨⟨vs,he⟩,⟨_,he⟩,fun _ _ ⟨vs,q⟩ k=>⟨vs,k _ q⟩⟩
def ExcAt(H:Hp)(e C:Addr)(fo:Option (List (Str×V))):Prop:=match fo with
 | none=>H e=some (h_ C none e)
 | some fs=>∃ d,H e=some (h_ C (some d) e)/\H d=some (.xd fs)
section
variable{X:Cx}{pins:List (Addr×Obj)}{σ:St}{H:Hp}{s:Shared}
theorem Inv.rB(I:Inv X pins σ H s){C e:Addr}{dd:Option Addr}(he:H e=some (h_ C dd e)):∃ vs,s.heap.get? e=some ⟨.ref C,dd,.fields vs,#[]⟩:=(I.bo e _ he).1
theorem Inv.FY(I:Inv X pins σ H s){C e:Addr}{fo:Option (List (Str×V))}(h:ExcAt H e C fo):∃ ox od,PySem.W.InstAt s.heap e ox C od/\(fo=none->od=none) ∧
  ∀ fs,fo=some fs->∃ (o:Obj) (mA:Str->Option Value),od=some o/\(∀ n,PySem.W.lookIn n o=some (mA n))/\∀ f,nQ (fs.lookup f) (mA f):=by
 cases fo with
 | none =>
  obtain⟨vs,q⟩:=I.rB h
  exact⟨_,none,⟨q,rfl,rfl,trivial⟩,fun _=>rfl,fun fs z=>(by cases z)⟩
 | some fs =>
  obtain⟨d,h1,h2⟩:=h
  obtain⟨vs,q⟩:=I.rB h1
  obtain⟨mA,n,r⟩:=(show ∃ mA,s.heap.Ns1 d mA/\∀ f,nQ (fs.lookup f) (mA f) from I.bo d _ h2)
  obtain⟨o,ho,hl⟩:=oA n
  refine⟨_,some o,⟨q,rfl,rfl,ho⟩,fun z=>(by cases z),fun fs' z=>?_⟩
  cases z
  exact⟨o,mA,rfl,hl,r⟩
theorem Inv.uh{a:Addr}(I:Inv X pins σ H s)(hn:s.heap.get? a=none):H a=none:=by
 cases q:H a with
 | none=>rfl
 | some u =>
  exfalso
  have:∀ (u:HO),bT X.prog X.w H s.heap a u->∃ ob,s.heap.get? a=some ob:=by
   intro u
   induction u with
   | lst xs=>intro ⟨_,_,_,_,e⟩;exact⟨_,e⟩
   | tup xs=>intro ⟨_,_,_,p⟩;obtain⟨ob,e,_⟩:=p;exact⟨ob,e⟩
   | dK kvs=>intro ⟨_,_,_,_,p⟩;obtain⟨ob,_,_,e,_⟩:=p;exact⟨ob,e⟩
   | dT kvs=>intro ⟨_,_,_,_,ob,_,_,e,_⟩;exact⟨ob,e⟩
   | set S n=>intro p;obtain⟨es,ob,xs,ep,e,_⟩:=p;exact⟨_,e⟩
   | ins C dx fs=>intro ⟨_,_,_,e,_⟩;exact⟨_,e⟩
   | own x=>intro ⟨ob,e⟩;exact⟨ob,e⟩
   | xd fs=>intro ⟨mA,n,_⟩;obtain⟨ob,e,_⟩:=oA n;exact⟨ob,e⟩
   | met f x=>intro e;exact⟨_,e⟩
   | iG lo hi=>intro ⟨_,_,_,e⟩;exact⟨_,e⟩
   | sI o u _=>intro ⟨e,_⟩;exact⟨_,e⟩
   | GH ps=>intro e;exact⟨_,e⟩
   | ext φ=>intro ⟨_,⟨ob,e⟩,_⟩;exact⟨ob,e⟩
  obtain⟨ob,e⟩:=this u (I.bo a u q)
  rw[hn] at e;cases e
theorem Inv.GS{h':Heap}{t':Nat}{a:Addr}{o:HO}(I:Inv X pins σ H s)(k:∀ b u,s.heap.get? b=some u->h'.get? b=some u)(hn:s.heap.get? a=none)(new:bT X.prog X.w (upd H a o) h' a o) :
  Inv X pins σ (upd H a o) { s with heap:=h',toks:=t' }:=by
 have ne:∀ b u,s.heap.get? b=some u->b≠a:=fun b u e z=>by rw[z,hn] at e;cases e
 have hfr:H a=none:=I.uh hn
 have nea:∀ b u,H b=some u->b≠a:=fun b u e z=>by rw[z,hfr] at e;cases e
 refine I.un ⟨fun b u e _ _ _=>k b u e,fun b u e _ _ _=>⟨u.slots,k b u e⟩,fun b u e n _=>by rw[au (ne b u e)];exact n,fun b u e _=>⟨u,k b u e⟩,
  fun b xs e=>by rw[au (nea b _ e)];exact e,fun b ob u e=>by rw[au (nea b _ e)];exact e,fun b ps e=>⟨#[],by rw[au (nea b _ e),e];simp⟩⟩ fun b u e=>?_
 by_cases z:b=a
 ·subst z
  rw[aC] at e
  cases e
  exact new
 ·rw[au z] at e
  refine(I.bo b u e).nv (fun c v _ q=>k c v q) (fun c q=>?_) fun c ys q=>?_
  ·rw[au (nea c _ q)];exact q
  ·rw[au (nea c _ q)];exact q
end
section
variable{X:Cx}{o:Expr}{ta:TE}{f m:Str}{pos apos:Pos}
def Px(K:PySem.W.Frag):List V->Hp->VK->Prop:=fun xs H Q=>∃ e C fo b,fY K C/\ExcAt H e C fo ∧
 ((∃ T,xs=[.ref e,.ty T]/\PySem.W.kitOne K (.ref C) (.type T)=some b)\/(∃ D,xs=[.ref e,.ref D]/\PySem.W.kitOne K (.ref C) (.ref D)=some b))/\Q (.bl b) H
theorem qV:cN X (.builtin "isinstance") (Px X.K):=by
 intro pins s σ H xs us Q I r h
 obtain⟨e,C,fo,b,c,ha,hc,q⟩:=h
 obtain⟨ox,od,J,_⟩:=I.FY ha
 rcases hc with ⟨T,rfl,hk⟩ | ⟨D,rfl,hk⟩
 ·cases r with
  | cons r1 r2 =>
   cases r2 with
   | cons r3 r4 =>
    cases r4
    cases (show _=Value.ref e from r1)
    cases (show _=Value.type T from r3)
    exact PySem.W.kia_one (wI c) I.j7 J hk (fun z=>nomatch z) fun tk=>⟨.bl b,H,I.tok tk,rfl,q⟩
 ·cases r with
  | cons r1 r2 =>
   cases r2 with
   | cons r3 r4 =>
    cases r4
    cases (show _=Value.ref e from r1)
    cases (show _=Value.ref D from r3)
    exact PySem.W.kia_one (wI c) I.j7 J hk (fun z=>nomatch z) fun tk=>⟨.bl b,H,I.tok tk,rfl,q⟩
end
theorem yy{K:PySem.W.Frag}{h:Heap}{N:Addr}{mg:Str->Option Value}{n:Str}{v:Value}(X:K.In h)(G:h.Ns N mg)(e:PySem.W.nsIn K N n=some (some v)):mg n=some v:=by
 obtain⟨o,es,ep,ho,hd,_,hf⟩:=G
 unfold PySem.W.nsIn at e
 split at e
 ·rename_i c d es' n' sl q
  have:=X _ _ q
  rw[ho] at this
  cases this
  cases hd
  split at e
  ·rename_i en he
   cases e
   rw[← hf]
   unfold nsFind findBy
   rw[← Array.find?_toList,he]
   rfl
  ·split at e <;> cases e
 ·cases e
theorem FJ{K:PySem.W.Frag}{h:Heap}{C:Addr}{newId:String}(X:K.In h)(q:PySem.W.excIn K C e8 newId=true) :
  ∃ bm N nm qn bs hdct sn sub ab col dd k0 k1 k2 k3 k5 mN,h.get? C=some (excClassObj nm qn C N bs bm hdct sn sub ab col dd k0 k1 k2 k3 k5 newId)/\h.Ns N mN/\mN "__init__" = none/\OwnTail h e8 bm:=by
 unfold PySem.W.excIn at q
 split at q
 ·rename_i dd cd sl ho
  split at q
  ·rename_i C' bm k0 k1 k2 k3 n k5 hm hs
   simp only[Bool.and_eq_true,beq_iff_eq,Bool.not_eq_true'] at q
   obtain⟨⟨⟨⟨⟨rfl,rfl⟩,hdel⟩,ht⟩,bo⟩,hni⟩:=q
   obtain⟨nm,bs,mro,ns,qn,hd,sn,sub,ab,col,del⟩:=cd
   dsimp only at hm hdel bo hni
   subst hm hdel
   have hsl:sl=#[k0,k1,k2,k3,some (.builtin n),k5]:=by
    obtain⟨l⟩:=sl
    simp only at hs
    rw[hs]
   subst hsl
   exact⟨bm,ns,nm,qn,bs,hd,sn,sub,ab,col,dd,k0,k1,k2,k3,k5,_,X _ _ ho,.of_isNs (PySem.W.isNs_of_in X bo),PySem.W.nsMap_none_of_in X bo hni,PySem.W.tail_of_in X ht⟩
  ·cases q
 ·cases q
theorem BP{K:PySem.W.Frag}{h:Heap}{C f:Addr}{newId:String}(X:K.In h)(q:qS K C newId f=true) :
  ∃ bm N nm qn bs hdct sn sub ab col dd k0 k1 k2 k3 k5 mN,h.get? C=some (excClassObj nm qn C N bs bm hdct sn sub ab col dd k0 k1 k2 k3 k5 newId)/\h.Ns N mN/\mN "__init__" = some (.ref f)/\OwnTail h e8 bm:=by
 unfold qS at q
 split at q
 ·rename_i dd cd sl ho
  split at q
  ·rename_i C' bm k0 k1 k2 k3 n k5 hm hs
   simp only[Bool.and_eq_true,beq_iff_eq,Bool.not_eq_true'] at q
   obtain⟨⟨⟨⟨⟨rfl,rfl⟩,hdel⟩,ht⟩,bo⟩,hni⟩:=q
   obtain⟨nm,bs,mro,ns,qn,hd,sn,sub,ab,col,del⟩:=cd
   dsimp only at hm hdel bo hni
   subst hm hdel
   have hsl:sl=#[k0,k1,k2,k3,some (.builtin n),k5]:=by
    obtain⟨l⟩:=sl
    simp only at hs
    rw[hs]
   subst hsl
   have hN:=Heap.Ns.of_isNs (PySem.W.isNs_of_in X bo)
   exact⟨bm,ns,nm,qn,bs,hd,sn,sub,ab,col,dd,k0,k1,k2,k3,k5,_,X _ _ ho,hN,yy X hN hni,PySem.W.tail_of_in X ht⟩
  ·cases q
 ·cases q
section
variable{X:Cx}{C f:Addr}{fd:FuncData}{ps:List Str}{sp:Sp}{x:Str}{p pos:Pos}{e:Expr}{es:List Expr}{t:TA}{k:Nat}
end
end L2
namespace L2
open PySem PySem.Spec PyProof.Rows
open PySem.SeqAt (shaped noMix noMixAll)
section
variable{X:Cx}
end
end L2
namespace L2
open PySem PySem.Spec PyProof.Rows
open PySem.SeqAt (shaped noMix noMixAll)
section
variable{X:Cx}{pins:List (Addr×Obj)}{σ:St}{H:Hp}{s:Shared}
theorem F6{x:V}{u t:Value}(I:Inv X pins σ H s)(rx:RelV x u)(ty:j9 X.K H x t):∃ HH:Heap->Prop,PySem.W.KitX X.K u t HH/\HH s.heap/\u≠.builtin "__main__.__loader__#opaque" := by
 cases ty with
 | cz=>cases (show u=Value.none from rx);exact⟨_,PySem.W.kitx_none,True.intro,fun z=>nomatch z⟩
 | bl y=>cases (show u=Value.bool y from rx);exact⟨_,PySem.W.kitx_bool,True.intro,fun z=>nomatch z⟩
 | int i=>obtain⟨t,q⟩:=(show ∃ t,u=Value.int i t from rx);cases q;exact⟨_,PySem.W.kitx_int,True.intro,fun z=>nomatch z⟩
 | str y=>obtain⟨t,q⟩:=(show ∃ t,u=Value.str y t from rx);cases q;exact⟨_,PySem.W.kitx_str,True.intro,fun z=>nomatch z⟩
 | Hj y=>obtain⟨t,q⟩:=(show ∃ t,u=Value.float y t from rx);cases q;exact⟨_,PySem.W.kitx_float,True.intro,fun z=>nomatch z⟩
 | @lst a xs ea =>
  cases (show u=Value.ref a from rx)
  obtain⟨_,_,n,_,h1⟩:=(show bT X.prog X.w H s.heap a (.lst xs) from I.bo a _ ea)
  exact⟨_,PySem.W.kitx_list,⟨_,h1,rfl⟩,fun z=>nomatch z⟩
 | @sI a ob xs ea =>
  cases (show u=Value.ref a from rx)
  obtain⟨_,_,_,n,_,h1⟩:=(show bT X.prog X.w H s.heap a (.sI ob (.lst xs)) from I.bo a _ ea)
  exact⟨_,PySem.W.kitx_list,⟨_,h1,rfl⟩,fun z=>nomatch z⟩
 | @tup a xs ea =>
  cases (show u=Value.ref a from rx)
  obtain⟨_,_,_,o,h1,h2,_⟩:=(show bT X.prog X.w H s.heap a (.tup xs) from I.bo a _ ea)
  exact⟨_,PySem.W.kitx_tuple,⟨o,h1,h2⟩,fun z=>nomatch z⟩
 | @dK a kvs ea =>
  cases (show u=Value.ref a from rx)
  obtain⟨_,_,vs,_,o,es,ep,h1,h2,_⟩:=(show bT X.prog X.w H s.heap a (.dK kvs) from I.bo a _ ea)
  exact⟨_,PySem.W.kitx_dict,⟨o,h1,h2.1⟩,fun z=>nomatch z⟩
 | @dT a kvs ea =>
  cases (show u=Value.ref a from rx)
  obtain⟨_,_,xs,_,o,es,ep,h1,h2,_⟩:=(show bT X.prog X.w H s.heap a (.dT kvs) from I.bo a _ ea)
  exact⟨_,PySem.W.kitx_dict,⟨o,h1,h2.1⟩,fun z=>nomatch z⟩
 | @ins a C dx fs ea cl ha hn Kc hm =>
  cases (show u=Value.ref a from rx)
  obtain⟨mA,O,_⟩:=mI I.bo ea
  obtain⟨od,J,_⟩:=O.look
  exact⟨_,PySem.W.kitx_own (cl.get _) cl.hd ha hn Kc hm,J,fun z=>nomatch z⟩
end
section
variable{X:Cx}
def Ku(K:PySem.W.Frag):List V->Hp->VK->Prop:=fun xs H Q=>∃ (x:V) (tp:Addr) (Ts:List String) (t:Value) (b:Bool),xs=[x,.ref tp]/\H tp=some (.tup (Ts.map V.ty))/\j9 K H x t/\PySem.W.kitAny K t (Ts.map Value.type)=some b/\Q (.bl b) H
theorem zi:∀ {Ts:List String} {us:List Value},Vals (Ts.map V.ty) us->us=Ts.map Value.type
 | [],us,r=>by rw[List.map_nil] at r;cases r;rfl
 | T::Ts,us,r=>by
  rw[List.map_cons] at r
  cases r with
  | cons r1 r2 =>
   cases (show _=Value.type T from r1)
   rw[zi r2]
   rfl
theorem Ac:cN X (.builtin "isinstance") (Ku X.K):=by
 intro pins s σ H xs us Q I r h
 obtain⟨x,tp,Ts,t,b,rfl,htp,ty,e,q⟩:=h
 cases r with
 | cons r1 r2 =>
  cases r2 with
  | cons r3 r4 =>
   cases r4
   cases (show _=Value.ref tp from r3)
   obtain⟨HH,Z,p,ne⟩:=F6 I r1 ty
   obtain⟨_,its,rv,o,h1,h2,n,h3⟩:=(show bT X.prog X.w H s.heap tp (.tup (Ts.map V.ty)) from I.bo tp _ htp)
   have ei:=zi rv
   subst ei
   obtain⟨cls,dd,data,sl⟩:=o
   dsimp only at h2 h3
   subst h2 h3
   exact PySem.W.kia_tup Z I.j7 p h1 e ne fun tk=>⟨.bl b,H,I.tok tk,rfl,q⟩
theorem zE:∀ {bs:List Bool} {us:List Value},Vals (bs.map V.bl) us->us=bs.map Value.bool
 | [],us,r=>by rw[List.map_nil] at r;cases r;rfl
 | b::bs,us,r=>by
  rw[List.map_cons] at r
  cases r with
  | cons r1 r2 =>
   cases (show _=Value.bool b from r1)
   rw[zE r2]
   rfl
theorem IQ:bootBuiltins "all" = some (.builtin "all"):=by decide +kernel
theorem Bl(hc:X.calm=true):cN X (.builtin "all") (fun xs H Q=>∃ (a:Addr) (bs:List Bool),xs=[.ref a]/\i4 X.K H a (bs.map V.bl)/\Q (.bl (bs.all id)) H):=by
 intro pins s σ H xs us Q I r h
 obtain⟨a,bs,rfl,hq,q⟩:=h
 cases r with
 | cons r1 r2 =>
  cases r2
  cases (show _=Value.ref a from r1)
  obtain⟨its,rv,p,hz⟩:=I.list hq
  have ei:=zE rv
  subst ei
  have hl:=p.isList
  have hlt:a<s.heap.objs.size:=by obtain⟨_,e,_⟩:=hl;exact Heap.lt_size e
  refine call_all_walk (wpAny_pyIter_list hl ?_)
  refine⟨s.heap.objs.size,[s.heap.objs.size,a],[s.heap.objs.size],(bs.map Value.bool).toArray.size,_,_,fun i=>(bs[i]?).getD true,rfl,Walks.list (A:=X.A.in1) (I.ok.hd hc) _ a (Nat.ne_of_lt hlt) (bs.map Value.bool).toArray,
   ⟨⟨_,Heap.get?_push_size _ rfl,rfl,rfl⟩,hl.push _⟩,fun i v s' Q' E' hP hQ=>?_,fun h' tk hk=>?_⟩
  ·have hP':(bs.map Value.bool)[i]?=some v:=by simpa using hP
   rw[List.getElem?_map] at hP'
   obtain⟨b,e1,e2⟩:=Option.map_eq_some_iff.mp hP'
   subst e2
   simp only[e1,Option.getD_some] at hQ
   exact wpAny_truthy_bool hQ
  ·have e:((List.range (bs.map Value.bool).toArray.size).all fun i=>(bs[i]?).getD true)=bs.all id:=by
    rw[List.size_toArray,List.length_map]
    rw[Bool.eq_iff_iff,List.all_eq_true,List.all_eq_true]
    constructor
    ·intro h b hb
     obtain⟨i,hi,e⟩:=List.getElem_of_mem hb
     have:=h i (List.mem_range.mpr hi)
     simp only[List.getElem?_eq_getElem hi,Option.getD_some,e] at this
     exact this
    ·intro h i hi
     have hi':=List.mem_range.mp hi
     simp only[List.getElem?_eq_getElem hi',Option.getD_some]
     exact h _ (List.getElem_mem hi')
   rw[e]
   refine⟨.bl _,H,I.kept (t':=tk) (fun b x e=>?_),rfl,q⟩
   exact hk b x (fun hm=>by rw[List.mem_singleton.mp hm] at e;exact Nat.lt_irrefl _ (Heap.lt_size e)) (Heap.get?_push_of_some _ e)
end
end L2
namespace L2
open PySem PySem.Spec PyProof.Rows
open PySem.MeetsSeq PySem.MeetsSeq2 PySem.MeetsSeq3
theorem oa:fillsNumberSlot (.type "tuple") "mul" = pure false :=
 PySem.fillsNumberSlot_seq (id := "tuple.__mul__") (r:=some (.builtin "tuple.__rmul__")) F.slot_tuple_mul.lookup (by decide +kernel) F.slot_tuple_rmul.lookup (by decide +kernel)
theorem uW:seqRepeat? (.type "tuple")=pure (some (.builtin "tuple.__mul__")):=by
 unfold seqRepeat?
 rw[PySem.seqSlot_of (T := "tuple") (name := "__mul__") (id := "tuple.__mul__") F.slot_tuple_mul.lookup (by decide +kernel),PySem.seqSlot_of (T := "tuple") (name := "__rmul__") (id := "tuple.__rmul__") F.slot_tuple_rmul.lookup (by decide +kernel)]
 rfl
theorem vC(a:Int)(t:Tok)(l:Addr)(items:Array Value)(n:Nat)(dd:Option Addr)(sl:Array (Option Value)) :
  Meets (Builtin.«int.__rmul__» ⟨[.int a t,.ref l],[]⟩) (fun _ R s=>s.heap.get? l=some ⟨.type "tuple", dd,.seq items n,sl⟩/\R (.ok (.ret Value.notImplemented)) s) :=
 .of_wp fun prog w A R s h=>by obtain⟨hp,g,d,tk,os⟩:=s;obtain⟨hl,h⟩:=h;wp_walk;exact⟨_,rfl,h⟩
theorem AU(l:Addr)(items:Array Value)(n:Nat)(dd:Option Addr)(sl:Array (Option Value))(u:Tok) :
  Meets (Builtin.«tuple.__mul__» ⟨[.ref l,.int 1 u],[]⟩) (fun _ R s=>s.heap.get? l=some ⟨.type "tuple", dd,.seq items n,sl⟩/\R (.ok (.ret (.ref l))) s) :=
 .of_wp fun prog w A R s h=>by
  obtain⟨hp,g,d,tk,os⟩:=s;obtain⟨hl,h⟩:=h;have f1:=AutoSeq1.idx_int;have f2:=AutoSeq1.sub_tuple_tuple
  wp_walk using AutoSeq1.wpAny_loadPart' hl
  exact⟨_,rfl,h⟩
theorem AJ(l:Addr)(items:Array Value)(n:Nat)(dd:Option Addr)(sl:Array (Option Value))(x:Int)(u:Tok)(c0:¬ (decide (x < -2^63)||decide (x>=2^63))=true)(c1:¬ (items.isEmpty||x==1)=true)(c2:¬ (decide (x<=0)||items.isEmpty)=true)
  (c3:¬ (items.size:Int)*x>(2^63-1)/8) (c4:¬ Builtin.Tuple.tupleTooMany ((items.size:Int)*x)=true) (hsz:(List.foldl (fun x1 x2=>x1++x2) #[] (List.replicate x.toNat items)).size<=sizeLine) :
  Meets (Builtin.«tuple.__mul__» ⟨[.ref l,.int x u],[]⟩) (fun _ R s=>s.heap.get? l=some ⟨.type "tuple", dd,.seq items n,sl⟩/\R (.ok (.ret (.ref s.heap.objs.size))) { s with heap:=s.heap.push { cls:=.type "tuple", data:=.seq (List.foldl (fun x1 x2=>x1++x2) #[] (List.replicate x.toNat items)) },toks:=s.toks }) :=
 .of_wp fun prog w A R s h=>by
  obtain⟨hp,g,d,tk,os⟩:=s;obtain⟨hl,h⟩:=h;have f1:=AutoSeq1.idx_int;have f2:=AutoSeq1.sub_tuple_tuple
  wp_walk using AutoSeq1.wpAny_loadPart' hl
  refine wpAny_ite_false (decide_eq_false c0) ?_;wp_walk using AutoSeq1.wpAny_loadPart' hl
  refine wpAny_ite_false (decide_eq_false c3) ?_;wp_walk using AutoSeq1.wpAny_loadPart' hl
  exact⟨_,rfl,h⟩
theorem AM(l:Addr)(items:Array Value)(n:Nat)(dd:Option Addr)(sl:Array (Option Value))(x:Int)(u:Tok)(c0:¬ (decide (x < -2^63)||decide (x>=2^63))=true)(c1:¬ (items.isEmpty||x==1)=true)(c2:(decide (x<=0)||items.isEmpty)=true) :
  Meets (Builtin.«tuple.__mul__» ⟨[.ref l,.int x u],[]⟩) (fun _ R s=>s.heap.get? l=some ⟨.type "tuple", dd,.seq items n,sl⟩/\R (.ok (.ret (.ref s.heap.objs.size))) { s with heap:=s.heap.push { cls:=.type "tuple", data:=.seq #[] },toks:=s.toks }) :=
 .of_wp fun prog w A R s h=>by
  obtain⟨hp,g,d,tk,os⟩:=s;obtain⟨hl,h⟩:=h;have f1:=AutoSeq1.idx_int;have f2:=AutoSeq1.sub_tuple_tuple
  wp_walk using AutoSeq1.wpAny_loadPart' hl
  refine wpAny_ite_false (decide_eq_false c0) ?_;wp_walk using AutoSeq1.wpAny_loadPart' hl
  exact⟨_,rfl,h⟩
section
variable{X:Cx}
def GR(K:PySem.W.Frag):R2:=fun x y H Q=>∃ a k xs,x=.ref a/\y=.int k/\gU K H a xs/\xs≠[]/\-(2^63)<=k/\k<2^63/\xs.length*k.toNat<=sizeLine/\(k=1->Q (.ref a) H)/\(k≠1->∀ p,H p=none->Q (.ref p) (upd H p (.tup (List.replicate k.toNat xs).flatten)))
theorem Gy:gq X (binaryOp .Mult) (GR X.K):=by
 intro pins s σ H x y v u Q I rx ry h
 obtain⟨a,k,xs,rfl,rfl,hq,hne,h1,h2,hz,q1,q2⟩:=h
 cases rx
 obtain⟨t,rfl⟩:=ry
 obtain⟨its,r,⟨o,e,hc,n,hd⟩,_⟩:=I.tuple hq
 obtain⟨cls,dd,data,sl⟩:=o
 dsimp only at hc hd
 subst hc hd
 have hl:=r.length
 refine wpAny_binaryOp_repeat_ref (T := "tuple") (U := "int") (by decide) ⟨_,e,rfl⟩ (fun s'=>typeIs_int s' k t) oa F.fills_int_mul F.slot_int_rmul uW F.slot_int_index.lookup
  (call_meets F.slot_int_rmul (typeIs_int s k t) F.entry_int_rmul (F.args_int_rmul_2 _ _) (vC k t a its.toArray n dd sl) ⟨e,rfl,⟨_,e,rfl⟩,?_⟩)
 by_cases hk1:k=1
 ·subst hk1
  exact call_meets F.slot_tuple_mul ⟨_,e,rfl⟩ F.entry_tuple_mul (F.args_tuple_mul_2 _ _) (AU a its.toArray n dd sl t) ⟨e,⟨.ref a,H,I,rfl,q1 rfl⟩⟩
 ·have hb1:(k==1)=false:=by simpa using hk1
  have hni:its≠[]:=fun z=>hne (r.ni.mp z)
  have hie:its.toArray.isEmpty=false:=by cases its with | nil=>exact absurd rfl hni | cons _ _=>rfl
  have c0:¬ (decide (k < -2^63)||decide (k>=2^63))=true:=by simp;omega
  have c1:¬ (its.toArray.isEmpty||k==1)=true:=by rw[hie,hb1];simp
  have fin:∀ ys,ys=(List.replicate k.toNat its).flatten.toArray->EP X pins σ Q (.ref s.heap.objs.size) { s with heap:=s.heap.push { cls:=.type "tuple", data:=.seq ys },toks:=s.toks }:=fun ys ey=>by
   subst ey
   refine⟨.ref s.heap.objs.size,_,I.laid (t':=s.toks) (o:=.tup (List.replicate k.toNat xs).flatten) (fun b ob q=>Heap.get?_push_of_some _ q) (Nat.le_refl _) ?_,rfl,q2 hk1 _ (I.bo.fresh (Nat.le_refl _))⟩
   exact⟨by rw[len_rep,Nat.mul_comm];exact hz,_,r.rep k.toNat,IsTup.new _ _⟩
  have hnew:List.foldl (fun x1 x2=>x1++x2) #[] (List.replicate k.toNat its.toArray)=(List.replicate k.toNat its).flatten.toArray:=by
   have:=foldl_rep its k.toNat []
   rw[List.nil_append] at this
   exact this
  by_cases hk0:k<=0
  ·have c2:(decide (k<=0)||its.toArray.isEmpty)=true:=by rw[decide_eq_true hk0];rfl
   refine call_meets F.slot_tuple_mul ⟨_,e,rfl⟩ F.entry_tuple_mul (F.args_tuple_mul_2 _ _) (AM a its.toArray n dd sl k t c0 c1 c2) ⟨e,fin _ ?_⟩
   rw[show k.toNat=0 by omega]
   rfl
  ·have c2:¬ (decide (k<=0)||its.toArray.isEmpty)=true:=by rw[decide_eq_false hk0,hie];simp
   have em:((its.toArray.size:Nat):Int)*k=((xs.length*k.toNat:Nat):Int):=by
    rw[List.size_toArray,← hl,Int.natCast_mul,Int.toNat_of_nonneg (by omega)]
   have hs:(sizeLine:Int)<=(2^63-1)/8:=by decide
   refine call_meets F.slot_tuple_mul ⟨_,e,rfl⟩ F.entry_tuple_mul (F.args_tuple_mul_2 _ _) (AJ a its.toArray n dd sl k t c0 c1 c2 ?_ ?_ ?_) ⟨e,fin _ hnew⟩
   ·rw[em];omega
   ·rw[em]
    unfold Builtin.Tuple.tupleTooMany
    simp only[decide_eq_true_eq]
    omega
   ·rw[hnew,List.size_toArray,len_rep,Nat.mul_comm,← hl]
    exact hz
end
end L2
namespace L2
open PySem PySem.Spec PyProof.Rows
structure aE (K:PySem.W.Frag) (x qual:Str) (st:Stmt) (dv:Value) (f:Addr) (fd:FuncData):Prop where
 ex:∃ (oc:Value) (od:Option Addr) (kV doc pm:Value) (an:Option Addr) (cdv ct:Value) (osl:Array (Option Value)),
  fd=PySem.W.fnOf x qual (ir st) (fx st) (aq st) dv kV doc pm an cdv ct/\K.lookup f=some ⟨oc,od,.func fd,osl⟩/\PySem.W.codeIn K cdv qual=true
 kp:PySem.W.keepIn K (.ref f)=true
section
variable{P:Program}{w:World}{K:PySem.W.Frag}{mg:Str->Option Value}{base:Heap}
theorem aE.binds{x qual:Str}{st:Stmt}{T:Addr}{o:Obj}{items:Array Value}{n:Nat}{f:Addr}{fd:FuncData}{ps:List Str}{ds:List Value}(F:aE K x qual st (.ref T) f fd)(ho:K.lookup T=some o)(hs:o.data=.seq items n)
  (h:∀ (kV doc pm:Value) (an:Option Addr) (cdv ct:Value) (us:List Value),(us++ds).length=ps.length->∃ k,bindArgs (PySem.W.fnOf x qual (ir st) (fx st) (aq st) (.ref T) kV doc pm an cdv ct) ⟨us,[]⟩=seqItems? (.ref T) >>= k/\k (some items)=pure (ps.zip (us++ds))):Binds K fd ps ds:=by
 obtain⟨oc,od,kV,doc,pm,an,cdv,ct,osl,rfl,lk,hcd⟩:=F.ex
 intro s us X hl
 obtain⟨k,h1,h2⟩:=h kV doc pm an cdv ct us hl
 exact BindsTo.of_defaults rfl (X _ _ ho) hs h1 h2
end
theorem Lb{X:Cx}{x:Str}{v:V}{pos:Pos}(hg:Gl X x)(hm:∃ u,X.mg x=some u/\RelV v u)(hd:(x==("__debug__" : Str))=false:=by decide):PE X (.Name x pos) (tC v):=by
 obtain⟨u,h1,h2⟩:=hm
 exact zZ hg h1 h2 hd
theorem IW:bootBuiltins "max" = some (.builtin "max"):=by decide +kernel
end L2
namespace L2
open PySem PySem.Spec PyProof.Rows
theorem FH{X:Cx}{tg elt iter:Expr}{scope:Scope}{cl:List (Str×Addr)}{pos spos py:Pos}{i:Nat}{y:Str}{wi:TI}{g:TG}{te:TE}{ts fs:List Str}{js:List Nat}(hN:X.N.Nodup)(hiy:X.N[i]?=some y)(hy:Loc X.env.scope y)(hcalm:X.calm=true)
  (hclos:closureFor scope X.env=pure cl) (hk:scope.kind=.function) (nc:iQ scope.names=true) (lo:lB scope.names=true) (fh:lq cl scope.names=true) (ag:fU X cl) (fr:kr X scope cl fs js)
  (hi:PI X tg iter wi) (hg:∀ C s₀ H₀ ex pins,PG (xN X scope cl (ts++fs) C s₀ H₀ ex pins) tg g) (he:∀ C s₀ H₀ ex pins,PE (xN X scope cl (ts++fs) C s₀ H₀ ex pins) elt te)
  (hs:∀ x,foldedSetIterable iter X.env x=pure x:=by intro _;rfl) (hsw:swapsWith (.ListComp elt [⟨tg,iter,[],0⟩] scope pos) (some (.Name y py)) spos.line X.env=pure true:=by rfl)
  (hf:X.fn y=true\/X.env.scope.names.lookup y=some .local:=by first | exact .inl rfl | exact .inr rfl | assumption) :
  PS X (.Assign [.Name y py] (.ListComp elt [⟨tg,iter,[],0⟩] scope pos) spos) (IP (xU wi g te ts js) (aG i)):=by
 intro pins s σ H D I h
 rw[exec_Assign_Name_used _ _ _ _ hsw]
 refine wpAny_bind (wpAny_standAt (wpAny_bind ?_))
 show wpAny _ X.A (do let _ ← comprehension (.ListComp elt [⟨tg,iter,[],0⟩] scope pos) scope X.env _ (newList []) false (eval iter X.env) (some (assign (.Name y py) X.env))) _ _ s
 refine wpAny_bind (wpAny_mono (vW (tt:=none) hcalm hclos hk nc lo fh ag fr hi hg (fun _ _ _ _ _=>trivial) he hs I (show Du wi g none te ts js σ H (fun x H1=>D.nx (σ.set i (some x)) H1) from h) (some (assign (.Name y py) X.env)) (fun _ s'=>SP X pins D .next s') fun Dd H' s' C Io q hm f=>?_) (fun _ s' hq=>wpAny_pure (wpAny_pure hq)) fun _ _ e=>e)
 show wpAny _ X.A (assign (.Name y py) X.env (.ref Dd)) _ _ s'
 refine wpAny_assign_Name (tW Io hN hiy hy (v:=.ref Dd) rfl (fun s'' I'' ⟨a,sb,ha⟩=>?_) hf)
 obtain⟨m,hn⟩:=hm
 obtain⟨f0,f1,f2,f3,f4,f5⟩:=f
 have naC:a≠C:=by
  rcases ha with z | z
  ·rw[z];exact fun w=>f1 w.symm
  ·exact f4 y a z
 refine⟨m,hn.sameBut sb (Ne.symm naC),fun h' hs'=>?_⟩
 exact⟨_,H',I''.other ⟨f0,f1,f2,f3,f4,f5⟩ hs',q⟩
end L2
namespace L2
open PySem PySem.Spec PyProof.Rows
end L2
namespace L2
open PySem PySem.Spec PyProof.Rows
theorem pU(a b c:Value):checkTypeCall "zip" ⟨[a,b,c],[]⟩=pure ():=by kernel_rfl
theorem sj(a b c:Value):checkBuiltinCall "zip.__new__" ⟨[.type "zip", a,b,c],[]⟩=pure ():=by kernel_rfl
abbrev bq(h:Heap)(T:Addr)(a b c:Value):Prop:=h.get? T=some { cls:=.type "tuple", data:=.seq #[a,b,c] }
structure Z3 (z TI TO i1 i2 i3:Addr):Prop where
 TIz:TI≠z
 TOz:TO≠z
 i1z:i1≠z
 i2z:i2≠z
 J7:i3≠z
 TITO:TI≠TO
 TIi1:TI≠i1
 TIi2:TI≠i2
 QC:TI≠i3
 TOi1:TO≠i1
 TOi2:TO≠i2
 EE:TO≠i3
 i12:i1≠i2
 OF:i1≠i3
 Rn:i2≠i3
structure L3 (z TO i1 i2 i3 l:Addr):Prop where
 z:l≠z
 o:l≠TO
 i1:l≠i1
 i2:l≠i2
 i3:l≠i3
section
variable{prog:Program}{w:World}{A:Around}{E:Value->Shared->Prop}{s:Shared}
theorem c9{T:Addr}{a b c x:Value}{k:Nat}{Q:Unit->Shared->Prop}(hT:bq s.heap T a b c)
  (h:∀ h',h'.get? T=some { cls:=.type "tuple", data:=.seq ((#[a,b,c]:Array Value).setIfInBounds k x) }->Heap.SameBut T s.heap h'->Q () { s with heap:=h' }) :
  wpAny (model prog w) A (updateSeq T (·.setIfInBounds k x)) Q E s:=by
 refine wpAny_updateSeq hT rfl (h _ ?_ (Heap.SameBut.update ..))
 rw[Heap.get?_update_self _ hT rfl]
 simp[Obj.mapSeq]
variable{b1 b2 b3:Bool}{z TI TO i1 i2 i3 l1 l2 l3:Addr}{k1 k2 k3:Nat}{xs ys zs:Array Value}{x y v a b c:Value}
theorem Bj{Q:Value->Shared->Prop}(D:Z3 z TI TO i1 i2 i3)(D1:L3 z TO i1 i2 i3 l1)(D2:L3 z TO i1 i2 i3 l2)(D3:L3 z TO i1 i2 i3 l3)
  (hz:IsZip s.heap z TI TO .none) (hTI:bq s.heap TI (.ref i1) (.ref i2) (.ref i3)) (hTO:bq s.heap TO a b c)
  (h1:dX s.heap b1 i1 l1 k1) (h2:dX s.heap b2 i2 l2 k2) (h3:dX s.heap b3 i3 l3 k3) (hl1:fS s.heap b1 l1 xs) (hl2:fS s.heap b2 l2 ys) (hl3:fS s.heap b3 l3 zs) (hx:xs[k1]?=some x) (hy:ys[k2]?=some y) (hv:zs[k3]?=some v)
  (hQ:∀ h',IsZip h' z TI TO (rawInt s.heap.objs.size)->bq h' TO x y v->dX h' b1 i1 l1 (k1+1)->dX h' b2 i2 l2 (k2+1)->dX h' b3 i3 l3 (k3+1)->bq h' s.heap.objs.size x y v->h'.objs.size=s.heap.objs.size+1 ->
   (∀ c o,c≠z->c≠TO->c≠i1->c≠i2->c≠i3->s.heap.get? c=some o->h'.get? c=some o)->Q (.ref s.heap.objs.size) { s with heap:=h' }) :
  wpAny (model prog w) A (Builtin.«zip.__next__» ⟨[.ref z],[]⟩) (fun fin s'=>∃ v,fin=.done (.ret v)/\Q v s') E s:=by
 show wpAny _ _ (field (.ref z) 2 >>= _) _ _ _
 refine wpAny_bind (wpAny_field hz rfl (x:=.bool false) rfl ?_)
 show wpAny _ _ (field (.ref z) 3 >>= _) _ _ _
 refine wpAny_bind (wpAny_field hz rfl (x:=.ref TI) rfl ?_)
 refine wpAny_bind (wpAny_seqItems hTI rfl ?_)
 show wpAny _ _ (Builtin.SmallTypes.ownedTupleIsFree (.ref z) >>= _) _ _ _
 refine wpAny_bind ?_
 unfold Builtin.SmallTypes.ownedTupleIsFree
 refine wpAny_bind (wpAny_field hz rfl (x:=.none) rfl (wpAny_pure ?_))
 simp only[if_true]
 refine wpAny_bind (wpAny_rule ?_)
 refine wpAny_bind (wpAny_field hz rfl (x:=.ref TO) rfl ?_)
 refine wpAny_bind (wpAny_setField_rec hz (by simp) fun h₁ hz₁ hs1=>?_)
 replace hz₁:IsZip h₁ z TI TO .ellipsis:=hz₁
 refine wpAny_bind ?_
 simp only[List.zipIdx_cons,List.zipIdx_nil,List.forIn_cons,List.forIn_nil]
 refine wpAny_bind (wpAny_bind (wpAny_onRaise ?_))
 show wpAny _ _ (Builtin.SmallTypes.nextOf (.ref i1) >>= _) _ _ _
 refine wpAny_bind (cI (h1.at fun o e=>hs1.extBut _ _ D.i1z e) (hl1.at fun o e=>hs1.extBut _ _ D1.z e) hx fun h₂ h1₂ hs₂=>wpAny_pure ?_)
 have hTO2:bq h₂ TO a b c:=hs₂.extBut _ _ D.TOi1 (hs1.extBut _ _ D.TOz hTO)
 refine wpAny_bind (wpAny_seqItems hTO2 rfl ?_)
 refine wpAny_bind (c9 hTO2 fun h₃ hTO3 hs₃=>?_)
 replace hTO3:bq h₃ TO x b c:=hTO3
 refine wpAny_bind (wpAny_letGo (wpAny_pure ?_))
 have kk3:∀ q o,q≠z->q≠TO->q≠i1->s.heap.get? q=some o->h₃.get? q=some o:=fun q o c1 c2 c3 e=>hs₃.extBut _ _ c2 (hs₂.extBut _ _ c3 (hs1.extBut _ _ c1 e))
 refine wpAny_bind (wpAny_bind (wpAny_onRaise ?_))
 show wpAny _ _ (Builtin.SmallTypes.nextOf (.ref i2) >>= _) _ _ _
 refine wpAny_bind (cI (h2.at fun o e=>kk3 _ o D.i2z D.TOi2.symm D.i12.symm e) (hl2.at fun o e=>kk3 _ o D2.z D2.o D2.i1 e) hy fun h₄ h2₄ hs4=>wpAny_pure ?_)
 have hTO4:bq h₄ TO x b c:=hs4.extBut _ _ D.TOi2 hTO3
 refine wpAny_bind (wpAny_seqItems hTO4 rfl ?_)
 refine wpAny_bind (c9 hTO4 fun h₅ hTO5 hs5=>?_)
 replace hTO5:bq h₅ TO x y c:=hTO5
 refine wpAny_bind (wpAny_letGo (wpAny_pure ?_))
 have k5:∀ q o,q≠z->q≠TO->q≠i1->q≠i2->s.heap.get? q=some o->h₅.get? q=some o:=fun q o c1 c2 c3 c4 e=>hs5.extBut _ _ c2 (hs4.extBut _ _ c4 (kk3 q o c1 c2 c3 e))
 refine wpAny_bind (wpAny_bind (wpAny_onRaise ?_))
 show wpAny _ _ (Builtin.SmallTypes.nextOf (.ref i3) >>= _) _ _ _
 refine wpAny_bind (cI (h3.at fun o e=>k5 _ o D.J7 D.EE.symm D.OF.symm D.Rn.symm e) (hl3.at fun o e=>k5 _ o D3.z D3.o D3.i1 D3.i2 e) hv fun h₆ h3₆ hs6=>wpAny_pure ?_)
 have hTO6:bq h₆ TO x y c:=hs6.extBut _ _ D.EE hTO5
 refine wpAny_bind (wpAny_seqItems hTO6 rfl ?_)
 refine wpAny_bind (c9 hTO6 fun h₇ hTO7 hs7=>?_)
 replace hTO7:bq h₇ TO x y v:=hTO7
 refine wpAny_bind (wpAny_letGo (wpAny_pure (wpAny_pure ?_)))
 refine wpAny_bind (wpAny_seqItems hTO7 rfl ?_)
 refine wpAny_bind (wpAny_newTuple ?_)
 have hsz:h₇.objs.size=s.heap.objs.size:=by rw[hs7.1,hs6.1,hs5.1,hs4.1,hs₃.1,hs₂.1,hs1.1]
 have hz₃:IsZip h₃ z TI TO .ellipsis:=hs₃.extBut _ _ D.TOz.symm (hs₂.extBut _ _ D.i1z.symm hz₁)
 have hz5:IsZip h₅ z TI TO .ellipsis:=hs5.extBut _ _ D.TOz.symm (hs4.extBut _ _ D.i2z.symm hz₃)
 have hz7:IsZip h₇ z TI TO .ellipsis:=hs7.extBut _ _ D.TOz.symm (hs6.extBut _ _ D.J7.symm hz5)
 have k7:∀ q o,q≠z->q≠TO->q≠i1->q≠i2->q≠i3->s.heap.get? q=some o->h₇.get? q=some o:=fun q o c1 c2 c3 c4 c5 e=>hs7.extBut _ _ c2 (hs6.extBut _ _ c5 (k5 q o c1 c2 c3 c4 e))
 have h1₇:dX h₇ b1 i1 l1 (k1+1):=h1₂.at fun o e=>hs7.extBut _ _ D.TOi1.symm (hs6.extBut _ _ D.OF (hs5.extBut _ _ D.TOi1.symm (hs4.extBut _ _ D.i12 (hs₃.extBut _ _ D.TOi1.symm e))))
 have h2₇:dX h₇ b2 i2 l2 (k2+1):=h2₄.at fun o e=>hs7.extBut _ _ D.TOi2.symm (hs6.extBut _ _ D.Rn (hs5.extBut _ _ D.TOi2.symm e))
 have h3₇:dX h₇ b3 i3 l3 (k3+1):=h3₆.at fun o e=>hs7.extBut _ _ D.EE.symm e
 have hzlt:z<h₇.objs.size:=Heap.lt_size hz7
 show wpAny _ _ (Builtin.SmallTypes.ownedTupleHandOut (.ref z) (.ref h₇.objs.size) >>= _) _ _ _
 refine wpAny_bind ?_
 unfold Builtin.SmallTypes.ownedTupleHandOut
 have hz₈:IsZip (h₇.push { cls:=.type "tuple", data:=.seq #[x,y,v] }) z TI TO .ellipsis:=Heap.get?_push_of_some _ hz7
 refine wpAny_bind (wpAny_setField_rec hz₈ (by simp) fun h₉ hz9 hs9=>?_)
 replace hz9:IsZip h₉ z TI TO (rawInt h₇.objs.size):=hz9
 refine wpAny_setField_rec hz9 (by simp) fun hA hzA hsA=>?_
 replace hzA:IsZip hA z TI TO (rawInt h₇.objs.size):=hzA
 have up:∀ c o,c≠z->h₇.get? c=some o->hA.get? c=some o:=fun c o c1 e=>hsA.extBut _ _ c1 (hs9.extBut _ _ c1 (Heap.get?_push_of_some _ e))
 have hTA:bq hA h₇.objs.size x y v:=hsA.extBut _ _ (Nat.ne_of_gt hzlt) (hs9.extBut _ _ (Nat.ne_of_gt hzlt) (Heap.get?_push_size _ rfl))
 have hzA8:hA.objs.size=h₇.objs.size+1:=by rw[hsA.1,hs9.1,Heap.size_push]
 rw[hsz] at hzA hTA hzA8
 refine wpAny_pure ⟨_,rfl,?_⟩
 show Q (.ref h₇.objs.size) _
 rw[hsz]
 exact hQ hA hzA (up _ _ D.TOz hTO7) (h1₇.at fun o e=>up _ o D.i1z e) (h2₇.at fun o e=>up _ o D.i2z e) (h3₇.at fun o e=>up _ o D.J7 e) hTA hzA8 fun c o c1 c2 c3 c4 c5 e=>up c o c1 (k7 c o c1 c2 c3 c4 c5 e)
theorem Cf{Q:Fin->Shared->Prop}(hh:A.handled=none)(D:Z3 z TI TO i1 i2 i3)(D1:L3 z TO i1 i2 i3 l1)(D2:L3 z TO i1 i2 i3 l2)(D3:L3 z TO i1 i2 i3 l3)
  (hz:IsZip s.heap z TI TO .none) (hTI:bq s.heap TI (.ref i1) (.ref i2) (.ref i3)) (hTO:bq s.heap TO a b c)
  (h1:dX s.heap b1 i1 l1 k1) (h2:dX s.heap b2 i2 l2 k2) (h3:dX s.heap b3 i3 l3 k3) (hl1:fS s.heap b1 l1 xs) (hl2:fS s.heap b2 l2 ys) (hl3:fS s.heap b3 l3 zs) (hend:xs[k1]?=none\/ys[k2]?=none\/zs[k3]?=none)
  (hE:∀ h' e,(∀ c o,c≠z->c≠TO->c≠i1->c≠i2->c≠i3->s.heap.get? c=some o->h'.get? c=some o)->(∃ o,h'.get? e=some o/\o.cls=.type "StopIteration")->E (.ref e) { s with heap:=h' }) :
  wpAny (model prog w) A (Builtin.«zip.__next__» ⟨[.ref z],[]⟩) Q E s:=by
 show wpAny _ _ (field (.ref z) 2 >>= _) _ _ _
 refine wpAny_bind (wpAny_field hz rfl (x:=.bool false) rfl ?_)
 show wpAny _ _ (field (.ref z) 3 >>= _) _ _ _
 refine wpAny_bind (wpAny_field hz rfl (x:=.ref TI) rfl ?_)
 refine wpAny_bind (wpAny_seqItems hTI rfl ?_)
 show wpAny _ _ (Builtin.SmallTypes.ownedTupleIsFree (.ref z) >>= _) _ _ _
 refine wpAny_bind ?_
 unfold Builtin.SmallTypes.ownedTupleIsFree
 refine wpAny_bind (wpAny_field hz rfl (x:=.none) rfl (wpAny_pure ?_))
 simp only[if_true]
 refine wpAny_bind (wpAny_rule ?_)
 refine wpAny_bind (wpAny_field hz rfl (x:=.ref TO) rfl ?_)
 refine wpAny_bind (wpAny_setField_rec hz (by simp) fun h₁ hz₁ hs1=>?_)
 replace hz₁:IsZip h₁ z TI TO .ellipsis:=hz₁
 refine wpAny_bind ?_
 simp only[List.zipIdx_cons,List.zipIdx_nil,List.forIn_cons,List.forIn_nil]
 refine wpAny_bind (wpAny_bind (wpAny_onRaise ?_))
 show wpAny _ _ (Builtin.SmallTypes.nextOf (.ref i1) >>= _) _ _ _
 cases hx:xs[k1]? with
 | none =>
  refine wpAny_bind (gH hh (h1.at fun o e=>hs1.extBut _ _ D.i1z e) (hl1.at fun o e=>hs1.extBut _ _ D1.z e) hx fun h₂ e hs₂ he=>?_)
  obtain⟨oe,hoe,hce⟩:=he
  have hz₂:IsZip h₂ z TI TO .ellipsis:=hs₂ _ _ D.i1z.symm hz₁
  have hez:e≠z:=fun x=>by subst x;rw[hz₂] at hoe;cases hoe;simp at hce
  refine wpAny_setField_rec hz₂ (by simp) fun h₃ _ hs₃=>hE h₃ e (fun c o c1 _ c3 _ _ x=>hs₃.extBut _ _ c1 (hs₂ _ _ c3 (hs1.extBut _ _ c1 x))) ⟨oe,hs₃.extBut _ _ hez hoe,hce⟩
 | some x =>
  refine wpAny_bind (cI (h1.at fun o e=>hs1.extBut _ _ D.i1z e) (hl1.at fun o e=>hs1.extBut _ _ D1.z e) hx fun h₂ h1₂ hs₂=>wpAny_pure ?_)
  have hTO2:bq h₂ TO a b c:=hs₂.extBut _ _ D.TOi1 (hs1.extBut _ _ D.TOz hTO)
  refine wpAny_bind (wpAny_seqItems hTO2 rfl ?_)
  refine wpAny_bind (c9 hTO2 fun h₃ hTO3 hs₃=>?_)
  replace hTO3:bq h₃ TO x b c:=hTO3
  refine wpAny_bind (wpAny_letGo (wpAny_pure ?_))
  have kk3:∀ q o,q≠z->q≠TO->q≠i1->s.heap.get? q=some o->h₃.get? q=some o:=fun q o c1 c2 c3 e=>hs₃.extBut _ _ c2 (hs₂.extBut _ _ c3 (hs1.extBut _ _ c1 e))
  have hz₃:IsZip h₃ z TI TO .ellipsis:=hs₃.extBut _ _ D.TOz.symm (hs₂.extBut _ _ D.i1z.symm hz₁)
  refine wpAny_bind (wpAny_bind (wpAny_onRaise ?_))
  show wpAny _ _ (Builtin.SmallTypes.nextOf (.ref i2) >>= _) _ _ _
  cases hy:ys[k2]? with
  | none =>
   refine wpAny_bind (gH hh (h2.at fun o e=>kk3 _ o D.i2z D.TOi2.symm D.i12.symm e) (hl2.at fun o e=>kk3 _ o D2.z D2.o D2.i1 e) hy fun h₄ e hs4 he=>?_)
   obtain⟨oe,hoe,hce⟩:=he
   have hz4:IsZip h₄ z TI TO .ellipsis:=hs4 _ _ D.i2z.symm hz₃
   have hez:e≠z:=fun x=>by subst x;rw[hz4] at hoe;cases hoe;simp at hce
   refine wpAny_setField_rec hz4 (by simp) fun h₅ _ hs5=>hE h₅ e (fun c o c1 c2 c3 c4 _ x=>hs5.extBut _ _ c1 (hs4 _ _ c4 (kk3 c o c1 c2 c3 x))) ⟨oe,hs5.extBut _ _ hez hoe,hce⟩
  | some y =>
   have hv:zs[k3]?=none:=by
    rcases hend with h | h | h
    ·rw[hx] at h;cases h
    ·rw[hy] at h;cases h
    ·exact h
   refine wpAny_bind (cI (h2.at fun o e=>kk3 _ o D.i2z D.TOi2.symm D.i12.symm e) (hl2.at fun o e=>kk3 _ o D2.z D2.o D2.i1 e) hy fun h₄ h2₄ hs4=>wpAny_pure ?_)
   have hTO4:bq h₄ TO x b c:=hs4.extBut _ _ D.TOi2 hTO3
   refine wpAny_bind (wpAny_seqItems hTO4 rfl ?_)
   refine wpAny_bind (c9 hTO4 fun h₅ hTO5 hs5=>?_)
   refine wpAny_bind (wpAny_letGo (wpAny_pure ?_))
   have k5:∀ q o,q≠z->q≠TO->q≠i1->q≠i2->s.heap.get? q=some o->h₅.get? q=some o:=fun q o c1 c2 c3 c4 e=>hs5.extBut _ _ c2 (hs4.extBut _ _ c4 (kk3 q o c1 c2 c3 e))
   have hz5:IsZip h₅ z TI TO .ellipsis:=hs5.extBut _ _ D.TOz.symm (hs4.extBut _ _ D.i2z.symm hz₃)
   refine wpAny_bind (wpAny_bind (wpAny_onRaise ?_))
   show wpAny _ _ (Builtin.SmallTypes.nextOf (.ref i3) >>= _) _ _ _
   refine wpAny_bind (gH hh (h3.at fun o e=>k5 _ o D.J7 D.EE.symm D.OF.symm D.Rn.symm e) (hl3.at fun o e=>k5 _ o D3.z D3.o D3.i1 D3.i2 e) hv fun h₆ e hs6 he=>?_)
   obtain⟨oe,hoe,hce⟩:=he
   have hz6:IsZip h₆ z TI TO .ellipsis:=hs6 _ _ D.J7.symm hz5
   have hez:e≠z:=fun x=>by subst x;rw[hz6] at hoe;cases hoe;simp at hce
   refine wpAny_setField_rec hz6 (by simp) fun h₇ _ hs7=>hE h₇ e (fun c o c1 c2 c3 c4 c5 x=>hs7.extBut _ _ c1 (hs6 _ _ c5 (k5 c o c1 c2 c3 c4 x))) ⟨oe,hs7.extBut _ _ hez hoe,hce⟩
end
end L2
namespace L2
open PySem PySem.Spec PyProof.Rows
section
variable{prog:Program}{w:World}{A:Around}{E:Value->Shared->Prop}{s:Shared}
variable{b1 b2 b3:Bool}{z TI TO i1 i2 i3 l1 l2 l3:Addr}{k1 k2 k3:Nat}{xs ys zs:Array Value}{x y v a b c:Value}
theorem ot{Q:Option Value->Shared->Prop}(D:Z3 z TI TO i1 i2 i3)(D1:L3 z TO i1 i2 i3 l1)(D2:L3 z TO i1 i2 i3 l2)(D3:L3 z TO i1 i2 i3 l3)
  (hz:IsZip s.heap z TI TO .none) (hTI:bq s.heap TI (.ref i1) (.ref i2) (.ref i3)) (hTO:bq s.heap TO a b c)
  (h1:dX s.heap b1 i1 l1 k1) (h2:dX s.heap b2 i2 l2 k2) (h3:dX s.heap b3 i3 l3 k3) (hl1:fS s.heap b1 l1 xs) (hl2:fS s.heap b2 l2 ys) (hl3:fS s.heap b3 l3 zs) (hx:xs[k1]?=some x) (hy:ys[k2]?=some y) (hv:zs[k3]?=some v)
  (hQ:∀ h',IsZip h' z TI TO (rawInt s.heap.objs.size)->bq h' TO x y v->dX h' b1 i1 l1 (k1+1)->dX h' b2 i2 l2 (k2+1)->dX h' b3 i3 l3 (k3+1)->bq h' s.heap.objs.size x y v->h'.objs.size=s.heap.objs.size+1 ->
   (∀ c o,c≠z->c≠TO->c≠i1->c≠i2->c≠i3->s.heap.get? c=some o->h'.get? c=some o)->Q (some (.ref s.heap.objs.size)) { s with heap:=h' }) :
  wpAny (model prog w) A (pyNext (.ref z)) Q E s:=by
 have hT:s.TypeIs (.ref z) "zip" := ⟨_,hz,rfl⟩
 unfold pyNext
 exact wpAny_bind (wpAny_attempt (wpAny_callSpecial?_slot (name:=Str.ofString "__next__") hT F.slot_zip_next
  (wpAny_call_entry F.slot_zip_next hT F.entry_zip_next
   (Bj D D1 D2 D3 hz hTI hTO h1 h2 h3 hl1 hl2 hl3 hx hy hv fun h' a1 a2 a3 a4 a5 a6 a7 a8=>wpAny_pure (hQ h' a1 a2 a3 a4 a5 a6 a7 a8)) (F.args_zip_next_1 _))))
theorem pe{Q:Option Value->Shared->Prop}(hh:A.handled=none)(D:Z3 z TI TO i1 i2 i3)(D1:L3 z TO i1 i2 i3 l1)(D2:L3 z TO i1 i2 i3 l2)(D3:L3 z TO i1 i2 i3 l3)
  (hz:IsZip s.heap z TI TO .none) (hTI:bq s.heap TI (.ref i1) (.ref i2) (.ref i3)) (hTO:bq s.heap TO a b c)
  (h1:dX s.heap b1 i1 l1 k1) (h2:dX s.heap b2 i2 l2 k2) (h3:dX s.heap b3 i3 l3 k3) (hl1:fS s.heap b1 l1 xs) (hl2:fS s.heap b2 l2 ys) (hl3:fS s.heap b3 l3 zs) (hend:xs[k1]?=none\/ys[k2]?=none\/zs[k3]?=none)
  (hQ:∀ h',(∀ c o,c≠z->c≠TO->c≠i1->c≠i2->c≠i3->s.heap.get? c=some o->h'.get? c=some o)->Q none { s with heap:=h' }):wpAny (model prog w) A (pyNext (.ref z)) Q E s:=by
 have hT:s.TypeIs (.ref z) "zip" := ⟨_,hz,rfl⟩
 unfold pyNext
 refine wpAny_bind (wpAny_attempt (wpAny_callSpecial?_slot (name:=Str.ofString "__next__") hT F.slot_zip_next
  (wpAny_call_entry F.slot_zip_next hT F.entry_zip_next (Cf hh D D1 D2 D3 hz hTI hTO h1 h2 h3 hl1 hl2 hl3 hend fun h' e hk he=>?_) (F.args_zip_next_1 _))))
 obtain⟨o,ho,hc⟩:=he
 refine wpAny_bind (wpAny_isInstance (T := "StopIteration") (b:=true) ⟨o,ho,hc⟩ isSubtype_stop ?_)
 exact wpAny_pure (hQ _ hk)
end
abbrev LP(h:Heap)(b1 b2 b3:Bool)(l1 l2 l3:Addr):Heap:=(Hi h b1 b2 l1 l2).push (F3 b3 l3)
abbrev LZ(h:Heap)(b1 b2 b3:Bool)(l1 l2 l3:Addr):Heap:=(LP h b1 b2 b3 l1 l2 l3).push { cls:=.type "tuple", data:=.seq #[.ref h.objs.size,.ref (J2 h b1 l1).objs.size,.ref (Hi h b1 b2 l1 l2).objs.size] }
abbrev LQ(h:Heap)(b1 b2 b3:Bool)(l1 l2 l3:Addr):Heap:=(LZ h b1 b2 b3 l1 l2 l3).push { cls:=.type "tuple", data:=.seq #[.none,.none,.none] }
abbrev Ie(h:Heap)(b1 b2 b3:Bool)(l1 l2 l3:Addr):Heap:=(LQ h b1 b2 b3 l1 l2 l3).push { cls:=.type "zip", data:=.fields #[.none,.bool false,.bool false,.ref (LP h b1 b2 b3 l1 l2 l3).objs.size,.ref (LZ h b1 b2 b3 l1 l2 l3).objs.size] }
theorem qz(b1 b2 b3:Bool)(l1 l2 l3:Addr)(xs ys zs:Array Value) :
  Meets (Builtin.«zip.__new__» ⟨[.type "zip", .ref l1,.ref l2,.ref l3],[]⟩) (fun _ R s=>fS s.heap b1 l1 xs/\fS s.heap b2 l2 ys/\fS s.heap b3 l3 zs ∧
   R (.ok (.ret (.ref (LQ s.heap b1 b2 b3 l1 l2 l3).objs.size))) { s with heap:=Ie s.heap b1 b2 b3 l1 l2 l3 }) :=
 .of_wp fun prog w A R s h=>by
  obtain⟨hp,g,d,tk,os⟩:=s;obtain⟨hl1,hl2,hl3,h⟩:=h
  have hsub:=sub_zip
  have hL1:fS (Shared.heap ⟨hp,g,d,tk,os⟩) b1 l1 xs:=hl1
  have hL2:fS (Shared.heap ⟨hp.push (F3 b1 l1),g,d,tk,os⟩) b2 l2 ys:=fS.push hl2 _
  have hL3:fS (Shared.heap ⟨(hp.push (F3 b1 l1)).push (F3 b2 l2),g,d,tk,os⟩) b3 l3 zs:=fS.push (fS.push hl3 _) _
  wp_walk using fN hL1,fN hL2,fN hL3
  exact⟨_,rfl,h⟩
section
variable{prog:Program}{w:World}{A:Around}{E:Value->Shared->Prop}{s:Shared}
theorem Al{b1 b2 b3:Bool}{l1 l2 l3:Addr}{xs ys zs:Array Value}{Q:Value->Shared->Prop}(hl1:fS s.heap b1 l1 xs)(hl2:fS s.heap b2 l2 ys)(hl3:fS s.heap b3 l3 zs)
  (h:∀ h',IsZip h' (s.heap.objs.size+5) (s.heap.objs.size+3) (s.heap.objs.size+4) .none->bq h' (s.heap.objs.size+3) (.ref s.heap.objs.size) (.ref (s.heap.objs.size+1)) (.ref (s.heap.objs.size+2)) ->
   bq h' (s.heap.objs.size+4) .none .none .none->dX h' b1 s.heap.objs.size l1 0->dX h' b2 (s.heap.objs.size+1) l2 0->dX h' b3 (s.heap.objs.size+2) l3 0 ->
   (∀ c o,s.heap.get? c=some o->h'.get? c=some o)->Q (.ref (s.heap.objs.size+5)) { s with heap:=h' }) :
  wpAny (model prog w) A (call (.type "zip") [.ref l1,.ref l2,.ref l3]) Q E s:=by
 refine callType_new F.called_zip (by decide) (pU _ _ _) (sj _ _ _) (fun obj=>F.initArgs_range_3 obj _ _ _) F.entry_zip_new
  (qz b1 b2 b3 l1 l2 l3 xs ys zs) ⟨hl1,hl2,hl3,?_⟩
 have z1:(J2 s.heap b1 l1).objs.size=s.heap.objs.size+1:=Heap.size_push ..
 have z2:(Hi s.heap b1 b2 l1 l2).objs.size=s.heap.objs.size+2:=by rw[Heap.size_push,z1]
 have z3:(LP s.heap b1 b2 b3 l1 l2 l3).objs.size=s.heap.objs.size+3:=by rw[Heap.size_push,z2]
 have z4:(LZ s.heap b1 b2 b3 l1 l2 l3).objs.size=s.heap.objs.size+4:=by rw[Heap.size_push,z3]
 have z5:(LQ s.heap b1 b2 b3 l1 l2 l3).objs.size=s.heap.objs.size+5:=by rw[Heap.size_push,z4]
 have g6:(Ie s.heap b1 b2 b3 l1 l2 l3).get? (LQ s.heap b1 b2 b3 l1 l2 l3).objs.size=some _:=Heap.get?_push_size _ rfl
 have g5:(Ie s.heap b1 b2 b3 l1 l2 l3).get? (LZ s.heap b1 b2 b3 l1 l2 l3).objs.size=some _:=Heap.get?_push_of_some _ (Heap.get?_push_size _ rfl)
 have g4:(Ie s.heap b1 b2 b3 l1 l2 l3).get? (LP s.heap b1 b2 b3 l1 l2 l3).objs.size=some _:=Heap.get?_push_of_some _ (Heap.get?_push_of_some _ (Heap.get?_push_size _ rfl))
 have g3:(Ie s.heap b1 b2 b3 l1 l2 l3).get? (Hi s.heap b1 b2 l1 l2).objs.size=some _:=Heap.get?_push_of_some _ (Heap.get?_push_of_some _ (Heap.get?_push_of_some _ (Heap.get?_push_size _ rfl)))
 have g2:(Ie s.heap b1 b2 b3 l1 l2 l3).get? (J2 s.heap b1 l1).objs.size=some _:=Heap.get?_push_of_some _ (Heap.get?_push_of_some _ (Heap.get?_push_of_some _ (Heap.get?_push_of_some _ (Heap.get?_push_size _ rfl))))
 have g1:(Ie s.heap b1 b2 b3 l1 l2 l3).get? s.heap.objs.size=some _:=Heap.get?_push_of_some _ (Heap.get?_push_of_some _ (Heap.get?_push_of_some _ (Heap.get?_push_of_some _ (Heap.get?_push_of_some _ (Heap.get?_push_size _ rfl)))))
 show _/\_
 rw[z3,z4,z5] at g6
 rw[z1,z2,z3] at g4
 rw[z4] at g5
 rw[z2] at g3
 rw[z1] at g2
 rw[z5]
 exact⟨⟨_,g6,rfl⟩,h _ g6 g4 g5 (dX.new _ b1 _ _ g1) (dX.new _ b2 _ _ g2) (dX.new _ b3 _ _ g3) fun c o x =>
  Heap.get?_push_of_some _ (Heap.get?_push_of_some _ (Heap.get?_push_of_some _ (Heap.get?_push_of_some _ (Heap.get?_push_of_some _ (Heap.get?_push_of_some _ x)))))⟩
end
def QX (K : PySem.W.Frag) (b1 b2 b3 : Bool) (a1 a2 a3 : Addr) : It :=
  ⟨fun i H => ∃ xs ys zs x y v, lH K H b1 a1 xs /\ lH K H b2 a2 ys /\ lH K H b3 a3 zs /\ xs[i]? = some x /\ ys[i]? = some y /\ zs[i]? = some v,
   fun i H r H' => ∃ p x y v, H p = none /\ r = .ref p /\ H' = upd H p (.tup [x, y, v]) /\ (∀ xs, lH K H b1 a1 xs -> xs[i]? = some x) /\ (∀ ys, lH K H b2 a2 ys -> ys[i]? = some y) /\ (∀ zs, lH K H b3 a3 zs -> zs[i]? = some v),
   fun i H => ∃ xs ys zs, lH K H b1 a1 xs /\ lH K H b2 a2 ys /\ lH K H b3 a3 zs /\ (xs.length <= i \/ ys.length <= i \/ zs.length <= i)⟩
theorem uf{X:Cx}{pins:List (Addr×Obj)}{σ:St}{H:Hp}{s:Shared}{b:Bool}{z TI TO i1 i2 i3 a:Addr}{xs:List V}(I:Inv X pins σ H s)(h:lH X.K H b a xs)(hf:∀ b∈[z,TO,i1,i2,i3,TI],m_ X pins H b):L3 z TO i1 i2 i3 a :=
 ⟨cn I h (hf z (by simp)),cn I h (hf TO (by simp)),cn I h (hf i1 (by simp)),cn I h (hf i2 (by simp)),cn I h (hf i3 (by simp))⟩
theorem Ae{P:Program}{w:World}{K:PySem.W.Frag}{elts:List Expr}{x1:Nat}{tp:Pos}(b1 b2 b3:Bool)(a1 a2 a3 z TI TO i1 i2 i3:Addr)(D:Z3 z TI TO i1 i2 i3) :
  Turn P w K (.Tuple elts x1 tp) (QX K b1 b2 b3 a1 a2 a3) [z,TO,i1,i2,i3,TI] z (fun i h=>IsZip h z TI TO .none/\bq h TI (.ref i1) (.ref i2) (.ref i3)/\(∃ a b c,bq h TO a b c)/\dX h b1 i1 a1 i/\dX h b2 i2 a2 i/\dX h b3 i3 a3 i) where
 mem:=by simp
 obj:=fun i h st b hb=>by
  obtain⟨hz,hTI,⟨a,c,d,hTO⟩,h1,h2,h3⟩:=st
  simp only[List.mem_cons,List.mem_nil_iff,or_false] at hb
  rcases hb with q | q | q | q | q | q <;> subst q
  ·exact⟨_,hz,fun v z=>by cases z⟩
  ·exact⟨_,hTO,fun v z=>by cases z⟩
  ·obtain⟨o,vs,e,d⟩:=h1.obj
   exact⟨o,e,fun v z=>by rw[d] at z;cases z⟩
  ·obtain⟨o,vs,e,d⟩:=h2.obj
   exact⟨o,e,fun v z=>by rw[d] at z;cases z⟩
  ·obtain⟨o,vs,e,d⟩:=h3.obj
   exact⟨o,e,fun v z=>by rw[d] at z;cases z⟩
  ·exact⟨_,hTI,fun v z=>by cases z⟩
 keep:=fun i h h' st k=>by
  obtain⟨hz,hTI,⟨a,c,d,hTO⟩,h1,h2,h3⟩:=st
  exact⟨k z (by simp) _ hz,k TI (by simp) _ hTI,⟨a,c,d,k TO (by simp) _ hTO⟩,h1.at fun o e=>k i1 (by simp) o e,h2.at fun o e=>k i2 (by simp) o e,h3.at fun o e=>k i3 (by simp) o e⟩
 item:=by
  intro X hP hw hK hc i pins s σ H E I hf st hg
  subst hP hw hK
  obtain⟨xs,ys,zs,x,y,v,hq1,hq2,hq3,hx,hy,hv⟩:=hg
  obtain⟨its1,rv1,p1,hz1⟩:=I.row hq1
  obtain⟨its2,rv2,p2,hz2⟩:=I.row hq2
  obtain⟨its3,rv3,p3,hz3'⟩:=I.row hq3
  obtain⟨u1,hu1,ru1⟩:=rv1.get hx
  obtain⟨u2,hu2,ru2⟩:=rv2.get hy
  obtain⟨u3,hu3,ru3⟩:=rv3.get hv
  obtain⟨hz,hTI,⟨a,c,d,hTO⟩,h1,h2,h3⟩:=st
  obtain⟨oi1,vs1,ei1,di1⟩:=h1.obj
  obtain⟨oi2,vs2,ei2,di2⟩:=h2.obj
  obtain⟨oi3,vs3,ei3,di3⟩:=h3.obj
  refine ot D (uf I hq1 hf) (uf I hq2 hf) (uf I hq3 hf) hz hTI hTO h1 h2 h3 p1 p2 p3 (x:=u1) (y:=u2) (v:=u3) (by simpa using hu1) (by simpa using hu2) (by simpa using hu3) fun h' g1 g2 g3 g4 g4' g5 g6 g7=>⟨_,rfl,?_⟩
  refine wpAny_letOwnedTupleGo_zip (s:={ s with heap:=h' }) g1 fun hN hz3 hs3=>?_
  have hnew:H s.heap.objs.size=none:=I.bo.fresh (Nat.le_refl _)
  have lt:∀ {c:Addr} {o:Obj},s.heap.get? c=some o->c≠s.heap.objs.size:=fun e=>Nat.ne_of_lt (Heap.lt_size e)
  have keep3:∀ b o,b ∉ [z,TO,i1,i2,i3,TI]->s.heap.get? b=some o->hN.get? b=some o:=fun b o hb q=>by
   simp only[List.mem_cons,List.mem_nil_iff,or_false,not_or] at hb
   exact(hs3.2 b hb.1).trans (g7 b o hb.1 hb.2.1 hb.2.2.1 hb.2.2.2.1 hb.2.2.2.2.1 q)
  have hT3:hN.get? s.heap.objs.size=some { cls:=.type "tuple", data:=.seq #[u1,u2,u3] }:=(hs3.2 _ (lt hz).symm).trans g5
  have I3:Inv X pins σ (upd H s.heap.objs.size (.tup [x,y,v])) { s with heap:=hN,toks:=s.toks } :=
   I.lj (ch:=[z,TO,i1,i2,i3,TI]) keep3 hf (Nat.le_refl _) (fun b hb=>by
    simp only[List.mem_cons,List.mem_nil_iff,or_false] at hb
    rcases hb with q | q | q | q | q | q <;> subst q
    ·exact⟨_,hz⟩
    ·exact⟨_,hTO⟩
    ·exact⟨_,ei1⟩
    ·exact⟨_,ei2⟩
    ·exact⟨_,ei3⟩
    ·exact⟨_,hTI⟩)
    ⟨by show 3<=sizeLine;decide,[u1,u2,u3],.cons ru1 (.cons ru2 (.cons ru3 .nil)),⟨_,hT3,rfl,_,rfl⟩⟩
  refine⟨.ref s.heap.objs.size,_,I3,rfl,⟨_,x,y,v,hnew,rfl,rfl,fun zs' hzs=>by rw[I.mD hzs hq1];exact hx,fun zs' hzs=>by rw[I.mD hzs hq2];exact hy,fun zs' hzs=>by rw[I.mD hzs hq3];exact hv⟩,
   ⟨hz3,(hs3.2 TI D.TIz).trans (g7 TI _ D.TIz D.TITO D.TIi1 D.TIi2 D.QC hTI),⟨_,_,_,(hs3.2 TO D.TOz).trans g2⟩,g3.at fun o e=>(hs3.2 i1 D.i1z).trans e,g4.at fun o e=>(hs3.2 i2 D.i2z).trans e,g4'.at fun o e=>(hs3.2 i3 D.J7).trans e⟩,fun b hb=>?_⟩
  have nb:b≠s.heap.objs.size:=by
   simp only[List.mem_cons,List.mem_nil_iff,or_false] at hb
   rcases hb with q | q | q | q | q | q <;> subst q
   ·exact lt hz
   ·exact lt hTO
   ·exact lt ei1
   ·exact lt ei2
   ·exact lt ei3
   ·exact lt hTI
  rw[au nb]
  exact(hf b hb).1
 done:=by
  intro X hP hw hK hc i pins s σ H E I hf st hg
  subst hP hw hK
  obtain⟨xs,ys,zs,hq1,hq2,hq3,hend⟩:=hg
  obtain⟨its1,rv1,p1,hz1⟩:=I.row hq1
  obtain⟨its2,rv2,p2,hz2⟩:=I.row hq2
  obtain⟨its3,rv3,p3,hz3'⟩:=I.row hq3
  obtain⟨hz,hTI,⟨a,c,d,hTO⟩,h1,h2,h3⟩:=st
  have l1:=rv1.length
  have l2:=rv2.length
  have l3:=rv3.length
  refine pe (I.ok.hd hc) D (uf I hq1 hf) (uf I hq2 hf) (uf I hq3 hf) hz hTI hTO h1 h2 h3 p1 p2 p3 ?_ fun h' k=>⟨rfl,?_⟩
  ·rcases hend with q | q | q
   ·exact .inl (by simp;omega)
   ·exact .inr (.inl (by simp;omega))
   ·exact .inr (.inr (by simp;omega))
  ·exact I.zB (t':=s.toks) (ch:=[z,TO,i1,i2,i3,TI]) (fun b u hb e=>by
    simp only[List.mem_cons,List.mem_nil_iff,or_false,not_or] at hb
    exact k b u hb.1 hb.2.1 hb.2.2.1 hb.2.2.2.1 hb.2.2.2.2.1 e) hf
 self:=fun _ _ _ _ _ st h=>by
  obtain⟨hz,_⟩:=st
  exact wpAny_pyIter_zip hz h
theorem Fc(n:Nat):Z3 (n+5) (n+3) (n+4) n (n+1) (n+2):=by
 refine⟨?_,?_,?_,?_,?_,?_,?_,?_,?_,?_,?_,?_,?_,?_,?_⟩ <;> (show @Ne Nat _ _;omega)
section
variable{X:Cx}
def GX(K:PySem.W.Frag)(tl:TA):TI:=fun σ H R=>tl σ H fun vs H1=>∃ b1 b2 b3 a1 a2 a3,vs=[.ref a1,.ref a2,.ref a3]/\(∃ xs,lH K H1 b1 a1 xs)/\(∃ ys,lH K H1 b2 a2 ys)/\(∃ zs,lH K H1 b3 a3 zs)/\R (QX K b1 b2 b3 a1 a2 a3) H1
theorem zp{elts:List Expr}{x1:Nat}{tp:Pos}{l1 l2 l3:Expr}{tl:TA}{p pos:Pos}(hg:Gl X "zip")(hm:X.mg "zip" = none)(hl:PA X [l1,l2,l3] tl)(hs:starEach [l1,l2,l3] X.env=[(false,eval l1 X.env),(false,eval l2 X.env),(false,eval l3 X.env)]:=by rfl)(hs2:starEach [l2,l3] X.env=[(false,eval l2 X.env),(false,eval l3 X.env)]:=by rfl) :
  PI X (.Tuple elts x1 tp) (.Call (.Name "zip" p) [l1,l2,l3] [] pos) (GX X.K tl):=by
 intro pins s σ H R I h
 refine Call_ (jN I hg hm PyProof.Rows.boot_zip (PyProof.Rows.callWith_type1 (cB (hl pos pins s σ H _ I h) fun us s1 ⟨vs,H1,I1,r1,q1⟩=>?_) (by rw[hs,hs2]) (by rw[hs2];rfl)))
 obtain⟨b1,b2,b3,a1,a2,a3,e,⟨xs,hq1⟩,⟨ys,hq2⟩,⟨zs,hq3⟩,q⟩:=q1
 subst e
 cases r1 with
 | cons r rr =>
  cases rr with
  | cons r' rr =>
   cases rr with
   | cons r'' rr =>
    cases rr
    cases (show _=Value.ref a1 from r)
    cases (show _=Value.ref a2 from r')
    cases (show _=Value.ref a3 from r'')
    obtain⟨its1,rv1,p1,hz1⟩:=I1.row hq1
    obtain⟨its2,rv2,p2,hz2⟩:=I1.row hq2
    obtain⟨its3,rv3,p3,hz3⟩:=I1.row hq3
    refine Al p1 p2 p3 fun h' g1 g2 g3 g4 g5 g6 g7=>?_
    have I2:Inv X pins σ H1 { s1 with heap:=h' }:=I1.kept (t':=s1.toks) g7
    refine wpAny_pyIter_zip (s:={ s1 with heap:=h' }) g1 ?_
    refine⟨s1.heap.objs.size+5,[s1.heap.objs.size+5,s1.heap.objs.size+4,s1.heap.objs.size,s1.heap.objs.size+1,s1.heap.objs.size+2,s1.heap.objs.size+3],_,_,H1,rfl,I2,
     Ae b1 b2 b3 a1 a2 a3 _ _ _ _ _ _ (Fc s1.heap.objs.size),⟨g1,g2,⟨_,_,_,g3⟩,g4,g5,g6⟩,fun b hb=>?_,q⟩
    have hle:s1.heap.objs.size<=b:=by
     simp only[List.mem_cons,List.mem_nil_iff,or_false] at hb
     rcases hb with q | q | q | q | q | q
     ·rw[q];exact Nat.le_add_right _ 5
     ·rw[q];exact Nat.le_add_right _ 4
     ·rw[q];exact Nat.le_refl _
     ·rw[q];exact Nat.le_add_right _ 1
     ·rw[q];exact Nat.le_add_right _ 2
     ·rw[q];exact Nat.le_add_right _ 3
    exact I1.uP hle (I1.bo.fresh hle)
end
end L2
namespace L2
open PySem PySem.Spec PyProof.Rows
section
variable{M:Model}{A:Around}{E:Value->Shared->Prop}{s:Shared}
theorem t6{base:Heap}{env:Env}{outer:List Env}{L e:Addr}{oe:Obj}{vs:Array Value}{head:Value}{hadNext:Bool}{Q:Unit->Shared->Prop}
  (hfr:A.frames=some (env::outer)) (hl:s.heap.FunFrames base (env::outer)) (hf:env.frame=some L)
  (he:s.heap.get? e=some oe) (hd:oe.data=.fields vs) (hsz:1<vs.size)
  (h:∀ h' T oT ts,h'.get? e=some (Obj.mapFields (·.setIfInBounds 1 (.ref T)) oe)->s.heap.objs.size<=T->T≠e->h'.get? T=some oT->oT.data=.fields ts->ts[3]?=some (rawInt L) ->
   (∀ b o,b≠e->b ∉ xJ (env::outer)->s.heap.get? b=some o->h'.get? b=some o)->(∀ b o,b≠e->s.heap.get? b=some o->∃ sl,h'.get? b=some { o with slots:=sl })->Q () { s with heap:=h' }) :
  wpAny M A (do let a ← frameOf env;let pl ← entryPlaceOf L hadNext;let b ← EntryCells.newEntry head a .none (rawInt L) .none pl;setField (.ref e) 1 b) Q E s:=by
 have hene:e ∉ (env::outer).filterMap (·.frame):=fun hm=>by
  obtain⟨_,o,ho,hnf⟩:=hl.mem hm
  rw[he] at ho;injection ho with ho;subst ho;exact hnf vs hd
 refine wpAny_bind (wpAny_frameOf_fun hfr hl hf fun h₁ hs1=>?_)
 refine wpAny_bind (wpAny_entryPlaceOf fun pl hpl=>?_)
 unfold EntryCells.newEntry newFields
 refine wpAny_bind (wpAny_newObj_type ?_ (hpl.sizeOk5 _ _ _ _ _))
 have he1:h₁.get? e=some oe:=(hs1.2.1 e hene).trans he
 have he₂:=Heap.get?_push_of_some (h:=h₁) { cls:=.type "traceback", dict:=none,data:=.fields ([head,.ref L,.none,rawInt L,.none]++(if pl.isEmpty then List.replicate 6 Value.none else pl)).toArray } he1
 have hTe:h₁.objs.size≠e:=Nat.ne_of_gt (Heap.lt_size he1)
 have hd3:=Obj.data_mapFields hd (·.setIfInBounds 1 (Value.ref h₁.objs.size))
 have he3:=Heap.get?_update_self (Obj.mapFields (·.setIfInBounds 1 (Value.ref h₁.objs.size))) he₂ (Obj.isFreed_of_fields hd3)
 have hT₃:=(Heap.get?_update_other (h₁.push { cls:=.type "traceback", dict:=none,data:=.fields ([head,.ref L,.none,rawInt L,.none]++(if pl.isEmpty then List.replicate 6 Value.none else pl)).toArray })
  (Obj.mapFields (·.setIfInBounds 1 (Value.ref h₁.objs.size))) (Ne.symm hTe)).trans (Heap.get?_push_size h₁ rfl)
 have keep:∀ b o,b≠e->h₁.get? b=some o ->
   ((h₁.push { cls:=.type "traceback", dict:=none,data:=.fields ([head,.ref L,.none,rawInt L,.none]++(if pl.isEmpty then List.replicate 6 Value.none else pl)).toArray }).update e (Obj.mapFields (·.setIfInBounds 1 (Value.ref h₁.objs.size)))).get? b=some o:=fun b o hbe hb=>by
  rw[Heap.get?_update_other _ _ (Ne.symm hbe)]
  exact Heap.get?_push_of_some _ hb
 refine wpAny_setField he₂ hd hsz (h _ h₁.objs.size _ _ he3 ?_ hTe hT₃ rfl (by first | (simp;done) | (rcases hpl with rfl | ⟨_,_,_,_,_,_,_,rfl⟩ <;> simp)) ?_ ?_)
 ·exact Nat.le_of_eq hs1.1.symm
 ·intro b o hbe hbf hb
  exact keep b o hbe ((hs1.2.1 b hbf).trans hb)
 ·intro b o hbe hb
  obtain⟨sl,hs⟩:=hs1.2.2 b o hb
  exact⟨sl,keep b _ hbe hs⟩
def Lies(h:Heap)(e:Addr)(vs:Array Value)(to:Option Addr):Prop:=match to with
 | none=>vs[1]?=some .none
 | some T=>vs[1]?=some (.ref T)/\T≠e/\∃ oT ts,h.get? T=some oT/\oT.data=.fields ts/\ts[3]?=some .none
theorem Be{base:Heap}{env:Env}{outer:List Env}{L e:Addr}{oe:Obj}{vs:Array Value}{to:Option Addr}{Q:Unit->Shared->Prop}
  (hfr:A.frames=some (env::outer)) (hl:s.heap.FunFrames base (env::outer)) (hf:env.frame=some L)
  (he:s.heap.get? e=some oe) (hd:oe.data=.fields vs) (hto:Lies s.heap e vs to)
  (h:∀ h' T oT ts,h'.get? e=some (Obj.mapFields (·.setIfInBounds 1 (.ref T)) oe)->s.heap.objs.size<=T->T≠e->h'.get? T=some oT->oT.data=.fields ts->ts[3]?=some (rawInt L) ->
   (∀ b o,b≠e->(∀ T,to=some T->b≠T)->b ∉ xJ (env::outer)->s.heap.get? b=some o->h'.get? b=some o) ->
   (∀ b o,b≠e->(∀ T,to=some T->b≠T)->s.heap.get? b=some o->∃ sl,h'.get? b=some { o with slots:=sl })->(∀ b o,s.heap.get? b=some o->∃ o',h'.get? b=some o')->Q () { s with heap:=h' }) :
  wpAny M A (noteFrame (.ref e) env) Q E s:=by
 unfold noteFrame
 simp only[hf]
 cases to with
 | none =>
  have h1:vs[1]?=some .none:=hto
  refine wpAny_bind (wpAny_field he hd h1 ?_)
  rw[if_neg (by decide)]
  refine t6 hfr hl hf he hd (Array.getElem?_eq_some_iff.mp h1).1 fun h' T oT ts a1 a2 a3 a4 a5 a6 a7 a8=>?_
  refine h h' T oT ts a1 a2 a3 a4 a5 a6 (fun b o n1 _ n2 q=>a7 b o n1 n2 q) (fun b o n1 _ q=>a8 b o n1 q) fun b o q=>?_
  by_cases z:b=e
  ·subst z;exact⟨_,a1⟩
  ·obtain⟨sl,r⟩:=a8 b o z q;exact⟨_,r⟩
 | some T0 =>
  obtain⟨h1,hTe,oT,ts,hT,hdT,h3⟩:=hto
  refine wpAny_bind (wpAny_field he hd h1 ?_)
  rw[if_pos (show (Value.ref T0 != Value.none)=true from by simp)]
  refine wpAny_bind (wpAny_field hT hdT h3 ?_)
  rw[if_neg (show ¬ ((Value.none==rawInt L)=true) from by simp[rawInt])]
  refine wpAny_bind (wpAny_setField hT hdT (Array.getElem?_eq_some_iff.mp h3).1 ?_)
  have other:∀ b,b≠T0->(s.heap.update T0 (Obj.mapFields (·.setIfInBounds 3 Value.none))).get? b=s.heap.get? b:=fun b hb=>Heap.get?_update_other _ _ (Ne.symm hb)
  have noRecord:∀ b o,s.heap.get? b=some o->(∀ vs,o.data≠.fields vs)->b≠T0:=fun b o hb hnf q=>by
   rw[q,hT] at hb;injection hb with hb;subst hb;exact hnf ts hdT
  have hT2:=Heap.get?_update_self (Obj.mapFields (·.setIfInBounds 3 Value.none)) hT (Obj.isFreed_of_fields (Obj.data_mapFields hdT _))
  refine t6 hfr (hl.of_keeps fun b o hb hnf=>⟨o,(other b (noRecord b o hb hnf)).trans hb,rfl⟩) hf ((other e (Ne.symm hTe)).trans he) hd (Array.getElem?_eq_some_iff.mp h1).1 fun h' T oT' ts' a1 a2 a3 a4 a5 a6 a7 a8=>?_
  refine h h' T oT' ts' a1 (by simpa [Heap.update] using a2) a3 a4 a5 a6 (fun b o n1 n2 n3 q=>a7 b o n1 n3 ((other b (n2 T0 rfl)).trans q)) (fun b o n1 n2 q=>a8 b o n1 ((other b (n2 T0 rfl)).trans q)) fun b o q=>?_
  by_cases z:b=e
  ·subst z;exact⟨_,a1⟩
  ·by_cases z2:b=T0
   ·subst z2
    obtain⟨sl,r⟩:=a8 b _ z hT2;exact⟨_,r⟩
   ·obtain⟨sl,r⟩:=a8 b o z ((other b z2).trans q);exact⟨_,r⟩
end
end L2
namespace L2
open PySem PySem.Spec PyProof.Rows
def lJ(C:Addr)(dd:Option Addr)(e:Addr):HO:=.ext fun h=>∃ t,h.get? e=some ⟨.ref C,dd,.fields #[.ref t,.none,.none,.none,.bool false,.none],#[]⟩
def Lx(C:Addr)(dd:Option Addr)(e T:Addr):HO:=.ext fun h=>∃ vs,h.get? e=some ⟨.ref C,dd,.fields vs,#[]⟩/\vs[1]?=some (.ref T)
def SJ(fl:Value)(T:Addr):HO:=.ext fun h=>∃ oT ts,h.get? T=some oT/\oT.data=.fields ts/\ts[3]?=some fl
def nU(Hc:Hp)(e T C:Addr)(dd:Option Addr)(fl:Value):Hp:=upd (upd Hc T (SJ fl T)) e (Lx C dd e T)
theorem qg{Hc:Hp}{e T C:Addr}{dd:Option Addr}{fl:Value}:nU Hc e T C dd fl e=some (Lx C dd e T):=aC
theorem rK{Hc:Hp}{e T C:Addr}{dd:Option Addr}{fl:Value}(n:T≠e):nU Hc e T C dd fl T=some (SJ fl T):=by unfold nU;rw[au n,aC]
theorem jG{Hc:Hp}{e T C b:Addr}{dd:Option Addr}{fl:Value}(n:b≠e)(n2:b≠T):nU Hc e T C dd fl b=Hc b:=by unfold nU;rw[au n,au n2]
section
variable{X:Cx}{pins:List (Addr×Obj)}{σ:St}{H:Hp}{s:Shared}
theorem Inv.note{Hc:Hp}{e C:Addr}{dd:Option Addr}{to:Option Addr}{vs:Array Value}{φ:Heap->Prop}{Q:Unit->Shared->Prop}{E:Value->Shared->Prop}(I:Inv X pins σ H s)(hst:X.stack=X.env::X.outer)(hf:X.env.frame=some X.env.locals)
  (he:H e=some (.ext φ)) (hx:s.heap.get? e=some ⟨.ref C,dd,.fields vs,#[]⟩) (lies:Lies s.heap e vs to) (hT:∀ T,to=some T->(∃ ψ,H T=some (.ext ψ))/\Hc T=none) (hc:∀ b,b≠e->(∀ T,to=some T->b≠T)->Hc b=H b)
  (h:∀ h' T,Hc T=none->T≠e->Inv X pins σ (nU Hc e T C dd (rawInt X.env.locals)) { s with heap:=h' }->Q () { s with heap:=h' }) :
  wpAny (model X.prog X.w) X.A (noteFrame (.ref e) X.env) Q E s:=by
 have hl:=I.stack
 have hfr:=I.ok.frames
 have sf:=I.u5
 rw[hst] at hl hfr sf
 refine Be (base:=X.base) hfr hl hf hx rfl lies fun h' T oT ts a1 a2 a3 a4 a5 a6 a7 a8 a9=>?_
 have hTn:H T=none:=I.bo.fresh a2
 have nT:∀ b u,H b=some u->b≠T:=fun b u q z=>by rw[z,hTn] at q;cases q
 have ext_ne:∀ b u,H b=some u->(∀ ψ,u≠.ext ψ)->b≠e/\∀ T0,to=some T0->b≠T0:=by
  intro b u q hu
  refine⟨fun z=>?_,fun T0 z w=>?_⟩
  ·rw[z,he] at q;exact hu _ (Option.some.inj q).symm
  ·obtain⟨⟨ψ,q2⟩,_⟩:=hT T0 z
   rw[w,q2] at q;exact hu _ (Option.some.inj q).symm
 have old:∀ b u,H b=some u->(∀ ψ,u≠.ext ψ)->nU Hc e T C dd (rawInt X.env.locals) b=some u:=fun b u q hu=>by
  obtain⟨n1,n2⟩:=ext_ne b u q hu
  rw[jG n1 (nT b u q),hc b n1 n2];exact q
 have hcT:Hc T=none:=by
  by_cases z:∃ T0,to=some T0/\T=T0
  ·obtain⟨T0,z1,z2⟩:=z;rw[z2];exact(hT T0 z1).2
  ·rw[hc T a3 fun T0 z1 z2=>z ⟨T0,z1,z2⟩];exact hTn
 have un:∀ b o,s.heap.get? b=some o->H b=none->b≠e/\(∀ T0,to=some T0->b≠T0)/\b≠T:=by
  intro b o q n
  refine⟨fun z=>?_,fun T0 z w=>?_,Nat.ne_of_lt (Nat.lt_of_lt_of_le (Heap.lt_size q) a2)⟩
  ·rw[z,he] at n;cases n
  ·obtain⟨⟨ψ,q2⟩,_⟩:=hT T0 z
   rw[w,q2] at n;cases n
 refine h h' T hcT a3 ?_
 have U:Un (xJ X.stack) [] H (nU Hc e T C dd (rawInt X.env.locals)) s.heap h':=by
  rw[hst]
  refine⟨fun b o q n nf _=>?_,fun b o q n _ _=>?_,fun b o q n _=>?_,fun b o q _=>a9 b o q,fun b xs q=>old b _ q (fun _ z=>nomatch z),fun b ob u q=>old b _ q (fun _ z=>nomatch z),fun b ps q=>⟨#[],?_⟩⟩
  ·obtain⟨n1,n2,_⟩:=un b o q n;exact a7 b o n1 n2 nf q
  ·obtain⟨n1,n2,_⟩:=un b o q n;exact a8 b o n1 n2 q
  ·obtain⟨n1,n2,n3⟩:=un b o q n
   rw[jG n1 n3,hc b n1 n2];exact n
  ·rw[old b _ q (fun _ z=>nomatch z)];simp
 have ok:n6 X.prog X.w (nU Hc e T C dd (rawInt X.env.locals)) h':=fun b u q=>by
  by_cases z:b=e
  ·subst z
   rw[qg] at q;cases q
   refine⟨⟨_,a1,?_⟩,⟨_,a1⟩,fun h1 h2 ⟨ws,q1,q2⟩ k=>⟨ws,k _ q1,q2⟩⟩
   have hsz:1<vs.size:=by
    cases to with
    | none=>exact(Array.getElem?_eq_some_iff.mp (show vs[1]?=some .none from lies)).1
    | some T0=>exact(Array.getElem?_eq_some_iff.mp lies.1).1
   simp[hsz]
  ·by_cases z2:b=T
   ·subst z2
    rw[rK a3] at q;cases q
    exact⟨⟨oT,ts,a4,a5,a6⟩,⟨_,a4⟩,fun h1 h2 ⟨o1,t1,q1,q2,q3⟩ k=>⟨o1,t1,k _ q1,q2,q3⟩⟩
   ·rw[jG z z2] at q
    have z3:∀ T0,to=some T0->b≠T0:=fun T0 w w2=>by rw[w2,(hT T0 w).2] at q;cases q
    rw[hc b z z3] at q
    have nf:∀ c u',H c=some u'->c ∉ xJ (X.env::X.outer):=fun c u' q' hm=>by have:=sf c hm;rw[q'] at this;cases this
    refine(I.bo b u q).nv (fun c v hc' q'=>?_) (fun c q'=>old c _ q' (fun _ z=>nomatch z)) fun c xs q'=>old c _ q' (fun _ z=>nomatch z)
    rcases hc' with rfl | hc'
    ·exact a7 c v z z3 (nf c u q) q'
    ·obtain⟨n1,n2⟩:=ext_ne c _ hc' (fun _ z=>nomatch z)
     exact a7 c v n1 n2 (nf c _ hc') q'
 exact I.call (ch:=[]) U ok I.bare (fun b z=>absurd z (by simp))
theorem Inv.Bt{Hc:Hp}{e T C:Addr}{dd:Option Addr}{fl:Value}(I:Inv X pins σ (nU Hc e T C dd fl) s)(n:T≠e):∃ vs oT ts,s.heap.get? e=some ⟨.ref C,dd,.fields vs,#[]⟩/\vs[1]?=some (.ref T)/\s.heap.get? T=some oT/\oT.data=.fields ts/\ts[3]?=some fl:=by
 obtain⟨vs,h1,h2⟩:=(I.bo e _ qg).1
 obtain⟨oT,ts,q⟩:=(I.bo T _ (rK n)).1
 exact⟨vs,oT,ts,h1,h2,q⟩
theorem Inv.K0{Hc:Hp}{e T C:Addr}{dd:Option Addr}{fl:Value}{Q:Unit->Shared->Prop}{E:Value->Shared->Prop}(I:Inv X pins σ (nU Hc e T C dd fl) s)(hfl:fl=.none\/fl=rawInt X.env.locals)(n:T≠e)(hcT:Hc T=none)(hst:X.stack=X.env::X.outer)(hf:X.env.frame=some X.env.locals)
  (h:∀ h' T,Hc T=none->T≠e->Inv X pins σ (nU Hc e T C dd (rawInt X.env.locals)) { s with heap:=h' }->Q () { s with heap:=h' }) :
  wpAny (model X.prog X.w) X.A (noteFrame (.ref e) X.env) Q E s:=by
 obtain⟨vs,oT,ts,hx,h1,hT,hd,h3⟩:=I.Bt n
 rcases hfl with rfl | rfl
 ·refine I.note (Hc:=Hc) (to:=some T) hst hf qg hx ⟨h1,n,oT,ts,hT,hd,h3⟩ (fun T0 z=>?_) (fun b n1 n2=>(jG n1 (n2 T rfl)).symm) h
  cases z
  exact⟨⟨_,rK n⟩,hcT⟩
 ·unfold noteFrame
  simp only[hf]
  refine wpAny_bind (wpAny_field hx rfl h1 ?_)
  rw[if_pos (show (Value.ref T != Value.none)=true from by simp)]
  refine wpAny_bind (wpAny_field hT hd h3 ?_)
  rw[if_pos (show (rawInt X.env.locals==rawInt X.env.locals)=true from by simp)]
  exact wpAny_pure (h s.heap T hcT n I)
theorem Inv.KH{e C:Addr}{dd:Option Addr}{Q:Unit->Shared->Prop}{E:Value->Shared->Prop}(I:Inv X pins σ H s)(he:H e=some (lJ C dd e))(hst:X.stack=X.env::X.outer)(hf:X.env.frame=some X.env.locals)
  (h:∀ h' T,upd H e (h_ C dd e) T=none->T≠e->Inv X pins σ (nU (upd H e (h_ C dd e)) e T C dd (rawInt X.env.locals)) { s with heap:=h' }->Q () { s with heap:=h' }) :
  wpAny (model X.prog X.w) X.A (noteFrame (.ref e) X.env) Q E s:=by
 obtain⟨t,hx⟩:=(I.bo e _ he).1
 exact I.note (Hc:=upd H e (h_ C dd e)) (to:=none) hst hf he hx rfl (fun _ z=>by cases z) (fun b n1 _=>au n1) h
theorem Inv.qZ{Hc:Hp}{e T C:Addr}{dd:Option Addr}{fl:Value}{fr:Option Addr}{Q:Unit->Shared->Prop}{E:Value->Shared->Prop}(I:Inv X pins σ (nU Hc e T C dd fl) s)(n:T≠e)
  (h:∀ h',Inv X pins σ (nU Hc e T C dd (fr.elim .none fun f=>rawInt f)) { s with heap:=h' }->Q () { s with heap:=h' }) :
  wpAny (model X.prog X.w) X.A (setFlight (.ref e) fr) Q E s:=by
 obtain⟨vs,oT,ts,hx,h1,hT,hd,h3⟩:=I.Bt n
 unfold setFlight
 refine wpAny_bind (wpAny_field hx rfl h1 ?_)
 rw[if_pos (show (Value.ref T != Value.none)=true from by simp)]
 have hsz:3<ts.size:=(Array.getElem?_eq_some_iff.mp h3).1
 refine wpAny_setField hT hd hsz (h _ ?_)
 have other:∀ b,b≠T->(s.heap.update T (Obj.mapFields (·.setIfInBounds 3 (fr.elim Value.none fun f=>rawInt f)))).get? b=s.heap.get? b:=fun b hb=>Heap.get?_update_other _ _ (Ne.symm hb)
 have hT2:=Heap.get?_update_self (Obj.mapFields (·.setIfInBounds 3 (fr.elim Value.none fun f=>rawInt f))) hT (Obj.isFreed_of_fields (Obj.data_mapFields hd _))
 have nT:∀ b,nU Hc e T C dd fl b=none->b≠T:=fun b q z=>by rw[z,rK n] at q;cases q
 have same:∀ b,b≠T->nU Hc e T C dd (fr.elim .none fun f=>rawInt f) b=nU Hc e T C dd fl b:=fun b z=>by
  by_cases w:b=e
  ·subst w;rw[qg,qg]
  ·rw[jG w z,jG w z]
 have ne:∀ b u,nU Hc e T C dd fl b=some u->(∀ ψ,u≠.ext ψ)->b≠T:=fun b u q hu z=>by rw[z,rK n] at q;exact hu _ (Option.some.inj q).symm
 refine I.un (t':=s.toks) ⟨fun b o q z _ _=>(other b (nT b z)).trans q,fun b o q z _ _=>⟨o.slots,(other b (nT b z)).trans q⟩,fun b o q z _=>by rw[same b (nT b z)];exact z,fun b o q _=>?_,fun b xs q=>?_,fun b ob u q=>?_,fun b ps q=>⟨#[],?_⟩⟩ fun b u q=>?_
 ·by_cases z:b=T
  ·subst z;exact⟨_,hT2⟩
  ·exact⟨o,(other b z).trans q⟩
 ·rw[same b (ne b _ q fun _ z=>nomatch z)];exact q
 ·rw[same b (ne b _ q fun _ z=>nomatch z)];exact q
 ·rw[same b (ne b _ q fun _ z=>nomatch z),q];simp
 ·by_cases z:b=T
  ·subst z
   rw[rK n] at q;cases q
   refine⟨⟨_,_,hT2,Obj.data_mapFields hd _,?_⟩,⟨_,hT2⟩,fun h1 h2 ⟨o1,t1,q1,q2,q3⟩ k=>⟨o1,t1,k _ q1,q2,q3⟩⟩
   simp[hsz]
  ·rw[same b z] at q
   refine(I.bo b u q).nv (fun c v hc q'=>(other c ?_).trans q') (fun c q'=>?_) fun c xs q'=>?_
   ·rcases hc with rfl | hc
    ·exact z
    ·exact ne c _ hc fun _ z=>nomatch z
   ·rw[same c (ne c _ q' fun _ z=>nomatch z)];exact q'
   ·rw[same c (ne c _ q' fun _ z=>nomatch z)];exact q'
end
def bV(P:Program)(w:World):Gf:=fun outer H s E e s'=>∃ (ea T C:Addr) (dd:Option Addr) (Hc:Hp),e=.ref ea/\s'.os=s.os/\AllBare s'.gens/\Un (xJ outer) [] H (nU Hc ea T C dd .none) s.heap s'.heap/\n6 P w (nU Hc ea T C dd .none) s'.heap ∧
 Hc ea=some (h_ C dd ea)/\Hc T=none/\T≠ea/\E (.ref ea) none Hc
def Zx (X : Cx) (E : St -> XK) (e : Value) (s : Shared) : Prop := ∃ (ea C : Addr) (dd : Option Addr) (pins : List (Addr × Obj)) (σ : St), e = .ref ea ∧
  ((∃ H, Inv X pins σ H s /\ H ea = some (lJ C dd ea) /\ E σ (.ref ea) none (upd H ea (h_ C dd ea))) ∨
   (∃ Hc T fl, Inv X pins σ (nU Hc ea T C dd fl) s /\ (fl = .none \/ fl = rawInt X.env.locals) /\ Hc ea = some (h_ C dd ea) /\ Hc T = none /\ T ≠ ea /\ E σ (.ref ea) none Hc))
theorem Zx.note{X:Cx}{E:St->XK}{e:Value}{s:Shared}{Q:Unit->Shared->Prop}{F:Value->Shared->Prop}(z:Zx X E e s)(hst:X.stack=X.env::X.outer)(hf:X.env.frame=some X.env.locals)
  (h:∀ s' ea C dd pins σ Hc T,e=.ref ea->Inv X pins σ (nU Hc ea T C dd (rawInt X.env.locals)) s'->Hc ea=some (h_ C dd ea)->Hc T=none->T≠ea->E σ (.ref ea) none Hc->Q () s') :
  wpAny (model X.prog X.w) X.A (noteFrame e X.env) Q F s:=by
 obtain⟨ea,C,dd,pins,σ,rfl,⟨H,I,h1,h2⟩ | ⟨Hc,T,fl,I,h1,h2,h3,h4,h5⟩⟩:=z
 ·exact I.KH h1 hst hf fun h' T q1 q2 I2=>h _ ea C dd pins σ _ T rfl I2 aC q1 q2 h2
 ·exact I.K0 h1 h4 h3 hst hf fun h' T q1 q2 I2=>h _ ea C dd pins σ _ T rfl I2 h2 q1 q2 h5
theorem Zx.JQ{X:Cx}{E:XK}{e:Value}{s:Shared}{F:Value->Shared->Prop}(z:Zx X (fun _=>E) e s)(hst:X.stack=X.env::X.outer)(hf:X.env.frame=some X.env.locals)(hex:X.ex=[]) :
  wpAny (model X.prog X.w) X.A (leaving X.env e) (fun _ s'=>bV X.prog X.w X.outer X.H₀ X.s₀ E e s') F s:=by
 unfold leaving
 refine wpAny_bind (z.note hst hf fun s' ea C dd pins σ Hc T he I h1 h2 h3 h4=>?_)
 subst he
 refine I.qZ h3 fun h' I2=>⟨ea,T,C,dd,Hc,rfl,I2.os,I2.bare,?_,I2.bo,h1,h2,h3,h4⟩
 have:=I2.base
 rw[hex] at this
 exact this
theorem Zx.own{X:Cx}{E:St->XK}(hst:X.stack=X.env::X.outer)(hf:X.env.frame=some X.env.locals):PassesOwn (model X.prog X.w) X.A X.env (Zx X E):=by
 intro e s z
 refine z.note hst hf fun s' ea C dd pins σ Hc T he I h1 h2 h3 h4=>?_
 subst he
 obtain⟨vs,oT,ts,hx,q1,_⟩:=I.Bt h3
 show wpAny _ _ _ _ _ _
 refine wpAny_bind (wpAny_field hx rfl q1 ?_)
 rw[if_neg (show ¬ ((Value.ref T==Value.none)=true) from by simp)]
 rw[hf]
 refine I.qZ h3 fun h' I2=>⟨ea,C,dd,pins,σ,rfl,.inr ⟨Hc,T,_,I2,.inr rfl,h1,h2,h3,h4⟩⟩
structure e6 (X:Cx) (E:St->XK):Prop where
 pass:∀ (pins:List (Addr×Obj)) (σ:St) (H:Hp) (s:Shared) (e:Value) (s':Shared),Inv X pins σ H s->bV X.prog X.w X.stack H s (E σ) e s'->X.xe e s'
 new:∀ (pins:List (Addr×Obj)) (σ:St) (H:Hp) (s:Shared) (e C:Addr) (dd:Option Addr),Inv X pins σ H s->H e=some (lJ C dd e)->E σ (.ref e) none (upd H e (h_ C dd e))->X.xe (.ref e) s
 own:PassesOwn (model X.prog X.w) X.A X.env X.xe
abbrev Cx.out(X:Cx)(E:St->XK):Cx:=X.pV (Zx X E)
theorem CF{X:Cx}{E:St->XK}(hst:X.stack=X.env::X.outer)(hf:X.env.frame=some X.env.locals):e6 (X.out E) E where
 pass:=by
  intro pins σ H s e s' I h
  obtain⟨ea,T,C,dd,Hc,rfl,os,bare,un,bo,h1,h2,h3,hE⟩:=h
  have I':=I.eH.Dp (ch:=[]) os un bo bare (fun b z=>absurd z (by simp))
  exact⟨ea,C,dd,pins,σ,rfl,.inr ⟨Hc,T,.none,I',.inl rfl,h1,h2,h3,hE⟩⟩
 new:=fun pins σ H s e C dd I he hE=>⟨e,C,dd,pins,σ,rfl,.inl ⟨H,I.eH,he,hE⟩⟩
 own:=Zx.own hst hf
theorem yV{P:Program}{w:World}{K:PySem.W.Frag}{mg:Str->Option Value}{base:Heap}{k:Nat}{f:Addr}{name qual:Str}{params:Arguments}{body:List Stmt}{scope:Scope}{dV kV doc pm cdv ct oc:Value}{an od:Option Addr}
  {osl:Array (Option Value)} {N ps:List Str} {sp:Sp} (lk:K.lookup f=some ⟨oc,od,.func (PySem.W.fnOf name qual params body scope dV kV doc pm an cdv ct),osl⟩) (hcd:PySem.W.codeIn K cdv qual=true) (S:az N ps scope)
  (len:∀ vs H Q E,sp vs H Q E->vs.length=ps.length)
  (hbody:∀ (A:Around) (outer:List Env) (s:Shared) (H:Hp) (vs:List V) (Q:VK) (E:XK),cp k (A.deeper (envOfC qual scope s.heap.objs.size f cdv))->sp vs H Q E ->
   ∃ t,l_ ((pf (bV P w) P w K mg base N qual scope f cdv A outer s H E).out fun _=>E) body t/\t { nx:=fun _ H'=>Q .cz H',rt:=Q } (start N vs) H) :
  aQ P w K mg base (bV P w) (k+1) f (PySem.W.fnOf name qual params body scope dV kV doc pm an cdv ct) ps sp:=by
 refine LB lk hcd S len fun A outer s H vs Q E hr hs=>?_
 obtain⟨t,h1,h2⟩:=hbody A outer s H vs Q E hr hs
 refine⟨t,fun pins s1 σ H1 D I q=>?_,h2⟩
 refine wpAny_mono (h1 pins s1 σ H1 D (I.pV _) q) (fun f s' z=>z.eH) fun e s' z=>?_
 exact z.JQ rfl rfl rfl
end L2
namespace L2
open PySem PySem.Spec PyProof.Rows
open PySem.Builtin.ObjectAttr (storeInOwnDict storeTaker? setByDescriptor)
theorem u_{P:Program}{w:World}{H:Hp}{h:Heap}{C e t:Addr}{dd:Option Addr}(he:h.get? e=some ⟨.ref C,dd,.fields #[.ref t,.none,.none,.none,.bool false,.none],#[]⟩):bT P w H h e (lJ C dd e) :=
 ⟨⟨t,he⟩,⟨_,he⟩,fun _ _ ⟨t,q⟩ k=>⟨t,k _ q⟩⟩
section
variable{X:Cx}{C f:Addr}{fd:FuncData}{ps:List Str}{sp:Sp}{x:Str}{p pos:Pos}{e:Expr}{es:List Expr}{t:TA}{k:Nat}
def Kz(C:Addr)(t:TA):TE:=fun σ H Q=>t σ H fun vs H1=>vs.length<=sizeLine/\∀ a,H1 a=none->Q (.ref a) (upd H1 a (lJ C none a))
theorem Fq(hc:PySem.W.excIn X.K C e8 "ValueError.__new__" = true)(kp:PySem.W.keepIn X.K (.ref C)=true)(hg:Gl X x)(hm:X.mg x=some (.ref C))
  (ha:PA X (e::es) t) (hdb:(x==("__debug__" : Str))=false:=by decide) (he:starEach (e::es) X.env=(false,eval e X.env)::starEach es X.env:=by rfl) (hpl:(backTo pos (starEach es X.env)).any (·.1)=false:=by rfl) :
  PE X (.Call (.Name x p) (e::es) [] pos) (Kz C t):=by
 intro pins s σ H Q I h
 refine wpAny_Call_Name_kw (jv I hg hm ?_ hdb)
 refine PySem.W.callWith_K (h₀:=X.base) I.ok.mod.G4 kp (cB (ha pos pins s σ H _ I h) fun us s1 ⟨vs,H1,I1,r,hl,q⟩=>⟨I1.j7,?_⟩) he hpl
 obtain⟨bm,N,nm,qn,bs,hdct,sn,sub,ab,col,dd,k0,k1,k2,k3,k5,mN,hC,hN,hni,T⟩:=FJ I1.j7 hc
 obtain⟨hp,g,d,tk,os⟩:=s1
 refine wpAny_call_exc_subT PySem.F.excBase_ValueError T hC hN hni (fun h' a M=>?_) (by show us.length<=sizeLine;rw[← r.length];exact hl)
 obtain⟨t',e1,_,_⟩:=M.there
 have I2:Inv X pins σ (upd H1 a (lJ C none a)) ⟨h',g,d,tk,os⟩:=I1.GS (t':=tk) M.keeps M.new (u_ e1)
 have hn:H1 a=none:=I1.uh M.new
 exact⟨.ref a,_,I2,rfl,q a hn⟩
def HM(C:Addr)(sp:Sp)(t:TA):TE:=fun σ H Q=>t σ H fun vs H1=>vs.length<=sizeLine/\∀ a,H1 a=none->sp (.ref a::vs) (upd H1 a (lJ C none a)) (fun v H2=>v=.cz/\Q (.ref a) H2) E0
theorem DT(hc:qS X.K C "ValueError.__new__" f=true)(hf:PySem.W.isFn X.K (.ref f)=true)(kp:PySem.W.keepIn X.K (.ref C)=true)(F:aQ X.prog X.w X.K X.mg X.base (bV X.prog X.w) k f fd ps sp)(hr:cp (k+1) X.A)(hb:Binds X.K fd ps [])(hg:Gl X x)(hm:X.mg x=some (.ref C))
  (ha:PA X (e::es) t) (hdb:(x==("__debug__" : Str))=false:=by decide) (he:starEach (e::es) X.env=(false,eval e X.env)::starEach es X.env:=by rfl) (hpl:(backTo pos (starEach es X.env)).any (·.1)=false:=by rfl) :
  PE X (.Call (.Name x p) (e::es) [] pos) (HM C sp t):=by
 intro pins s σ H Q I h
 refine wpAny_Call_Name_kw (jv I hg hm ?_ hdb)
 refine PySem.W.callWith_K (h₀:=X.base) I.ok.mod.G4 kp (cB (ha pos pins s σ H _ I h) fun us s1 ⟨vs,H1,I1,r,hl,q⟩=>⟨I1.j7,?_⟩) he hpl
 have X1:=I1.j7
 obtain⟨bm,N,nm,qn,bs,hdct,sn,sub,ab,col,dd,k0,k1,k2,k3,k5,mN,hC,hN,hni,T⟩:=BP X1 hc
 obtain⟨hp,g,d,tk,os⟩:=s1
 have f1:=tc_lookup
 have f2:=tc_bind (.ref C)
 have hT:(⟨hp,g,d,tk,os⟩:Shared).TypeIs (.ref C) "type" := ⟨_,hC,rfl⟩
 refine wpAny_call (codeAny_of_tree ?_)
 show wpAny _ _ (callAny (.ref C) _) _ _ _
 repeat (any_goals (first | assumption | with_reducible refine wpAny_loadPart_at hC ?_ | wp_step))
 refine⟨rfl,?_⟩
 refine codeAny_call_builtin_at (Code.quiet_builtin _ (by decide +kernel)) entry_typeCall (wpAny_check_type_call_sub hC (rG PySem.F.excBase_ValueError T hC hN hni
  (fun h' kk self=>PySem.W.bind_fn (fun b o z=>kk b o (X1 b o z)) self (beq_iff_eq.mp hf)) (fun h' kk ht hx hz=>?_) (by show us.length<=sizeLine;rw[← r.length];exact hl)))
 have I2:Inv X pins σ (upd H1 (hp.objs.size+1) (lJ C none (hp.objs.size+1))) ⟨h',g,d,tk,os⟩:=I1.GS (t':=tk) kk (Heap.get?_none_of_le (Nat.le_succ _)) (u_ hx)
 have hq:=q (hp.objs.size+1) (I1.uh (Heap.get?_none_of_le (Nat.le_succ _)))
 have r2:Vals (V.ref (hp.objs.size+1)::vs) (Value.ref (hp.objs.size+1)::us):=.cons rfl r
 have hlen:(Value.ref (hp.objs.size+1)::us++[]).length=ps.length:=by
  rw[List.append_nil,← r2.length]
  exact F.len _ _ _ _ hq
 refine wpAny_call (codeAny_mono (F.run _ X.stack _ _ ⟨Value.ref (hp.objs.size+1)::us,[]⟩ (Value.ref (hp.objs.size+1)::us) _ _ E0 (hr.make C us []) (I2.mj.make C us []) (by have:=hb _ (Value.ref (hp.objs.size+1)::us) I2.j7 hlen;rwa [List.append_nil] at this) r2 hq) fun r s' hq'=>?_)
 cases r with
 | error e =>
  obtain⟨_,_,_,_,_,_,_,_,_,_,_,_,_,z⟩:=hq'
  exact z.elim
 | ok fl =>
  cases fl with
  | ret u =>
   obtain⟨v,H',I3,rv,ev,q3⟩:=I2.after hq'
   subst ev
   exact⟨rv,⟨V.ref (hp.objs.size+1),H',I3,rfl,q3⟩⟩
  | next=>exact False.elim hq'
  | brk=>exact False.elim hq'
  | cont=>exact False.elim hq'
def JC(K:PySem.W.Frag)(ta tv:TE)(f:Str):TS:=fun D σ H=>tv σ H fun y H1=>ta σ H1 fun x H2=>∃ a C,x=.ref a/\H2 a=some (lJ C none a)/\fY K C/\((PySem.W.clsIn K C).any fun cd=>gj cd.mro)=true/\bM K C f ∧
 ∀ d,H2 d=none->d≠a->D.nx σ (upd (upd H2 d (.xd [(f,y)])) a (lJ C (some d) a))
theorem CG{o value:Expr}{ta tv:TE}{n:Str}{pos':Pos}(ha:PE X o ta)(hv:PE X value tv)(hs:swapsWith value (some (.Attribute o n pos')) pos.line X.env=pure false):PS X (.Assign [.Attribute o n pos'] value pos) (JC X.K ta tv n):=by
 intro pins s σ H D I h
 refine plainObj_wpAny_Assign_Attribute (cB (hv pins s σ H _ I h) fun u s1 ⟨y,H1,I1,ry,q⟩=>cB (ha pins s1 σ H1 _ I1 q) fun ov s2 ⟨x,H2,I2,rx,a,C,ex,ea,c,po,na,q2⟩=>?_) hs
 subst ex
 obtain rfl:ov=Value.ref a:=rx
 obtain⟨tt,hx⟩:=(I2.bo a _ ea).1
 refine B9 po c I2.j7 hx na.GL fun h' tk d e1 e2 e3 e4=>?_
 have hd:H2 d=none:=I2.uh e2
 have nda:d≠a:=fun z=>by rw[z,ea] at hd;cases hd
 refine⟨σ,_,?_,q2 d hd nda⟩
 have up:∀ b,b≠a->b≠d->upd (upd H2 d (.xd [(n,y)])) a (lJ C (some d) a) b=H2 b:=fun b h1 h2=>by rw[au h1,au h2]
 have nd:∀ b u,s2.heap.get? b=some u->b≠d:=fun b u e z=>by rw[z,e2] at e;cases e
 have nH:∀ b u,H2 b=some u->b≠d:=fun b u e z=>by rw[z,hd] at e;cases e
 have nE:∀ b u,H2 b=some u->(∀ C dd,u≠lJ C dd a)->b≠a:=fun b u e hu z=>by
  rw[z,ea] at e
  exact hu C none (Option.some.inj e).symm
 refine I2.un (t':=tk) ⟨fun b u e z _ _=>e4 b u (fun w=>by rw[w,ea] at z;cases z) e,fun b u e z _ _=>⟨u.slots,e4 b u (fun w=>by rw[w,ea] at z;cases z) e⟩,fun b u e z _=>?_,fun b u e _=>?_,fun b xs e=>?_,fun b ob u e=>?_,fun b ps e=>?_⟩ fun b u e=>?_
 ·rw[up b (fun w=>by rw[w,ea] at z;cases z) (nd b u e)];exact z
 ·by_cases w:b=a
  ·rw[w];exact⟨_,e1⟩
  ·exact⟨u,e4 b u w e⟩
 ·rw[up b (nE b _ e fun _ _ z=>by cases z) (nH b _ e)];exact e
 ·rw[up b (nE b _ e fun _ _ z=>by cases z) (nH b _ e)];exact e
 ·exact⟨#[],by rw[up b (nE b _ e fun _ _ z=>by cases z) (nH b _ e),e];simp⟩
 ·by_cases w:b=a
  ·subst w
   rw[aC] at e
   cases e
   exact u_ e1
  ·rw[au w] at e
   by_cases w2:b=d
   ·subst w2
    rw[aC] at e
    cases e
    refine⟨_,e3,fun g=>?_⟩
    show nQ (List.lookup g [(n,y)]) (if g=n then some _ else none)
    rw[List.lookup_cons]
    by_cases z:g=n
    ·rw[if_pos z,show (g==n)=true from by simp[z]];exact ry
    ·rw[if_neg z,show (g==n)=false from by simp[z]];exact True.intro
   ·rw[au w2] at e
    refine(I2.bo b u e).nv (fun c v hc z=>e4 c v ?_ z) (fun c z=>?_) fun c ys z=>?_
    ·rcases hc with z' | z'
     ·rw[z'];exact w
     ·exact nE c _ z' fun _ _ z=>by cases z
    ·rw[up c (nE c _ z fun _ _ z=>by cases z) (nH c _ z)];exact z
    ·rw[up c (nE c _ z fun _ _ z=>by cases z) (nH c _ z)];exact z
end
end L2
namespace L2
open PySem PySem.Spec PyProof.Rows
section
variable{M:Model}{A:Around}{E:Value->Shared->Prop}{s:Shared}
theorem C5{e:Addr}{o:Obj}{Q:Value->Shared->Prop}(hx:s.heap.get? e=some o)(h:Q o.cls s):wpAny M A (typeOf (.ref e)) Q E s:=by
 unfold typeOf
 exact wpAny_bind (wpAny_loadPart hx (wpAny_pure h))
theorem zI{e:Addr}{o:Obj}{vs:Array Value}{Q:Bool->Shared->Prop}(hx:s.heap.get? e=some o)(hd:o.data=.fields vs)(h:Q false s):wpAny M A (isType (.ref e)) Q E s:=by
 unfold isType loadHead
 refine wpAny_bind (wpAny_loadPart hx (wpAny_pure ?_))
 rw[hd];exact h
end
section
variable{X:Cx}{pins:List (Addr×Obj)}{σ:St}{H:Hp}{s:Shared}
def JJ(K:PySem.W.Frag)(E:St->XK)(te:TE):TS:=fun D σ H=>te σ H fun v H1=>∃ e C dd,v=.ref e/\H1 e=some (lJ C dd e)/\fY K C/\PySem.W.typeIn K (.ref C)=some (.type "type")/\E σ (.ref e) none (upd H1 e (h_ C dd e))
theorem vY{exc:Expr}{te:TE}{pos:Pos}{E:St->XK}(O:e6 X E)(hcalm:X.calm=true)(he:PE X exc te):PS X (.Raise (some exc) none pos) (JJ X.K E te):=by
 intro pins s σ H D I h
 rw[arm_exec_Raise]
 refine wpAny_bind (wpAny_standAt ?_)
 unfold raiseStmt
 dsimp only [evalOpt,Option.map]
 refine wpAny_bind (wpAny_bind (cB (he pins s σ H _ I h) fun u s1 hq=>wpAny_bind (wpAny_standAt (wpAny_pure ?_))))
 obtain⟨v,H1,I1,rv,e,C,dd,ev,hN,c,ht,hE⟩:=hq
 subst ev
 obtain rfl:u=Value.ref e:=rv
 obtain⟨t,hx⟩:=(I1.bo e _ hN).1
 have X1:=I1.j7
 refine wpAny_bind (wpAny_pure ?_)
 refine wpAny_bind (wpAny_holding ?_)
 unfold excFromValue isExcClass
 refine wpAny_bind (wpAny_bind (zI hx rfl ?_))
 refine wpAny_pure ?_
 refine wpAny_bind ?_
 unfold isInstance
 refine wpAny_bind (C5 hx ((PySem.W.looks_mroIn X1 c.mb).here ?_))
 refine wpAny_pure ?_
 dsimp only
 refine wpAny_bind (zI hx rfl ?_)
 unfold raisedInstance
 refine wpAny_bind (wpAny_bind (C5 hx (wpAny_bind ((PySem.W.looks_typeIn X1 ht).here ?_))))
 refine wpAny_pure ?_
 unfold setFlight
 refine wpAny_bind (wpAny_bind (wpAny_field hx rfl (x:=.none) rfl ?_))
 refine wpAny_pure ?_
 exact wpAny_raiseNew_none (I1.ok.hd hcalm) (O.new pins σ H1 s1 e C dd I1 hN hE)
end
end L2
namespace L2
open PySem PySem.Spec PyProof.Rows
inductive PV where
 | cz | bl (b:Bool) | int (i:Int) | str (x:Str)
 | tup (xs:List PV) | lst (xs:List PV)
 | kS (xs:List PV)
 | obj (C:Addr) (fs:List (Str×PV))
 | exc (C:Addr) (fo:Option (List (Str×PV)))
 | emp
 deriving Inhabited
mutual
inductive Rep (H:Hp):PV->V->Prop where
 | cz:Rep H .cz .cz
 | bl (b:Bool):Rep H (.bl b) (.bl b)
 | int (i:Int):Rep H (.int i) (.int i)
 | str (x:Str):Rep H (.str x) (.str x)
 | tup {a:Addr} {xs:List PV} {vs:List V}:H a=some (.tup vs)->aK H xs vs->Rep H (.tup xs) (.ref a)
 | lst {a:Addr} {xs:List PV} {vs:List V}:H a=some (.lst vs)->aK H xs vs->Rep H (.lst xs) (.ref a)
 | kS {a:Addr} {o:Obj} {xs:List PV} {vs:List V}:H a=some (.sI o (.lst vs))->aK H xs vs->Rep H (.kS xs) (.ref a)
 | obj {a C dx:Addr} {fs:List (Str×PV)} {vs:List (Str×V)}:H a=some (.ins C dx vs)->jc H fs vs->Rep H (.obj C fs) (.ref a)
 | yU {a C:Addr}:H a=some (h_ C none a)->Rep H (.exc C none) (.ref a)
 | x_ {a C d:Addr} {fs:List (Str×PV)} {vs:List (Str×V)}:H a=some (h_ C (some d) a)->H d=some (.xd vs)->jc H fs vs->Rep H (.exc C (some fs)) (.ref a)
 | emp {a:Addr}:H a=some (.dK [])->Rep H .emp (.ref a)
inductive aK (H:Hp):List PV->List V->Prop where
 | nil:aK H [] []
 | cons {p:PV} {v:V} {ps:List PV} {vs:List V}:Rep H p v->aK H ps vs->aK H (p::ps) (v::vs)
inductive jc (H:Hp):List (Str×PV)->List (Str×V)->Prop where
 | nil:jc H [] []
 | cons {n:Str} {p:PV} {v:V} {ps:List (Str×PV)} {vs:List (Str×V)}:Rep H p v->jc H ps vs->jc H ((n,p)::ps) ((n,v)::vs)
end
mutual
theorem Rep.mono{H H':Hp}(s:a_ H H'):∀ {p:PV} {v:V},Rep H p v->Rep H' p v
 | _,_,.cz=>.cz
 | _,_,.bl b=>.bl b
 | _,_,.int i=>.int i
 | _,_,.str x=>.str x
 | _,_,.tup h r=>.tup (s _ _ h) (r.mono s)
 | _,_,.lst h r=>.lst (s _ _ h) (r.mono s)
 | _,_,.kS h r=>.kS (s _ _ h) (r.mono s)
 | _,_,.obj h r=>.obj (s _ _ h) (r.mono s)
 | _,_,.yU h=>.yU (s _ _ h)
 | _,_,.x_ h h2 r=>.x_ (s _ _ h) (s _ _ h2) (r.mono s)
 | _,_,.emp h=>.emp (s _ _ h)
theorem aK.mono{H H':Hp}(s:a_ H H'):∀ {p:List PV} {v:List V},aK H p v->aK H' p v
 | _,_,.nil=>.nil
 | _,_,.cons h r=>.cons (h.mono s) (r.mono s)
theorem jc.mono{H H':Hp}(s:a_ H H'):∀ {p:List (Str×PV)} {v:List (Str×V)},jc H p v->jc H' p v
 | _,_,.nil=>.nil
 | _,_,.cons h r=>.cons (h.mono s) (r.mono s)
end
theorem aK.length{H:Hp}:∀ {p:List PV} {v:List V},aK H p v->p.length=v.length
 | _,_,.nil=>rfl
 | _,_,.cons _ r=>by simp[r.length]
theorem aK.get{H:Hp}:∀ {p:List PV} {v:List V} {i:Nat} {x:PV},aK H p v->p[i]?=some x->∃ u,v[i]?=some u/\Rep H x u
 | _,_,_,_,.nil,e=>by simp at e
 | _,_,0,_,.cons h _,e=>by simp at e;subst e;exact⟨_,rfl,h⟩
 | _,_,i+1,x,.cons _ r,e=>by
  obtain⟨u,h1,h2⟩:=aK.get (i:=i) (x:=x) r (by simpa using e)
  exact⟨u,by simpa using h1,h2⟩
theorem aK.append{H:Hp}:∀ {p q:List PV} {v u:List V},aK H p v->aK H q u->aK H (p++q) (v++u)
 | _,_,_,_,.nil,s=>s
 | _,_,_,_,.cons h r,s=>.cons h (r.append s)
theorem aK.take{H:Hp}:∀ {p:List PV} {v:List V} (n:Nat),aK H p v->aK H (p.take n) (v.take n)
 | _,_,0,_=>.nil
 | _,_,_+1,.nil=>.nil
 | _,_,n+1,.cons h r=>.cons h (r.take n)
theorem aK.drop{H:Hp}:∀ {p:List PV} {v:List V} (n:Nat),aK H p v->aK H (p.drop n) (v.drop n)
 | _,_,0,r=>r
 | _,_,_+1,.nil=>.nil
 | _,_,n+1,.cons _ r=>r.drop n
theorem aK.set{H:Hp}{x:PV}{u:V}(h:Rep H x u):∀ {p:List PV} {v:List V} (i:Nat),aK H p v->aK H (p.set i x) (v.set i u)
 | _,_,_,.nil=>.nil
 | _,_,0,.cons _ r=>.cons h r
 | _,_,i+1,.cons q r=>.cons q (r.set h i)
theorem aK.snoc{H:Hp}{p:List PV}{v:List V}{x:PV}{u:V}(r:aK H p v)(h:Rep H x u):aK H (p++[x]) (v++[u]):=r.append (.cons h .nil)
theorem jc.look{H:Hp}{f:Str}:∀ {p:List (Str×PV)} {v:List (Str×V)} {x:PV},jc H p v->p.lookup f=some x->∃ u,v.lookup f=some u/\Rep H x u
 | _,_,_,.nil,e=>by simp at e
 | (n,_)::_,_,x,.cons h r,e=>by
  rw[List.lookup_cons] at e ⊢
  cases q:f==n with
  | true=>rw[q] at e;cases e;exact⟨_,rfl,h⟩
  | false=>rw[q] at e;exact r.look e
theorem jc.none{H:Hp}{f:Str}:∀ {p:List (Str×PV)} {v:List (Str×V)},jc H p v->p.lookup f=none->v.lookup f=none
 | _,_,.nil,_=>rfl
 | (n,_)::_,_,.cons h r,e=>by
  rw[List.lookup_cons] at e ⊢
  cases q:f==n with
  | true=>rw[q] at e;cases e
  | false=>rw[q] at e;exact r.none e
theorem aK.ints{H:Hp}:∀ {ns:List Int} {v:List V},aK H (ns.map PV.int) v->v=ns.map V.int
 | [],_,.nil=>rfl
 | _::_,_,.cons (.int i) r=>by rw[r.ints];rfl
theorem aK.Sv{H:Hp}:∀ {ns:List Bool} {v:List V},aK H (ns.map PV.bl) v->v=ns.map V.bl
 | [],_,.nil=>rfl
 | _::_,_,.cons (.bl i) r=>by rw[r.Sv];rfl
structure bC (Hs H Hs' H':Hp):Prop where
 st:a_ Hs Hs'
 al:a_ H H'
 sub:a_ Hs' H'
 nw:∀ a o,Hs a=none->H a=some o->Hs' a=none
theorem bC.refl{Hs H:Hp}(s:a_ Hs H):bC Hs H Hs H:=⟨fun _ _ e=>e,fun _ _ e=>e,s,fun _ _ e _=>e⟩
theorem bC.trans{Hs H Hs1 H1 Hs2 H2:Hp}(a:bC Hs H Hs1 H1)(b:bC Hs1 H1 Hs2 H2):bC Hs H Hs2 H2 :=
 ⟨fun c o e=>b.st c o (a.st c o e),fun c o e=>b.al c o (a.al c o e),b.sub,fun c o e q=>b.nw c o (a.nw c o e q) (a.al c o q)⟩
theorem bC.new{Hs H:Hp}{p:Addr}{o:HO}(s:a_ Hs H)(n:H p=none):bC Hs H (upd Hs p o) (upd H p o):=by
 have ne:∀ c u,H c=some u->c≠p:=fun c u e z=>by rw[z,n] at e;cases e
 refine⟨fun c u e=>?_,fun c u e=>?_,fun c u e=>?_,fun c u e q=>?_⟩
 ·rw[au (ne c u (s c u e))];exact e
 ·rw[au (ne c u e)];exact e
 ·by_cases z:c=p
  ·subst z;rw[aC] at e ⊢;exact e
  ·rw[au z] at e ⊢;exact s c u e
 ·rw[au (ne c u q)];exact e
inductive SV where
 | sh (p:PV)
 | ow (xs:List PV)
 | bd (a C:Addr) (fs:List (Str×PV))
abbrev af:=List (Option SV)
structure SR (B H₀ Hs H:Hp) (σ:St) (env:af):Prop where
 gr:bC B H₀ Hs H
 len:σ.length=env.length
 sh:∀ (i:Nat) (p:PV),env[i]?=some (some (.sh p))->∃ v,σ[i]?=some (some v)/\Rep Hs p v
 ow:∀ (i:Nat) (xs:List PV),env[i]?=some (some (.ow xs))->∃ a vs,σ[i]?=some (some (.ref a))/\H a=some (.lst vs)/\Hs a=none/\H₀ a=none/\aK Hs xs vs
 sep:∀ (i j:Nat) (xs ys:List PV) (a:Addr),i≠j->env[i]?=some (some (.ow xs))->env[j]?=some (some (.ow ys))->σ[i]?=some (some (.ref a))->σ[j]?≠some (some (.ref a))
 bd:∀ (i:Nat) (a C:Addr) (fs:List (Str×PV)),env[i]?=some (some (.bd a C fs))->∃ dx vs,σ[i]?=some (some (.ref a))/\H a=some (.ins C dx vs)/\Hs a=none/\H₀ a=none/\jc Hs fs vs
 one:∀ (i j:Nat) (a b C D:Addr) (fs gs:List (Str×PV)),env[i]?=some (some (.bd a C fs))->env[j]?=some (some (.bd b D gs))->i=j
theorem SR.grow{B H₀ Hs H Hs' H':Hp}{σ:St}{env:af}(r:SR B H₀ Hs H σ env)(g:bC Hs H Hs' H'):SR B H₀ Hs' H' σ env where
 gr:=r.gr.trans g
 len:=r.len
 sh:=fun i p e=>let ⟨v,h1,h2⟩:=r.sh i p e;⟨v,h1,h2.mono g.st⟩
 ow:=fun i xs e=>let ⟨a,vs,h1,h2,h3,h4,h5⟩:=r.ow i xs e;⟨a,vs,h1,g.al _ _ h2,g.nw _ _ h3 h2,h4,h5.mono g.st⟩
 sep:=r.sep
 bd:=fun i a C fs e=>let ⟨dx,vs,h1,h2,h3,h4,h5⟩:=r.bd i a C fs e;⟨dx,vs,h1,g.al _ _ h2,g.nw _ _ h3 h2,h4,h5.mono g.st⟩
 one:=r.one
abbrev EX:=Addr×Option (List (Str×PV))
abbrev M(α:Type):=Option (Except EX α)
def M.ok{α:Type}(a:α):M α:=some (.ok a)
def M.bind{α β:Type}(x:M α)(f:α->M β):M β:=match x with
 | some (.ok a)=>f a
 | some (.error e)=>some (.error e)
 | none=>none
instance:Monad M where
 pure:=M.ok
 bind:=M.bind
def ax{α:Type}(r:M α)(Q:α->Prop)(E:EX->Prop):Prop:=match r with
 | some (.ok a)=>Q a
 | some (.error e)=>E e
 | none=>False
theorem ax.imp{α:Type}{r:M α}{Q Q':α->Prop}{E E':EX->Prop}(h:ax r Q E)(hq:∀ a,Q a->Q' a)(he:∀ e,E e->E' e):ax r Q' E':=by
 cases r with
 | none=>exact h
 | some x=>cases x with
  | ok a=>exact hq a h
  | error e=>exact he e h
theorem ax.bind{α β:Type}{x:M α}{f:α->M β}{Q:β->Prop}{E:EX->Prop}(h:ax (x.bind f) Q E):ax x (fun a=>ax (f a) Q E) E:=by
 cases x with
 | none=>exact h
 | some x=>cases x with
  | ok a=>exact h
  | error e=>exact h
def XW(E:XK)(Hs H:Hp)(x:EX):Prop:=∀ ea Hs' H',bC Hs H Hs' H'->Rep Hs' (.exc x.1 x.2) (.ref ea)->E (.ref ea) none H'
theorem XW.grow{E:XK}{Hs H Hs' H':Hp}{x:EX}(h:XW E Hs H x)(g:bC Hs H Hs' H'):XW E Hs' H' x:=fun ea Hs2 H2 g2 r=>h ea Hs2 H2 (g.trans g2) r
def tE(E:St->XK)(f:af->M PV):TE:=fun σ H Q=>∃ B H₀ Hs env,SR B H₀ Hs H σ env/\ax (f env) (fun p=>∀ v Hs' H',bC Hs H Hs' H'->Rep Hs' p v->Q v H') (XW (E σ) Hs H)
theorem PE.imp{X:Cx}{e:Expr}{t t':TE}(h:PE X e t)(i:∀ σ H Q,t' σ H Q->t σ H Q):PE X e t':=fun pins s σ H Q I q=>h pins s σ H Q I (i σ H Q q)
theorem zW{E:St->XK}{f:af->M PV}{g:af->PV->M PV}{σ:St}{H:Hp}{Q R:VK}(h:tE E (fun env=>(f env).bind (g env)) σ H Q)
  (k:∀ B H₀ Hs H1 env p v,SR B H₀ Hs H1 σ env->Rep Hs p v->ax (g env p) (fun q=>∀ u Hs' H',bC Hs H1 Hs' H'->Rep Hs' q u->Q u H') (XW (E σ) Hs H1)->R v H1):tE E f σ H R:=by
 obtain⟨B,H₀,Hs,env,sr,h⟩:=h
 refine⟨B,H₀,Hs,env,sr,(ax.bind h).imp (fun p hp v Hs' H' g r=>?_) fun e he=>he⟩
 exact k B H₀ Hs' H' env p v (sr.grow g) r (hp.imp (fun q hq u Hs2 H2 g2 r2=>hq u Hs2 H2 (g.trans g2) r2) fun e he=>he.grow g)
theorem zd{E:St->XK}{f g:af->M PV}{op:PV->PV->M PV}{r:R2}{σ:St}{H:Hp}{Q:VK}(h:tE E (fun env=>(f env).bind fun p=>(g env).bind fun q=>op p q) σ H Q)
  (k:∀ Hs H1 p q v u,a_ Hs H1->Rep Hs p v->Rep Hs q u->ax (op p q) (fun z=>∀ w Hs' H',bC Hs H1 Hs' H'->Rep Hs' z w->Q w H') (XW (E σ) Hs H1)->r v u H1 Q):Lj r (tE E f) (tE E g) σ H Q:=by
 refine zW h fun B H₀ Hs H1 env p v sr rp hp=>?_
 refine⟨B,H₀,Hs,env,sr,(ax.bind hp).imp (fun q hq u Hs' H' g ru=>?_) fun e he=>he⟩
 exact k Hs' H' p q v u (sr.grow g).gr.sub (rp.mono g.st) ru (hq.imp (fun z hz w Hs2 H2 g2 r2=>hz w Hs2 H2 (g.trans g2) r2) fun e he=>he.grow g)
theorem KC{E:St->XK}{f:af->M PV}{op:PV->M PV}{r:V->Hp->VK->Prop}{σ:St}{H:Hp}{Q:VK}(h:tE E (fun env=>(f env).bind op) σ H Q)
  (k:∀ Hs H1 p v,a_ Hs H1->Rep Hs p v->ax (op p) (fun z=>∀ w Hs' H',bC Hs H1 Hs' H'->Rep Hs' z w->Q w H') (XW (E σ) Hs H1)->r v H1 Q):SI r (tE E f) σ H Q :=
 zW h fun B H₀ Hs H1 env p v sr rp hp=>k Hs H1 p v sr.gr.sub rp hp
end L2
namespace L2
open PySem PySem.Spec PyProof.Rows
def IM(sp:Sp)(dvs:List V)(E:St->XK)(t:TA):TE:=fun σ H Q=>t σ H fun vs H1=>sp (vs++dvs) H1 Q (E σ)
def Et(C:Addr)(m:Str)(sp:Sp)(dvs:List V)(E:St->XK)(ta:TE)(t:TA):TE:=fun σ H Q=>ta σ H fun x H1=>∃ a dx fs,x=.ref a/\H1 a=some (.ins C dx fs)/\fs.lookup m=none ∧
 t σ H1 fun vs H2=>sp (x::(vs++dvs)) H2 Q (E σ)
def HS(C:Addr)(sp:Sp)(dvs:List V)(E:St->XK)(t:TA):TE:=fun σ H Q=>t σ H fun vs H1=>∀ x dx,H1 x=none->H1 dx=none->dx≠x ->
 sp (.ref x::(vs++dvs)) (upd (upd H1 dx (.own x)) x (.ins C dx [])) (fun v H2=>v=.cz/\Q (.ref x) H2) (E σ)
section
variable{X:Cx}{k:Nat}{f C:Addr}{fd:FuncData}{ps:List Str}{sp:Sp}{dvs:List V}{ds:List Value}{E:St->XK}{x m:Str}{p pos apos:Pos}{e o:Expr}{es:List Expr}{ta:TE}{t:TA}
theorem vE{pins:List (Addr×Obj)}{σ:St}{H:Hp}{s:Shared}{Q:VK}{us:List Value}{vs:List V}(F:aQ X.prog X.w X.K X.mg X.base (bV X.prog X.w) k f fd ps sp)(hr:cp k X.A)(hb:Binds X.K fd ps ds)(hd:Vals dvs ds)(hx:e6 X E)
  (I:Inv X pins σ H s) (r:Vals vs us) (h:sp (vs++dvs) H Q (E σ)):wpAny (model X.prog X.w) X.A (call (.ref f) us) (EP X pins σ Q) X.xe s:=by
 have r2:Vals (vs++dvs) (us++ds):=r.append hd
 have hl:(us++ds).length=ps.length:=by rw[← r2.length];exact F.len _ _ _ _ h
 refine wpAny_call (codeAny_mono (F.run X.A X.stack s H ⟨us,[]⟩ (us++ds) (vs++dvs) Q (E σ) hr I.mj (hb s us I.j7 hl) r2 h) fun r s' hq=>?_)
 cases r with
 | error e=>exact hx.pass pins σ H s e s' I hq
 | ok fl =>
  cases fl with
  | ret u=>exact I.after hq
  | next=>exact False.elim hq
  | brk=>exact False.elim hq
  | cont=>exact False.elim hq
theorem Es(F:aQ X.prog X.w X.K X.mg X.base (bV X.prog X.w) k f fd ps sp)(hr:cp k X.A)(hg:Gl X x)(hm:X.mg x=some (.ref f))(hk:PySem.W.keepIn X.K (.ref f)=true)(hb:Binds X.K fd ps ds)(hd:Vals dvs ds)(hx:e6 X E)
  (ha:PA X (e::es) t) (hdb:(x==("__debug__" : Str))=false:=by decide) (he:starEach (e::es) X.env=(false,eval e X.env)::starEach es X.env:=by rfl) (hpl:(backTo pos (starEach es X.env)).any (·.1)=false:=by rfl) :
  PE X (.Call (.Name x p) (e::es) [] pos) (IM sp dvs E t):=by
 intro pins s σ H Q I h
 refine wpAny_Call_Name_kw (jv I hg hm ?_ hdb)
 refine PySem.W.callWith_K (h₀:=X.base) I.ok.mod.G4 hk (cB (ha pos pins s σ H _ I h) fun us s1 ⟨vs,H1,I1,r,q⟩=>⟨I1.j7,?_⟩) he hpl
 exact vE F hr hb hd hx I1 r q
theorem Ep{pl:Sem Bool}(he:PE X o ta)(c:n5 X.K C)(hm:Meth X.K C m f)(F:aQ X.prog X.w X.K X.mg X.base (bV X.prog X.w) k f fd ps sp)(hr:cp k X.A)(hb:Binds X.K fd ps ds)(hd:Vals dvs ds)(hx:e6 X E)(ha:PA X (e::es) t)
  (hst:starEach (e::es) X.env=(false,eval e X.env)::starEach es X.env:=by rfl) (hpl:(backTo pos (starEach es X.env)).any (·.1)=false:=by rfl)
  (ht:eval (.Call (.Attribute o m apos) (e::es) [] pos) X.env=(do
   let ov ← eval o X.env
   standAt apos.atName
   let (f,first) ← holding [ov] (getMethod ov m pl)
   callWith pos f first (backTo pos (starEach (e::es) X.env)) (backToKw pos (keywordEach [] X.env))):=by rfl) :
  PE X (.Call (.Attribute o m apos) (e::es) [] pos) (Et C m sp dvs E ta t):=by
 intro pins s σ H Q I h
 refine PySem.W.methodCall_KW (pl:=pl) (cB (he pins s σ H _ I h) fun u s1 ⟨x,H1,I1,rx,a,dx,fs,ex,ea,l,q⟩=>?_) ht
 subst ex
 obtain rfl:u=Value.ref a:=rx
 refine rA I1 ea c hm l ?_
 refine PySem.W.callWith_K (first:=[.ref a]) (h₀:=X.base) I.ok.mod.G4 hm.kp (cB (ha pos pins s1 σ H1 _ I1 q) fun us s2 ⟨vs,H2,I2,r,q2⟩=>⟨I2.j7,?_⟩) hst hpl
 exact vE (us:=.ref a::us) (vs:=.ref a::vs) F hr hb hd hx I2 (.cons rfl r) q2
theorem AD{pl:Sem Bool}(he:PE X o ta)(c:n5 X.K C)(hm:Meth X.K C m f)(F:aQ X.prog X.w X.K X.mg X.base (bV X.prog X.w) k f fd ps sp)(hr:cp k X.A)(hb:Binds X.K fd ps ds)(hd:Vals dvs ds)(hx:e6 X E)
  (ht:eval (.Call (.Attribute o m apos) [] [] pos) X.env=(do
   let ov ← eval o X.env
   standAt apos.atName
   let (f,first) ← holding [ov] (getMethod ov m pl)
   callWith pos f first (backTo pos (starEach [] X.env)) (backToKw pos (keywordEach [] X.env))):=by rfl) :
  PE X (.Call (.Attribute o m apos) [] [] pos) (Et C m sp dvs E ta Ly):=by
 intro pins s σ H Q I h
 refine PySem.W.methodCall_KW (pl:=pl) (cB (he pins s σ H _ I h) fun u s1 ⟨x,H1,I1,rx,a,dx,fs,ex,ea,l,q⟩=>?_) ht
 subst ex
 obtain rfl:u=Value.ref a:=rx
 refine rA I1 ea c hm l ?_
 exact PySem.W.callWith_K0 (first:=[.ref a]) I1.j7 hm.kp (vE (us:=[.ref a]) (vs:=[.ref a]) F hr hb hd hx I1 (.cons rfl .nil) q)
theorem AR{pins:List (Addr×Obj)}{σ:St}{H:Hp}{s:Shared}{Q:VK}{us:List Value}{vs:List V}(M:Mk X.K C f)(F:aQ X.prog X.w X.K X.mg X.base (bV X.prog X.w) k f fd ps sp)(hr:cp (k+1) X.A)(hb:Binds X.K fd ps ds)(hd:Vals dvs ds)
  (hx:e6 X E) (I:Inv X pins σ H s) (r:Vals vs us)
  (h:∀ x dx,H x=none->H dx=none->dx≠x->sp (.ref x::(vs++dvs)) (upd (upd H dx (.own x)) x (.ins C dx [])) (fun v H2=>v=.cz/\Q (.ref x) H2) (E σ)) :
  wpAny (model X.prog X.w) X.A (call (.ref C) us) (EP X pins σ Q) X.xe s:=by
 have hq:=h (s.heap.objs.size+1) s.heap.objs.size (I.bo.fresh (Nat.le_succ _)) (I.bo.fresh (Nat.le_refl _)) (Nat.ne_of_lt (Nat.lt_succ_self _))
 have I2:=Inv.made (C:=C) I
 have r2:Vals (V.ref (s.heap.objs.size+1)::(vs++dvs)) (Value.ref (s.heap.objs.size+1)::(us++ds)):=.cons rfl (r.append hd)
 have hl:(Value.ref (s.heap.objs.size+1)::us++ds).length=ps.length:=by
  have e:=r2.length
  rw[F.len _ _ _ _ hq] at e
  exact e.symm
 refine wpAny_call (Ea (f:=f) I.j7 M.makes M.init (beq_iff_eq.mp M.fn) (codeAny_mono (F.run _ X.stack _ _ ⟨Value.ref (s.heap.objs.size+1)::us,[]⟩ (Value.ref (s.heap.objs.size+1)::(us++ds)) _ _ (E σ) (hr.make C us [])
  (I2.mj.make C us []) (hb _ (Value.ref (s.heap.objs.size+1)::us) I2.j7 hl) r2 hq) fun r s' hq'=>?_))
 cases r with
 | error e=>exact hx.pass pins σ _ _ e s' I2 hq'
 | ok fl =>
  cases fl with
  | ret u =>
   obtain⟨v,H',I3,rv,ev,q3⟩:=I2.after hq'
   subst ev
   exact⟨rv,⟨V.ref (s.heap.objs.size+1),H',I3,rfl,q3⟩⟩
  | next=>exact False.elim hq'
  | brk=>exact False.elim hq'
  | cont=>exact False.elim hq'
theorem DL(M:Mk X.K C f)(F:aQ X.prog X.w X.K X.mg X.base (bV X.prog X.w) k f fd ps sp)(hr:cp (k+1) X.A)(hg:Gl X x)(hm:X.mg x=some (.ref C))(hb:Binds X.K fd ps ds)(hd:Vals dvs ds)(hx:e6 X E)
  (ha:PA X (e::es) t) (hdb:(x==("__debug__" : Str))=false:=by decide) (he:starEach (e::es) X.env=(false,eval e X.env)::starEach es X.env:=by rfl) (hpl:(backTo pos (starEach es X.env)).any (·.1)=false:=by rfl) :
  PE X (.Call (.Name x p) (e::es) [] pos) (HS C sp dvs E t):=by
 intro pins s σ H Q I h
 refine wpAny_Call_Name_kw (jv I hg hm ?_ hdb)
 refine PySem.W.callWith_K (h₀:=X.base) I.ok.mod.G4 M.kp (cB (ha pos pins s σ H _ I h) fun us s1 ⟨vs,H1,I1,r,q⟩=>⟨I1.j7,?_⟩) he hpl
 exact AR M F hr hb hd hx I1 r q
end
end L2
namespace L2
open PySem PySem.Spec PyProof.Rows
abbrev dz(Hs H:Hp)(Q:VK):PV->Prop:=fun z=>∀ w Hs' H',bC Hs H Hs' H'->Rep Hs' z w->Q w H'
theorem dz.flat{Hs H:Hp}{Q:VK}{p:PV}{v:V}(h:dz Hs H Q p)(s:a_ Hs H)(r:Rep Hs p v):Q v H:=h v Hs H (.refl s) r
theorem dz.tup{Hs H:Hp}{Q:VK}{xs:List PV}{vs:List V}(h:dz Hs H Q (.tup xs))(s:a_ Hs H)(r:aK Hs xs vs):∀ p,H p=none->Q (.ref p) (upd H p (.tup vs)) :=
 fun p n=>h _ (upd Hs p (.tup vs)) _ (bC.new s n) (.tup aC (r.mono (bC.new s n).st))
theorem dz.lst{Hs H:Hp}{Q:VK}{xs:List PV}{vs:List V}(h:dz Hs H Q (.lst xs))(s:a_ Hs H)(r:aK Hs xs vs):∀ p,H p=none->Q (.ref p) (upd H p (.lst vs)) :=
 fun p n=>h _ (upd Hs p (.lst vs)) _ (bC.new s n) (.lst aC (r.mono (bC.new s n).st))
namespace HT
theorem Cd{prog:Program}{w:World}{A:Around}{E:Value->Shared->Prop}{s:Shared}{t b:Addr}{ws:List Value}{Q:Value->Shared->Prop}(ht:IsTup s.heap t #[])(hb:IsTup s.heap b ws.toArray)
  (h1:Q (.ref b) s):wpAny (model prog w) A (binaryOp .Add (.ref t) (.ref b)) Q E s:=by
 obtain⟨⟨cls,dd,data,sl⟩,ho,hc,n,hd⟩:=id ht
 obtain⟨⟨cls2,dd2,data2,sl2⟩,ho2,hc2,n2,hd2⟩:=id hb
 simp only at hc hd hc2 hd2
 subst hc hd hc2 hd2
 exact concat_meets ⟨_,ho,rfl⟩ ⟨_,ho2,rfl⟩ noFill_tuple_add seq_tuple_add PySem.F.slot_tuple_add PySem.F.entry_tuple_add (PySem.F.args_tuple_add_2 _ _)
   (tuple_addW0 t b #[] ws.toArray n n2 dd dd2 sl sl2 rfl) ⟨ho,ho2,h1⟩
end HT
def Di(K:PySem.W.Frag):R2:=fun x y H Q=>∃ a b ys,x=.ref a/\y=.ref b/\gU K H a []/\gU K H b ys/\Q (.ref b) H
theorem DE{X:Cx}:gq X (binaryOp .Add) (Di X.K):=by
 intro pins s σ H x y v u Q I rx ry h
 obtain⟨a,b,ys,rfl,rfl,ha,hb,q1⟩:=h
 cases rx
 cases ry
 obtain⟨its,r1,p1,_⟩:=I.tuple ha
 obtain⟨its2,r2,p2,_⟩:=I.tuple hb
 have e:its=[]:=r1.ni.mpr rfl
 subst e
 exact HT.Cd p1 p2 ⟨.ref b,H,I,rfl,q1⟩
def cJ{α:Type}(c:Prop)[Decidable c](x:M α):M α:=if c then x else none
theorem ax.cJ{α:Type}{c:Prop}[Decidable c]{x:M α}{Q:α->Prop}{E:EX->Prop}(h:ax (L2.cJ c x) Q E):c/\ax x Q E:=by
 unfold L2.cJ at h
 by_cases hc:c
 ·rw[if_pos hc] at h;exact⟨hc,h⟩
 ·rw[if_neg hc] at h;exact h.elim
def fF(o:Option PV):M PV:=match o with
 | some x=>M.ok x
 | none=>none
theorem ax.opt{o:Option PV}{Q:PV->Prop}{E:EX->Prop}(h:ax (fF o) Q E):∃ x,o=some x/\Q x:=by
 cases o with
 | none=>exact h.elim
 | some x=>exact⟨x,rfl,h⟩
section
variable{X:Cx}{E:St->XK}{a b c e:Expr}{pos:Pos}{f g h:af->M PV}
def aa(i:Nat)(env:af):M PV:=match env[i]? with
 | some (some (.sh p))=>M.ok p
 | _=>none
theorem Ho{i:Nat}{x:Str}(hN:X.N[i]?=some x)(hv:Ez X.env.scope x)(hd:(x==("__debug__" : Str))=false:=by decide)(hcd:(x==("__classdict__" : Str))=false:=by decide):PE X (.Name x pos) (tE E (aa i)):=by
 refine(nY hN hv hd hcd).imp fun σ H Q q=>?_
 obtain⟨B,H₀,Hs,env,sr,q⟩:=q
 unfold aa at q
 split at q
 ·rename_i p e
  obtain⟨v,h1,h2⟩:=sr.sh i p e
  exact⟨v,h1,dz.flat q sr.gr.sub h2⟩
 ·exact q.elim
theorem mS{p:PV}{v:V}(he:PE X e (tC v))(r:∀ H,Rep H p v):PE X e (tE E fun _=>M.ok p):=by
 refine he.imp fun σ H Q q=>?_
 obtain⟨B,H₀,Hs,env,sr,q⟩:=q
 exact dz.flat q sr.gr.sub (r Hs)
theorem BS{i:Int}{j:Nat}:PE X (.Constant (.int i) j pos) (tE E fun _=>M.ok (.int i)):=mS J1 fun _=>.int i
theorem Ln{i:Bool}{j:Nat}:PE X (.Constant (.bool i) j pos) (tE E fun _=>M.ok (.bl i)):=mS K3 fun _=>.bl i
theorem Jw{j:Nat}:PE X (.Constant .none j pos) (tE E fun _=>M.ok .cz):=mS Ij fun _=>.cz
theorem IB{i:Str}{j:Nat}:PE X (.Constant (.str i) j pos) (tE E fun _=>M.ok (.str i)):=mS Jo fun _=>.str i
def aj(op:PV->PV->M PV)(f g:af->M PV):af->M PV:=fun env=>(f env).bind fun p=>(g env).bind fun q=>op p q
def mC(E:St->XK)(r:R2)(op:PV->PV->M PV):Prop:=∀ (σ:St) (Hs H:Hp) (p q:PV) (v u:V) (Q:VK),a_ Hs H->Rep Hs p v->Rep Hs q u->ax (op p q) (dz Hs H Q) (XW (E σ) Hs H)->r v u H Q
theorem nZ{op:Operator}{r:R2}{o:PV->PV->M PV}(ho:gq X (binaryOp op) r)(hv:mC E r o)(ha:PE X a (tE E f))(hb:PE X b (tE E g)):PE X (.BinOp a op b pos) (tE E (aj o f g)) :=
 (Hf ho ha hb).imp fun σ H Q q=>zd q fun Hs H1 p q v u s rp rq h=>hv σ Hs H1 p q v u Q s rp rq h
theorem kE{op:CmpOp}{r:R2}{o:PV->PV->M PV}(ho:gq X (compareOp op) r)(hv:mC E r o)(ha:PE X a (tE E f))(hb:PE X b (tE E g))(hm:behindInMarks op b=false):PE X (.Compare a [op] [b] pos) (tE E (aj o f g)) :=
 (Fh ho ha hb hm).imp fun σ H Q q=>zd q fun Hs H1 p q v u s rp rq h=>hv σ Hs H1 p q v u Q s rp rq h
def cj:PV->PV->M PV
 | .int i,.int j=>M.ok (.int (i+j))
 | .str x,.str y=>cJ (x.length+y.length<=sizeLine) (M.ok (.str (x++y)))
 | .tup xs,.tup ys=>cJ (xs.length+ys.length<=sizeLine) (M.ok (.tup (xs++ys)))
 | .lst xs,.lst ys=>cJ (xs.length+ys.length<=sizeLine) (M.ok (.lst (xs++ys)))
 | _,_=>none
def G5(K:PySem.W.Frag):R2:=fun x y H Q=>(∃ i j,x=.int i/\y=.int j/\Q (.int (i+j)) H)\/(∃ i j,x=.str i/\y=.str j/\i.length+j.length<=sizeLine/\Q (.str (i++j)) H)\/GJ K x y H Q\/KD x y H Q\/Di K x y H Q
theorem Fm:gq X (binaryOp .Add) (G5 X.K):=gq.or Jd (gq.or y_ (gq.or FO (gq.or J0 DE)))
theorem JZ{K:PySem.W.Frag}:mC E (G5 K) cj:=by
 intro σ Hs H p q v u Q s rp rq h
 cases rp with
 | int i=>cases rq with
  | int j=>exact .inl ⟨i,j,rfl,rfl,dz.flat h s (.int _)⟩
  | _=>exact h.elim
 | str i=>cases rq with
  | str j =>
   obtain⟨hz,h⟩:=ax.cJ h
   exact .inr (.inl ⟨i,j,rfl,rfl,hz,dz.flat h s (.str _)⟩)
  | _=>exact h.elim
 | @tup a xs vs ha hx=>cases rq with
  | @tup b ys us hb hy =>
   obtain⟨hz,h⟩:=ax.cJ h
   cases hx with
   | nil=>exact .inr (.inr (.inr (.inr ⟨a,b,us,rfl,rfl,gU.of (s _ _ ha),gU.of (s _ _ hb),dz.flat h s (.tup hb hy)⟩)))
   | cons hx1 hx2 =>
    have hx:=aK.cons hx1 hx2
    refine .inr (.inr (.inl ⟨a,b,_,us,rfl,rfl,gU.of (s _ _ ha),gU.of (s _ _ hb),(fun z=>nomatch z),by rw[← hx.length,← hy.length];exact hz,fun z=>?_,fun z=>dz.tup h s (hx.append hy)⟩))
    have e:ys=[]:=by cases hy with | nil=>rfl | cons _ _=>cases z
    subst e
    rw[List.append_nil] at h
    exact dz.flat h s (.tup ha hx)
  | _=>exact h.elim
 | @lst a xs vs ha hx=>cases rq with
  | @lst b ys us hb hy =>
   obtain⟨hz,h⟩:=ax.cJ h
   exact .inr (.inr (.inr (.inl ⟨a,b,vs,us,rfl,rfl,s _ _ ha,s _ _ hb,by rw[← hx.length,← hy.length];exact hz,dz.lst h s (hx.append hy)⟩)))
  | _=>exact h.elim
 | _=>exact h.elim
def yP(c:Int->Int->Bool)(o:Int->Int->Int):PV->PV->M PV
 | .int i,.int j=>cJ (c i j=true) (M.ok (.int (o i j)))
 | _,_=>none
theorem zc{C:Int->Int->Prop}{c:Int->Int->Bool}{o:Int->Int->Int}(hc:∀ i j,c i j=true->C i j):mC E (rI C fun i j=>.int (o i j)) (yP c o):=by
 intro σ Hs H p q v u Q s rp rq h
 cases rp with
 | int i=>cases rq with
  | int j =>
   obtain⟨hz,h⟩:=ax.cJ h
   exact⟨i,j,rfl,rfl,hc i j hz,dz.flat h s (.int _)⟩
  | _=>exact h.elim
 | _=>exact h.elim
def l7:PV->PV->M PV
 | .int i,.int j=>M.ok (.int (i-j))
 | _,_=>none
theorem JA:mC E (z9 fun i j=>.int (i-j)) l7:=by
 intro σ Hs H p q v u Q s rp rq h
 cases rp with
 | int i=>cases rq with
  | int j=>exact⟨i,j,rfl,rfl,dz.flat h s (.int _)⟩
  | _=>exact h.elim
 | _=>exact h.elim
def DN(o:Int->Int->Bool):PV->PV->M PV
 | .int i,.int j=>M.ok (.bl (o i j))
 | _,_=>none
theorem uK{o:Int->Int->Bool}:mC E (z9 fun i j=>.bl (o i j)) (DN o):=by
 intro σ Hs H p q v u Q s rp rq h
 cases rp with
 | int i=>cases rq with
  | int j=>exact⟨i,j,rfl,rfl,dz.flat h s (.bl _)⟩
  | _=>exact h.elim
 | _=>exact h.elim
def aM:PV->PV->M PV
 | .tup xs,.int i=>fF (vJ xs i)
 | .lst xs,.int i=>fF (vJ xs i)
 | .kS xs,.int i=>fF (vJ xs i)
 | .str z,.int i=>cJ (z.length<=sizeLine) (fF ((vJ z.cps.toList i).map fun c=>.str ⟨#[c]⟩))
 | _,_=>none
theorem aK.vJ{H:Hp}{xs:List PV}{vs:List V}{i:Int}{x:PV}(r:aK H xs vs)(e:L2.vJ xs i=some x):∃ v,L2.vJ vs i=some v/\Rep H x v:=by
 unfold L2.vJ at e ⊢
 rw[← r.length]
 obtain⟨j,h1,h2⟩:=Option.bind_eq_some_iff.mp e
 obtain⟨v,h3,h4⟩:=r.get h2
 exact⟨v,by rw[h1];exact h3,h4⟩
theorem HZ{K:PySem.W.Frag}:mC E (Sw K) aM:=by
 intro σ Hs H p q v u Q s rp rq h
 cases rp with
 | @tup a xs vs ha hx=>cases rq with
  | int i =>
   obtain⟨x,ex,h⟩:=ax.opt h
   obtain⟨v,h1,h2⟩:=hx.vJ ex
   exact .inr (.inl ⟨a,vs,i,v,rfl,rfl,gU.of (s _ _ ha),h1,dz.flat h s h2⟩)
  | _=>exact h.elim
 | @lst a xs vs ha hx=>cases rq with
  | int i =>
   obtain⟨x,ex,h⟩:=ax.opt h
   obtain⟨v,h1,h2⟩:=hx.vJ ex
   exact .inl ⟨a,vs,i,v,rfl,rfl,i4.of (s _ _ ha),h1,dz.flat h s h2⟩
  | _=>exact h.elim
 | @kS a o xs vs ha hx=>cases rq with
  | int i =>
   obtain⟨x,ex,h⟩:=ax.opt h
   obtain⟨v,h1,h2⟩:=hx.vJ ex
   exact .inl ⟨a,vs,i,v,rfl,rfl,.inl (.inr ⟨o,s _ _ ha⟩),h1,dz.flat h s h2⟩
  | _=>exact h.elim
 | str z=>cases rq with
  | int i =>
   obtain⟨hz,h⟩:=ax.cJ h
   obtain⟨x,ex,h⟩:=ax.opt h
   obtain⟨c,ec,rfl⟩:=Option.map_eq_some_iff.mp ex
   exact .inr (.inr ⟨z,i,c,rfl,rfl,hz,ec,dz.flat h s (.str _)⟩)
  | _=>exact h.elim
 | _=>exact h.elim
theorem Iv(ha:PE X a (tE E f))(hb:PE X b (tE E g))(hs:um b):PE X (.Subscript a b pos) (tE E (aj aM f g)) :=
 (Lk Jj ha hb hs).imp fun σ H Q q=>zd q fun Hs H1 p q v u s rp rq h=>HZ σ Hs H1 p q v u Q s rp rq h
end
end L2
namespace L2
open PySem PySem.Spec PyProof.Rows
def tG{α:Type}(E:St->XK)(f:af->M α)(K:Hp->Hp->α->Prop):St->Hp->Prop:=fun σ H=>∃ B H₀ Hs env,SR B H₀ Hs H σ env/\ax (f env) (K Hs H) (XW (E σ) Hs H)
def KG{α:Type}(K:Hp->Hp->α->Prop):Prop:=∀ Hs H Hs' H' b,K Hs H b->bC Hs H Hs' H'->K Hs' H' b
abbrev KB(Q:Bool->Hp->Prop):Hp->Hp->Bool->Prop:=fun Hs H k=>∀ Hs' H',bC Hs H Hs' H'->Q k H'
abbrev j5(Q:VK):Hp->Hp->PV->Prop:=fun Hs H p=>dz Hs H Q p
abbrev KL(Q:List V->Hp->Prop):Hp->Hp->List PV->Prop:=fun Hs H ps=>∀ vs Hs' H',bC Hs H Hs' H'->aK Hs' ps vs->Q vs H'
theorem KB.g{Q:Bool->Hp->Prop}:KG (KB Q):=fun Hs H Hs' H' b k g Hs2 H2 g2=>k Hs2 H2 (g.trans g2)
theorem j5.g{Q:VK}:KG (j5 Q):=fun Hs H Hs' H' b k g w Hs2 H2 g2 r=>k w Hs2 H2 (g.trans g2) r
theorem KL.g{Q:List V->Hp->Prop}:KG (KL Q):=fun Hs H Hs' H' b k g w Hs2 H2 g2 r=>k w Hs2 H2 (g.trans g2) r
def tT(E:St->XK)(f:af->M Bool):TT:=fun σ H Q=>tG E f (KB Q) σ H
def tL(E:St->XK)(f:af->M (List PV)):TA:=fun σ H Q=>tG E f (KL Q) σ H
theorem PT.imp{X:Cx}{e:Expr}{t t':TT}(h:PT X e t)(i:∀ σ H Q,t' σ H Q->t σ H Q):PT X e t':=fun pins s σ H Q I q=>h pins s σ H Q I (i σ H Q q)
theorem PW.imp{X:Cx}{e:Expr}{t t':TT}(h:PW X e t)(i:∀ σ H Q,t' σ H Q->t σ H Q):PW X e t':=fun w pins s σ H Q I q=>h w pins s σ H Q I (i σ H Q q)
theorem PA.imp{X:Cx}{e:List Expr}{t t':TA}(h:PA X e t)(i:∀ σ H Q,t' σ H Q->t σ H Q):PA X e t':=fun w pins s σ H Q I q=>h w pins s σ H Q I (i σ H Q q)
section
variable{β:Type}{E:St->XK}{K:Hp->Hp->β->Prop}{σ:St}{H:Hp}
theorem bJ{f:af->M PV}{g:af->PV->M β}{R:VK}(kg:KG K)(h:tG E (fun env=>(f env).bind (g env)) K σ H)
  (k:∀ B H₀ Hs H1 env p v,SR B H₀ Hs H1 σ env->Rep Hs p v->ax (g env p) (K Hs H1) (XW (E σ) Hs H1)->R v H1):tE E f σ H R:=by
 obtain⟨B,H₀,Hs,env,sr,h⟩:=h
 refine⟨B,H₀,Hs,env,sr,(ax.bind h).imp (fun p hp v Hs' H' g r=>?_) fun e he=>he⟩
 exact k B H₀ Hs' H' env p v (sr.grow g) r (hp.imp (fun q hq=>kg _ _ _ _ q hq g) fun e he=>he.grow g)
theorem qP{f:af->M Bool}{g:af->Bool->M β}{R:Bool->Hp->Prop}(kg:KG K)(h:tG E (fun env=>(f env).bind (g env)) K σ H)
  (k:∀ B H₀ Hs H1 env p,SR B H₀ Hs H1 σ env->ax (g env p) (K Hs H1) (XW (E σ) Hs H1)->R p H1):tT E f σ H R:=by
 obtain⟨B,H₀,Hs,env,sr,h⟩:=h
 refine⟨B,H₀,Hs,env,sr,(ax.bind h).imp (fun p hp Hs' H' g=>?_) fun e he=>he⟩
 exact k B H₀ Hs' H' env p (sr.grow g) (hp.imp (fun q hq=>kg _ _ _ _ q hq g) fun e he=>he.grow g)
theorem c_{f:af->M (List PV)}{g:af->List PV->M β}{R:List V->Hp->Prop}(kg:KG K)(h:tG E (fun env=>(f env).bind (g env)) K σ H)
  (k:∀ B H₀ Hs H1 env p v,SR B H₀ Hs H1 σ env->aK Hs p v->ax (g env p) (K Hs H1) (XW (E σ) Hs H1)->R v H1):tL E f σ H R:=by
 obtain⟨B,H₀,Hs,env,sr,h⟩:=h
 refine⟨B,H₀,Hs,env,sr,(ax.bind h).imp (fun p hp v Hs' H' g r=>?_) fun e he=>he⟩
 exact k B H₀ Hs' H' env p v (sr.grow g) r (hp.imp (fun q hq=>kg _ _ _ _ q hq g) fun e he=>he.grow g)
end
def yz:PV->M Bool
 | .bl b=>M.ok b
 | _=>none
def dR(f:af->M PV):af->M Bool:=fun env=>(f env).bind yz
theorem ax.Ma{p:PV}{Q:Bool->Prop}{E:EX->Prop}(h:ax (yz p) Q E):∃ b,p=.bl b/\Q b:=by
 cases p with
 | bl b=>exact⟨b,rfl,h⟩
 | _=>exact h.elim
section
variable{X:Cx}{E:St->XK}{a b c e:Expr}{pos:Pos}{f g h:af->M PV}{u v:af->M Bool}{rest:List Expr}
theorem qT{σ:St}{H:Hp}{Q:Bool->Hp->Prop}(q:tT E (dR f) σ H Q):tB (tE E f) σ H Q:=by
 refine bJ KB.g q fun B H₀ Hs H1 env p v sr rp hp=>?_
 obtain⟨k,rfl,hp⟩:=ax.Ma hp
 cases rp
 exact⟨k,rfl,hp Hs H1 (.refl sr.gr.sub)⟩
theorem uL(he:PE X e (tE E f))(hw:∀ whole,isTrue e X.env whole=(do let v ← whole;standAt e.pos;holding [v] (truthy v)):=by intro _;rfl):PT X e (tT E (dR f)) :=
 (Jq he hw).imp fun σ H Q q=>qT q
theorem kF{op:CmpOp}{r:R2}{o:PV->PV->M PV}(ho:gq X (compareOp op) r)(hv:mC E r o)(ha:PE X a (tE E f))(hb:PE X b (tE E g))(hm:behindInMarks op b=false):PT X (.Compare a [op] [b] pos) (tT E (dR (aj o f g))):=by
 refine(FI ho ha hb hm).imp fun σ H Q q=>?_
 have q':=qT q
 exact zd q' fun Hs H1 p q v u s rp rq h=>hv σ Hs H1 p q v u _ s rp rq h
def iI(u:af->M Bool):af->M Bool:=fun env=>(u env).bind fun b=>M.ok (!b)
def Su(u v:af->M Bool):af->M Bool:=fun env=>(u env).bind fun b=>if b=true then v env else M.ok false
def Bb(u v:af->M Bool):af->M Bool:=fun env=>(u env).bind fun b=>if b=true then M.ok true else v env
theorem Ht(ha:PT X a (tT E u)):PT X (.UnaryOp .Not a pos) (tT E (iI u)) :=
 (Hr ha).imp fun σ H Q q=>qP KB.g q fun B H₀ Hs H1 env p sr hp=>hp Hs H1 (.refl sr.gr.sub)
theorem jq(ha:PT X a (tT E u)):PW X (.BoolOp .Or [a] pos) (tT E u):=pw_or1 ha
theorem kL(ha:PT X a (tT E u))(hb:PW X (.BoolOp .Or (b::rest) pos) (tT E v)):PW X (.BoolOp .Or (a::b::rest) pos) (tT E (Bb u v)):=by
 refine(pw_or ha hb).imp fun σ H Q q=>qP KB.g q fun B H₀ Hs H1 env p sr hp=>?_
 cases p with
 | true=>exact hp Hs H1 (.refl sr.gr.sub)
 | false=>exact⟨B,H₀,Hs,env,sr,hp⟩
def Fj(f:af->M PV):af->M PV:=fun env=>(f env).bind fun p=>(yz p).bind fun b=>M.ok (.bl (!b))
def Ak(f g:af->M PV):af->M PV:=fun env=>(f env).bind fun p=>(yz p).bind fun b=>if b=true then g env else M.ok (.bl false)
def TY(f g:af->M PV):af->M PV:=fun env=>(f env).bind fun p=>(yz p).bind fun b=>if b=true then M.ok (.bl true) else g env
theorem Cp(ha:PE X a (tE E f)):PE X (.UnaryOp .Not a pos) (tE E (Fj f)):=by
 refine(Ir ha).imp fun σ H Q q=>bJ (K:=j5 Q) j5.g q fun B H₀ Hs H1 env p v sr rp hp=>?_
 obtain⟨k,rfl,hp⟩:=ax.Ma (ax.bind hp)
 cases rp
 exact⟨k,rfl,dz.flat hp sr.gr.sub (.bl _)⟩
theorem vp(ha:PE X a (tE E f))(hb:PE X (.BoolOp .And (b::rest) pos) (tE E g)):PE X (.BoolOp .And (a::b::rest) pos) (tE E (Ak f g)):=by
 refine(JE ha hb).imp fun σ H Q q=>bJ (K:=j5 Q) j5.g q fun B H₀ Hs H1 env p v sr rp hp=>?_
 obtain⟨k,rfl,hp⟩:=ax.Ma (ax.bind hp)
 cases rp
 refine⟨k,rfl,?_⟩
 cases k with
 | true=>exact⟨B,H₀,Hs,env,sr,hp⟩
 | false=>exact dz.flat hp sr.gr.sub (.bl _)
def Ad(u:af->M Bool)(f g:af->M PV):af->M PV:=fun env=>(u env).bind fun b=>if b=true then f env else g env
theorem IX(hc:PT X c (tT E u))(ha:PE X a (tE E f))(hb:PE X b (tE E g)):PE X (.IfExp c a b pos) (tE E (Ad u f g)):=by
 refine(Ec hc ha hb).imp fun σ H Q q=>qP (K:=j5 Q) j5.g q fun B H₀ Hs H1 env p sr hp=>?_
 cases p with
 | true=>exact⟨B,H₀,Hs,env,sr,hp⟩
 | false=>exact⟨B,H₀,Hs,env,sr,hp⟩
def ak:af->M (List PV):=fun _=>M.ok []
def ae(f:af->M PV)(fs:af->M (List PV)):af->M (List PV):=fun env=>(f env).bind fun p=>(fs env).bind fun ps=>M.ok (p::ps)
variable{fs:af->M (List PV)}{es:List Expr}
theorem BF:PA X [] (tL E ak):=by
 refine mi.imp fun σ H Q q=>?_
 obtain⟨B,H₀,Hs,env,sr,q⟩:=q
 exact q [] Hs H (.refl sr.gr.sub) .nil
theorem zk(ha:PE X e (tE E f))(hr:PA X es (tL E fs))(hs:starEach (e::es) X.env=(false,eval e X.env)::starEach es X.env:=by rfl):PA X (e::es) (tL E (ae f fs)):=by
 refine(dF ha hr hs).imp fun σ H Q q=>bJ (K:=KL Q) KL.g q fun B H₀ Hs H1 env p v sr rp hp=>?_
 refine⟨B,H₀,Hs,env,sr,(ax.bind hp).imp (fun ps hps vs Hs' H' g r=>?_) fun e he=>he⟩
 exact hps (v::vs) Hs' H' g (.cons (rp.mono g.st) r)
def i6(fs:af->M (List PV)):af->M PV:=fun env=>(fs env).bind fun ps=>cJ (ps.length<=sizeLine) (M.ok (.tup ps))
def uX(fs:af->M (List PV)):af->M PV:=fun env=>(fs env).bind fun ps=>cJ (ps.length<=sizeLine) (M.ok (.lst ps))
theorem Jf{x1:Nat}(hr:PA X es (tL E fs)):PE X (.Tuple es x1 pos) (tE E (i6 fs)):=by
 refine(CJ hr).imp fun σ H Q q=>c_ (K:=j5 Q) j5.g q fun B H₀ Hs H1 env p v sr rp hp=>?_
 obtain⟨hz,hp⟩:=ax.cJ hp
 exact⟨by rw[← rp.length];exact hz,dz.tup hp sr.gr.sub rp⟩
theorem Dl(hr:PA X es (tL E fs)):PE X (.List es pos) (tE E (uX fs)):=by
 refine(BC hr).imp fun σ H Q q=>c_ (K:=j5 Q) j5.g q fun B H₀ Hs H1 env p v sr rp hp=>?_
 obtain⟨hz,hp⟩:=ax.cJ hp
 exact⟨by rw[← rp.length];exact hz,dz.lst hp sr.gr.sub rp⟩
def ai(o:List PV->M PV)(fs:af->M (List PV)):af->M PV:=fun env=>(fs env).bind o
def lM(E:St->XK)(r:List V->Hp->VK->Prop)(o:List PV->M PV):Prop:=∀ (σ:St) (Hs H:Hp) (ps:List PV) (vs:List V) (Q:VK),a_ Hs H->aK Hs ps vs->ax (o ps) (dz Hs H Q) (XW (E σ) Hs H)->r vs H Q
theorem Em{r:List V->Hp->VK->Prop}{o:List PV->M PV}{σ:St}{H:Hp}{Q:VK}(hv:lM E r o)(q:tE E (ai o fs) σ H Q):Mg r (tL E fs) σ H Q :=
 c_ (K:=j5 Q) j5.g q fun B H₀ Hs H1 env p v sr rp hp=>hv σ Hs H1 p v Q sr.gr.sub rp hp
variable{x:Str}{p:Pos}{id T:String}
theorem mV{r:List V->Hp->VK->Prop}{o:List PV->M PV}(hc:cN X (.builtin id) r)(hv:lM E r o)(hg:Gl X x)(hm:X.mg x=none)(hx:bootBuiltins x=some (.builtin id))(ha:PA X (e::es) (tL E fs))(hn:x ≠ "__name__" := by decide)(hdb:(x==("__debug__" : Str))=false:=by decide)
  (he:starEach (e::es) X.env=(false,eval e X.env)::starEach es X.env:=by rfl) (hpl:(backTo pos (starEach es X.env)).any (·.1)=false:=by rfl):PE X (.Call (.Name x p) (e::es) [] pos) (tE E (ai o fs)) :=
 (ke hc hg hm hx ha hn hdb he hpl).imp fun σ H Q q=>Em hv q
theorem n8{r:List V->Hp->VK->Prop}{o:List PV->M PV}(hc:cN X (.type T) r)(hv:lM E r o)(hg:Gl X x)(hm:X.mg x=none)(hx:bootBuiltins x=some (.type T))(ha:PA X (e::es) (tL E fs))(hn:x ≠ "__name__" := by decide)(hdb:(x==("__debug__" : Str))=false:=by decide)
  (he:starEach (e::es) X.env=(false,eval e X.env)::starEach es X.env:=by rfl) (hpl:(backTo pos (starEach es X.env)).any (·.1)=false:=by rfl):PE X (.Call (.Name x p) (e::es) [] pos) (tE E (ai o fs)) :=
 (Ab hc hg hm hx ha hn hdb he hpl).imp fun σ H Q q=>Em hv q
end
end L2
namespace L2
open PySem PySem.Spec PyProof.Rows
section
variable{E:St->XK}
def cy:PV->Option (List PV)
 | .tup xs=>some xs
 | .lst xs=>some xs
 | .kS xs=>some xs
 | _=>none
theorem CP{K:PySem.W.Frag}{Hs H:Hp}{p:PV}{v:V}{xs:List PV}(s:a_ Hs H)(r:Rep Hs p v)(e:cy p=some xs):∃ a vs,v=.ref a/\(i4 K H a vs\/gU K H a vs)/\aK Hs xs vs:=by
 cases r with
 | tup h r=>cases e;exact⟨_,_,rfl,.inr (gU.of (s _ _ h)),r⟩
 | lst h r=>cases e;exact⟨_,_,rfl,.inl (i4.of (s _ _ h)),r⟩
 | kS h r=>cases e;exact⟨_,_,rfl,.inl (.inl (.inr ⟨_,s _ _ h⟩)),r⟩
 | _=>cases e
def w4:PV->M PV
 | .str z=>cJ (z.length<=sizeLine) (M.ok (.int z.length))
 | p=>fF ((cy p).map fun xs=>.int xs.length)
def cZ:List PV->M PV
 | [p]=>w4 p
 | _=>none
theorem aK.one{H:Hp}{p:PV}{vs:List V}(r:aK H [p] vs):∃ v,vs=[v]/\Rep H p v:=by
 cases r with
 | cons h r=>cases r;exact⟨_,rfl,h⟩
theorem aK.two{H:Hp}{p q:PV}{vs:List V}(r:aK H [p,q] vs):∃ v u,vs=[v,u]/\Rep H p v/\Rep H q u:=by
 cases r with
 | cons h r=>obtain⟨u,rfl,h2⟩:=r.one;exact⟨_,_,rfl,h,h2⟩
def Hh(K:PySem.W.Frag):List V->Hp->VK->Prop:=fun xs H Q=>(∃ p ys,xs=[.ref p]/\(i4 K H p ys\/gU K H p ys)/\Q (.int ys.length) H)\/∃ z,xs=[.str z]/\z.length<=sizeLine/\Q (.int z.length) H
theorem Bm{X:Cx}:cN X (.builtin "len") (Hh X.K):=cN.or u7 vz
theorem IG{K:PySem.W.Frag}:lM E (Hh K) cZ:=by
 intro σ Hs H ps vs Q s r h
 match ps,r with
 | [],_=>exact h.elim
 | _::_::_,_=>exact h.elim
 | [p],r =>
  obtain⟨v,rfl,rp⟩:=r.one
  cases hp:cy p with
  | none =>
   cases p with
   | str z =>
    cases rp
    obtain⟨hz,h⟩:=ax.cJ h
    exact .inr ⟨z,rfl,hz,dz.flat h s (.int _)⟩
   | tup _=>cases hp
   | lst _=>cases hp
   | kS _=>cases hp
   | _=>exact h.elim
  | some xs =>
   obtain⟨a,us,rfl,hq,hx⟩:=CP (K:=K) s rp hp
   have h':ax (fF ((cy p).map fun xs=>PV.int xs.length)) (dz Hs H Q) (XW (E σ) Hs H):=by
    cases p with
    | str z=>cases hp
    | _=>exact h
   rw[hp] at h'
   refine .inl ⟨a,us,rfl,hq,?_⟩
   rw[← hx.length]
   exact dz.flat h' s (.int _)
def zF:List PV->M PV
 | [p]=>fF ((cy p).map .lst)
 | _=>none
theorem EZ{K:PySem.W.Frag}:lM E (fun xs H Q=>∃ p ys,xs=[.ref p]/\(i4 K H p ys\/gU K H p ys)/\∀ l,H l=none->Q (.ref l) (upd H l (.lst ys))) zF:=by
 intro σ Hs H ps vs Q s r h
 match ps,r with
 | [],_=>exact h.elim
 | _::_::_,_=>exact h.elim
 | [p],r =>
  obtain⟨v,rfl,rp⟩:=r.one
  obtain⟨x,ex,h⟩:=ax.opt h
  obtain⟨xs,hp,rfl⟩:=Option.map_eq_some_iff.mp ex
  obtain⟨a,us,rfl,hq,hx⟩:=CP (K:=K) s rp hp
  exact⟨a,us,rfl,hq,dz.lst h s hx⟩
def cV:List PV->M PV
 | [p]=>fF ((cy p).map .tup)
 | _=>none
theorem Cz{K:PySem.W.Frag}:lM E (fun xs H Q=>∃ p ys,xs=[.ref p]/\((i4 K H p ys/\∀ l,H l=none->Q (.ref l) (upd H l (.tup ys)))\/(gU K H p ys/\Q (.ref p) H))) cV:=by
 intro σ Hs H ps vs Q s r h
 match ps,r with
 | [],_=>exact h.elim
 | _::_::_,_=>exact h.elim
 | [p],r =>
  obtain⟨v,rfl,rp⟩:=r.one
  obtain⟨x,ex,h⟩:=ax.opt h
  obtain⟨xs,hp,rfl⟩:=Option.map_eq_some_iff.mp ex
  cases rp with
  | tup ha hx=>cases hp;exact⟨_,_,rfl,.inr ⟨gU.of (s _ _ ha),dz.flat h s (.tup ha hx)⟩⟩
  | lst ha hx=>cases hp;exact⟨_,_,rfl,.inl ⟨i4.of (s _ _ ha),dz.tup h s hx⟩⟩
  | kS ha hx=>cases hp;exact⟨_,_,rfl,.inl ⟨.inl (.inr ⟨_,s _ _ ha⟩),dz.tup h s hx⟩⟩
  | _=>cases hp
def xm:List PV->Option (List Int)
 | []=>some []
 | .int i::r=>(xm r).map (i::·)
 | _=>none
def Dv:List PV->Option (List Bool)
 | []=>some []
 | .bl i::r=>(Dv r).map (i::·)
 | _=>none
theorem zL:∀ {ps:List PV} {ns:List Int},xm ps=some ns->ps=ns.map PV.int
 | [],_,e=>by cases e;rfl
 | .int i::r,_,e=>by
  obtain⟨ms,h1,rfl⟩:=Option.map_eq_some_iff.mp e
  rw[zL h1];rfl
theorem D5:∀ {ps:List PV} {ns:List Bool},Dv ps=some ns->ps=ns.map PV.bl
 | [],_,e=>by cases e;rfl
 | .bl i::r,_,e=>by
  obtain⟨ms,h1,rfl⟩:=Option.map_eq_some_iff.mp e
  rw[D5 h1];rfl
theorem tM:∀ (ns:List Int),xm (ns.map PV.int)=some ns
 | []=>rfl
 | n::r=>by show (xm (r.map PV.int)).map (n::·)=_;rw[tM r];rfl
theorem xk:∀ (ns:List Bool),Dv (ns.map PV.bl)=some ns
 | []=>rfl
 | n::r=>by show (Dv (r.map PV.bl)).map (n::·)=_;rw[xk r];rfl
def LO:PV->M PV
 | .lst xs=>fF ((xm xs).map fun ns=>.int ns.sum)
 | _=>none
def wc:List PV->M PV
 | [p]=>LO p
 | _=>none
theorem JU{K:PySem.W.Frag}:lM E (fun xs H Q=>∃ (a:Addr) (ns:List Int),xs=[.ref a]/\i4 K H a (ns.map V.int)/\Q (.int ns.sum) H) wc:=by
 intro σ Hs H ps vs Q s r h
 match ps,r with
 | [],_=>exact h.elim
 | _::_::_,_=>exact h.elim
 | [p],r =>
  obtain⟨v,rfl,rp⟩:=r.one
  cases rp with
  | lst ha hx =>
   obtain⟨x,ex,h⟩:=ax.opt h
   obtain⟨ns,hn,rfl⟩:=Option.map_eq_some_iff.mp ex
   rw[zL hn] at hx
   exact⟨_,ns,rfl,hx.ints▸i4.of (s _ _ ha),dz.flat h s (.int _)⟩
  | _=>exact h.elim
def all1:PV->M PV
 | .lst xs=>fF ((Dv xs).map fun ns=>.bl (ns.all id))
 | _=>none
def sG:List PV->M PV
 | [p]=>all1 p
 | _=>none
theorem Hy{K:PySem.W.Frag}:lM E (fun xs H Q=>∃ (a:Addr) (bs:List Bool),xs=[.ref a]/\i4 K H a (bs.map V.bl)/\Q (.bl (bs.all id)) H) sG:=by
 intro σ Hs H ps vs Q s r h
 match ps,r with
 | [],_=>exact h.elim
 | _::_::_,_=>exact h.elim
 | [p],r =>
  obtain⟨v,rfl,rp⟩:=r.one
  cases rp with
  | lst ha hx =>
   obtain⟨x,ex,h⟩:=ax.opt h
   obtain⟨ns,hn,rfl⟩:=Option.map_eq_some_iff.mp ex
   rw[D5 hn] at hx
   exact⟨_,ns,rfl,hx.Sv▸i4.of (s _ _ ha),dz.flat h s (.bl _)⟩
  | _=>exact h.elim
def N9(o:Int->Int->Int):PV->PV->M PV
 | .int i,.int j=>M.ok (.int (o i j))
 | _,_=>none
def GO(o:Int->Int->Int):List PV->M PV
 | [p,q]=>N9 o p q
 | _=>none
theorem EV{o:Int->Int->Int}:lM E (fun xs H Q=>∃ i j,xs=[.int i,.int j]/\Q (.int (o i j)) H) (GO o):=by
 intro σ Hs H ps vs Q s r h
 match ps,r with
 | [],_=>exact h.elim
 | [_],_=>exact h.elim
 | _::_::_::_,_=>exact h.elim
 | [p,q],r =>
  obtain⟨v,u,rfl,rp,rq⟩:=r.two
  cases rp with
  | int i=>cases rq with
   | int j=>exact⟨i,j,rfl,dz.flat h s (.int _)⟩
   | _=>exact h.elim
  | _=>exact h.elim
end
def dW(n:Nat)(sem:List PV->M PV):Sp:=fun vs H Q E=>vs.length=n/\∃ Hs ps,a_ Hs H/\aK Hs ps vs/\ax (sem ps) (dz Hs H Q) (XW E Hs H)
section
variable{X:Cx}{E:St->XK}{k n:Nat}{f C:Addr}{fd:FuncData}{ps:List Str}{sem:List PV->M PV}{x m:Str}{p pos apos:Pos}{e o:Expr}{es:List Expr}{fs:af->M (List PV)}{g:af->M PV}
theorem EO{ds:List Value}{dvs:List V}{dps:List PV}(F:aQ X.prog X.w X.K X.mg X.base (bV X.prog X.w) k f fd ps (dW n sem))(hr:cp k X.A)(hg:Gl X x)(hm:X.mg x=some (.ref f))(hk:PySem.W.keepIn X.K (.ref f)=true)(hb:Binds X.K fd ps ds)(hd:Vals dvs ds)(hdp:∀ H,aK H dps dvs)(O:e6 X E)
  (hl:∀ ps,sem (ps++dps)≠none->ps.length+dps.length=n)
  (ha:PA X (e::es) (tL E fs)) (hdb:(x==("__debug__" : Str))=false:=by decide) (he:starEach (e::es) X.env=(false,eval e X.env)::starEach es X.env:=by rfl) (hpl:(backTo pos (starEach es X.env)).any (·.1)=false:=by rfl) :
  PE X (.Call (.Name x p) (e::es) [] pos) (tE E (ai (fun ps=>sem (ps++dps)) fs)):=by
 refine(Es F hr hg hm hk hb hd O ha hdb he hpl).imp fun σ H Q q=>c_ (K:=j5 Q) j5.g q fun B H₀ Hs H1 env ps' v sr rp hp=>?_
 have r2:aK Hs (ps'++dps) (v++dvs):=rp.append (hdp Hs)
 have hn:sem (ps'++dps)≠none:=fun z=>by rw[z] at hp;exact hp
 refine⟨?_,Hs,ps'++dps,sr.gr.sub,r2,hp⟩
 rw[← r2.length,List.length_append]
 exact hl ps' hn
def iZ(ok:Addr->Bool)(f:Str)(g:af->M PV):af->M PV:=fun env=>(g env).bind fun p=>match p with
 | .obj C fs=>cJ (ok C=true) (fF (fs.lookup f))
 | _=>none
theorem Iz{ok:Addr->Bool}{fl:Str}(he:PE X e (tE E g))(bo:∀ C,ok C=true->n5 X.K C/\bM X.K C fl)(hb:attributeBase e fl X.env (eval e X.env)=eval e X.env):PE X (.Attribute e fl pos) (tE E (iZ ok fl g)):=by
 refine(Ii he hb).imp fun σ H Q q=>bJ (K:=j5 Q) j5.g q fun B H₀ Hs H1 env p v sr rp hp=>?_
 cases rp with
 | obj ha hx =>
  obtain⟨hc,hp⟩:=ax.cJ hp
  obtain⟨x,ex,hp⟩:=ax.opt hp
  obtain⟨u,h1,h2⟩:=hx.look ex
  exact⟨_,_,_,_,u,rfl,sr.gr.sub _ _ ha,(bo _ hc).1,(bo _ hc).2,h1,dz.flat hp sr.gr.sub h2⟩
 | _=>exact hp.elim
def bD(C:Addr)(m:Str)(sem:List PV->M PV)(g:af->M PV)(fs:af->M (List PV)):af->M PV:=fun env=>(g env).bind fun p=>match p with
 | .obj C' fl=>cJ (C'=C/\fl.lookup m=none) ((fs env).bind fun ps=>sem (.obj C' fl::ps))
 | _=>none
theorem Gr{pl:Sem Bool}(he:PE X o (tE E g))(c:n5 X.K C)(hm:Meth X.K C m f)(F:aQ X.prog X.w X.K X.mg X.base (bV X.prog X.w) k f fd ps (dW n sem))(hr:cp k X.A)(hb:Binds X.K fd ps [])(O:e6 X E)(hl:∀ ps,sem ps≠none->ps.length=n)(ha:PA X (e::es) (tL E fs))
  (hst:starEach (e::es) X.env=(false,eval e X.env)::starEach es X.env:=by rfl) (hpl:(backTo pos (starEach es X.env)).any (·.1)=false:=by rfl)
  (ht:eval (.Call (.Attribute o m apos) (e::es) [] pos) X.env=(do
   let ov ← eval o X.env
   standAt apos.atName
   let (f,first) ← holding [ov] (getMethod ov m pl)
   callWith pos f first (backTo pos (starEach (e::es) X.env)) (backToKw pos (keywordEach [] X.env))):=by rfl) :
  PE X (.Call (.Attribute o m apos) (e::es) [] pos) (tE E (bD C m sem g fs)):=by
 refine(Ep he c hm F hr hb .nil O ha hst hpl ht).imp fun σ H Q q=>bJ (K:=j5 Q) j5.g q fun B H₀ Hs H1 env p v sr rp hp=>?_
 cases rp with
 | @obj a C' dx fl fvs ho hx =>
  obtain⟨⟨e1,hn⟩,Kb⟩:=ax.cJ hp
  subst e1
  refine⟨a,dx,fvs,rfl,sr.gr.sub _ _ ho,hx.none hn,B,H₀,Hs,env,sr,(ax.bind Kb).imp (fun ps' hps vs Hs' H' g' r=>?_) fun e he=>he⟩
  have r2:aK Hs' (.obj C' fl::ps') (V.ref a::(vs++[])):=by rw[List.append_nil];exact .cons ((Rep.obj ho hx).mono g'.st) r
  have hn:sem (.obj C' fl::ps')≠none:=fun z=>by rw[z] at hps;exact hps
  refine⟨by rw[← r2.length];exact hl _ hn,Hs',_,g'.sub,r2,hps.imp (fun z hz w Hs2 H2 g2 r2=>hz w Hs2 H2 (g'.trans g2) r2) fun e he=>he.grow g'⟩
 | _=>exact hp.elim
theorem CT{pl:Sem Bool}(he:PE X o (tE E g))(c:n5 X.K C)(hm:Meth X.K C m f)(F:aQ X.prog X.w X.K X.mg X.base (bV X.prog X.w) k f fd ps (dW n sem))(hr:cp k X.A)(hb:Binds X.K fd ps [])(O:e6 X E)(hl:∀ ps,sem ps≠none->ps.length=n)
  (ht:eval (.Call (.Attribute o m apos) [] [] pos) X.env=(do
   let ov ← eval o X.env
   standAt apos.atName
   let (f,first) ← holding [ov] (getMethod ov m pl)
   callWith pos f first (backTo pos (starEach [] X.env)) (backToKw pos (keywordEach [] X.env))):=by rfl) :
  PE X (.Call (.Attribute o m apos) [] [] pos) (tE E (bD C m sem g ak)):=by
 refine(AD he c hm F hr hb .nil O ht).imp fun σ H Q q=>bJ (K:=j5 Q) j5.g q fun B H₀ Hs H1 env p v sr rp hp=>?_
 cases rp with
 | @obj a C' dx fl fvs ho hx =>
  obtain⟨⟨e1,hn⟩,Kb⟩:=ax.cJ hp
  subst e1
  have r2:aK Hs [.obj C' fl] [V.ref a]:=.cons (Rep.obj ho hx) .nil
  have hn':sem [.obj C' fl]≠none:=fun z=>by
   have hp':ax (sem [.obj C' fl]) (dz Hs H1 Q) (XW (E σ) Hs H1):=Kb
   rw[z] at hp';exact hp'
  exact⟨a,dx,fvs,rfl,sr.gr.sub _ _ ho,hx.none hn,by rw[show ([]:List V)++[]=[] from rfl];exact r2.length▸hl _ hn',Hs,_,sr.gr.sub,r2,Kb⟩
 | _=>exact hp.elim
end
end L2
namespace L2
open PySem PySem.Spec PyProof.Rows
inductive Out where
 | nx (env:af) | rt (p:PV) | bk (env:af) | ct (env:af)
def KS(D:Ends)(B H₀:Hp):Out->Prop
 | .nx env=>∀ σ Hs H,SR B H₀ Hs H σ env->D.nx σ H
 | .rt p=>∀ v Hs H,bC B H₀ Hs H->Rep Hs p v->D.rt v H
 | .bk env=>∀ σ Hs H,SR B H₀ Hs H σ env->D.bk σ H
 | .ct env=>∀ σ Hs H,SR B H₀ Hs H σ env->D.ct σ H
def tS(E:XK)(f:af->M Out):TS:=fun D σ H=>∃ B H₀ Hs env,SR B H₀ Hs H σ env/\ax (f env) (KS D B H₀) (XW E B H₀)
theorem PS.imp{X:Cx}{st:Stmt}{t t':TS}(h:PS X st t)(i:∀ D σ H,t' D σ H->t D σ H):PS X st t':=fun pins s σ H D I q=>h pins s σ H D I (i D σ H q)
theorem l_.imp{X:Cx}{st:List Stmt}{t t':TS}(h:l_ X st t)(i:∀ D σ H,t' D σ H->t D σ H):l_ X st t':=fun pins s σ H D I q=>h pins s σ H D I (i D σ H q)
def ar:af->M Out:=fun env=>M.ok (.nx env)
def DP(g:af->M Out):Out->M Out
 | .nx env=>g env
 | o=>M.ok o
def ao(f g:af->M Out):af->M Out:=fun env=>(f env).bind (DP g)
theorem kn{E:XK}{f:af->M PV}{g:af->PV->M Out}{D:Ends}{σ:St}{H:Hp}{R:VK}(h:tS E (fun env=>(f env).bind (g env)) D σ H)
  (k:∀ B H₀ Hs H1 env p v,SR B H₀ Hs H1 σ env->Rep Hs p v->ax (g env p) (KS D B H₀) (XW E B H₀)->R v H1):tE (fun _=>E) f σ H R:=by
 obtain⟨B,H₀,Hs,env,sr,h⟩:=h
 refine⟨B,H₀,Hs,env,sr,(ax.bind h).imp (fun p hp v Hs' H' g r=>?_) fun e he=>he.grow sr.gr⟩
 exact k B H₀ Hs' H' env p v (sr.grow g) r hp
theorem DM{E:XK}{f:af->M Bool}{g:af->Bool->M Out}{D:Ends}{σ:St}{H:Hp}{R:Bool->Hp->Prop}(h:tS E (fun env=>(f env).bind (g env)) D σ H)
  (k:∀ B H₀ Hs H1 env p,SR B H₀ Hs H1 σ env->ax (g env p) (KS D B H₀) (XW E B H₀)->R p H1):tT (fun _=>E) f σ H R:=by
 obtain⟨B,H₀,Hs,env,sr,h⟩:=h
 refine⟨B,H₀,Hs,env,sr,(ax.bind h).imp (fun p hp Hs' H' g=>?_) fun e he=>he.grow sr.gr⟩
 exact k B H₀ Hs' H' env p (sr.grow g) hp
theorem qG{E:XK}{f:af->M (List PV)}{g:af->List PV->M Out}{D:Ends}{σ:St}{H:Hp}{R:List V->Hp->Prop}(h:tS E (fun env=>(f env).bind (g env)) D σ H)
  (k:∀ B H₀ Hs H1 env p v,SR B H₀ Hs H1 σ env->aK Hs p v->ax (g env p) (KS D B H₀) (XW E B H₀)->R v H1):tL (fun _=>E) f σ H R:=by
 obtain⟨B,H₀,Hs,env,sr,h⟩:=h
 refine⟨B,H₀,Hs,env,sr,(ax.bind h).imp (fun p hp v Hs' H' g r=>?_) fun e he=>he.grow sr.gr⟩
 exact k B H₀ Hs' H' env p v (sr.grow g) r hp
theorem SR.set{B H₀ Hs H:Hp}{σ:St}{env:af}{p:PV}{v:V}{i:Nat}(r:SR B H₀ Hs H σ env)(h:Rep Hs p v):SR B H₀ Hs H (σ.set i (some v)) (env.set i (some (.sh p))) where
 gr:=r.gr
 len:=by rw[List.length_set,List.length_set];exact r.len
 sh:=fun j q e=>by
  rw[List.getElem?_set] at e ⊢
  by_cases z:i=j
  ·subst z
   rw[if_pos rfl] at e ⊢
   split at e
   ·cases e
    rw[if_pos (by rw[r.len];assumption)]
    exact⟨v,rfl,h⟩
   ·cases e
  ·rw[if_neg z] at e ⊢
   exact r.sh j q e
 ow:=fun j xs e=>by
  rw[List.getElem?_set] at e ⊢
  by_cases z:i=j
  ·subst z
   rw[if_pos rfl] at e
   split at e <;> cases e
  ·rw[if_neg z] at e ⊢
   exact r.ow j xs e
 sep:=fun j k xs ys a n e1 e2 e3 e4=>by
  rw[List.getElem?_set] at e1 e2 e3 e4
  by_cases z:i=j
  ·subst z
   rw[if_pos rfl] at e1
   split at e1 <;> cases e1
  ·by_cases z2:i=k
   ·subst z2
    rw[if_pos rfl] at e2
    split at e2 <;> cases e2
   ·rw[if_neg z] at e1 e3
    rw[if_neg z2] at e2 e4
    exact r.sep j k xs ys a n e1 e2 e3 e4
 bd:=fun j a C fs e=>by
  rw[List.getElem?_set] at e ⊢
  by_cases z:i=j
  ·subst z
   rw[if_pos rfl] at e
   split at e <;> cases e
  ·rw[if_neg z] at e ⊢
   exact r.bd j a C fs e
 one:=fun j k a b C D fs gs e1 e2=>by
  rw[List.getElem?_set] at e1 e2
  by_cases z:i=j
  ·subst z
   rw[if_pos rfl] at e1
   split at e1 <;> cases e1
  ·by_cases z2:i=k
   ·subst z2
    rw[if_pos rfl] at e2
    split at e2 <;> cases e2
   ·rw[if_neg z] at e1
    rw[if_neg z2] at e2
    exact r.one j k _ _ C D fs gs e1 e2
theorem SR.own{B H₀ Hs H:Hp}{σ:St}{env:af}{xs:List PV}{vs:List V}{i:Nat}{p:Addr}(r:SR B H₀ Hs H σ env)(h:aK Hs xs vs)(n:H p=none):SR B H₀ Hs (upd H p (.lst vs)) (σ.set i (some (.ref p))) (env.set i (some (.ow xs))):=by
 have ne:∀ c u,H c=some u->c≠p:=fun c u e z=>by rw[z,n] at e;cases e
 have hs:Hs p=none:=by
  cases q:Hs p with
  | none=>rfl
  | some o=>have:=r.gr.sub _ _ q;rw[n] at this;cases this
 have h0:H₀ p=none:=by
  cases q:H₀ p with
  | none=>rfl
  | some o=>have:=r.gr.al _ _ q;rw[n] at this;cases this
 refine⟨⟨r.gr.st,fun c u e=>by rw[au (ne c u (r.gr.al c u e))];exact r.gr.al c u e,fun c u e=>by rw[au (ne c u (r.gr.sub c u e))];exact r.gr.sub c u e,r.gr.nw⟩,by rw[List.length_set,List.length_set];exact r.len,fun j q e=>?_,fun j ys e=>?_,fun j k ys zs a nj e1 e2 e3 e4=>?_,fun j ba C fs e=>?_,fun j k _ _ C D fs gs e1 e2=>?_⟩
 ·rw[List.getElem?_set] at e ⊢
  by_cases z:i=j
  ·subst z
   rw[if_pos rfl] at e
   split at e <;> cases e
  ·rw[if_neg z] at e ⊢
   exact r.sh j q e
 ·rw[List.getElem?_set] at e ⊢
  by_cases z:i=j
  ·subst z
   rw[if_pos rfl] at e ⊢
   split at e
   ·cases e
    rw[if_pos (by rw[r.len];assumption)]
    exact⟨p,vs,rfl,aC,hs,h0,h⟩
   ·cases e
  ·rw[if_neg z] at e ⊢
   obtain⟨a,us,h1,h2,h3,h4,h5⟩:=r.ow j ys e
   exact⟨a,us,h1,by rw[au (ne a _ h2)];exact h2,h3,h4,h5⟩
 ·rw[List.getElem?_set] at e1 e2 e3 e4
  by_cases z:i=j
  ·subst z
   rw[if_pos rfl] at e3
   split at e3
   ·cases e3
    rw[if_neg nj] at e2 e4
    obtain⟨a',us,h1,h2,_⟩:=r.ow k zs e2
    rw[e4] at h1;cases h1
    rw[n] at h2;cases h2
   ·cases e3
  ·rw[if_neg z] at e1 e3
   by_cases z2:i=k
   ·subst z2
    rw[if_pos rfl] at e4
    split at e4
    ·cases e4
     obtain⟨a',us,h1,h2,_⟩:=r.ow j ys e1
     rw[e3] at h1;cases h1
     rw[n] at h2;cases h2
    ·cases e4
   ·rw[if_neg z2] at e2 e4
    exact r.sep j k ys zs a nj e1 e2 e3 e4
 ·rw[List.getElem?_set] at e ⊢
  by_cases z:i=j
  ·subst z
   rw[if_pos rfl] at e
   split at e <;> cases e
  ·rw[if_neg z] at e ⊢
   obtain⟨dx,us,h1,h2,h3,h4,h5⟩:=r.bd j ba C fs e
   exact⟨dx,us,h1,by rw[au (ne ba _ h2)];exact h2,h3,h4,h5⟩
 ·rw[List.getElem?_set] at e1 e2
  by_cases z:i=j
  ·subst z
   rw[if_pos rfl] at e1
   split at e1 <;> cases e1
  ·by_cases z2:i=k
   ·subst z2
    rw[if_pos rfl] at e2
    split at e2 <;> cases e2
   ·rw[if_neg z] at e1
    rw[if_neg z2] at e2
    exact r.one j k _ _ C D fs gs e1 e2
def rS(i:Nat)(env:af):af:=match env[i]? with
 | some (some (.ow xs))=>env.set i (some (.sh (.lst xs)))
 | _=>env
theorem SR.sI{B H₀ Hs H:Hp}{σ:St}{env:af}(i:Nat)(r:SR B H₀ Hs H σ env):∃ Hs',SR B H₀ Hs' H σ (rS i env)/\a_ Hs Hs':=by
 unfold rS
 split
 ·rename_i xs e
  obtain⟨a,vs,h1,h2,h3,h4,h5⟩:=r.ow i xs e
  have ne:∀ c u,Hs c=some u->c≠a:=fun c u q z=>by rw[z,h3] at q;cases q
  have hst:a_ Hs (upd Hs a (.lst vs)):=fun c u q=>by rw[au (ne c u q)];exact q
  refine⟨upd Hs a (.lst vs),⟨⟨fun c u q=>hst c u (r.gr.st c u q),r.gr.al,fun c u q=>?_,fun c u q1 q2=>?_⟩,by rw[List.length_set];exact r.len,fun j q ej=>?_,fun j ys ej=>?_,fun j k ys zs b nj e1 e2 e3 e4=>?_,fun j ba C fs ej=>?_,fun j k _ _ C D fs gs e1 e2=>?_⟩,hst⟩
  ·by_cases z:c=a
   ·subst z;rw[aC] at q;cases q;exact h2
   ·rw[au z] at q;exact r.gr.sub c u q
  ·have z:c≠a:=fun z=>by rw[z,h4] at q2;cases q2
   rw[au z];exact r.gr.nw c u q1 q2
  ·rw[List.getElem?_set] at ej
   by_cases z:i=j
   ·subst z
    rw[if_pos rfl] at ej
    split at ej
    ·cases ej
     exact⟨.ref a,h1,.lst aC (h5.mono hst)⟩
    ·cases ej
   ·rw[if_neg z] at ej
    obtain⟨v,q1,q2⟩:=r.sh j q ej
    exact⟨v,q1,q2.mono hst⟩
  ·rw[List.getElem?_set] at ej
   by_cases z:i=j
   ·subst z
    rw[if_pos rfl] at ej
    split at ej <;> cases ej
   ·rw[if_neg z] at ej
    obtain⟨b,us,q1,q2,q3,q4,q5⟩:=r.ow j ys ej
    have nb:b≠a:=fun w=>by subst w;exact r.sep i j xs ys b z e ej h1 q1
    exact⟨b,us,q1,q2,by rw[au nb];exact q3,q4,q5.mono hst⟩
  ·rw[List.getElem?_set] at e1 e2
   by_cases z:i=j
   ·subst z
    rw[if_pos rfl] at e1
    split at e1 <;> cases e1
   ·by_cases z2:i=k
    ·subst z2
     rw[if_pos rfl] at e2
     split at e2 <;> cases e2
    ·rw[if_neg z] at e1
     rw[if_neg z2] at e2
     exact r.sep j k ys zs b nj e1 e2 e3 e4
  ·rw[List.getElem?_set] at ej
   by_cases z:i=j
   ·subst z
    rw[if_pos rfl] at ej
    split at ej <;> cases ej
   ·rw[if_neg z] at ej
    obtain⟨dx,us,q1,q2,q3,q4,q5⟩:=r.bd j ba C fs ej
    have nb:ba≠a:=fun w=>by subst w;rw[h2] at q2;cases q2
    exact⟨dx,us,q1,q2,by rw[au nb];exact q3,q4,q5.mono hst⟩
  ·rw[List.getElem?_set] at e1 e2
   by_cases z:i=j
   ·subst z
    rw[if_pos rfl] at e1
    split at e1 <;> cases e1
   ·by_cases z2:i=k
    ·subst z2
     rw[if_pos rfl] at e2
     split at e2 <;> cases e2
    ·rw[if_neg z] at e1
     rw[if_neg z2] at e2
     exact r.one j k _ _ C D fs gs e1 e2
 ·exact⟨Hs,r,fun _ _ q=>q⟩
def sE(is:List Nat)(f:af->M Out):af->M Out:=fun env=>f (is.foldl (fun e i=>rS i e) env)
theorem SR.l9{B H₀ H:Hp}{σ:St}:∀ {is:List Nat} {Hs:Hp} {env:af},SR B H₀ Hs H σ env->∃ Hs',SR B H₀ Hs' H σ (is.foldl (fun e i=>rS i e) env)/\a_ Hs Hs'
 | [],Hs,_,r=>⟨Hs,r,fun _ _ q=>q⟩
 | i::is,_,_,r=>by
  obtain⟨Hs1,r1,s1⟩:=r.sI i
  obtain⟨Hs2,r2,s2⟩:=SR.l9 (is:=is) r1
  exact⟨Hs2,r2,fun c u q=>s2 c u (s1 c u q)⟩
section
variable{X:Cx}{E:XK}{e:Expr}{pos pos':Pos}{f:af->M PV}{st:Stmt}{sts rest:List Stmt}{u:af->M Bool}{g h:af->M Out}{i:Nat}{x:Str}
theorem JX(is:List Nat)(hs:PS X st (tS E g)):PS X st (tS E (sE is g)):=hs.imp fun D σ H q=>by
 obtain⟨B,H₀,Hs,env,sr,q⟩:=q
 obtain⟨Hs',r,_⟩:=sr.l9 (is:=is)
 exact⟨B,H₀,Hs',_,r,q⟩
theorem EW:l_ X [] (tS E ar):=zM.imp fun D σ H q=>by
 obtain⟨B,H₀,Hs,env,sr,q⟩:=q
 exact q σ Hs H sr
theorem Ex(h1:PS X st (tS E g))(h2:l_ X rest (tS E h)):l_ X (st::rest) (tS E (ao g h)):=by
 refine(wX h1 h2).imp fun D σ H q=>?_
 obtain⟨B,H₀,Hs,env,sr,q⟩:=q
 refine⟨B,H₀,Hs,env,sr,(ax.bind q).imp (fun o ho=>?_) fun e he=>he⟩
 cases o with
 | nx env'=>exact fun σ' Hs' H' sr'=>⟨B,H₀,Hs',env',sr',ho⟩
 | rt p=>exact ho
 | bk env'=>exact ho
 | ct env'=>exact ho
def aW(i:Nat)(f:af->M PV):af->M Out:=fun env=>(f env).bind fun p=>M.ok (.nx (env.set i (some (.sh p))))
theorem Ig{pos':Pos}(hN:X.N.Nodup)(hi:X.N[i]?=some x)(hx:Loc X.env.scope x)(he:PE X e (tE (fun _=>E) f))(hs:swapsWith e (some (.Name x pos')) pos.line X.env=pure false:=by rfl)(hf:X.fn x=true\/X.env.scope.names.lookup x=some .local:=by first | exact .inl rfl | exact .inr rfl | assumption) :
  PS X (.Assign [.Name x pos'] e pos) (tS E (aW i f)) :=
 (Co hN hi hx he hs hf).imp fun D σ H q=>kn q fun B H₀ Hs H1 env p v sr rp hp=>hp _ Hs H1 (sr.set rp)
def retS(f:af->M PV):af->M Out:=fun env=>(f env).bind fun p=>M.ok (.rt p)
theorem Hv(he:PE X e (tE (fun _=>E) f)):PS X (.Return (some e) pos) (tS E (retS f)) :=
 (HI he).imp fun D σ H q=>kn q fun B H₀ Hs H1 env p v sr rp hp=>hp v Hs H1 sr.gr rp
def kP(f:af->M PV):af->M Out:=fun env=>(f env).bind fun _=>M.ok (.nx env)
theorem EG(he:PE X e (tE (fun _=>E) f))(hs:swapsWith e none pos.line X.env=pure false:=by rfl):PS X (.Expr e pos) (tS E (kP f)) :=
 (ur he hs).imp fun D σ H q=>kn q fun B H₀ Hs H1 env p v sr rp hp=>hp σ Hs H1 sr
def mz(u:af->M Bool)(g h:af->M Out):af->M Out:=fun env=>(u env).bind fun b=>if b=true then g env else h env
theorem LM{c:Expr}{a b:List Stmt}(hc:PT X c (tT (fun _=>E) u))(ha:l_ X a (tS E g))(hb:l_ X b (tS E h)):PS X (.If c a b pos) (tS E (mz u g h)):=by
 refine(Ke hc ha hb).imp fun D σ H q=>DM q fun B H₀ Hs H1 env p sr hp=>?_
 cases p with
 | true=>exact⟨B,H₀,Hs,env,sr,hp⟩
 | false=>exact⟨B,H₀,Hs,env,sr,hp⟩
end
end L2
namespace L2
open PySem PySem.Spec PyProof.Rows
def ov(Hs H₀:Hp):Hp:=fun a=>match Hs a with
 | some o=>some o
 | none=>H₀ a
theorem pF{Hs H₀:Hp}{a:Addr}{o:HO}(h:Hs a=some o):ov Hs H₀ a=some o:=by unfold ov;rw[h]
theorem jS{Hs H₀:Hp}{a:Addr}(h:Hs a=none):ov Hs H₀ a=H₀ a:=by unfold ov;rw[h]
theorem Gu{Hs H₀ H:Hp}(s:a_ Hs H)(t:a_ H₀ H):a_ (ov Hs H₀) H:=fun a o e=>by
 cases q:Hs a with
 | some o'=>rw[pF q] at e;cases e;exact s _ _ q
 | none=>rw[jS q] at e;exact t _ _ e
theorem SR.rebase{B H₀ Hs H:Hp}{σ:St}{env:af}(r:SR B H₀ Hs H σ env):SR Hs (ov Hs H₀) Hs H σ env where
 gr:=⟨fun _ _ e=>e,Gu r.gr.sub r.gr.al,r.gr.sub,fun _ _ e _=>e⟩
 len:=r.len
 sh:=r.sh
 ow:=fun i xs e=>let ⟨a,vs,h1,h2,h3,h4,h5⟩:=r.ow i xs e;⟨a,vs,h1,h2,h3,by rw[jS h3];exact h4,h5⟩
 sep:=r.sep
 bd:=fun i a C fs e=>let ⟨dx,vs,h1,h2,h3,h4,h5⟩:=r.bd i a C fs e;⟨dx,vs,h1,h2,h3,by rw[jS h3];exact h4,h5⟩
 one:=r.one
theorem bC.mf{B H₀ Hs H Hs2 H2:Hp}(g:bC B H₀ Hs H)(g2:bC Hs (ov Hs H₀) Hs2 H2):bC B H₀ Hs2 H2 where
 st:=fun a o e=>g2.st a o (g.st a o e)
 al:=fun a o e=>by
  cases q:Hs a with
  | some o' =>
   have h1:=g.sub a o' q
   have h2:=g.al a o e
   rw[h1] at h2;cases h2
   exact g2.al a _ (pF q)
  | none=>exact g2.al a o (by rw[jS q];exact e)
 sub:=g2.sub
 nw:=fun a o e q=>by
  have h1:=g.nw a o e q
  exact g2.nw a o h1 (by rw[jS h1];exact q)
theorem SR.mf{B H₀ Hs H Hs2 H2:Hp}{σ:St}{env:af}(g:bC B H₀ Hs H)(r:SR Hs (ov Hs H₀) Hs2 H2 σ env):SR B H₀ Hs2 H2 σ env where
 gr:=g.mf r.gr
 len:=r.len
 sh:=r.sh
 ow:=fun i xs e=>by
  obtain⟨a,vs,h1,h2,h3,h4,h5⟩:=r.ow i xs e
  refine⟨a,vs,h1,h2,h3,?_,h5⟩
  cases q:Hs a with
  | some o=>rw[pF q] at h4;cases h4
  | none=>rw[jS q] at h4;exact h4
 sep:=r.sep
 bd:=fun i a C fs e=>by
  obtain⟨dx,vs,h1,h2,h3,h4,h5⟩:=r.bd i a C fs e
  refine⟨dx,vs,h1,h2,h3,?_,h5⟩
  cases q:Hs a with
  | some o=>rw[pF q] at h4;cases h4
  | none=>rw[jS q] at h4;exact h4
 one:=r.one
theorem XW.rebase{E:XK}{B H₀ Hs H:Hp}(g:bC B H₀ Hs H){x:EX}(h:XW E B H₀ x):XW E Hs (ov Hs H₀) x:=fun ea Hs2 H2 r q=>h ea Hs2 H2 (g.mf r) q
def Lm(k:af->M Out):Out->M Out
 | .nx env=>k env
 | .ct env=>k env
 | .bk env=>M.ok (.nx env)
 | .rt p=>M.ok (.rt p)
def kK(set:PV->af->M af)(body:af->M Out):List PV->af->M Out
 | [],env=>M.ok (.nx env)
 | x::xs,env=>(set x env).bind fun env'=>(body env').bind (Lm (kK set body xs))
def GK(E:XK)(g:TG)(set:PV->af->M af):Prop:=∀ (B H₀ Hs H:Hp) (σ:St) (env:af) (p:PV) (v:V) (Q:St->Hp->Prop) (Z:EX->Prop),SR B H₀ Hs H σ env->Rep Hs p v->ax (set p env) (fun env'=>∀ σ',SR B H₀ Hs H σ' env'->Q σ' H) Z->g v σ H Q
def cH(i:Nat)(p:PV)(env:af):M af:=M.ok (env.set i (some (.sh p)))
theorem bw{E:XK}{i:Nat}:GK E (aG i) (cH i):=fun B H₀ Hs H σ env p v Q Z sr r h=>h _ (sr.set r)
def bA(i j:Nat):PV->af->M af
 | .tup [p,q],env=>M.ok ((env.set i (some (.sh p))).set j (some (.sh q)))
 | _,_=>none
theorem bX{E:XK}{K:PySem.W.Frag}{i j:Nat}:GK E (h9 K 2 (aY (aG i) (aY (aG j) hZ))) (bA i j):=by
 intro B H₀ Hs H σ env p v Q Z sr r h
 cases r with
 | @tup a xs vs ha hx =>
  match xs,hx with
  | [p,q],hx =>
   obtain⟨v,u,rfl,rp,rq⟩:=hx.two
   exact⟨a,[v,u],rfl,gU.of (sr.gr.sub _ _ ha),rfl,v,[u],rfl,u,[],rfl,rfl,h _ ((sr.set rp).set rq)⟩
  | [],_=>exact h.elim
  | [_],_=>exact h.elim
  | _::_::_::_,_=>exact h.elim
 | _=>exact h.elim
section
variable{E:XK}{g:TG}{set:PV->af->M af}{body:af->M Out}{D:Ends}{B H₀ Hs1:Hp}{xs:List PV}
def Jv(E:XK)(set:PV->af->M af)(body:af->M Out)(D:Ends)(B H₀ Hs1:Hp)(xs:List PV)(i:Nat)(σ:St)(H:Hp):Prop:=∃ Hs env,SR B H₀ Hs H σ env/\a_ Hs1 Hs/\ax (kK set body (xs.drop i) env) (KS D B H₀) (XW E B H₀)
theorem Jv.done{n:Nat}{σ:St}{H:Hp}(j:Jv E set body D B H₀ Hs1 xs n σ H)(hn:xs.length<=n):D.nx σ H:=by
 obtain⟨Hs,env,sr,_,h⟩:=j
 rw[List.drop_eq_nil_of_le hn] at h
 exact h σ Hs H sr
theorem Jv.turn{i:Nat}{σ:St}{H H1 Hx:Hp}{x:PV}{v:V}(tg:GK E g set)(hx:xs[i]?=some x){Hs:Hp}{env:af}(sr:SR B H₀ Hs H σ env)(s1:a_ Hs1 Hs)(h:ax (kK set body (xs.drop i) env) (KS D B H₀) (XW E B H₀)){Hs2 H2:Hp}(gr:bC Hs H Hs2 H2)(rv:Rep Hs2 x v) :
  g v σ H2 fun σ2 H3=>tS E body { D with nx:=Jv E set body D B H₀ Hs1 xs (i+1),ct:=Jv E set body D B H₀ Hs1 xs (i+1),bk:=D.nx } σ2 H3:=by
 have hlt:i<xs.length:=(List.getElem?_eq_some_iff.mp hx).1
 have hd:xs.drop i=x::xs.drop (i+1):=by
  rw[List.drop_eq_getElem_cons hlt]
  rw[List.getElem?_eq_getElem hlt] at hx
  rw[Option.some.inj hx]
 rw[hd] at h
 have sr2:=sr.grow gr
 refine tg B H₀ Hs2 H2 σ env x v _ _ sr2 rv ((ax.bind h).imp (fun env' h' σ' sr'=>?_) fun _ z=>z)
 refine⟨Hs2,ov Hs2 H₀,Hs2,env',sr'.rebase,(ax.bind h').imp (fun o ho=>?_) fun e he=>he.rebase sr'.gr⟩
 cases o with
 | nx e2=>exact fun σ3 Hs3 H3 r=>⟨Hs3,e2,r.mf sr'.gr,fun a o z=>r.gr.st a o (gr.st a o (s1 a o z)),ho⟩
 | ct e2=>exact fun σ3 Hs3 H3 r=>⟨Hs3,e2,r.mf sr'.gr,fun a o z=>r.gr.st a o (gr.st a o (s1 a o z)),ho⟩
 | bk e2=>exact fun σ3 Hs3 H3 r=>ho σ3 Hs3 H3 (r.mf sr'.gr)
 | rt p=>exact fun v3 Hs3 H3 r q=>ho v3 Hs3 H3 (sr'.gr.mf r) q
end
def jb(it:af->M (List PV))(set:PV->af->M af)(body:af->M Out):af->M Out:=fun env=>(it env).bind fun xs=>kK set body xs env
def itemsOf(f:af->M PV):af->M (List PV):=fun env=>(f env).bind fun p=>match cy p with | some xs=>M.ok xs | none=>none
theorem lh{K:PySem.W.Frag}{Hs H:Hp}{p:PV}{v:V}{xs:List PV}(s:a_ Hs H)(r:Rep Hs p v)(e:cy p=some xs):∃ b a vs,v=.ref a/\(∀ Hs' H',a_ Hs Hs'->a_ Hs' H'->lH K H' b a vs)/\aK Hs xs vs:=by
 cases r with
 | tup h r=>cases e;exact⟨false,_,_,rfl,fun Hs' H' s1 s2=>gU.of (s2 _ _ (s1 _ _ h)),r⟩
 | lst h r=>cases e;exact⟨true,_,_,rfl,fun Hs' H' s1 s2=>i4.of (s2 _ _ (s1 _ _ h)),r⟩
 | kS h r=>cases e;exact⟨true,_,_,rfl,fun Hs' H' s1 s2=>.inl (.inr ⟨_,s2 _ _ (s1 _ _ h)⟩),r⟩
 | _=>cases e
section
variable{X:Cx}{E:XK}{tg iter:Expr}{pos p:Pos}{f f2:af->M PV}{g:TG}{set:PV->af->M af}{body:af->M Out}{bd:List Stmt}
end
end L2
namespace L2
open PySem PySem.Spec PyProof.Rows
def Qd:PV->M (List PV)
 | .int n=>cJ (-(2^62)<=n/\n<2^62) (M.ok ((List.range n.toNat).map fun (i:Nat)=>.int (0+(i:Int))))
 | _=>none
def MY:PV->PV->M (List PV)
 | .int a,.int b=>cJ (-(2^62)<=a/\a<2^62/\-(2^62)<=b/\b<2^62) (M.ok ((List.range (b-a).toNat).map fun (i:Nat)=>.int (a+(i:Int))))
 | _,_=>none
def sU:List PV->M (List PV)
 | [p]=>Qd p
 | _=>none
def AF:List PV->M (List PV)
 | [p,q]=>MY p q
 | _=>none
theorem AG{ps:List PV}{α:Type}{k:List PV->M α}{Q:α->Prop}{Z:EX->Prop}(h:ax ((sU ps).bind k) Q Z):∃ n:Int,ps=[.int n]/\-(2^62)<=n/\n<2^62/\ax (k ((List.range n.toNat).map fun (i:Nat)=>.int (0+(i:Int)))) Q Z:=by
 match ps with
 | []=>exact h.elim
 | _::_::_=>exact h.elim
 | [p] =>
  cases p with
  | int n =>
   obtain⟨hc,h⟩:=ax.cJ (ax.bind h)
   exact⟨n,rfl,hc.1,hc.2,h⟩
  | _=>exact h.elim
theorem A5{ps:List PV}{α:Type}{k:List PV->M α}{Q:α->Prop}{Z:EX->Prop}(h:ax ((AF ps).bind k) Q Z):∃ a b:Int,ps=[.int a,.int b]/\(-(2^62)<=a/\a<2^62/\-(2^62)<=b/\b<2^62)/\ax (k ((List.range (b-a).toNat).map fun (i:Nat)=>.int (a+(i:Int)))) Q Z:=by
 match ps with
 | []=>exact h.elim
 | [_]=>exact h.elim
 | _::_::_::_=>exact h.elim
 | [p,q] =>
  cases p with
  | int a=>cases q with
   | int b =>
    obtain⟨hc,h⟩:=ax.cJ (ax.bind h)
    exact⟨a,b,rfl,hc,h⟩
   | _=>exact h.elim
  | _=>exact h.elim
def zip2:List PV->M (List PV)
 | [p,q]=>match cy p,cy q with
  | some xs,some ys=>M.ok (List.zipWith (fun a b=>.tup [a,b]) xs ys)
  | _,_=>none
 | _=>none
theorem Bn{ps:List PV}{α:Type}{k:List PV->M α}{Q:α->Prop}{Z:EX->Prop}(h:ax ((zip2 ps).bind k) Q Z):∃ p q xs ys,ps=[p,q]/\cy p=some xs/\cy q=some ys/\ax (k (List.zipWith (fun a b=>.tup [a,b]) xs ys)) Q Z:=by
 match ps with
 | []=>exact h.elim
 | [_]=>exact h.elim
 | _::_::_::_=>exact h.elim
 | [p,q] =>
  unfold zip2 at h
  dsimp only at h
  cases e1:cy p with
  | none=>rw[e1] at h;exact h.elim
  | some xs =>
   cases e2:cy q with
   | none=>rw[e1,e2] at h;exact h.elim
   | some ys=>rw[e1,e2] at h;exact⟨p,q,xs,ys,rfl,e1,e2,h⟩
theorem Bw{n i:Nat}{f:Nat->PV}(h:i<n):((List.range n).map f)[i]?=some (f i):=by
 rw[List.getElem?_map,List.getElem?_range h];rfl
section
variable{X:Cx}{E:XK}{tg a b l l1 l2:Expr}{pos p tp:Pos}{fs:af->M (List PV)}{g:TG}{set:PV->af->M af}{body:af->M Out}{bd:List Stmt}
end
def KO(Q:VK):Hp->Hp->List PV->Prop:=fun Hs H ps=>∀ vs p Hs' H',bC Hs H Hs' H'->aK Hs' ps vs->H' p=none->Q (.ref p) (upd H' p (.lst vs))
def tO(E:St->XK)(f:af->M (List PV)):TE:=fun σ H Q=>tG E f (KO Q) σ H
section
variable{X:Cx}{E:XK}{e:Expr}{es:List Expr}{pos pos':Pos}{fs:af->M (List PV)}{f:af->M PV}{i:Nat}{x:Str}
def r0(i:Nat)(f:af->M (List PV)):af->M Out:=fun env=>(f env).bind fun ps=>M.ok (.nx (env.set i (some (.ow ps))))
theorem Fi{pos':Pos}(hN:X.N.Nodup)(hi:X.N[i]?=some x)(hx:Loc X.env.scope x)(he:PE X e (tO (fun _=>E) fs))(hs:swapsWith e (some (.Name x pos')) pos.line X.env=pure false:=by rfl)(hf:X.fn x=true\/X.env.scope.names.lookup x=some .local:=by first | exact .inl rfl | exact .inr rfl | assumption) :
  PS X (.Assign [.Name x pos'] e pos) (tS E (r0 i fs)):=by
 refine(Co hN hi hx he hs hf).imp fun D σ H q=>?_
 obtain⟨B,H₀,Hs,env,sr,q⟩:=q
 refine⟨B,H₀,Hs,env,sr,(ax.bind q).imp (fun ps hp vs p Hs' H' g r n=>?_) fun e he=>he.grow sr.gr⟩
 exact hp _ Hs' _ ((sr.grow g).own r n)
def lZ(fs:af->M (List PV)):af->M (List PV):=fun env=>(fs env).bind fun ps=>if ps.length<=sizeLine then M.ok ps else none
theorem JV{E:St->XK}(hr:PA X es (tL E fs)):PE X (.List es pos) (tO E (lZ fs)):=by
 refine(BC hr).imp fun σ H Q q=>?_
 obtain⟨B,H₀,Hs,env,sr,q⟩:=q
 refine⟨B,H₀,Hs,env,sr,(ax.bind q).imp (fun ps hp vs Hs' H' g r=>?_) fun e he=>he⟩
 by_cases hz:ps.length<=sizeLine
 ·rw[if_pos hz] at hp
  exact⟨by rw[← r.length];exact hz,fun p n=>hp vs p Hs' H' g r n⟩
 ·rw[if_neg hz] at hp;exact hp.elim
def pB(i:Nat)(f:af->M PV):af->M Out:=fun env=>match env[i]? with
 | some (some (.ow xs))=>(f env).bind fun p=>if xs.length<sizeLine then M.ok (.nx (env.set i (some (.ow (xs++[p]))))) else none
 | _=>none
theorem SR.put{B H₀ Hs H:Hp}{σ:St}{env:af}{i:Nat}{a:Addr}{xs ys:List PV}{us:List V}(r:SR B H₀ Hs H σ env)(e:env[i]?=some (some (.ow xs)))(hi:σ[i]?=some (some (.ref a)))(h:aK Hs ys us):SR B H₀ Hs (upd H a (.lst us)) σ (env.set i (some (.ow ys))):=by
 obtain⟨a',vs,h1,h2,h3,h4,h5⟩:=r.ow i xs e
 rw[hi] at h1;cases h1
 have nS:∀ c u,Hs c=some u->c≠a:=fun c u q z=>by rw[z,h3] at q;cases q
 have n0:∀ c u,H₀ c=some u->c≠a:=fun c u q z=>by rw[z,h4] at q;cases q
 refine⟨⟨r.gr.st,fun c u q=>by rw[au (n0 c u q)];exact r.gr.al c u q,fun c u q=>by rw[au (nS c u q)];exact r.gr.sub c u q,r.gr.nw⟩,by rw[List.length_set];exact r.len,fun j q ej=>?_,fun j zs ej=>?_,fun j k y1 y2 b nj e1 e2 e3 e4=>?_,fun j ba C fs ej=>?_,fun j k _ _ C D fs gs e1 e2=>?_⟩
 ·rw[List.getElem?_set] at ej
  by_cases z:i=j
  ·subst z
   rw[if_pos rfl] at ej
   split at ej <;> cases ej
  ·rw[if_neg z] at ej;exact r.sh j q ej
 ·rw[List.getElem?_set] at ej
  by_cases z:i=j
  ·subst z
   rw[if_pos rfl] at ej
   split at ej
   ·cases ej;exact⟨a,us,hi,aC,h3,h4,h⟩
   ·cases ej
  ·rw[if_neg z] at ej
   obtain⟨b,ws,q1,q2,q3,q4,q5⟩:=r.ow j zs ej
   have nb:b≠a:=fun w=>by subst w;exact r.sep i j xs zs b z e ej hi q1
   exact⟨b,ws,q1,by rw[au nb];exact q2,q3,q4,q5⟩
 ·have o1:∃ w,env[j]?=some (some (.ow w)):=by
   rw[List.getElem?_set] at e1
   by_cases z:i=j
   ·subst z;exact⟨xs,e⟩
   ·rw[if_neg z] at e1;exact⟨_,e1⟩
  have o2:∃ w,env[k]?=some (some (.ow w)):=by
   rw[List.getElem?_set] at e2
   by_cases z:i=k
   ·subst z;exact⟨xs,e⟩
   ·rw[if_neg z] at e2;exact⟨_,e2⟩
  obtain⟨w1,o1⟩:=o1
  obtain⟨w2,o2⟩:=o2
  exact r.sep j k w1 w2 b nj o1 o2 e3 e4
 ·rw[List.getElem?_set] at ej
  by_cases z:i=j
  ·subst z
   rw[if_pos rfl] at ej
   split at ej <;> cases ej
  ·rw[if_neg z] at ej
   obtain⟨dx,ws,q1,q2,q3,q4,q5⟩:=r.bd j ba C fs ej
   have nb:ba≠a:=fun w=>by subst w;rw[h2] at q2;cases q2
   exact⟨dx,ws,q1,by rw[au nb];exact q2,q3,q4,q5⟩
 ·rw[List.getElem?_set] at e1 e2
  by_cases z:i=j
  ·subst z
   rw[if_pos rfl] at e1
   split at e1 <;> cases e1
  ·by_cases z2:i=k
   ·subst z2
    rw[if_pos rfl] at e2
    split at e2 <;> cases e2
   ·rw[if_neg z] at e1
    rw[if_neg z2] at e2
    exact r.one j k _ _ C D fs gs e1 e2
theorem Bz{apos cpos px:Pos}(hi:X.N[i]?=some x)(hv:Ez X.env.scope x)(he:PE X e (tE (fun _=>E) f))(hd:(x==("__debug__" : Str))=false:=by decide)(hcd:(x==("__classdict__" : Str))=false:=by decide)
  (hbase:attributeBase (.Name x px) "append" X.env (eval (.Name x px) X.env)=eval (.Name x px) X.env:=by rfl)
  (hfew:((backTo cpos (starEach [e] X.env)).all (fun x=>!x.1)&&(backToKw cpos (keywordEach [] X.env)).all (fun x=>x.1.isSome)
   && decide (([e]:List Expr).length+([]:List Keyword).length+(if ([]:List Keyword).isEmpty then 0 else 1)<30))=true:=by rfl)
  (hline:(apos.endLine==cpos.line)=true:=by rfl) (hst:starEach [e] X.env=(false,eval e X.env)::starEach [] X.env:=by rfl) (hplain:(backTo cpos (starEach [] X.env)).any (·.1)=false:=by rfl)
  (hs:swapsWith (.Call (.Attribute (.Name x px) "append" apos) [e] [] cpos) none pos.line X.env=pure false:=by rfl) :
  PS X (.Expr (.Call (.Attribute (.Name x px) "append" apos) [e] [] cpos) pos) (tS E (pB i f)):=by
 refine(ur (Kh PySem.F.plainAttrs_list PySem.F.slot_list_append PySem.F.type_list_append tf (nY hi hv hd hcd) (dF he mi hst) hbase hfew hline hst hplain) hs).imp fun D σ H q=>?_
 obtain⟨B,H₀,Hs,env,sr,q⟩:=q
 unfold pB at q
 split at q
 ·rename_i xs ex
  obtain⟨a,vs,h1,h2,h3,h4,h5⟩:=sr.ow i xs ex
  refine⟨.ref a,h1,.inl ⟨rfl,vs,i4.of h2⟩,B,H₀,Hs,env,sr,(ax.bind q).imp (fun p hp v Hs' H' g r=>?_) fun e he=>he.grow sr.gr⟩
  by_cases hz:xs.length<sizeLine
  ·rw[if_pos hz] at hp
   have sr':=sr.grow g
   have r5:aK Hs' (xs++[p]) (vs++[v]):=(h5.mono g.st).snoc r
   exact⟨a,vs,v,rfl,rfl,g.al _ _ h2,by rw[← h5.length];exact hz,hp σ Hs' _ (sr'.put ex h1 r5)⟩
  ·rw[if_neg hz] at hp;exact hp.elim
 ·exact q.elim
end
end L2
namespace L2
open PySem PySem.Spec PyProof.Rows
def Hz:Out->M PV
 | .rt p=>M.ok p
 | .nx _=>M.ok .cz
 | _=>none
def mj(m:Nat)(ps:List PV):af:=ps.map (fun p=>some (.sh p))++List.replicate (m-ps.length) none
def av(m:Nat)(g:af->M Out)(ps:List PV):M PV:=(g (mj m ps)).bind Hz
theorem SR.start{Hs H:Hp}{N:List Str}{ps:List PV}{vs:List V}(s:a_ Hs H)(r:aK Hs ps vs):SR Hs H Hs H (start N vs) (mj N.length ps) where
 gr:=.refl s
 len:=by unfold L2.start mj;simp[r.length]
 sh:=fun i p e=>by
  unfold mj at e
  unfold L2.start
  by_cases hi:i<ps.length
  ·rw[List.getElem?_append_left (by simpa using hi),List.getElem?_map,List.getElem?_eq_getElem hi] at e
   cases e
   obtain⟨v,h1,h2⟩:=r.get (List.getElem?_eq_getElem hi)
   exact⟨v,by rw[List.getElem?_append_left (by simpa using (r.length▸hi)),List.getElem?_map,h1];rfl,h2⟩
  ·rw[List.getElem?_append_right (by simpa using hi),List.getElem?_replicate] at e
   split at e <;> cases e
 ow:=fun i xs e=>by
  unfold mj at e
  by_cases hi:i<ps.length
  ·rw[List.getElem?_append_left (by simpa using hi),List.getElem?_map,List.getElem?_eq_getElem hi] at e
   cases e
  ·rw[List.getElem?_append_right (by simpa using hi),List.getElem?_replicate] at e
   split at e <;> cases e
 sep:=fun i j xs ys a _ e=>by
  unfold mj at e
  by_cases hi:i<ps.length
  ·rw[List.getElem?_append_left (by simpa using hi),List.getElem?_map,List.getElem?_eq_getElem hi] at e
   cases e
  ·rw[List.getElem?_append_right (by simpa using hi),List.getElem?_replicate] at e
   split at e <;> cases e
 bd:=fun i a C fs e=>by
  unfold mj at e
  by_cases hi:i<ps.length
  ·rw[List.getElem?_append_left (by simpa using hi),List.getElem?_map,List.getElem?_eq_getElem hi] at e
   cases e
  ·rw[List.getElem?_append_right (by simpa using hi),List.getElem?_replicate] at e
   split at e <;> cases e
 one:=fun i j a b C D fs gs e=>by
  unfold mj at e
  by_cases hi:i<ps.length
  ·rw[List.getElem?_append_left (by simpa using hi),List.getElem?_map,List.getElem?_eq_getElem hi] at e
   cases e
  ·rw[List.getElem?_append_right (by simpa using hi),List.getElem?_replicate] at e
   split at e <;> cases e
theorem IZ{P:Program}{w:World}{K:PySem.W.Frag}{mg:Str->Option Value}{base:Heap}{k:Nat}{f:Addr}{name qual:Str}{params:Arguments}{body:List Stmt}{scope:Scope}{dV kV doc pm cdv ct oc:Value}{an od:Option Addr}
  {osl:Array (Option Value)} {N ps:List Str} {g:af->M Out} (lk:K.lookup f=some ⟨oc,od,.func (PySem.W.fnOf name qual params body scope dV kV doc pm an cdv ct),osl⟩) (hcd:PySem.W.codeIn K cdv qual=true) (S:az N ps scope)
  (hb:∀ (A:Around) (outer:List Env) (s:Shared) (H:Hp) (E:XK),cp k (A.deeper (envOfC qual scope s.heap.objs.size f cdv))->l_ ((pf (bV P w) P w K mg base N qual scope f cdv A outer s H E).out fun _=>E) body (tS E g)) :
  aQ P w K mg base (bV P w) (k+1) f (PySem.W.fnOf name qual params body scope dV kV doc pm an cdv ct) ps (dW ps.length (av N.length g)):=by
 refine yV lk hcd S (fun vs H Q E h=>h.1) fun A outer s H vs Q E hr hs=>⟨_,hb A outer s H E hr,?_⟩
 obtain⟨_,Hs,ps',sm,r,h⟩:=hs
 refine⟨Hs,H,Hs,_,SR.start sm r,(ax.bind h).imp (fun o ho=>?_) fun e he=>he⟩
 cases o with
 | rt p=>exact fun v Hs' H' gr rv=>ho v Hs' H' gr rv
 | nx env=>exact fun σ Hs' H' sr=>ho .cz Hs' H' sr.gr .cz
 | bk env=>exact ho.elim
 | ct env=>exact ho.elim
section
variable{X:Cx}{E:XK}{e:Expr}{es:List Expr}{pos p cpos:Pos}{x:Str}{C f:Addr}{k:Nat}{fd:FuncData}{ps:List Str}{fs:af->M (List PV)}
def my(C:Addr)(fs:af->M (List PV)):af->M Out:=fun env=>(fs env).bind fun ps=>cJ (ps.length<=sizeLine) (some (.error (C,none)))
theorem Bc(O:e6 X fun _=>E)(hcalm:X.calm=true)(hc:PySem.W.excIn X.K C e8 "ValueError.__new__" = true)(c:fY X.K C)(ht:PySem.W.typeIn X.K (.ref C)=some (.type "type"))(kp:PySem.W.keepIn X.K (.ref C)=true)(hg:Gl X x)(hm:X.mg x=some (.ref C))(ha:PA X (e::es) (tL (fun _=>E) fs))
  (hdb:(x==("__debug__" : Str))=false:=by decide) (he:starEach (e::es) X.env=(false,eval e X.env)::starEach es X.env:=by rfl) (hpl:(backTo cpos (starEach es X.env)).any (·.1)=false:=by rfl) :
  PS X (.Raise (some (.Call (.Name x p) (e::es) [] cpos)) none pos) (tS E (my C fs)):=by
 refine(vY O hcalm (Fq hc kp hg hm ha hdb he hpl)).imp fun D σ H q=>qG q fun B H₀ Hs H1 env ps' v sr rp hp=>?_
 obtain⟨hz,hp⟩:=ax.cJ hp
 refine⟨by rw[← rp.length];exact hz,fun a n=>⟨a,C,none,rfl,aC,c,ht,?_⟩⟩
 rw[zD]
 exact hp a (upd Hs a (h_ C none a)) _ (sr.gr.trans (bC.new sr.gr.sub n)) (.yU aC)
def Ay(K:PySem.W.Frag)(C:Addr)(fl:Str):Sp:=fun vs H Q _=>∃ a y,vs=[.ref a,y]/\H a=some (lJ C none a)/\∀ d,H d=none->d≠a->Q .cz (upd (upd H d (.xd [(fl,y)])) a (lJ C (some d) a))
def jE(C:Addr)(fl:Str)(fs:af->M (List PV)):af->M Out:=fun env=>(fs env).bind fun ps=>match ps with
 | [p]=>some (.error (C,some [(fl,p)]))
 | _=>none
theorem Az{fl:Str}(O:e6 X fun _=>E)(hcalm:X.calm=true)(hc:qS X.K C "ValueError.__new__" f=true)(hf:PySem.W.isFn X.K (.ref f)=true)(c:fY X.K C)(ht:PySem.W.typeIn X.K (.ref C)=some (.type "type"))(kp:PySem.W.keepIn X.K (.ref C)=true)(F:aQ X.prog X.w X.K X.mg X.base (bV X.prog X.w) k f fd ps (Ay X.K C fl))(hr:cp (k+1) X.A)(hb:Binds X.K fd ps [])
  (hg:Gl X x) (hm:X.mg x=some (.ref C)) (ha:PA X [e] (tL (fun _=>E) fs))
  (hdb:(x==("__debug__" : Str))=false:=by decide) (he:starEach [e] X.env=(false,eval e X.env)::starEach [] X.env:=by rfl) (hpl:(backTo cpos (starEach [] X.env)).any (·.1)=false:=by rfl) :
  PS X (.Raise (some (.Call (.Name x p) [e] [] cpos)) none pos) (tS E (jE C fl fs)):=by
 refine(vY O hcalm (DT hc hf kp F hr hb hg hm ha hdb he hpl)).imp fun D σ H q=>qG q fun B H₀ Hs H1 env ps' v sr rp hp=>?_
 match ps',rp,hp with
 | [],_,hp=>exact hp.elim
 | _::_::_,_,hp=>exact hp.elim
 | [y],rp,hp =>
  obtain⟨v,rfl,ry⟩:=rp.one
  refine⟨by show 1<=sizeLine;decide,fun a n=>⟨a,v,rfl,aC,fun d hd hda=>⟨rfl,a,C,some d,rfl,aC,c,ht,?_⟩⟩⟩
  rw[zD]
  have hd1:H1 d=none:=by rw[au hda] at hd;exact hd
  have g1:=bC.new (o:=.xd [(fl,v)]) sr.gr.sub hd1
  have hn2:upd H1 d (.xd [(fl,v)]) a=none:=by rw[au (Ne.symm hda)];exact n
  have g2:=bC.new (o:=h_ C (some d) a) g1.sub hn2
  have hH:upd (upd (upd H1 a (lJ C none a)) d (.xd [(fl,v)])) a (h_ C (some d) a)=upd (upd H1 d (.xd [(fl,v)])) a (h_ C (some d) a):=by
   funext b
   by_cases z:b=a
   ·subst z;rw[aC,aC]
   ·rw[au z,au z]
    by_cases z2:b=d
    ·subst z2;rw[aC,aC]
    ·rw[au z2,au z2,au z]
  rw[hH]
  refine hp a (upd (upd Hs d (.xd [(fl,v)])) a (h_ C (some d) a)) _ ((sr.gr.trans g1).trans g2) ?_
  exact .x_ aC (by rw[au hda];exact aC) (.cons ((ry.mono g1.st).mono g2.st) .nil)
theorem p_{P:Program}{w:World}{K:PySem.W.Frag}{mg:Str->Option Value}{base:Heap}{f:Addr}{name qual:Str}{params:Arguments}{scope:Scope}{dV kV doc pm cdv ct oc:Value}{an od:Option Addr}
  {osl:Array (Option Value)} {n0 n1 fl:Str} {p0 p1 p2 p3:Pos} (lk:K.lookup f=some ⟨oc,od,.func (PySem.W.fnOf name qual params [.Assign [.Attribute (.Name n0 p0) fl p1] (.Name n1 p2) p3] scope dV kV doc pm an cdv ct),osl⟩) (hcd:PySem.W.codeIn K cdv qual=true) (S:az [n0,n1] [n0,n1] scope)
  (c:fY K C) (ho:((PySem.W.clsIn K C).any fun cd=>gj cd.mro)=true) (na:bM K C fl) (v0:Ez scope n0) (v1:Ez scope n1) (d0:(n0==("__debug__" : Str))=false) (d1:(n1==("__debug__" : Str))=false) (c0:(n0==("__classdict__" : Str))=false) (c1:(n1==("__classdict__" : Str))=false)
  (hs:∀ env,swapsWith (.Name n1 p2) (some (.Attribute (.Name n0 p0) fl p1)) p3.line env=pure false) :
  aQ P w K mg base (bV P w) 1 f (PySem.W.fnOf name qual params [.Assign [.Attribute (.Name n0 p0) fl p1] (.Name n1 p2) p3] scope dV kV doc pm an cdv ct) [n0,n1] (Ay K C fl):=by
 refine yV (k:=0) lk hcd S (fun vs H Q E h=>by obtain⟨a,y,rfl,_⟩:=h;rfl) fun A outer s H vs Q E hr h=>?_
 obtain⟨a,y,rfl,ha,hq⟩:=h
 refine⟨_,FW (CG (nY (i:=0) rfl v0 d0 c0) (nY (i:=1) rfl v1 d1 c1) (hs _)),?_⟩
 exact⟨y,rfl,.ref a,rfl,a,C,rfl,ha,c,ho,na,hq⟩
end
end L2
namespace L2
open PySem PySem.Spec PyProof.Rows
structure kh (J:It) (Hs1:Hp) (xs:List PV):Prop where
 stop:∀ (i:Nat) (Hs H:Hp),a_ Hs1 Hs->a_ Hs H->xs.length<=i->J.stop i H
 go:∀ (i:Nat) (Hs H:Hp),a_ Hs1 Hs->a_ Hs H->i<xs.length->J.go i H
 xM:∀ (i:Nat) (Hs H:Hp) (x:V) (H2:Hp),a_ Hs1 Hs->a_ Hs H->i<xs.length->J.xM i H x H2->∃ p Hs2,xs[i]?=some p/\bC Hs H Hs2 H2/\Rep Hs2 p x
def KI(R:It->Hp->Prop):Hp->Hp->List PV->Prop:=fun Hs H xs=>∀ J Hs' H',bC Hs H Hs' H'->kh J Hs' xs->R J H'
def Ew(E:St->XK)(wi:TI)(it:af->M (List PV)):Prop:=∀ (σ:St) (H:Hp) (R:It->Hp->Prop),tG E it (KI R) σ H->wi σ H R
theorem KI.g{R:It->Hp->Prop}:KG (KI R):=fun Hs H Hs' H' b k g J Hs2 H2 g2 o=>k J Hs2 H2 (g.trans g2) o
section
variable{E:St->XK}{K:PySem.W.Frag}{f:af->M PV}{fs:af->M (List PV)}
theorem Dy{b:Bool}{a:Addr}{Hs1:Hp}{xs:List PV}{vs:List V}(hq:∀ Hs' H',a_ Hs1 Hs'->a_ Hs' H'->lH K H' b a vs)(hr:aK Hs1 xs vs):kh (Ro K b a) Hs1 xs where
 stop:=fun i Hs H s1 s2 hi=>by
  have q:=hq Hs H s1 s2
  cases b with
  | true=>exact⟨vs,q,by rw[← hr.length];exact hi⟩
  | false=>exact⟨vs,q,by rw[← hr.length];exact hi⟩
 go:=fun i Hs H s1 s2 hi=>by
  have q:=hq Hs H s1 s2
  obtain⟨v,e,_⟩:=hr.get (List.getElem?_eq_getElem hi)
  cases b with
  | true=>exact⟨vs,v,q,e⟩
  | false=>exact⟨vs,v,q,e⟩
 xM:=fun i Hs H x H2 s1 s2 hi y=>by
  have q:=hq Hs H s1 s2
  obtain⟨v,e,r⟩:=hr.get (List.getElem?_eq_getElem hi)
  have z:H2=H/\vs[i]?=some x:=by
   cases b with
   | true=>exact⟨y.1,y.2 vs q⟩
   | false=>exact⟨y.1,y.2 vs q⟩
  obtain⟨rfl,z⟩:=z
  rw[e] at z;cases z
  exact⟨xs[i],Hs,List.getElem?_eq_getElem hi,.refl s2,r.mono s1⟩
theorem eM:Ew E (KJ K (tE E f)) (itemsOf f):=by
 intro σ H R q
 refine bJ (K:=KI R) KI.g q fun B H₀ Hs H1 env p v sr rp hp=>?_
 cases e:cy p with
 | none=>rw[e] at hp;exact hp.elim
 | some xs =>
  rw[e] at hp
  obtain⟨b,a,vs,rfl,hq,hr⟩:=lh (K:=K) sr.gr.sub rp e
  exact⟨b,a,rfl,⟨vs,hq Hs H1 (fun _ _ z=>z) sr.gr.sub⟩,hp (Ro K b a) Hs H1 (.refl sr.gr.sub) (Dy hq hr)⟩
def j_(o:List PV->M (List PV))(fs:af->M (List PV)):af->M (List PV):=fun env=>(fs env).bind o
theorem w5{lo:Int}{n:Nat}{Hs1:Hp}:kh (KY lo n) Hs1 ((List.range n).map fun (i:Nat)=>PV.int (lo+(i:Int))) where
 stop:=fun i Hs H s1 s2 hi=>show n<=i by simpa using hi
 go:=fun i Hs H s1 s2 hi=>show i<n by simpa using hi
 xM:=fun i Hs H x H2 s1 s2 hi y=>by
  obtain⟨rfl,rfl⟩:=y
  exact⟨_,Hs,Bw (by simpa using hi),.refl s2,.int _⟩
theorem aT{α:Type}(x:M α):x.bind M.ok=x:=by
 cases x with
 | none=>rfl
 | some x=>cases x <;> rfl
theorem i_:Ew E (GG (tL E fs)) (j_ sU fs):=by
 intro σ H R q
 refine c_ (K:=KI R) KI.g q fun B H₀ Hs H1 env ps v sr rp hp=>?_
 rw[← aT (sU ps)] at hp
 obtain⟨n,rfl,h1,h2,hp⟩:=AG hp
 obtain⟨w,rfl,rw'⟩:=rp.one
 cases rw'
 exact⟨n,rfl,h1,h2,hp _ Hs H1 (.refl sr.gr.sub) w5⟩
theorem Dt:Ew E (GZ (tL E fs)) (j_ AF fs):=by
 intro σ H R q
 refine c_ (K:=KI R) KI.g q fun B H₀ Hs H1 env ps v sr rp hp=>?_
 rw[← aT (AF ps)] at hp
 obtain⟨n,m,rfl,h1,hp⟩:=A5 hp
 obtain⟨w,u,rfl,rw',ru⟩:=rp.two
 cases rw'
 cases ru
 exact⟨n,m,rfl,h1,hp _ Hs H1 (.refl sr.gr.sub) w5⟩
theorem Eh{xs ys:List PV}{i:Nat}(h1:i<xs.length)(h2:i<ys.length):(List.zipWith (fun a b=>PV.tup [a,b]) xs ys)[i]?=some (.tup [xs[i],ys[i]]):=by
 rw[List.getElem?_zipWith,List.getElem?_eq_getElem h1,List.getElem?_eq_getElem h2]
theorem BR{b1 b2:Bool}{a1 a2:Addr}{Hs1:Hp}{xs ys:List PV}{vs us:List V}(hq1:∀ Hs' H',a_ Hs1 Hs'->a_ Hs' H'->lH K H' b1 a1 vs)(hr1:aK Hs1 xs vs)(hq2:∀ Hs' H',a_ Hs1 Hs'->a_ Hs' H'->lH K H' b2 a2 us)(hr2:aK Hs1 ys us) :
  kh (MU K b1 b2 a1 a2) Hs1 (List.zipWith (fun a b=>PV.tup [a,b]) xs ys) where
 stop:=fun i Hs H s1 s2 hi=>by
  rw[List.length_zipWith,hr1.length,hr2.length] at hi
  exact⟨vs,us,hq1 Hs H s1 s2,hq2 Hs H s1 s2,by omega⟩
 go:=fun i Hs H s1 s2 hi=>by
  rw[List.length_zipWith] at hi
  obtain⟨v,e,_⟩:=hr1.get (List.getElem?_eq_getElem (show i<xs.length by omega))
  obtain⟨u,e',_⟩:=hr2.get (List.getElem?_eq_getElem (show i<ys.length by omega))
  exact⟨vs,us,v,u,hq1 Hs H s1 s2,hq2 Hs H s1 s2,e,e'⟩
 xM:=fun i Hs H x H2 s1 s2 hi y=>by
  rw[List.length_zipWith] at hi
  have l1:i<xs.length:=by omega
  have l2:i<ys.length:=by omega
  obtain⟨v,e,r⟩:=hr1.get (List.getElem?_eq_getElem l1)
  obtain⟨u,e',r'⟩:=hr2.get (List.getElem?_eq_getElem l2)
  obtain⟨pa,v',u',hn,rfl,rfl,y1,y2⟩:=y
  have z1:=y1 vs (hq1 Hs H s1 s2)
  have z2:=y2 us (hq2 Hs H s1 s2)
  rw[e] at z1;cases z1
  rw[e'] at z2;cases z2
  have gr:=bC.new (o:=.tup [v,u]) s2 hn
  exact⟨_,_,Eh l1 l2,gr,.tup aC (.cons ((r.mono s1).mono gr.st) (.cons ((r'.mono s1).mono gr.st) .nil))⟩
theorem eT:Ew E (LK K (tL E fs)) (j_ zip2 fs):=by
 intro σ H R q
 refine c_ (K:=KI R) KI.g q fun B H₀ Hs H1 env ps v sr rp hp=>?_
 rw[← aT (zip2 ps)] at hp
 obtain⟨p,q,xs,ys,rfl,e1,e2,hp⟩:=Bn hp
 obtain⟨w,u,rfl,rw',ru⟩:=rp.two
 obtain⟨b1,a1,vs,rfl,hq1,hr1⟩:=lh (K:=K) sr.gr.sub rw' e1
 obtain⟨b2,a2,us,rfl,hq2,hr2⟩:=lh (K:=K) sr.gr.sub ru e2
 exact⟨b1,b2,a1,a2,rfl,⟨vs,hq1 Hs H1 (fun _ _ z=>z) sr.gr.sub⟩,⟨us,hq2 Hs H1 (fun _ _ z=>z) sr.gr.sub⟩,hp _ Hs H1 (.refl sr.gr.sub) (BR hq1 hr1 hq2 hr2)⟩
end
theorem bU{X:Cx}{E:XK}{tg iter:Expr}{pos:Pos}{g:TG}{set:PV->af->M af}{body:af->M Out}{bd:List Stmt}{wi:TI}{it:af->M (List PV)}(O:e6 X fun _=>E)(hc:X.calm=true)(hi:PI X tg iter wi)(hv:Ew (fun _=>E) wi it)(hg:PG X tg g)(tgv:GK E g set)(hb:l_ X bd (tS E body))(hs:∀ x,foldedSetIterable iter X.env x=pure x:=by intro _;rfl) :
  PS X (.For tg iter bd [] pos) (tS E (jb it set body)):=by
 refine(JY O.own hc hi hg hb hs).imp fun D σ H q=>hv σ H _ ?_
 obtain⟨B,H₀,Hs,env,sr,q⟩:=q
 refine⟨B,H₀,Hs,env,sr,(ax.bind q).imp (fun xs hp J Hs' H' gr ok=>?_) fun e he=>he.grow sr.gr⟩
 have sr':=sr.grow gr
 refine⟨fun i m σ H=>m=xs.length-i/\i<=xs.length/\Jv E set body D B H₀ Hs' xs i σ H,⟨xs.length,by simp,Nat.zero_le _,Hs',env,sr',fun _ _ z=>z,hp⟩,?_⟩
 rintro i m σ' H2 ⟨rfl,hi,Hs2,env2,sr2,s2,h2⟩
 by_cases hlt:i<xs.length
 ·refine .inr ⟨ok.go i Hs2 H2 s2 sr2.gr.sub hlt,Jv E set body D B H₀ Hs' xs (i+1),fun σ3 H3 j=>⟨xs.length-(i+1),by omega,rfl,hlt,j⟩,fun x H3 y=>?_⟩
  obtain⟨p,Hs3,ep,g3,r3⟩:=ok.xM i Hs2 H2 x H3 s2 sr2.gr.sub hlt y
  exact Jv.turn (Hx:=H2) (H1:=H2) tgv ep sr2 s2 h2 g3 r3
 ·have e:i=xs.length:=by omega
  refine .inl ⟨ok.stop i Hs2 H2 s2 sr2.gr.sub (by omega),?_⟩
  exact Jv.done (E:=E) (set:=set) (body:=body) (xs:=xs) (B:=B) (H₀:=H₀) (Hs1:=Hs') (n:=i) ⟨Hs2,env2,sr2,s2,h2⟩ (by omega)
end L2
namespace L2
open PySem PySem.Spec PyProof.Rows
abbrev EF:St->XK:=fun _ _ _ _=>False
def ph(env:af):Prop:=∀ (i:Nat) (x:SV),env[i]?=some (some x)->∃ p,x=.sh p
theorem ph.ow{env:af}(n:ph env){i:Nat}{xs:List PV}(e:env[i]?=some (some (.ow xs))):False:=by obtain⟨p,z⟩:=n i _ e;cases z
theorem ph.bd{env:af}(n:ph env){i:Nat}{a C:Addr}{fs:List (Str×PV)}(e:env[i]?=some (some (.bd a C fs))):False:=by obtain⟨p,z⟩:=n i _ e;cases z
def Dr{α:Type}:M α->M α
 | some (.ok a)=>some (.ok a)
 | _=>none
theorem ax.Dr{α:Type}{x:M α}{Q:α->Prop}{E:EX->Prop}(h:ax (L2.Dr x) Q E):ax x Q (fun _=>False):=by
 cases x with
 | none=>exact h
 | some x=>cases x with
  | ok a=>exact h
  | error e=>exact h
def mq(n:Nat)(js:List Nat)(env:af):af:=List.replicate n none++js.map fun j=>match env[j]? with
 | some (some (.sh p))=>some (.sh p)
 | _=>none
theorem tR{n:Nat}{js:List Nat}{env:af}{i:Nat}{x:SV}(h:(mq n js env)[i]?=some (some x)):∃ j p,n<=i/\js[i-n]?=some j/\env[j]?=some (some (.sh p))/\x=.sh p:=by
 unfold mq at h
 by_cases hi:i<n
 ·rw[List.getElem?_append_left (by simpa using hi),List.getElem?_replicate] at h
  split at h <;> cases h
 ·rw[List.getElem?_append_right (by simpa using hi),List.getElem?_map,List.length_replicate] at h
  cases hj:js[i-n]? with
  | none=>rw[hj] at h;cases h
  | some j =>
   rw[hj] at h
   have h':(match env[j]? with | some (some (.sh p))=>some (SV.sh p) | _=>none)=some x:=Option.some.inj h
   split at h'
   ·rename_i p e
    cases h'
    exact⟨j,p,by omega,rfl,e,rfl⟩
   ·cases h'
theorem fb{n:Nat}{js:List Nat}{env:af}:ph (mq n js env):=fun i xs e=>by
 obtain⟨_,p,_,_,_,z⟩:=tR e
 exact⟨p,z⟩
theorem SR.block{B H₀ Hs H:Hp}{σ:St}{env:af}{ts:List Str}{js:List Nat}{D:Addr}(r:SR B H₀ Hs H σ env)(hD:H D=none):SR Hs H Hs (upd H D (.lst [])) (gu ts js σ) (mq ts.length js env) where
 gr:=by
  have ne:∀ c u,H c=some u->c≠D:=fun c u q z=>by rw[z,hD] at q;cases q
  exact⟨fun _ _ e=>e,fun c u e=>by rw[au (ne c u e)];exact e,fun c u e=>by rw[au (ne c u (r.gr.sub c u e))];exact r.gr.sub c u e,fun _ _ e _=>e⟩
 len:=by unfold gu mq;simp
 sh:=fun i p e=>by
  obtain⟨j,q,hn,hj,he,z⟩:=tR e
  cases z
  obtain⟨v,h1,h2⟩:=r.sh j p he
  refine⟨v,?_,h2⟩
  unfold gu
  rw[List.getElem?_append_right (by simpa using hn),List.getElem?_map,List.length_map,hj]
  show some (σ[j]?).join=_
  rw[h1];rfl
 ow:=fun i xs e=>(fb.ow e).elim
 sep:=fun i j xs ys a _ e=>(fb.ow e).elim
 bd:=fun i a C fs e=>(fb.bd e).elim
 one:=fun i j a b C D fs gs e=>(fb.bd e).elim
theorem SR.IK{B H₀ Hs H:Hp}{σ:St}{env:af}{D:Addr}{o:HO}(r:SR B H₀ Hs H σ env)(n:ph env)(h1:Hs D=none)(h2:H₀ D=none):SR B H₀ Hs (upd H D o) σ env where
 gr:=⟨r.gr.st,fun c u q=>by rw[au (fun z=>by rw[z,h2] at q;cases q)];exact r.gr.al c u q,fun c u q=>by rw[au (fun z=>by rw[z,h1] at q;cases q)];exact r.gr.sub c u q,r.gr.nw⟩
 len:=r.len
 sh:=r.sh
 ow:=fun i xs e=>(n.ow e).elim
 sep:=fun i j xs ys a _ e=>(n.ow e).elim
 bd:=fun i a C fs e=>(n.bd e).elim
 one:=fun i j a b C D fs gs e=>(n.bd e).elim
def bK(set:PV->af->M af)(t:Option (af->M Bool))(f:af->M PV):List PV->af->M (List PV)
 | [],_=>M.ok []
 | x::xs,env=>(set x env).bind fun e=>match t with
  | none=>(f e).bind fun y=>(bK set t f xs e).bind fun ys=>M.ok (y::ys)
  | some t'=>(t' e).bind fun b=>if b=true then (f e).bind fun y=>(bK set t f xs e).bind fun ys=>M.ok (y::ys) else bK set t f xs e
def cK(it:af->M (List PV))(set:PV->af->M af)(t:Option (af->M Bool))(f:af->M PV)(n:Nat)(js:List Nat):af->M (List PV):=fun env=>(it env).bind fun xs=>cJ (xs.length<=sizeLine) (Dr (bK set t f xs (mq n js env)))
def t8(set:PV->af->M af):Prop:=∀ p env e,set p env=some (.ok e)->ph env->ph e
theorem lu{i:Nat}{env:af}{p:PV}(n:ph env):ph (env.set i (some (.sh p))):=fun j xs e=>by
 rw[List.getElem?_set] at e
 by_cases z:i=j
 ·rw[if_pos z] at e
  split at e
  ·cases e;exact⟨p,rfl⟩
  ·cases e
 ·rw[if_neg z] at e;exact n j xs e
theorem cu{i:Nat}:t8 (cH i):=fun p env e h n=>by
 cases h
 exact lu n
theorem cx{i j:Nat}:t8 (bA i j):=fun p env e h n=>by
 unfold bA at h
 split at h
 ·cases h;exact lu (lu n)
 ·cases h
section
variable{set:PV->af->M af}{t:Option (af->M Bool)}{f:af->M PV}{Q:VK}{Hs1 H1:Hp}{D:Addr}{xs:List PV}
def Jc(set:PV->af->M af)(t:Option (af->M Bool))(f:af->M PV)(Q:VK)(Hs1 H1:Hp)(D:Addr)(xs:List PV)(i:Nat)(σ:St)(H:Hp):Prop:=∃ Hs env ys vs,SR Hs1 H1 Hs H σ env/\ph env/\H D=some (.lst vs)/\Hs D=none/\aK Hs ys vs/\ys.length<=i ∧
 ax (bK set t f (xs.drop i) env) (fun zs=>KO Q Hs1 H1 (ys++zs)) (fun _=>False)
def rem(H:Hp)(D:Addr):Hp:=fun a=>if a=D then none else H a
theorem Cj{H:Hp}{D:Addr}:rem H D D=none:=by unfold rem;rw[if_pos rfl]
theorem yC{H:Hp}{D a:Addr}(n:a≠D):rem H D a=H a:=by unfold rem;rw[if_neg n]
theorem GA{H:Hp}{D:Addr}{o:HO}(h:H D=some o):upd (rem H D) D o=H:=by
 funext a
 by_cases z:a=D
 ·subst z;rw[aC,h]
 ·rw[au z,yC z]
theorem Jc.done{i:Nat}{σ:St}{H:Hp}(hD:H1 D=none)(j:Jc set t f Q Hs1 H1 D xs i σ H)(hi:xs.length<=i):Q (.ref D) H:=by
 obtain⟨Hs,env,ys,vs,sr,n,h1,h2,r,_,h⟩:=j
 rw[List.drop_eq_nil_of_le hi] at h
 have h':KO Q Hs1 H1 (ys++[]):=h
 rw[List.append_nil] at h'
 have gr:bC Hs1 H1 Hs (rem H D):=by
  refine⟨sr.gr.st,fun c u q=>?_,fun c u q=>?_,sr.gr.nw⟩
  ·rw[yC (fun z=>by rw[z,hD] at q;cases q)];exact sr.gr.al c u q
  ·rw[yC (fun z=>by rw[z,h2] at q;cases q)];exact sr.gr.sub c u q
 have:=h' vs D Hs (rem H D) gr r Cj
 rw[GA h1] at this
 exact this
theorem Jc.put{i:Nat}{σ:St}{Hs H:Hp}{env:af}{ys:List PV}{vs:List V}{y:PV}{v:V}(hD:H1 D=none)(sr:SR Hs1 H1 Hs H σ env)(n:ph env)(h1:H D=some (.lst vs))(h2:Hs D=none)(r:aK Hs ys vs)(hy:ys.length<=i)(hi:i<sizeLine)(rv:Rep Hs y v)
  (h:ax ((bK set t f (xs.drop (i+1)) env).bind fun zs=>M.ok (y::zs)) (fun zs=>KO Q Hs1 H1 (ys++zs)) (fun _=>False)) :
  ∃ us,H D=some (.lst us)/\us.length<sizeLine/\Jc set t f Q Hs1 H1 D xs (i+1) σ (upd H D (.lst (us++[v]))):=by
 refine⟨vs,h1,by rw[← r.length];omega,Hs,env,ys++[y],vs++[v],sr.IK n h2 hD,n,aC,h2,r.snoc rv,by rw[List.length_append];show ys.length+1<=i+1;omega,(ax.bind h).imp (fun zs hz=>?_) fun _ z=>z⟩
 have hz':KO Q Hs1 H1 (ys++(y::zs)):=hz
 rw[List.append_assoc]
 exact hz'
end
section
variable{X:Cx}{E:St->XK}{tg elt iter c:Expr}{scope:Scope}{cl:List (Str×Addr)}{pos:Pos}{wi:TI}{it:af->M (List PV)}{g:TG}{set:PV->af->M af}{f:af->M PV}{u:af->M Bool}{ts fs:List Str}{js:List Nat}
theorem zP{C:Addr}{s₀:Shared}{H₀:Hp}{ex:List Addr}{pins:List (Addr×Obj)}{N:List Str}:e6 (xN X scope cl N C s₀ H₀ ex pins) EF where
 pass:=fun _ _ _ _ _ _ _ h=>by
  obtain⟨_,_,_,_,_,_,_,_,_,_,_,_,_,z⟩:=h
  exact z.elim
 new:=fun _ _ _ _ _ _ _ _ _ z=>z.elim
 own:=PassesOwn.never
theorem bP(hcalm:X.calm=true)
  (hclos:closureFor scope X.env=pure cl) (hk:scope.kind=.function) (nc:iQ scope.names=true) (lo:lB scope.names=true) (fh:lq cl scope.names=true) (ag:fU X cl) (fr:kr X scope cl fs js)
  (hi:PI X tg iter wi) (hv:Ew E wi it) (hg:∀ C s₀ H₀ ex pins,PG (xN X scope cl (ts++fs) C s₀ H₀ ex pins) tg g) (tgv:∀ E,GK E g set) (so:t8 set) (he:∀ C s₀ H₀ ex pins,PE (xN X scope cl (ts++fs) C s₀ H₀ ex pins) elt (tE EF f))
  (hs:∀ x,foldedSetIterable iter X.env x=pure x:=by intro _;rfl):PE X (.ListComp elt [⟨tg,iter,[],0⟩] scope pos) (tO E (cK it set none f ts.length js)):=by
 refine(CH hcalm hclos hk nc lo fh ag fr hi hg he hs).imp fun σ H Q q=>hv σ H _ ?_
 obtain⟨B,H₀,Hs,env,sr,q⟩:=q
 refine⟨B,H₀,Hs,env,sr,(ax.bind q).imp (fun xs hp J Hs1 H1 gr ok D hD=>?_) fun e he=>he⟩
 obtain⟨hz,hp⟩:=ax.cJ hp
 have hp:=ax.Dr hp
 have sr1:=sr.grow gr
 refine⟨fun i m σ H=>m=xs.length-i/\i<=xs.length/\Jc set none f Q Hs1 H1 D xs i σ H,⟨xs.length,by simp,Nat.zero_le _,Hs1,_,[],[],sr1.block hD,fb,aC,?_,.nil,Nat.le_refl _,hp.imp (fun zs hz vs p Hs2 H2 g2 r n=>hz vs p Hs2 H2 (gr.trans g2) r n) fun _ z=>z⟩,?_⟩
 ·cases z:Hs1 D with
  | none=>rfl
  | some o=>have:=gr.sub _ _ z;rw[hD] at this;cases this
 rintro i m σ' H2 ⟨rfl,hi,Hs2,env2,ys,vs,sr2,n2,d1,d2,r2,l2,h2⟩
 by_cases hlt:i<xs.length
 ·refine .inr ⟨ok.go i Hs2 H2 sr2.gr.st sr2.gr.sub hlt,Jc set none f Q Hs1 H1 D xs (i+1),fun σ3 H3 j=>⟨xs.length-(i+1),by omega,rfl,hlt,j⟩,fun x H3 y=>?_⟩
  obtain⟨p,Hs3,ep,g3,r3⟩:=ok.xM i Hs2 H2 x H3 sr2.gr.st sr2.gr.sub hlt y
  have hd:xs.drop i=p::xs.drop (i+1):=by
   rw[List.drop_eq_getElem_cons hlt]
   rw[List.getElem?_eq_getElem hlt] at ep
   rw[Option.some.inj ep]
  rw[hd] at h2
  have h3:=ax.bind h2
  have sr3:=sr2.grow g3
  refine tgv (fun _ _ _=>False) Hs1 H1 Hs3 H3 σ' env2 p x _ (fun _=>False) sr3 r3 ?_
  cases hset:set p env2 with
  | none=>rw[hset] at h3;exact h3
  | some z=>cases z with
   | error e=>rw[hset] at h3;exact h3
   | ok e3 =>
    rw[hset] at h3
    intro σ4 sr4
    have n4:=so p env2 e3 hset n2
    refine⟨Hs1,H1,Hs3,e3,sr4,(ax.bind h3).imp (fun y hy v Hs5 H5 g5 r5=>?_) fun _ z=>z.elim⟩
    exact Jc.put (set:=set) (t:=none) (f:=f) hD (sr4.grow g5) n4 (g5.al _ _ (g3.al _ _ d1)) (g5.nw _ _ (g3.nw _ _ d2 d1) (g3.al _ _ d1)) ((r2.mono g3.st).mono g5.st) l2 (by omega) r5 hy
 ·refine .inl ⟨ok.stop i Hs2 H2 sr2.gr.st sr2.gr.sub (by omega),?_⟩
  exact Jc.done (set:=set) (t:=none) (f:=f) (xs:=xs) (Hs1:=Hs1) (H1:=H1) (i:=i) hD ⟨Hs2,env2,ys,vs,sr2,n2,d1,d2,r2,l2,h2⟩ (by omega)
def cO(fo:af->M (List PV)):af->M PV:=fun env=>(fo env).bind fun ps=>M.ok (.lst ps)
theorem dI{fo:af->M (List PV)}{e:Expr}(he:PE X e (tO E fo)):PE X e (tE E (cO fo)):=he.imp fun σ H Q q=>by
 obtain⟨B,H₀,Hs,env,sr,q⟩:=q
 refine⟨B,H₀,Hs,env,sr,(ax.bind q).imp (fun ps hp vs p Hs' H' g r n=>?_) fun e he=>he⟩
 have gn:=bC.new (o:=.lst vs) g.sub n
 exact hp _ _ _ (g.trans gn) (.lst aC (r.mono gn.st))
end
end L2
namespace L2
open PySem PySem.Spec PyProof.Rows
def uA(f:Str)(v:PV):List (Str×PV)->List (Str×PV)
 | []=>[(f,v)]
 | (g,x)::r=>if g=f then (g,v)::r else (g,x)::uA f v r
theorem jc.put{H:Hp}{f:Str}{p:PV}{v:V}(h:Rep H p v):∀ {fs:List (Str×PV)} {vs:List (Str×V)},jc H fs vs->jc H (uA f p fs) (j6 f v vs)
 | _,_,.nil=>.cons h .nil
 | (g,x)::r,_,.cons hx hr=>by
  unfold uA j6
  by_cases z:g=f
  ·rw[if_pos z,if_pos z];exact .cons h hr
  ·rw[if_neg z,if_neg z];exact .cons hx (hr.put h)
theorem jc.length{H:Hp}:∀ {fs:List (Str×PV)} {vs:List (Str×V)},jc H fs vs->fs.length=vs.length
 | _,_,.nil=>rfl
 | _,_,.cons _ r=>by simp[r.length]
theorem SR.Qe{B H₀ Hs H:Hp}{σ:St}{env:af}{i:Nat}{a C dx:Addr}{fs gs:List (Str×PV)}{us:List (Str×V)}(r:SR B H₀ Hs H σ env)(e:env[i]?=some (some (.bd a C fs)))(h:jc Hs gs us):SR B H₀ Hs (upd H a (.ins C dx us)) σ (env.set i (some (.bd a C gs))):=by
 obtain⟨dx0,vs,h1,h2,h3,h4,h5⟩:=r.bd i a C fs e
 have nS:∀ c u,Hs c=some u->c≠a:=fun c u q z=>by rw[z,h3] at q;cases q
 have n0:∀ c u,H₀ c=some u->c≠a:=fun c u q z=>by rw[z,h4] at q;cases q
 refine⟨⟨r.gr.st,fun c u q=>by rw[au (n0 c u q)];exact r.gr.al c u q,fun c u q=>by rw[au (nS c u q)];exact r.gr.sub c u q,r.gr.nw⟩,by rw[List.length_set];exact r.len,fun j q ej=>?_,fun j zs ej=>?_,fun j k y1 y2 b nj e1 e2 e3 e4=>?_,fun j ba D fs' ej=>?_,fun j k _ _ C' D fs' gs' e1 e2=>?_⟩
 ·rw[List.getElem?_set] at ej
  by_cases z:i=j
  ·subst z
   rw[if_pos rfl] at ej
   split at ej <;> cases ej
  ·rw[if_neg z] at ej;exact r.sh j q ej
 ·rw[List.getElem?_set] at ej
  by_cases z:i=j
  ·subst z
   rw[if_pos rfl] at ej
   split at ej <;> cases ej
  ·rw[if_neg z] at ej
   obtain⟨b,ws,q1,q2,q3,q4,q5⟩:=r.ow j zs ej
   have nb:b≠a:=fun w=>by subst w;rw[h2] at q2;cases q2
   exact⟨b,ws,q1,by rw[au nb];exact q2,q3,q4,q5⟩
 ·rw[List.getElem?_set] at e1 e2
  by_cases z:i=j
  ·subst z
   rw[if_pos rfl] at e1
   split at e1 <;> cases e1
  ·by_cases z2:i=k
   ·subst z2
    rw[if_pos rfl] at e2
    split at e2 <;> cases e2
   ·rw[if_neg z] at e1
    rw[if_neg z2] at e2
    exact r.sep j k y1 y2 b nj e1 e2 e3 e4
 ·rw[List.getElem?_set] at ej
  by_cases z:i=j
  ·subst z
   rw[if_pos rfl] at ej
   split at ej
   ·cases ej;exact⟨dx,us,h1,aC,h3,h4,h⟩
   ·cases ej
  ·rw[if_neg z] at ej
   exact absurd (r.one i j _ _ _ _ _ _ e ej) z
 ·have o1:∃ b D w,env[j]?=some (some (.bd b D w)):=by
   rw[List.getElem?_set] at e1
   by_cases z:i=j
   ·subst z;exact⟨_,_,_,e⟩
   ·rw[if_neg z] at e1;exact⟨_,_,_,e1⟩
  have o2:∃ b D w,env[k]?=some (some (.bd b D w)):=by
   rw[List.getElem?_set] at e2
   by_cases z:i=k
   ·subst z;exact⟨_,_,_,e⟩
   ·rw[if_neg z] at e2;exact⟨_,_,_,e2⟩
  obtain⟨_,_,w1,o1⟩:=o1
  obtain⟨_,_,w2,o2⟩:=o2
  exact r.one j k _ _ _ _ _ _ o1 o2
def CI(i:Nat)(C:Addr)(f:Str)(p:PV)(env:af):M Out:=match env[i]? with
 | some (some (.bd a C' fs))=>cJ (C'=C/\fs.length<1000) (M.ok (.nx (env.set i (some (.bd a C (uA f p fs))))))
 | _=>none
def mn(i:Nat)(C:Addr)(fl:Str)(f:af->M PV):af->M Out:=fun env=>(f env).bind fun p=>CI i C fl p env
section
variable{X:Cx}{E:XK}{e:Expr}{pos pos' px:Pos}{f:af->M PV}{i:Nat}{x fl:Str}{C:Addr}
theorem ml(hi:X.N[i]?=some x)(hv:Ez X.env.scope x)(c:n5 X.K C)(na:bM X.K C fl)(he:PE X e (tE (fun _=>E) f))(hd:(x==("__debug__" : Str))=false:=by decide)(hcd:(x==("__classdict__" : Str))=false:=by decide)
  (hs:swapsWith e (some (.Attribute (.Name x px) fl pos')) pos.line X.env=pure false:=by rfl):PS X (.Assign [.Attribute (.Name x px) fl pos'] e pos) (tS E (mn i C fl f)):=by
 refine(HP (nY hi hv hd hcd) he hs).imp fun D σ H q=>kn q fun B H₀ Hs H1 env p v sr rp hp=>?_
 unfold CI at hp
 split at hp
 ·rename_i a C' fs ex
  obtain⟨⟨rfl,hz⟩,hp⟩:=ax.cJ hp
  obtain⟨dx,vs,h1,h2,h3,h4,h5⟩:=sr.bd i a _ fs ex
  exact⟨.ref a,h1,a,_,dx,vs,rfl,h2,c,na,by rw[← h5.length];exact hz,hp σ Hs _ (sr.Qe ex (h5.put rp))⟩
 ·exact hp.elim
end
def Ba(m:Nat)(a C:Addr)(ps:List PV):af:=some (.bd a C [])::mj (m-1) ps
def BL(a C:Addr)(env:af):M (List (Str×PV)):=match (env[0]?:Option (Option SV)) with
 | some (some (.bd b D fs))=>cJ (b=a/\D=C) (M.ok fs)
 | _=>none
def outI(a C:Addr):Out->M (List (Str×PV))
 | .nx env=>BL a C env
 | _=>none
def Bk(m:Nat)(g:af->M Out)(C a:Addr)(ps:List PV):M (List (Str×PV)):=(g (Ba m a C ps)).bind (outI a C)
noncomputable def IS{α:Type}(s:Addr->M α):M α:=open Classical in if h:∃ r,∀ a,s a=r then h.choose else none
theorem DY{α:Type}{s:Addr->M α}{r:M α}(h:∀ a,s a=r):IS s=r:=by
 have hx:∃ r,∀ a,s a=r:=⟨r,h⟩
 unfold IS
 rw[dif_pos hx,← hx.choose_spec 0,h 0]
theorem ax.IS{α:Type}{s:Addr->M α}{Q:α->Prop}{E:EX->Prop}(h:ax (L2.IS s) Q E)(a:Addr):ax (s a) Q E:=by
 unfold L2.IS at h
 split at h
 ·rename_i hx
  rw[hx.choose_spec a];exact h
 ·exact h.elim
def Hg(n:Nat)(C:Addr)(sem:Addr->List PV->M (List (Str×PV))):Sp:=fun vs H Q E=>vs.length=n/\∃ a dx us Hs H1 ps,vs=.ref a::us/\H1 a=none/\H1 dx=none/\dx≠a/\H=upd (upd H1 dx (.own a)) a (.ins C dx [])/\a_ Hs H1/\aK Hs ps us ∧
 ax (sem a ps) (fun fs=>∀ dx' ws Hs' H',bC Hs H1 Hs' H'->H' a=some (.ins C dx' ws)->Hs' a=none->jc Hs' fs ws->Q .cz H') (XW E Hs H1)
theorem SR.Ip{Hs H₀ H:Hp}{N:List Str}{a C dx:Addr}{ps:List PV}{vs:List V}(s:a_ Hs H₀)(hN:0<N.length)(ha:H₀ a=none)(r:aK Hs ps vs)(hH:H=upd H₀ a (.ins C dx [])):SR Hs H₀ Hs H (L2.start N (.ref a::vs)) (Ba N.length a C ps):=by
 have hs:Hs a=none:=by
  cases q:Hs a with
  | none=>rfl
  | some o=>have:=s _ _ q;rw[ha] at this;cases this
 have ne:∀ c u,H₀ c=some u->c≠a:=fun c u e z=>by rw[z,ha] at e;cases e
 have s0:=SR.start (N:=N.tail) s r
 have e1:L2.start N (.ref a::vs)=some (.ref a)::L2.start N.tail vs:=by
  unfold L2.start
  simp only[List.map_cons,List.cons_append,List.length_cons,List.length_tail]
  rw[Nat.sub_sub,Nat.add_comm]
 have e2:Ba N.length a C ps=some (.bd a C [])::mj N.tail.length ps:=by unfold Ba;rw[List.length_tail]
 have al:a_ H₀ H:=fun c u q=>by rw[hH,au (ne c u q)];exact q
 rw[e1,e2]
 refine⟨⟨fun _ _ e=>e,al,fun c u q=>al c u (s c u q),fun c u q _=>q⟩,by simp[s0.len],fun j q ej=>?_,fun j zs ej=>?_,fun j k y1 y2 b nj e1 e2 e3 e4=>?_,fun j ba D fs' ej=>?_,fun j k a1 a2 C' D fs' gs' e1 e2=>?_⟩
 ·cases j with
  | zero=>cases ej
  | succ j=>exact s0.sh j q (by simpa using ej)
 ·cases j with
  | zero=>cases ej
  | succ j=>exact absurd (s0.ow j zs (by simpa using ej)) (fun ⟨b,ws,q1,q2,q3,q4,q5⟩=>by rw[q4] at q2;cases q2)
 ·cases j with
  | zero=>cases e1
  | succ j=>exact absurd (s0.ow j y1 (by simpa using e1)) (fun ⟨b,ws,q1,q2,q3,q4,q5⟩=>by rw[q4] at q2;cases q2)
 ·cases j with
  | zero=>cases ej;exact⟨dx,[],rfl,by rw[hH];exact aC,hs,ha,.nil⟩
  | succ j=>exact absurd (s0.bd j ba D fs' (by simpa using ej)) (fun ⟨b,ws,q1,q2,q3,q4,q5⟩=>by rw[q4] at q2;cases q2)
 ·cases j with
  | zero=>cases k with
   | zero=>rfl
   | succ k=>exact absurd (s0.bd k a2 D gs' (by simpa using e2)) (fun ⟨b,ws,q1,q2,q3,q4,q5⟩=>by rw[q4] at q2;cases q2)
  | succ j=>exact absurd (s0.bd j a1 C' fs' (by simpa using e1)) (fun ⟨b,ws,q1,q2,q3,q4,q5⟩=>by rw[q4] at q2;cases q2)
theorem Fw{P:Program}{w:World}{K:PySem.W.Frag}{mg:Str->Option Value}{base:Heap}{k:Nat}{f C:Addr}{name qual:Str}{params:Arguments}{body:List Stmt}{scope:Scope}{dV kV doc pm cdv ct oc:Value}{an od:Option Addr}
  {osl:Array (Option Value)} {N ps:List Str} {g:af->M Out} (lk:K.lookup f=some ⟨oc,od,.func (PySem.W.fnOf name qual params body scope dV kV doc pm an cdv ct),osl⟩) (hcd:PySem.W.codeIn K cdv qual=true) (S:az N ps scope) (hN:0<N.length)
  (hb:∀ (A:Around) (outer:List Env) (s:Shared) (H:Hp) (E:XK),cp k (A.deeper (envOfC qual scope s.heap.objs.size f cdv))->l_ ((pf (bV P w) P w K mg base N qual scope f cdv A outer s H E).out fun _=>E) body (tS E g)) :
  aQ P w K mg base (bV P w) (k+1) f (PySem.W.fnOf name qual params body scope dV kV doc pm an cdv ct) ps (Hg ps.length C (Bk N.length g C)):=by
 refine yV lk hcd S (fun vs H Q E h=>h.1) fun A outer s H vs Q E hr hs=>⟨_,hb A outer s H E hr,?_⟩
 obtain⟨_,a,dx,us,Hs,H1,ps',rfl,ha,hdx,hne,hH,sm,r,h⟩:=hs
 have ne:∀ c u,H1 c=some u->c≠dx:=fun c u e z=>by rw[z,hdx] at e;cases e
 have s0:a_ H1 (upd H1 dx (.own a)):=fun c u q=>by rw[au (ne c u q)];exact q
 have g0:bC Hs H1 Hs (upd H1 dx (.own a)):=⟨fun _ _ e=>e,s0,fun c u q=>s0 c u (sm c u q),fun _ _ e _=>e⟩
 refine⟨Hs,_,Hs,_,SR.Ip (dx:=dx) g0.sub hN (by rw[au (Ne.symm hne)];exact ha) r hH,(ax.bind h).imp (fun o ho=>?_) fun e he=>he.grow g0⟩
 cases o with
 | rt p=>exact ho.elim
 | bk env=>exact ho.elim
 | ct env=>exact ho.elim
 | nx env =>
  intro σ Hs' H' sr
  have ho':ax (BL a C env) _ _:=ho
  unfold BL at ho'
  split at ho'
  ·rename_i b D fs ex
   obtain⟨⟨rfl,rfl⟩,hp⟩:=ax.cJ ho'
   obtain⟨dx',ws,h1,h2,h3,h4,h5⟩:=sr.bd 0 _ _ fs ex
   exact hp dx' ws Hs' H' (g0.trans sr.gr) h2 h3 h5
  ·exact ho'.elim
noncomputable def jW(C:Addr)(sem:Addr->List PV->M (List (Str×PV)))(dps:List PV)(ps:List PV):M PV:=(IS fun a=>sem a (ps++dps)).bind fun fs=>M.ok (.obj C fs)
section
variable{X:Cx}{E:St->XK}{k n:Nat}{f C:Addr}{fd:FuncData}{ns:List Str}{sem:Addr->List PV->M (List (Str×PV))}{x:Str}{p pos:Pos}{e:Expr}{es:List Expr}{fs:af->M (List PV)}
theorem Gh{ds:List Value}{dvs:List V}{dps:List PV}(Mk:Mk X.K C f)(F:aQ X.prog X.w X.K X.mg X.base (bV X.prog X.w) k f fd ns (Hg n C sem))(hr:cp (k+1) X.A)(hg:Gl X x)(hm:X.mg x=some (.ref C))(hb:Binds X.K fd ns ds)(hd:Vals dvs ds)(hdp:∀ H,aK H dps dvs)(O:e6 X E)
  (hl:∀ a ps,sem a (ps++dps)≠none->ps.length+dps.length+1=n)
  (ha:PA X (e::es) (tL E fs)) (hdb:(x==("__debug__" : Str))=false:=by decide) (he:starEach (e::es) X.env=(false,eval e X.env)::starEach es X.env:=by rfl) (hpl:(backTo pos (starEach es X.env)).any (·.1)=false:=by rfl) :
  PE X (.Call (.Name x p) (e::es) [] pos) (tE E (ai (jW C sem dps) fs)):=by
 refine(DL Mk F hr hg hm hb hd O ha hdb he hpl).imp fun σ H Q q=>c_ (K:=j5 Q) j5.g q fun B H₀ Hs H1 env ps' v sr rp hp=>?_
 intro a dx ha hdx hne
 have r2:aK Hs (ps'++dps) (v++dvs):=rp.append (hdp Hs)
 have hp':=(ax.bind hp).IS a
 have hn:sem a (ps'++dps)≠none:=fun z=>by
  rw[z] at hp';exact hp'
 refine⟨?_,a,dx,v++dvs,Hs,H1,ps'++dps,rfl,ha,hdx,hne,rfl,sr.gr.sub,r2,hp'.imp (fun fl hfl dx' ws Hs' H' g hw hsw rw'=>⟨rfl,?_⟩) fun e he=>he⟩
 ·show (v++dvs).length+1=n
  rw[← r2.length,List.length_append]
  exact hl a ps' hn
 ·have ne:∀ c u,Hs' c=some u->c≠a:=fun c u q z=>by rw[z,hsw] at q;cases q
  have hst:a_ Hs' (upd Hs' a (.ins C dx' ws)):=fun c u q=>by rw[au (ne c u q)];exact q
  refine hfl (.ref a) (upd Hs' a (.ins C dx' ws)) H' ⟨fun c u q=>hst c u (g.st c u q),g.al,fun c u q=>?_,fun c u q1 q2=>?_⟩ (.obj aC (rw'.mono hst))
  ·by_cases z:c=a
   ·subst z;rw[aC] at q;cases q;exact hw
   ·rw[au z] at q;exact g.sub c u q
  ·have z:c≠a:=fun z=>by rw[z,ha] at q2;cases q2
   rw[au z];exact g.nw c u q1 q2
end
end L2
namespace L2
open PySem PySem.Spec PyProof.Rows
section
variable{X:Cx}{E:St->XK}{a b c e:Expr}{pos:Pos}{f g h:af->M PV}
theorem oR{n m:Nat}(h:n.log2<m):n<2^m:=by
 by_cases z:n=0
 ·subst z;exact Nat.two_pow_pos m
 ·exact(Nat.log2_lt z).mp h
theorem aK.rep{H:Hp}{xs:List PV}{vs:List V}(r:aK H xs vs):∀ k:Nat,aK H (List.replicate k xs).flatten (List.replicate k vs).flatten
 | 0=>.nil
 | k+1=>by rw[List.replicate_succ,List.replicate_succ,List.flatten_cons,List.flatten_cons];exact r.append (r.rep k)
def bR:PV->PV->M PV
 | .int i,.int j=>cJ (i.natAbs.log2<67108864/\j.natAbs.log2<67108864) (M.ok (.int (i*j)))
 | .tup xs,.int k=>cJ (xs.isEmpty=false/\-(2^63)<=k/\k<2^63/\xs.length*k.toNat<=sizeLine) (M.ok (.tup (List.replicate k.toNat xs).flatten))
 | .lst xs,.int k=>cJ (-(2^63)<=k/\k<2^63/\xs.length*k.toNat<=sizeLine) (M.ok (.lst (List.replicate k.toNat xs).flatten))
 | _,_=>none
def GW(K:PySem.W.Frag):R2:=fun x y H Q=>(rI (fun i j=>IntMulOk i j) fun i j=>.int (i*j)) x y H Q\/GR K x y H Q\/Kw x y H Q
theorem EY:gq X (binaryOp .Mult) (GW X.K):=gq.or FV (gq.or Gy C2)
theorem HN{K:PySem.W.Frag}:mC E (GW K) bR:=by
 intro σ Hs H p q v u Q s rp rq h
 cases rp with
 | int i=>cases rq with
  | int j =>
   obtain⟨hz,h⟩:=ax.cJ h
   exact .inl ⟨i,j,rfl,rfl,CD (oR hz.1) (oR hz.2) (Nat.le_refl _),dz.flat h s (.int _)⟩
  | _=>exact h.elim
 | @tup a xs vs ha hx=>cases rq with
  | int k =>
   obtain⟨⟨h0,h1,h2,h3⟩,h⟩:=ax.cJ h
   have n1:vs≠[]:=fun z=>by
    have:=hx.length
    rw[z] at this
    cases xs with
    | nil=>cases h0
    | cons _ _=>cases this
   refine .inr (.inl ⟨a,k,vs,rfl,rfl,gU.of (s _ _ ha),n1,h1,h2,by rw[← hx.length];exact h3,fun z=>?_,fun z=>dz.tup h s (hx.rep _)⟩)
   subst z
   rw[show (1:Int).toNat=1 from rfl,List.replicate_succ,List.replicate_zero,List.flatten_cons,List.flatten_nil,List.append_nil] at h
   exact dz.flat h s (.tup ha hx)
  | _=>exact h.elim
 | @lst a xs vs ha hx=>cases rq with
  | int k =>
   obtain⟨⟨h1,h2,h3⟩,h⟩:=ax.cJ h
   exact .inr (.inr ⟨a,k,vs,rfl,rfl,s _ _ ha,h1,h2,by rw[← hx.length];exact h3,dz.lst h s (hx.rep _)⟩)
  | _=>exact h.elim
 | _=>exact h.elim
theorem FG:mC E (rI BE fun i j=>.int (i.fdiv j)) (yP (fun _ j=>decide (j≠0/\j.natAbs.log2<9000)) fun i j=>i.fdiv j):=zc fun i j z=>(of_decide_eq_true z:j≠0/\j.natAbs.log2<9000)
theorem Ja:mC E (rI (fun _ j=>j≠0) fun i j=>.int (i.fmod j)) (yP (fun _ j=>decide (j≠0)) fun i j=>i.fmod j):=zc fun i j z=>of_decide_eq_true z
theorem IU:mC E (rI IJ fun i j=>.int (i^j.toNat)) (yP (fun i j=>decide (0<=j/\j<=1000000/\i.natAbs<2^64)) fun i j=>i^j.toNat):=zc fun i j z=>(of_decide_eq_true z:0<=j/\j<=1000000/\i.natAbs<2^64)
def KN:PV->M PV
 | .int i=>M.ok (.int (-i))
 | _=>none
def j4(f:af->M PV):af->M PV:=fun env=>(f env).bind KN
theorem IL(ha:PE X a (tE E f)):PE X (.UnaryOp .USub a pos) (tE E (j4 f)) :=
 (K_ Hn ha).imp fun σ H Q q=>KC q fun Hs H1 p v s rp h=>by
  cases rp with
  | int i=>exact⟨i,rfl,dz.flat h s (.int _)⟩
  | _=>exact h.elim
def tZ:PV->Bool
 | .cz=>true
 | _=>false
theorem wq{H:Hp}{p:PV}{v:V}(r:Rep H p v):decide (v=.cz)=tZ p:=by
 cases r <;> rfl
def Cb:PV->PV->M PV
 | p,.cz=>M.ok (.bl (tZ p))
 | _,_=>none
def nu:PV->PV->M PV
 | p,.cz=>M.ok (.bl (!tZ p))
 | _,_=>none
theorem Dm:mC E (fun x y H Q=>y=.cz/\Q (.bl (decide (x=.cz))) H) Cb:=by
 intro σ Hs H p q v u Q s rp rq h
 cases rq with
 | cz =>
  have h':ax (M.ok (PV.bl (tZ p))) (dz Hs H Q) (XW (E σ) Hs H):=by cases p <;> exact h
  exact⟨rfl,by rw[wq rp];exact dz.flat h' s (.bl _)⟩
 | _=>cases p <;> exact h.elim
theorem zR:mC E (fun x y H Q=>y=.cz/\Q (.bl (!decide (x=.cz))) H) nu:=by
 intro σ Hs H p q v u Q s rp rq h
 cases rq with
 | cz =>
  have h':ax (M.ok (PV.bl (!tZ p))) (dz Hs H Q) (XW (E σ) Hs H):=by cases p <;> exact h
  exact⟨rfl,by rw[wq rp];exact dz.flat h' s (.bl _)⟩
 | _=>cases p <;> exact h.elim
def jo(o o':PV->PV->M PV)(f g h:af->M PV):af->M PV:=fun env=>(f env).bind fun p=>(g env).bind fun q=>(o p q).bind fun z=>(yz z).bind fun k=>if k=true then (h env).bind fun r=>o' q r else M.ok (.bl false)
theorem wZ{r r':R2}{o o':PV->PV->M PV}(hv:mC E r o)(hv':mC E r' o'){σ:St}{H:Hp}{Q:VK}(q:tE E (jo o o' f g h) σ H Q):yr r r' (tE E f) (tE E g) (tE E h) σ H Q:=by
 refine bJ (K:=j5 Q) j5.g q fun B H₀ Hs H1 env p v sr rp hp=>?_
 refine⟨B,H₀,Hs,env,sr,(ax.bind hp).imp (fun q hq u Hs2 H2 g2 ru=>?_) fun e he=>he⟩
 have sr2:=sr.grow g2
 refine hv σ Hs2 H2 p q v u _ sr2.gr.sub (rp.mono g2.st) ru ((ax.bind hq).imp (fun z hz w Hs3 H3 g3 rw'=>?_) fun e he=>he.grow g2)
 obtain⟨k,ek,hk⟩:=ax.Ma (ax.bind hz)
 subst ek
 cases rw'
 refine⟨k,rfl,?_⟩
 have sr3:=sr2.grow g3
 cases k with
 | false=>exact hk _ _ _ (g2.trans g3) (.bl _)
 | true =>
  have hk':ax ((h env).bind fun r=>o' q r) (j5 Q Hs H1) (XW (E σ) Hs H1):=hk
  refine⟨B,H₀,Hs3,env,sr3,(ax.bind hk').imp (fun r hr w Hs4 H4 g4 rw4=>?_) fun e he=>he.grow (g2.trans g3)⟩
  exact hv' σ Hs4 H4 q r u w Q (sr3.grow g4).gr.sub ((ru.mono g3.st).mono g4.st) rw4 (hr.imp (fun z hz w' Hs5 H5 g5 r5=>hz w' Hs5 H5 ((g2.trans g3).trans (g4.trans g5)) r5) fun e he=>he.grow ((g2.trans g3).trans g4))
theorem wD{op op':CmpOp}{r r':R2}{o o':PV->PV->M PV}(ho:gq X (compareOp op) r)(hv:mC E r o)(ho':gq X (compareOp op') r')(hv':mC E r' o')(ha:PE X a (tE E f))(hb:PE X b (tE E g))(hc:PE X c (tE E h))
  (hm:lastMarks [op,op'] [b,c]=false:=by with_unfolding_all rfl):PE X (.Compare a [op,op'] [b,c] pos) (tE E (jo o o' f g h)) :=
 (CC ho ho' ha hb hc hm).imp fun σ H Q q=>wZ hv hv' q
theorem DF{op op':CmpOp}{r r':R2}{o o':PV->PV->M PV}(ho:gq X (compareOp op) r)(hv:mC E r o)(ho':gq X (compareOp op') r')(hv':mC E r' o')(ha:PE X a (tE E f))(hb:PE X b (tE E g))(hc:PE X c (tE E h))
  (hm:lastMarks [op,op'] [b,c]=false:=by with_unfolding_all rfl):PT X (.Compare a [op,op'] [b,c] pos) (tT E (dR (jo o o' f g h))) :=
 (Cs ho ho' ha hb hc hm).imp fun σ H Q q=>wZ hv hv' (qT q)
def cG(u:af->M Bool)(b:af->M Out):Nat->af->M Out
 | 0,_=>none
 | n+1,env=>(u env).bind fun t=>if t=true then (b env).bind fun o=>match o with
   | .nx env'=>cG u b n env'
   | .ct env'=>cG u b n env'
   | .bk env'=>M.ok (.nx env')
   | .rt p=>M.ok (.rt p)
  else M.ok (.nx env)
theorem AQ{E:XK}{u:af->M Bool}{g:af->M Out}{body:List Stmt}(n:af->Nat)(O:e6 X fun _=>E)(hc:PT X c (tT (fun _=>E) u))(hb:l_ X body (tS E g)):PS X (.While c body [] pos) (tS E fun env=>cG u g (n env) env):=by
 refine(DJ O.own hc hb).imp fun D σ H q=>?_
 obtain⟨B,H₀,Hs,env,sr,q⟩:=q
 refine⟨fun m σ H=>∃ Hs env,SR B H₀ Hs H σ env/\ax (cG u g m env) (KS D B H₀) (XW E B H₀),⟨n env,Hs,env,sr,q⟩,?_⟩
 rintro m σ1 H1 ⟨Hs1,env1,sr1,q1⟩
 cases m with
 | zero=>exact q1.elim
 | succ m =>
  refine⟨B,H₀,Hs1,env1,sr1,(ax.bind q1).imp (fun t ht Hs2 H2 g2=>?_) fun e he=>he.grow sr1.gr⟩
  have sr2:=sr1.grow g2
  cases t with
  | false=>exact ht σ1 Hs2 H2 sr2
  | true =>
   refine⟨fun σ' H'=>∃ Hs' env',SR B H₀ Hs' H' σ' env'/\ax (cG u g m env') (KS D B H₀) (XW E B H₀),fun σ' H' z=>⟨m,Nat.lt_succ_self m,z⟩,B,H₀,Hs2,env1,sr2,(ax.bind ht).imp (fun o ho=>?_) fun e he=>he⟩
   cases o with
   | nx env'=>exact fun σ' Hs' H' sr'=>⟨Hs',env',sr',ho⟩
   | ct env'=>exact fun σ' Hs' H' sr'=>⟨Hs',env',sr',ho⟩
   | bk env'=>exact ho
   | rt p=>exact ho
theorem jm{u:af->M Bool}{g:af->M Out}:∀ (n k:Nat) (env:af),cG u g n env≠none->cG u g (n+k) env=cG u g n env
 | 0,_,_,h=>(h rfl).elim
 | n+1,k,env,h=>by
  rw[show n+1+k=(n+k)+1 by omega]
  unfold cG at h ⊢
  cases hu:u env with
  | none=>rfl
  | some z =>
   cases z with
   | error e=>rfl
   | ok t =>
    rw[hu] at h
    cases t with
    | false=>rfl
    | true =>
     show M.bind (g env) _=M.bind (g env) _
     have h':M.bind (g env) (fun o=>match o with
      | .nx env'=>cG u g n env'
      | .ct env'=>cG u g n env'
      | .bk env'=>M.ok (.nx env')
      | .rt p=>M.ok (.rt p))≠none:=h
     cases hg:g env with
     | none=>rfl
     | some z =>
      cases z with
      | error e=>rfl
      | ok o =>
       rw[hg] at h'
       cases o with
       | nx env'=>exact jm n k env' h'
       | ct env'=>exact jm n k env' h'
       | bk env'=>rfl
       | rt p=>rfl
noncomputable def mx(u:af->M Bool)(b:af->M Out)(env:af):M Out:=open Classical in cG u b (if h:∃ n,cG u b n env≠none then h.choose else 0) env
theorem AO{u:af->M Bool}{b:af->M Out}{n:Nat}{env:af}(h:cG u b n env≠none):mx u b env=cG u b n env:=by
 have hx:∃ n,cG u b n env≠none:=⟨n,h⟩
 unfold mx
 rw[dif_pos hx]
 have h1:=hx.choose_spec
 rw[← jm _ n env h1,← jm n hx.choose env h,Nat.add_comm]
theorem wg{E:XK}{u:af->M Bool}{g:af->M Out}{body:List Stmt}(O:e6 X fun _=>E)(hc:PT X c (tT (fun _=>E) u))(hb:l_ X body (tS E g)):PS X (.While c body [] pos) (tS E (mx u g)) :=
 AQ (fun env=>open Classical in if h:∃ n,cG u g n env≠none then h.choose else 0) O hc hb
end
end L2
namespace L2
open PySem PySem.Spec PyProof.Rows
def G2:PV->Option String
 | .cz=>some "NoneType"
 | .bl _=>some "bool"
 | .int _=>some "int"
 | .str _=>some "str"
 | .lst _=>some "list"
 | .kS _=>some "list"
 | .tup _=>some "tuple"
 | .emp=>some "dict"
 | _=>none
def lK(a t:String):Bool:=a==t||(a == "bool" && t == "int")
theorem pv(K:PySem.W.Frag):PySem.W.kitOne K (.type "NoneType") (.type "int")=some false:=by with_unfolding_all kernel_rfl
theorem vO(K:PySem.W.Frag):PySem.W.kitOne K (.type "bool") (.type "int")=some true:=by with_unfolding_all kernel_rfl
def tys:List String:=["int", "bool", "str", "list", "tuple"]
theorem K6(K:PySem.W.Frag){p:PV}{a t:String}(ha:G2 p=some a)(ht:t∈tys):PySem.W.kitOne K (.type a) (.type t)=some (lK a t):=by
 have ht2:t = "int" \/ t = "bool" \/ t = "str" \/ t = "list" \/ t = "tuple" := by simpa [tys] using ht
 cases p <;> cases ha <;> rcases ht2 with rfl | rfl | rfl | rfl | rfl <;> first
  | exact pv K
  | exact kt_NoneType_bool K
  | exact kt_NoneType_str K
  | exact kt_NoneType_list K
  | exact kt_NoneType_tuple K
  | exact vO K
  | exact kt_bool_bool K
  | exact kt_bool_str K
  | exact kt_bool_list K
  | exact kt_bool_tuple K
  | exact kt_int_int K
  | exact kt_int_bool K
  | exact kt_int_str K
  | exact kt_int_list K
  | exact kt_int_tuple K
  | exact kt_str_int K
  | exact kt_str_bool K
  | exact kt_str_str K
  | exact kt_str_list K
  | exact kt_str_tuple K
  | exact kt_list_int K
  | exact kt_list_bool K
  | exact kt_list_str K
  | exact kt_list_list K
  | exact kt_list_tuple K
  | exact kt_tuple_int K
  | exact kt_tuple_bool K
  | exact kt_tuple_str K
  | exact kt_tuple_list K
  | exact kt_tuple_tuple K
  | exact kt_dict_int K
  | exact kt_dict_bool K
  | exact kt_dict_str K
  | exact kt_dict_list K
  | exact kt_dict_tuple K
theorem yN{K:PySem.W.Frag}{Hs H:Hp}{p:PV}{v:V}{a:String}(s:a_ Hs H)(r:Rep Hs p v)(ha:G2 p=some a):j9 K H v (.type a):=by
 cases r with
 | cz=>cases ha;exact .cz
 | bl b=>cases ha;exact .bl b
 | int i=>cases ha;exact .int i
 | str x=>cases ha;exact .str x
 | tup h _=>cases ha;exact .tup (s _ _ h)
 | lst h _=>cases ha;exact .lst (s _ _ h)
 | kS h _=>cases ha;exact .sI (s _ _ h)
 | emp h=>cases ha;exact .dK (s _ _ h)
 | _=>cases ha
theorem zh(K:PySem.W.Frag){p:PV}{a:String}(ha:G2 p=some a):∀ {Ts:List String},(∀ t∈Ts,t∈tys)->PySem.W.kitAny K (.type a) (Ts.map Value.type)=some (Ts.any fun t=>lK a t)
 | [],_=>rfl
 | t::r,h=>by
  have h1:=K6 K ha (h t List.mem_cons_self)
  have h2:=zh K ha (Ts:=r) fun t q=>h t (List.mem_cons_of_mem _ q)
  simp only[List.map_cons,PySem.W.kitAny,h1,List.any_cons]
  cases lK a t with
  | true=>rfl
  | false=>exact h2
structure yD (K:PySem.W.Frag) (C:Addr):Prop where
 cls:n5 K C
 ha:PySem.W.findIn K (.ref C) "__class__" = some (some (.builtin "object.__class__"))
 hn:PySem.W.specialIn K (.builtin "object.__class__") "__get__" = some (some (.builtin "getset_descriptor.__get__"))
 Kc:PySem.W.takesIn K (.builtin "object.__class__")=some true
 hm:PySem.W.mroIn K C (.type "object")=some true
def Af(b:String->Bool)(ob oe:Addr->Option Bool):PV->M PV
 | .obj C _=>fF ((ob C).map .bl)
 | .exc C _=>fF ((oe C).map .bl)
 | p=>fF ((G2 p).map fun a=>.bl (b a))
section
variable{X:Cx}{E:St->XK}{e:Expr}{pos p px pt:Pos}{f:af->M PV}{T:String}{x:Str}{C:Addr}{ob oe:Addr->Option Bool}
theorem yM{H:Hp}{C:Addr}{fo:Option (List (Str×PV))}{Hs:Hp}{v:V}(s:a_ Hs H)(r:Rep Hs (.exc C fo) v):∃ a fo',v=.ref a/\ExcAt H a C fo':=by
 cases r with
 | @yU a _ h=>exact⟨a,none,rfl,s _ _ h⟩
 | @x_ a _ d _ vs h h2 _=>exact⟨a,some vs,rfl,d,s _ _ h,s _ _ h2⟩
def vI(b:String->Bool)(ob oe:Addr->Option Bool)(f:af->M PV):af->M PV:=fun env=>(f env).bind (Af b ob oe)
theorem qL{b:String->Bool}{p:PV}{Q:PV->Prop}{F:EX->Prop}(h:ax (Af b ob oe p) Q F):(∃ a,G2 p=some a/\Q (.bl (b a)))\/(∃ C fs k,p=.obj C fs/\ob C=some k/\Q (.bl k))\/∃ C fo k,p=.exc C fo/\oe C=some k/\Q (.bl k):=by
 cases p with
 | obj C fs =>
  obtain⟨z,e,q⟩:=ax.opt h
  obtain⟨k,e2,rfl⟩:=Option.map_eq_some_iff.mp e
  exact .inr (.inl ⟨C,fs,k,rfl,e2,q⟩)
 | exc C fo =>
  obtain⟨z,e,q⟩:=ax.opt h
  obtain⟨k,e2,rfl⟩:=Option.map_eq_some_iff.mp e
  exact .inr (.inr ⟨C,fo,k,rfl,e2,q⟩)
 | cz=>exact .inl ⟨_,rfl,h⟩
 | bl _=>exact .inl ⟨_,rfl,h⟩
 | int _=>exact .inl ⟨_,rfl,h⟩
 | str _=>exact .inl ⟨_,rfl,h⟩
 | tup _=>exact .inl ⟨_,rfl,h⟩
 | lst _=>exact .inl ⟨_,rfl,h⟩
 | kS _=>exact .inl ⟨_,rfl,h⟩
 | emp=>exact .inl ⟨_,rfl,h⟩
theorem yc{K:PySem.W.Frag}{Hs H:Hp}{C:Addr}{fs:List (Str×PV)}{v:V}(s:a_ Hs H)(r:Rep Hs (.obj C fs) v)(c:yD K C):j9 K H v (.ref C):=by
 cases r with
 | obj h _=>exact .ins (s _ _ h) c.cls c.ha c.hn c.Kc c.hm
theorem jI(hg:Gl X "isinstance")(hm:X.mg "isinstance" = none)(hT:PE X (.Name x pt) (tC (.ty T)))(ht:T∈tys)(hob:∀ C b,ob C=some b->yD X.K C/\PySem.W.kitOne X.K (.ref C) (.type T)=some b)(hoe:∀ C b,oe C=some b->fY X.K C/\PySem.W.kitOne X.K (.ref C) (.type T)=some b)(he:PE X e (tE E f))
  (h1:starEach [e,.Name x pt] X.env=(false,eval e X.env)::starEach [.Name x pt] X.env:=by rfl) (h2:starEach [.Name x pt] X.env=(false,eval (.Name x pt) X.env)::starEach [] X.env:=by rfl) (hpl:(backTo pos (starEach [.Name x pt] X.env)).any (·.1)=false:=by rfl) :
  PE X (.Call (.Name "isinstance" p) [e,.Name x pt] [] pos) (tE E (vI (fun a=>lK a T) ob oe f)):=by
 refine(ke (cN.or xh qV) hg hm uM (dF he (dF hT mi h2) h1) (by decide) (by decide) h1 hpl).imp fun σ H Q q=>bJ (K:=j5 Q) j5.g q fun B H₀ Hs H1 env p v sr rp hp=>?_
 rcases qL hp with ⟨a,ha,q⟩ | ⟨C,fs,k,rfl,e,q⟩ | ⟨C,fo,k,rfl,e,q⟩
 ·exact .inl ⟨v,T,_,_,rfl,yN sr.gr.sub rp ha,K6 X.K ha ht,dz.flat q sr.gr.sub (.bl _)⟩
 ·exact .inl ⟨v,T,_,_,rfl,yc sr.gr.sub rp (hob C k e).1,(hob C k e).2,dz.flat q sr.gr.sub (.bl _)⟩
 ·obtain⟨a,fo',rfl,hx⟩:=yM sr.gr.sub rp
  exact .inr ⟨a,C,fo',k,(hoe C k e).1,hx,.inl ⟨T,rfl,(hoe C k e).2⟩,dz.flat q sr.gr.sub (.bl _)⟩
theorem Ih{D:Addr}(hg:Gl X "isinstance")(hm:X.mg "isinstance" = none)(hT:PE X (.Name x pt) (tC (.ref D)))(hk:∀ p a,G2 p=some a->PySem.W.kitOne X.K (.type a) (.ref D)=some false)(hob:∀ C b,ob C=some b->yD X.K C/\PySem.W.kitOne X.K (.ref C) (.ref D)=some b)(hoe:∀ C b,oe C=some b->fY X.K C/\PySem.W.kitOne X.K (.ref C) (.ref D)=some b)(he:PE X e (tE E f))
  (h1:starEach [e,.Name x pt] X.env=(false,eval e X.env)::starEach [.Name x pt] X.env:=by rfl) (h2:starEach [.Name x pt] X.env=(false,eval (.Name x pt) X.env)::starEach [] X.env:=by rfl) (hpl:(backTo pos (starEach [.Name x pt] X.env)).any (·.1)=false:=by rfl) :
  PE X (.Call (.Name "isinstance" p) [e,.Name x pt] [] pos) (tE E (vI (fun _=>false) ob oe f)):=by
 refine(ke (cN.or DZ qV) hg hm uM (dF he (dF hT mi h2) h1) (by decide) (by decide) h1 hpl).imp fun σ H Q q=>bJ (K:=j5 Q) j5.g q fun B H₀ Hs H1 env p v sr rp hp=>?_
 rcases qL hp with ⟨a,ha,q⟩ | ⟨C,fs,k,rfl,e,q⟩ | ⟨C,fo,k,rfl,e,q⟩
 ·exact .inl ⟨v,D,_,_,rfl,yN sr.gr.sub rp ha,hk p a ha,dz.flat q sr.gr.sub (.bl _)⟩
 ·exact .inl ⟨v,D,_,_,rfl,yc sr.gr.sub rp (hob C k e).1,(hob C k e).2,dz.flat q sr.gr.sub (.bl _)⟩
 ·obtain⟨a,fo',rfl,hx⟩:=yM sr.gr.sub rp
  exact .inr ⟨a,C,fo',k,(hoe C k e).1,hx,.inr ⟨D,rfl,(hoe C k e).2⟩,dz.flat q sr.gr.sub (.bl _)⟩
theorem F4{e2:Expr}{t2:TE}{Ts:List String}(hg:Gl X "isinstance")(hm:X.mg "isinstance" = none)(hT:PE X e2 t2)(ht2:∀ σ H R,(∀ p,H p=none->R (.ref p) (upd H p (.tup (Ts.map V.ty))))->t2 σ H R)(ht:∀ t∈Ts,t∈tys)(hob:∀ C b,ob C=some b->yD X.K C/\PySem.W.kitAny X.K (.ref C) (Ts.map Value.type)=some b)(he:PE X e (tE E f))
  (h1:starEach [e,e2] X.env=(false,eval e X.env)::starEach [e2] X.env:=by rfl) (h2:starEach [e2] X.env=(false,eval e2 X.env)::starEach [] X.env:=by rfl) (hpl:(backTo pos (starEach [e2] X.env)).any (·.1)=false:=by rfl) :
  PE X (.Call (.Name "isinstance" p) [e,e2] [] pos) (tE E (vI (fun a=>Ts.any fun t=>lK a t) ob (fun _=>none) f)):=by
 refine(ke Ac hg hm uM (dF he (dF hT mi h2) h1) (by decide) (by decide) h1 hpl).imp fun σ H Q q=>bJ (K:=j5 Q) j5.g q fun B H₀ Hs H1 env p v sr rp hp=>?_
 refine ht2 σ H1 _ fun tp hn=>?_
 have g:=bC.new (o:=.tup (Ts.map V.ty)) sr.gr.sub hn
 rcases qL hp with ⟨a,ha,q⟩ | ⟨C,fs,k,rfl,e,q⟩ | ⟨C,fo,k,rfl,e,q⟩
 ·exact⟨v,tp,Ts,_,_,rfl,aC,yN g.sub (rp.mono g.st) ha,zh X.K ha ht,q _ _ _ g (.bl _)⟩
 ·exact⟨v,tp,Ts,_,_,rfl,aC,yc g.sub (rp.mono g.st) (hob C k e).1,(hob C k e).2,q _ _ _ g (.bl _)⟩
 ·cases e
end
end L2
namespace L2
open PySem PySem.Spec PyProof.Rows
open PySem.SeqAt (shaped noMix noMixAll)
mutual
def dat:PV->Option PyData
 | .cz=>some .none
 | .bl b=>some (.bool b)
 | .int i=>some (.int i)
 | .str x=>some (.str x)
 | .tup xs=>(pR xs).map .tuple
 | .lst xs=>(pR xs).map .list
 | .kS xs=>(pR xs).map .list
 | .obj _ _=>none
 | .exc _ _=>none
 | .emp=>none
def pR:List PV->Option (List PyData)
 | []=>some []
 | p::r=>(dat p).bind fun d=>(pR r).map (d::·)
end
section
variable{X:Cx}{pins:List (Addr×Obj)}{σ:St}{H:Hp}{s:Shared}
mutual
theorem Rep.reads{Hs:Hp}(I:Inv X pins σ H s)(sm:a_ Hs H):∀ {p:PV} {v:V} {u:Value} {d:PyData},Rep Hs p v->RelV v u->dat p=some d->∃ as,Reads s.heap u d as
 | _,_,u,d,.cz,r,e=>by
  cases e;cases (show u=Value.none from r);exact⟨_,.none⟩
 | _,_,u,d,.bl b,r,e=>by
  cases e;cases (show u=Value.bool b from r);exact⟨_,.bool b⟩
 | _,_,u,d,.int i,r,e=>by
  cases e;obtain⟨t,rfl⟩:=(show ∃ t,u=Value.int i t from r);exact⟨_,.int i t⟩
 | _,_,u,d,.str i,r,e=>by
  cases e;obtain⟨t,rfl⟩:=(show ∃ t,u=Value.str i t from r);exact⟨_,.str i t⟩
 | _,_,u,d,.tup (a:=a) ha hx,r,e=>by
  obtain⟨ds,e2,rfl⟩:=Option.map_eq_some_iff.mp (show (pR _).map PyData.tuple=some d from e)
  cases (show u=Value.ref a from r)
  obtain⟨its,r1,⟨o,ho,hc,n,hd⟩,_⟩:=I.tuple (gU.of (sm _ _ ha))
  obtain⟨as,ra⟩:=aK.reads I sm hx r1 e2
  exact⟨_,.tuple ho hc hd (by simpa using ra)⟩
 | _,_,u,d,.lst (a:=a) ha hx,r,e=>by
  obtain⟨ds,e2,rfl⟩:=Option.map_eq_some_iff.mp (show (pR _).map PyData.list=some d from e)
  cases (show u=Value.ref a from r)
  obtain⟨its,r1,⟨o,n,ho,hc,_,hd⟩,_⟩:=I.list (i4.of (sm _ _ ha))
  obtain⟨as,ra⟩:=aK.reads I sm hx r1 e2
  exact⟨_,.list ho hc hd (by simpa using ra)⟩
 | _,_,u,d,.kS (a:=a) (o:=ob) ha hx,r,e=>by
  obtain⟨ds,e2,rfl⟩:=Option.map_eq_some_iff.mp (show (pR _).map PyData.list=some d from e)
  cases (show u=Value.ref a from r)
  obtain⟨its,r1,⟨o,n,ho,hc,_,hd⟩,_⟩:=I.list (.inl (.inr ⟨ob,sm _ _ ha⟩))
  obtain⟨as,ra⟩:=aK.reads I sm hx r1 e2
  exact⟨_,.list ho hc hd (by simpa using ra)⟩
 | _,_,u,d,.obj _ _,r,e=>by cases e
 | _,_,u,d,.yU _,r,e=>by cases e
 | _,_,u,d,.x_ _ _ _,r,e=>by cases e
 | _,_,u,d,.emp _,r,e=>by cases e
theorem aK.reads{Hs:Hp}(I:Inv X pins σ H s)(sm:a_ Hs H):∀ {p:List PV} {v:List V} {u:List Value} {d:List PyData},aK Hs p v->Vals v u->pR p=some d->∃ as,ReadsAll s.heap u d as
 | _,_,_,_,.nil,.nil,e=>by cases e;exact⟨_,.nil⟩
 | _,_,_,d,.cons (p:=p) (ps:=ps) h hr,.cons r rr,e=>by
  obtain⟨d1,e1,e2⟩:=Option.bind_eq_some_iff.mp (show (dat p).bind (fun d=>(pR ps).map (d::·))=some d from e)
  obtain⟨ds,e3,rfl⟩:=Option.map_eq_some_iff.mp e2
  obtain⟨as,ra⟩:=Rep.reads I sm h r e1
  obtain⟨bs,rb⟩:=aK.reads I sm hr rr e3
  exact⟨_,.cons ra rb⟩
end
end
def J8(d e:PyData):M Bool:=cJ (shaped d=true/\shaped e=true/\noMix d e=true) (M.ok (same d e))
def uz(o:Bool->PV)(p q:PV):M PV:=match dat p,dat q with
 | some d,some e=>(J8 d e).bind fun b=>M.ok (o b)
 | _,_=>none
def xu:PV->PV->M PV:=uz fun b=>.bl b
def xq:PV->PV->M PV:=uz fun b=>.bl (!b)
def DB(o:Bool->Bool):R2:=fun x y H Q=>∃ Hs p q d e,a_ Hs H/\Rep Hs p x/\Rep Hs q y/\dat p=some d/\dat q=some e/\shaped d=true/\shaped e=true/\noMix d e=true/\Q (.bl (o (same d e))) H
section
variable{X:Cx}{E:St->XK}
theorem BM(hu:X.A.units+64<cLine):gq X (compareOp .Eq) (DB id):=by
 intro pins s σ H x y v u Q I rx ry h
 obtain⟨Hs,p,q,d,e,sm,rp,rq,hd,he,h1,h2,h3,hq⟩:=h
 obtain⟨as,ra⟩:=Rep.reads I sm rp rx hd
 obtain⟨bs,rb⟩:=Rep.reads I sm rq ry he
 exact eq_dataH_same ra rb h1 h2 hu h3 (va I hq rfl)
theorem CN(hu:X.A.units+64<cLine):gq X (compareOp .NotEq) (DB not):=by
 intro pins s σ H x y v u Q I rx ry h
 obtain⟨Hs,p,q,d,e,sm,rp,rq,hd,he,h1,h2,h3,hq⟩:=h
 obtain⟨as,ra⟩:=Rep.reads I sm rp rx hd
 obtain⟨bs,rb⟩:=Rep.reads I sm rq ry he
 exact ne_dataH_same ra rb h1 h2 hu h3 (va I hq rfl)
theorem B7{o:Bool->Bool}:mC E (DB o) (uz fun b=>.bl (o b)):=by
 intro σ Hs H p q v u Q s rp rq h
 unfold uz at h
 split at h
 ·rename_i d e hd he
  have h':=ax.bind h
  obtain⟨⟨h1,h2,h3⟩,h⟩:=ax.cJ h'
  exact⟨Hs,p,q,d,e,s,rp,rq,hd,he,h1,h2,h3,dz.flat h s (.bl _)⟩
 ·exact h.elim
theorem GF:mC E (DB id) xu:=B7
theorem G1:mC E (DB not) xq:=B7
end
def nI(xs:List PV)(lo hi:Option Int):List PV:=(xs.drop (HT.de xs.length 0 lo)).take (HT.de xs.length xs.length hi-HT.de xs.length 0 lo)
theorem aK.cut{H:Hp}{xs:List PV}{vs:List V}(r:aK H xs vs)(lo hi:Option Int):aK H (nI xs lo hi) (wo vs lo hi):=by
 unfold nI wo
 rw[r.length]
 exact(r.drop _).take _
abbrev Kn(Q:Option Int->Hp->Prop):Hp->Hp->Option Int->Prop:=fun Hs H k=>∀ Hs' H',bC Hs H Hs' H'->Q k H'
def LU(E:St->XK)(g:af->M (Option Int)):TO:=fun σ H Q=>tG E g (Kn Q) σ H
theorem PO.imp{X:Cx}{e:Option Expr}{t t':TO}(h:PO X e t)(i:∀ σ H Q,t' σ H Q->t σ H Q):PO X e t':=fun pins s σ H Q I q=>h pins s σ H Q I (i σ H Q q)
def Ag:PV->M (Option Int)
 | .int i=>M.ok (some i)
 | _=>none
def qc:af->M (Option Int):=fun _=>M.ok none
def du(f:af->M PV):af->M (Option Int):=fun env=>(f env).bind Ag
section
variable{X:Cx}{E:St->XK}{e:Expr}{lo hi:Option Expr}{pos p2:Pos}{f:af->M PV}{gl gh:af->M (Option Int)}
theorem Kn.g{Q:Option Int->Hp->Prop}:KG (Kn Q):=fun Hs H Hs' H' b k g Hs2 H2 g2=>k Hs2 H2 (g.trans g2)
theorem kZ:PO X none (LU E qc):=Gv.imp fun σ H Q q=>by
 obtain⟨B,H₀,Hs,env,sr,q⟩:=q
 exact q Hs H (.refl sr.gr.sub)
theorem fm(he:PE X e (tE E f)):PO X (some e) (LU E (du f)):=(Fb he).imp fun σ H Q q=>bJ (K:=Kn Q) Kn.g q fun B H₀ Hs H1 env p v sr rp hp=>by
 cases rp with
 | int i=>exact⟨i,rfl,hp Hs H1 (.refl sr.gr.sub)⟩
 | _=>exact hp.elim
end
def ip(xs:List PV):List PV:=xs.mapIdx fun i x=>.tup [.int (i:Nat),x]
section
variable{E:St->XK}{K:PySem.W.Frag}{fs:af->M (List PV)}
theorem uc{a:Addr}{Hs1:Hp}{xs:List PV}{vs:List V}(hq:∀ Hs' H',a_ Hs1 Hs'->a_ Hs' H'->i4 K H' a vs)(hr:aK Hs1 xs vs):kh (JN K a) Hs1 (ip xs) where
 stop:=fun i Hs H s1 s2 hi=>by
  unfold ip at hi
  rw[List.length_mapIdx,hr.length] at hi
  exact⟨vs,hq Hs H s1 s2,hi⟩
 go:=fun i Hs H s1 s2 hi=>by
  unfold ip at hi
  rw[List.length_mapIdx] at hi
  obtain⟨v,e,_⟩:=hr.get (List.getElem?_eq_getElem hi)
  exact⟨vs,v,hq Hs H s1 s2,e⟩
 xM:=fun i Hs H x H2 s1 s2 hi y=>by
  unfold ip at hi
  rw[List.length_mapIdx] at hi
  obtain⟨v,e,r⟩:=hr.get (List.getElem?_eq_getElem hi)
  obtain⟨pa,v',hn,rfl,rfl,y1⟩:=y
  have z1:=y1 vs (hq Hs H s1 s2)
  rw[e] at z1;cases z1
  have gr:=bC.new (o:=.tup [.int (i:Nat),v]) s2 hn
  refine⟨.tup [.int (i:Nat),xs[i]],_,?_,gr,.tup aC (.cons (.int _) (.cons ((r.mono s1).mono gr.st) .nil))⟩
  unfold ip
  rw[List.getElem?_mapIdx,List.getElem?_eq_getElem hi]
  rfl
end
end L2
namespace L2
open PySem PySem.Spec PyProof.Rows
def GB(lo st:Int)(n:Nat):It:=⟨fun i _=>i<n,fun i H x H'=>H'=H/\x=.int (lo+(i:Nat)*st),fun i _=>n<=i⟩
theorem vM{P:Program}{w:World}{K:PySem.W.Frag}{tg:Expr}(it:Addr)(lo st:Int)(n:Nat):Turn P w K tg (GB lo st n) [it] it (fun i h=>IsRangeIter h it (lo+(i:Nat)*st) ((n:Int)-(i:Nat)) st) where
 mem:=by simp
 obj:=fun i h st b hb=>by
  have e:b=it:=by simpa using hb
  subst e
  exact⟨_,st,fun v z=>by
   have z':Data.fields _=Data.cell v:=z
   cases z'⟩
 keep:=fun i h h' st k=>k it (by simp) _ st
 item:=by
  intro X hP hw hK hc i pins s σ H E I hf st' hg
  subst hP hw hK
  obtain⟨f0,f1,f2,f3,f4,f5⟩:=hf it (by simp)
  have W:=Walks.range (prog:=X.prog) (w:=X.w) (I.ok.hd hc) it lo st n
  refine W.item i s _ _ hg st' fun v h' tk hv st'' kk=>?_
  obtain⟨t,rfl⟩:=hv
  have I1:Inv X pins σ H { s with heap:=h',toks:=tk }:=I.turned (fun b o hb e=>kk b o (by simpa using hb) e) f0 f1 f3 f4 f5
  exact⟨_,rfl,zH (s:={ s with heap:=h',toks:=tk }) (n := "range_iterator") st'' rfl rfl (by decide) ⟨.int (lo+(i:Nat)*st),H,I1,⟨t,rfl⟩,⟨rfl,rfl⟩,st'',fun b hb=>(hf b hb).1⟩⟩
 done:=by
  intro X hP hw hK hc i pins s σ H E I hf st' hg
  subst hP hw hK
  obtain⟨f0,f1,f2,f3,f4,f5⟩:=hf it (by simp)
  exact wpAny_pyNext_range_end (I.ok.hd hc) st' (by have:n<=i:=hg;omega) fun h' eb=>⟨rfl,I.turned (t':=s.toks) (fun b o hb e=>eb b o hb e) f0 f1 f3 f4 f5⟩
 self:=fun _ _ _ _ _ st h=>wpAny_pyIter_rangeiter st h
theorem uT(a b c:Int):0<=Builtin.Range.rangeSize a b c:=by
 unfold Builtin.Range.rangeSize
 split
 ·split
  ·have:=Int.ediv_nonneg (a:=b-a-1) (b:=c) (by omega) (by omega);omega
  ·omega
 ·split
  ·have:=Int.ediv_nonneg (a:=a-b-1) (b:=-c) (by omega) (by omega);omega
  ·omega
section
variable{X:Cx}{tg:Expr}
theorem AZ{pins:List (Addr×Obj)}{σ:St}{H:Hp}{s:Shared}{R:It->Hp->Prop}{E:Value->Shared->Prop}{lo hi st:Int}{t u v:Tok}{tk:Nat}(I:Inv X pins σ H s)(hsm:Builtin.Range.small lo hi st=true)
  (q:R (GB lo st (Builtin.Range.rangeSize lo hi st).toNat) H):wpAny (model X.prog X.w) X.A (pyIter (.ref s.heap.objs.size)) (MD X pins σ tg R) E { s with heap:=s.heap.push { cls:=.type "range", data:=.fields #[.int lo t,.int hi u,.int st v] },toks:=tk }:=by
 refine wpAny_pyIter_range (IsRange.new ..) hsm ?_
 have I1:Inv X pins σ H { s with heap:=s.heap.push { cls:=.type "range", data:=.fields #[.int lo t,.int hi u,.int st v] },toks:=tk }:=I.kept fun b o e=>Heap.get?_push_of_some _ e
 refine⟨(s.heap.push { cls:=.type "range", data:=.fields #[.int lo t,.int hi u,.int st v] }).objs.size,[(s.heap.push { cls:=.type "range", data:=.fields #[.int lo t,.int hi u,.int st v] }).objs.size],_,_,H,rfl,
  I1.kept (t':=tk) fun b o e=>Heap.get?_push_of_some _ e,vM _ lo st (Builtin.Range.rangeSize lo hi st).toNat,?_,fun b hb=>?_,q⟩
 ·have e1:lo+((0:Nat):Int)*st=lo:=by simp
  have e2:(((Builtin.Range.rangeSize lo hi st).toNat:Nat):Int)-((0:Nat):Int)=Builtin.Range.rangeSize lo hi st:=by have:=uT lo hi st;omega
  show IsRangeIter _ _ (lo+((0:Nat):Int)*st) ((((Builtin.Range.rangeSize lo hi st).toNat:Nat):Int)-((0:Nat):Int)) st
  rw[e1,e2]
  exact Heap.get?_push_size _ rfl
 ·have e:b=(s.heap.push { cls:=.type "range", data:=.fields #[.int lo t,.int hi u,.int st v] }).objs.size:=by simpa using hb
  subst e
  exact I1.uP (Nat.le_refl _) (I1.bo.fresh (Nat.le_refl _))
def C3(i j k:Int):Bool:=decide (k≠0)&&decide (k.natAbs<1073741824)&&Builtin.Range.small i j k
def Ha(ta:TA):TI:=fun σ H R=>ta σ H fun vs H1=>∃ i j k:Int,vs=[.int i,.int j,.int k]/\C3 i j k=true/\R (GB i k (Builtin.Range.rangeSize i j k).toNat) H1
theorem nM{a b c:Expr}{ta:TA}{p pos:Pos}(hg:Gl X "range")(hm:X.mg "range" = none)(ha:PA X [a,b,c] ta)(hs:starEach [a,b,c] X.env=[(false,eval a X.env),(false,eval b X.env),(false,eval c X.env)]:=by rfl)(hs2:starEach [b,c] X.env=[(false,eval b X.env),(false,eval c X.env)]:=by rfl) :
  PI X tg (.Call (.Name "range" p) [a,b,c] [] pos) (Ha ta):=by
 intro pins s σ H R I h
 refine Call_ (jN I hg hm boot_range (PyProof.Rows.callWith_type1 (cB (ha pos pins s σ H _ I h) fun us s1 ⟨vs,H1,I1,r1,q1⟩=>?_) (by rw[hs,hs2]) (by rw[hs2];rfl)))
 obtain⟨i,j,k,e,hc,q⟩:=q1
 subst e
 cases r1 with
 | cons r rr =>
  cases rr with
  | cons r' rr =>
   cases rr with
   | cons r'' rr =>
    cases rr
    obtain⟨t,rfl⟩:=r
    obtain⟨t',rfl⟩:=r'
    obtain⟨t'',rfl⟩:=r''
    unfold C3 at hc
    rw[Bool.and_eq_true,Bool.and_eq_true] at hc
    exact call_range_3 (of_decide_eq_true hc.1.1) (AZ I1 hc.2 q) (.inl (PyProof.noPylong_small (of_decide_eq_true hc.1.2)))
end
def yt:List PV->M (List PV)
 | [.int i,.int j,.int k]=>cJ (C3 i j k=true) (M.ok ((List.range (Builtin.Range.rangeSize i j k).toNat).map fun (n:Nat)=>.int (i+n*k)))
 | _=>none
section
variable{E:St->XK}{K:PySem.W.Frag}{fs:af->M (List PV)}
theorem Bu{lo st:Int}{n:Nat}{Hs1:Hp}:kh (GB lo st n) Hs1 ((List.range n).map fun (i:Nat)=>PV.int (lo+(i:Int)*st)) where
 stop:=fun i Hs H s1 s2 hi=>show n<=i by simpa using hi
 go:=fun i Hs H s1 s2 hi=>show i<n by simpa using hi
 xM:=fun i Hs H x H2 s1 s2 hi y=>by
  obtain⟨rfl,rfl⟩:=y
  have hi':i<n:=by simpa using hi
  exact⟨.int (lo+(i:Int)*st),Hs,by simp[hi'],.refl s2,.int _⟩
theorem Bg{ps:List PV}{Q:List PV->Prop}{F:EX->Prop}(h:ax (yt ps) Q F):∃ i j k,ps=[.int i,.int j,.int k]/\C3 i j k=true/\Q ((List.range (Builtin.Range.rangeSize i j k).toNat).map fun (n:Nat)=>.int (i+n*k)):=by
 unfold yt at h
 split at h
 ·obtain⟨hc,h⟩:=ax.cJ h
  exact⟨_,_,_,rfl,hc,h⟩
 ·exact h.elim
theorem aK.three{H:Hp}{p q r:PV}{vs:List V}(h:aK H [p,q,r] vs):∃ v u w,vs=[v,u,w]/\Rep H p v/\Rep H q u/\Rep H r w:=by
 cases h with
 | cons h r=>obtain⟨u,w,rfl,h2,h3⟩:=r.two;exact⟨_,_,_,rfl,h,h2,h3⟩
theorem qr:Ew E (Ha (tL E fs)) (j_ yt fs):=by
 intro σ H R q
 refine c_ (K:=KI R) KI.g q fun B H₀ Hs H1 env ps v sr rp hp=>?_
 obtain⟨i,j,k,rfl,hc,hp⟩:=Bg hp
 obtain⟨w,u,z,rfl,rw',ru,rz⟩:=rp.three
 cases rw'
 cases ru
 cases rz
 exact⟨i,j,k,rfl,hc,hp _ Hs H1 (.refl sr.gr.sub) Bu⟩
end
end L2
namespace L2
open PySem PySem.Spec PyProof.Rows
def jT:List PV->List PV->List PV->List PV
 | x::xs,y::ys,z::zs=>.tup [x,y,z]::jT xs ys zs
 | _,_,_=>[]
theorem ub:∀ {xs ys zs:List PV} {i:Nat} (h1:i<xs.length) (h2:i<ys.length) (h3:i<zs.length),(jT xs ys zs)[i]?=some (.tup [xs[i],ys[i],zs[i]])
 | x::xs,y::ys,z::zs,0,_,_,_=>rfl
 | x::xs,y::ys,z::zs,i+1,h1,h2,h3=>by
  show (jT xs ys zs)[i]?=_
  exact ub (xs:=xs) (ys:=ys) (zs:=zs) (i:=i) (by simpa using h1) (by simpa using h2) (by simpa using h3)
 | [],_,_,_,h1,_,_=>by simp at h1
 | _::_,[],_,_,_,h2,_=>by simp at h2
 | _::_,_::_,[],_,_,_,h3=>by simp at h3
theorem k6:∀ {xs ys zs:List PV},(jT xs ys zs).length=min xs.length (min ys.length zs.length)
 | x::xs,y::ys,z::zs=>by
  show (jT xs ys zs).length+1=_
  rw[k6]
  simp only[List.length_cons]
  omega
 | [],_,_=>by simp[jT]
 | _::_,[],_=>by simp[jT]
 | _::_,_::_,[]=>by simp[jT]
def y0:List PV->M (List PV)
 | [p,q,r]=>match cy p,cy q,cy r with
  | some xs,some ys,some zs=>M.ok (jT xs ys zs)
  | _,_,_=>none
 | _=>none
section
variable{E:St->XK}{K:PySem.W.Frag}{fs:af->M (List PV)}
theorem Aa{b1 b2 b3:Bool}{a1 a2 a3:Addr}{Hs1:Hp}{xs ys zs:List PV}{vs us ws:List V}(hq1:∀ Hs' H',a_ Hs1 Hs'->a_ Hs' H'->lH K H' b1 a1 vs)(hr1:aK Hs1 xs vs)(hq2:∀ Hs' H',a_ Hs1 Hs'->a_ Hs' H'->lH K H' b2 a2 us)(hr2:aK Hs1 ys us)
  (hq3:∀ Hs' H',a_ Hs1 Hs'->a_ Hs' H'->lH K H' b3 a3 ws) (hr3:aK Hs1 zs ws):kh (QX K b1 b2 b3 a1 a2 a3) Hs1 (jT xs ys zs) where
 stop:=fun i Hs H s1 s2 hi=>by
  rw[k6,hr1.length,hr2.length,hr3.length] at hi
  exact⟨vs,us,ws,hq1 Hs H s1 s2,hq2 Hs H s1 s2,hq3 Hs H s1 s2,by omega⟩
 go:=fun i Hs H s1 s2 hi=>by
  rw[k6] at hi
  obtain⟨v,e,_⟩:=hr1.get (List.getElem?_eq_getElem (show i<xs.length by omega))
  obtain⟨u,e',_⟩:=hr2.get (List.getElem?_eq_getElem (show i<ys.length by omega))
  obtain⟨w,e'',_⟩:=hr3.get (List.getElem?_eq_getElem (show i<zs.length by omega))
  exact⟨vs,us,ws,v,u,w,hq1 Hs H s1 s2,hq2 Hs H s1 s2,hq3 Hs H s1 s2,e,e',e''⟩
 xM:=fun i Hs H x H2 s1 s2 hi y=>by
  rw[k6] at hi
  have l1:i<xs.length:=by omega
  have l2:i<ys.length:=by omega
  have l3:i<zs.length:=by omega
  obtain⟨v,e,r⟩:=hr1.get (List.getElem?_eq_getElem l1)
  obtain⟨u,e',r'⟩:=hr2.get (List.getElem?_eq_getElem l2)
  obtain⟨w,e'',r''⟩:=hr3.get (List.getElem?_eq_getElem l3)
  obtain⟨pa,v',u',w',hn,rfl,rfl,y1,y2,y3⟩:=y
  have z1:=y1 vs (hq1 Hs H s1 s2)
  have z2:=y2 us (hq2 Hs H s1 s2)
  have z3:=y3 ws (hq3 Hs H s1 s2)
  rw[e] at z1;cases z1
  rw[e'] at z2;cases z2
  rw[e''] at z3;cases z3
  have gr:=bC.new (o:=.tup [v,u,w]) s2 hn
  exact⟨_,_,ub l1 l2 l3,gr,.tup aC (.cons ((r.mono s1).mono gr.st) (.cons ((r'.mono s1).mono gr.st) (.cons ((r''.mono s1).mono gr.st) .nil)))⟩
theorem Bf{ps:List PV}{Q:List PV->Prop}{F:EX->Prop}(h:ax (y0 ps) Q F):∃ p q r xs ys zs,ps=[p,q,r]/\cy p=some xs/\cy q=some ys/\cy r=some zs/\Q (jT xs ys zs):=by
 unfold y0 at h
 split at h
 ·split at h
  ·exact⟨_,_,_,_,_,_,rfl,by assumption,by assumption,by assumption,h⟩
  ·exact h.elim
 ·exact h.elim
theorem v5:Ew E (GX K (tL E fs)) (j_ y0 fs):=by
 intro σ H R q
 refine c_ (K:=KI R) KI.g q fun B H₀ Hs H1 env ps v sr rp hp=>?_
 obtain⟨p,q,r,xs,ys,zs,rfl,e1,e2,e3,hp⟩:=Bf hp
 obtain⟨w,u,z,rfl,rw',ru,rz⟩:=rp.three
 obtain⟨b1,a1,vs,rfl,hq1,hr1⟩:=lh (K:=K) sr.gr.sub rw' e1
 obtain⟨b2,a2,us,rfl,hq2,hr2⟩:=lh (K:=K) sr.gr.sub ru e2
 obtain⟨b3,a3,ws,rfl,hq3,hr3⟩:=lh (K:=K) sr.gr.sub rz e3
 exact⟨b1,b2,b3,a1,a2,a3,rfl,⟨vs,hq1 Hs H1 (fun _ _ z=>z) sr.gr.sub⟩,⟨us,hq2 Hs H1 (fun _ _ z=>z) sr.gr.sub⟩,⟨ws,hq3 Hs H1 (fun _ _ z=>z) sr.gr.sub⟩,hp _ Hs H1 (.refl sr.gr.sub) (Aa hq1 hr1 hq2 hr2 hq3 hr3)⟩
end
end L2
namespace L2
open PySem PySem.Spec PyProof.Rows
def oK(i j k:Nat):PV->af->M af
 | .tup [p,q,r],env=>M.ok (((env.set i (some (.sh p))).set j (some (.sh q))).set k (some (.sh r)))
 | _,_=>none
theorem zz{E:XK}{K:PySem.W.Frag}{i j k:Nat}:GK E (h9 K 3 (aY (aG i) (aY (aG j) (aY (aG k) hZ)))) (oK i j k):=by
 intro B H₀ Hs H σ env p v Q Z sr r h
 cases r with
 | @tup a xs vs ha hx =>
  match xs,hx with
  | [p,q,r],hx =>
   obtain⟨v,u,w,rfl,rp,rq,rr⟩:=hx.three
   exact⟨a,[v,u,w],rfl,gU.of (sr.gr.sub _ _ ha),rfl,v,[u,w],rfl,u,[w],rfl,w,[],rfl,rfl,h _ (((sr.set rp).set rq).set rr)⟩
  | [],_=>exact h.elim
  | [_],_=>exact h.elim
  | [_,_],_=>exact h.elim
  | _::_::_::_::_,_=>exact h.elim
 | _=>exact h.elim
theorem pY{i j k:Nat}:t8 (oK i j k):=fun p env e h n=>by
 unfold oK at h
 split at h
 ·cases h;exact lu (lu (lu n))
 ·cases h
section
variable{X:Cx}{E:XK}{e:Expr}{es:List Expr}{pos pos' px:Pos}{fs:af->M (List PV)}{f h:af->M PV}{i:Nat}{x:Str}
def ownAt(i:Nat)(env:af):M (List PV):=match env[i]? with
 | some (some (.ow xs))=>M.ok xs
 | _=>none
theorem ax.own{i:Nat}{env:af}{Q:List PV->Prop}{F:EX->Prop}(h:ax (ownAt i env) Q F):∃ xs,env[i]?=some (some (.ow xs))/\Q xs:=by
 unfold ownAt at h
 split at h
 ·exact⟨_,by assumption,h⟩
 ·exact h.elim
def GN(i:Nat)(xs:List PV)(p:PV)(env:af):PV->M Out
 | .int n=>match BB xs.length n with
  | some j=>M.ok (.nx (env.set i (some (.ow (xs.set j p)))))
  | none=>none
 | _=>none
def H0(i:Nat)(g f:af->M PV):af->M Out:=fun env=>(f env).bind fun p=>(ownAt i env).bind fun xs=>(g env).bind (GN i xs p env)
theorem DV{ie:Expr}(hi:X.N[i]?=some x)(hv:Ez X.env.scope x)(hk:PE X ie (tE (fun _=>E) h))(he:PE X e (tE (fun _=>E) f))(hd:(x==("__debug__" : Str))=false:=by decide)(hcd:(x==("__classdict__" : Str))=false:=by decide)
  (ha:∀ v,assign (.Subscript (.Name x px) ie pos') X.env v=(do
   let ov ← holding [v] (eval (.Name x px) X.env)
   let iv ← holding [v,ov] (eval ie X.env)
   standAt pos'
   holding [v,ov,iv] (setItem ov iv v)
   release [v,ov,iv] []):=by intro _;rfl)
  (hs:swapsWithSole [.Subscript (.Name x px) ie pos'] e pos.line X.env=pure false:=by rfl) (hw:swappedStores [.Subscript (.Name x px) ie pos'] e X.env=pure none:=by rfl)
  (h1:(assignEach [.Subscript (.Name x px) ie pos'] X.env).map (·.2)=[assign (.Subscript (.Name x px) ie pos') X.env]:=by rfl):PS X (.Assign [.Subscript (.Name x px) ie pos'] e pos) (tS E (H0 i h f)):=by
 refine(JK he (Ju (nY hi hv hd hcd) hk set_list ha) hs hw h1).imp fun D σ H q=>kn q fun B H₀ Hs H1 env p v sr rp hp=>?_
 obtain⟨xs,ex,hp⟩:=ax.own (ax.bind hp)
 obtain⟨a,vs,h1,h2,h3,h4,h5⟩:=sr.ow i xs ex
 refine⟨.ref a,h1,B,H₀,Hs,env,sr,(ax.bind hp).imp (fun k hk w Hs2 H2 g2 rk=>?_) fun e he=>he.grow sr.gr⟩
 have sr2:=sr.grow g2
 cases rk with
 | int n =>
  have hk':ax (match BB xs.length n with | some j=>M.ok (Out.nx (env.set i (some (.ow (xs.set j p))))) | none=>none) (KS D B H₀) (XW E B H₀):=hk
  split at hk'
  ·rename_i j ej
   exact⟨a,vs,n,j,rfl,rfl,g2.al _ _ h2,by rw[← h5.length];exact ej,hk' σ Hs2 _ (sr2.put ex h1 ((h5.mono g2.st).set (rp.mono g2.st) j))⟩
  ·exact hk'.elim
 | _=>exact hk.elim
end
theorem KO.gr{Q:VK}:KG (KO Q):=fun Hs H Hs' H' b k g vs p Hs2 H2 g2 r n=>k vs p Hs2 H2 (g.trans g2) r n
section
variable{X:Cx}{E:St->XK}{k n:Nat}{f C:Addr}{fd:FuncData}{ps:List Str}{sem:List PV->M (List PV)}{m:Str}{p pos apos cpos:Pos}{e o:Expr}{es:List Expr}{fs:af->M (List PV)}{g:af->M PV}
end
end L2
namespace L2
open PySem PySem.Spec PyProof.Rows
mutual
def rJ:PV->Bool
 | .cz=>true
 | .bl _=>true
 | .int _=>true
 | .str _=>true
 | .tup xs=>nX xs
 | _=>false
def nX:List PV->Bool
 | []=>true
 | p::r=>rJ p&&nX r
end
mutual
theorem Rep.away{Hs:Hp}{a:Addr}{ws:List V}(ha:Hs a=some (.lst ws)):∀ {p:PV} {v:V},Rep Hs p v->rJ p=true->Rep (rem Hs a) p v
 | _,_,.cz,_=>.cz
 | _,_,.bl b,_=>.bl b
 | _,_,.int b,_=>.int b
 | _,_,.str b,_=>.str b
 | _,_,.tup (a:=c) h r,n=>by
  have nc:c≠a:=fun z=>by subst z;rw[ha] at h;cases h
  exact .tup (by unfold rem;rw[if_neg nc];exact h) (r.away ha n)
 | _,_,.lst _ _,n=>by cases n
 | _,_,.kS _ _,n=>by cases n
 | _,_,.obj _ _,n=>by cases n
 | _,_,.yU _,n=>by cases n
 | _,_,.x_ _ _ _,n=>by cases n
theorem aK.away{Hs:Hp}{a:Addr}{ws:List V}(ha:Hs a=some (.lst ws)):∀ {p:List PV} {v:List V},aK Hs p v->nX p=true->aK (rem Hs a) p v
 | _,_,.nil,_=>.nil
 | _,_,.cons h r,n=>by
  have n':=Bool.and_eq_true_iff.mp (show (rJ _&&nX _)=true from n)
  exact .cons (h.away ha n'.1) (r.away ha n'.2)
end
def AN:M PV->M PV
 | some (.ok p)=>cJ (rJ p=true) (M.ok p)
 | _=>none
theorem ax.AN{r:M PV}{Q:PV->Prop}{E:EX->Prop}(h:ax (L2.AN r) Q E):ax r (fun p=>rJ p=true/\Q p) (fun _=>False):=by
 cases r with
 | none=>exact h
 | some r=>cases r with
  | error e=>exact h
  | ok p =>
   obtain⟨n,h⟩:=ax.cJ h
   exact⟨n,h⟩
theorem bC.back{Hs H Hs' H':Hp}{a:Addr}{ws:List V}(h1:Hs a=none)(hH:H a=some (.lst ws))(s:a_ Hs H)(g:bC (upd Hs a (.lst ws)) H Hs' H'):bC Hs H (rem Hs' a) H'/\Hs' a=some (.lst ws):=by
 have e:Hs' a=some (.lst ws):=g.st _ _ aC
 refine⟨⟨fun c u q=>?_,g.al,fun c u q=>?_,fun c u q1 q2=>?_⟩,e⟩
 ·have nc:c≠a:=fun z=>by subst z;rw[h1] at q;cases q
  unfold rem;rw[if_neg nc]
  exact g.st c u (by rw[au nc];exact q)
 ·unfold rem at q
  split at q
  ·cases q
  ·exact g.sub c u q
 ·unfold rem
  by_cases nc:c=a
  ·rw[if_pos nc]
  ·rw[if_neg nc]
   exact g.nw c u (by rw[au nc];exact q1) q2
theorem SR.lend{B H₀ Hs H:Hp}{σ:St}{env:af}{i:Nat}{xs:List PV}(r:SR B H₀ Hs H σ env)(e:env[i]?=some (some (.ow xs))):∃ a vs,Hs a=none/\H a=some (.lst vs)/\SR B H₀ (upd Hs a (.lst vs)) H σ (rS i env):=by
 obtain⟨a,vs,h1,h2,h3,h4,h5⟩:=r.ow i xs e
 refine⟨a,vs,h3,h2,?_⟩
 have ne:∀ c u,Hs c=some u->c≠a:=fun c u q z=>by rw[z,h3] at q;cases q
 have hst:a_ Hs (upd Hs a (.lst vs)):=fun c u q=>by rw[au (ne c u q)];exact q
 unfold rS
 rw[e]
 refine⟨⟨fun c u q=>hst c u (r.gr.st c u q),r.gr.al,fun c u q=>?_,fun c u q1 q2=>?_⟩,by rw[List.length_set];exact r.len,fun j q ej=>?_,fun j ys ej=>?_,fun j k ys zs b nj e1 e2 e3 e4=>?_,fun j ba C fs ej=>?_,fun j k _ _ C D fs gs e1 e2=>?_⟩
 ·by_cases z:c=a
  ·subst z;rw[aC] at q;cases q;exact h2
  ·rw[au z] at q;exact r.gr.sub c u q
 ·have z:c≠a:=fun z=>by rw[z,h4] at q2;cases q2
  rw[au z];exact r.gr.nw c u q1 q2
 ·rw[List.getElem?_set] at ej
  by_cases z:i=j
  ·subst z
   rw[if_pos rfl] at ej
   split at ej
   ·cases ej
    exact⟨.ref a,h1,.lst aC (h5.mono hst)⟩
   ·cases ej
  ·rw[if_neg z] at ej
   obtain⟨v,q1,q2⟩:=r.sh j q ej
   exact⟨v,q1,q2.mono hst⟩
 ·rw[List.getElem?_set] at ej
  by_cases z:i=j
  ·subst z
   rw[if_pos rfl] at ej
   split at ej <;> cases ej
  ·rw[if_neg z] at ej
   obtain⟨b,us,q1,q2,q3,q4,q5⟩:=r.ow j ys ej
   have nb:b≠a:=fun w=>by subst w;exact r.sep i j xs ys b z e ej h1 q1
   exact⟨b,us,q1,q2,by rw[au nb];exact q3,q4,q5.mono hst⟩
 ·rw[List.getElem?_set] at e1 e2
  by_cases z:i=j
  ·subst z
   rw[if_pos rfl] at e1
   split at e1 <;> cases e1
  ·by_cases z2:i=k
   ·subst z2
    rw[if_pos rfl] at e2
    split at e2 <;> cases e2
   ·rw[if_neg z] at e1
    rw[if_neg z2] at e2
    exact r.sep j k ys zs b nj e1 e2 e3 e4
 ·rw[List.getElem?_set] at ej
  by_cases z:i=j
  ·subst z
   rw[if_pos rfl] at ej
   split at ej <;> cases ej
  ·rw[if_neg z] at ej
   obtain⟨dx,us,q1,q2,q3,q4,q5⟩:=r.bd j ba C fs ej
   have nb:ba≠a:=fun w=>by subst w;rw[h2] at q2;cases q2
   exact⟨dx,us,q1,q2,by rw[au nb];exact q3,q4,q5.mono hst⟩
 ·rw[List.getElem?_set] at e1 e2
  by_cases z:i=j
  ·subst z
   rw[if_pos rfl] at e1
   split at e1 <;> cases e1
  ·by_cases z2:i=k
   ·subst z2
    rw[if_pos rfl] at e2
    split at e2 <;> cases e2
   ·rw[if_neg z] at e1
    rw[if_neg z2] at e2
    exact r.one j k _ _ C D fs gs e1 e2
def qM(i:Nat)(f:af->M PV):af->M PV:=fun env=>(ownAt i env).bind fun _=>AN (f (rS i env))
section
variable{X:Cx}{E:St->XK}{e:Expr}{f:af->M PV}{u:af->M Bool}
theorem vj(i:Nat)(he:PE X e (tE E f)):PE X e (tE E (qM i f)):=he.imp fun σ H Q q=>by
 obtain⟨B,H₀,Hs,env,sr,q⟩:=q
 obtain⟨xs,ex,q⟩:=ax.own (ax.bind q)
 obtain⟨a,vs,h3,h2,sr2⟩:=sr.lend ex
 refine⟨B,H₀,_,_,sr2,(ax.AN q).imp (fun p hp v Hs' H' g r=>?_) fun _ z=>z.elim⟩
 obtain⟨g2,ea⟩:=bC.back h3 h2 sr.gr.sub g
 exact hp.2 v _ _ g2 (r.away ea hp.1)
end
end L2
namespace L2
open PySem PySem.Spec PyProof.Rows
def bj:PV->PV->M PV:=yP (fun _ j=>decide (j≠0/\j.natAbs.log2<9000)) fun i j=>i.fdiv j
def bZ:PV->PV->M PV:=yP (fun _ j=>decide (j≠0)) fun i j=>i.fmod j
def E6:PV->PV->M PV:=yP (fun i j=>decide (0<=j/\j<=1000000/\i.natAbs<2^64)) fun i j=>i^j.toNat
def ED:PV->PV->M PV:=DN fun i j=>decide (i<j)
def EA:PV->PV->M PV:=DN fun i j=>decide (i<=j)
def GY:PV->PV->M PV:=DN fun i j=>decide (j<i)
def Ka:PV->PV->M PV:=DN fun i j=>decide (j<=i)
section
variable{E:St->XK}
theorem DO:mC E (rI BE fun i j=>.int (i.fdiv j)) bj:=FG
theorem Gn:mC E (rI (fun _ j=>j≠0) fun i j=>.int (i.fmod j)) bZ:=Ja
theorem Gk:mC E (rI IJ fun i j=>.int (i^j.toNat)) E6:=IU
theorem uD:mC E (z9 fun i j=>.bl (decide (i<j))) ED:=uK
theorem oz:mC E (z9 fun i j=>.bl (decide (i<=j))) EA:=uK
theorem Cv:mC E (z9 fun i j=>.bl (decide (j<i))) GY:=uK
theorem DW:mC E (z9 fun i j=>.bl (decide (j<=i))) Ka:=uK
end
def bf(n:Nat)(s:List PV->M PV):List PV->M PV:=fun ps=>cJ (ps.length=n) (s ps)
theorem qe{n:Nat}{s:List PV->M PV}{ps:List PV}(h:bf n s ps≠none):ps.length=n:=by
 unfold bf cJ at h
 split at h
 ·assumption
 ·exact(h rfl).elim
section
variable{P:Program}{w:World}{K:PySem.W.Frag}{mg:Str->Option Value}{base:Heap}
theorem B8{k n:Nat}{f:Addr}{fd:FuncData}{ps:List Str}{s:List PV->M PV}(F:aQ P w K mg base (bV P w) k f fd ps (dW n s)):aQ P w K mg base (bV P w) k f fd ps (dW n (bf n s)) where
 len:=fun vs H Q E h=>by
  obtain⟨h0,Hs,qs,sm,r,h⟩:=h
  exact F.len vs H Q E ⟨h0,Hs,qs,sm,r,(ax.cJ h).2⟩
 run:=fun A outer s H args us vs Q E hr e hb rv h=>by
  obtain⟨h0,Hs,qs,sm,r,h⟩:=h
  exact F.run A outer s H args us vs Q E hr e hb rv ⟨h0,Hs,qs,sm,r,(ax.cJ h).2⟩
structure bF (P:Program) (w:World) (K:PySem.W.Frag) (mg:Str->Option Value) (base:Heap) (n:Nat) (x:Str) (m:Nat) (sem:List PV->M PV):Prop where
 ex:∃ (f:Addr) (fd:FuncData) (ps:List Str),mg x=some (.ref f)/\PySem.W.keepIn K (.ref f)=true/\ps.length=m/\Binds K fd ps []/\aQ P w K mg base (bV P w) n f fd ps (dW m (bf m sem))
theorem aE.gk{x qual:Str}{st:Stmt}{dv:Value}{f:Addr}{fd:FuncData}{N ps:List Str}{k:Nat}{g:af->M Out}(F:aE K x qual st dv f fd)(S:az N ps (aq st))
  (hb:∀ (cdv:Value) (A:Around) (outer:List Env) (s:Shared) (H:Hp) (E:XK),cp k (A.deeper (envOfC qual (aq st) s.heap.objs.size f cdv))->e6 ((pf (bV P w) P w K mg base N qual (aq st) f cdv A outer s H E).out fun _=>E) (fun _=>E)->l_ ((pf (bV P w) P w K mg base N qual (aq st) f cdv A outer s H E).out fun _=>E) (fx st) (tS E g)) :
  aQ P w K mg base (bV P w) (k+1) f fd ps (dW ps.length (bf ps.length (av N.length g))):=by
 obtain⟨oc,od,kV,doc,pm,an,cdv,ct,osl,rfl,lk,hcd⟩:=F.ex
 exact B8 (IZ lk hcd S fun A outer s H E hr=>hb cdv A outer s H E hr (CF rfl rfl))
end
section
variable{X:Cx}{E:St->XK}{n m k:Nat}{x:Str}{sem:List PV->M PV}{e:Expr}{es:List Expr}{fs:af->M (List PV)}{p pos:Pos}
theorem bF.call(F:bF X.prog X.w X.K X.mg X.base n x m sem)(hr:cp k X.A)(hn:n<=k)(hg:Gl X x)(O:e6 X E)(ha:PA X (e::es) (tL E fs))(hdb:(x==("__debug__" : Str))=false:=by decide)(he:starEach (e::es) X.env=(false,eval e X.env)::starEach es X.env:=by rfl)(hpl:(backTo pos (starEach es X.env)).any (·.1)=false:=by rfl) :
  PE X (.Call (.Name x p) (e::es) [] pos) (tE E (ai (bf m sem) fs)):=by
 obtain⟨f,fd,ps,h1,h2,h3,h4,h5⟩:=F.ex
 have:=EO (p:=p) (dps:=[]) h5 (hr.mono hn) hg h1 h2 h4 .nil (fun _=>.nil) O (fun ps' hp=>by rw[List.append_nil] at hp;exact qe hp) ha hdb he hpl
 refine this.imp fun σ H Q q=>?_
 have e:(fun ps=>bf m sem (ps++[]))=bf m sem:=by funext ps;rw[List.append_nil]
 rw[e];exact q
structure kq (P:Program) (w:World) (K:PySem.W.Frag) (mg:Str->Option Value) (base:Heap) (C:Addr) (n:Nat) (x:Str) (m:Nat) (sem:List PV->M PV):Prop where
 ex:∃ (f:Addr) (fd:FuncData) (ps:List Str),n5 K C/\Meth K C x f/\Binds K fd ps []/\aQ P w K mg base (bV P w) n f fd ps (dW m (bf m sem))
theorem kq.call{C:Addr}{o:Expr}{g:af->M PV}{apos:Pos}{pl:Sem Bool}(F:kq X.prog X.w X.K X.mg X.base C n x m sem)(hr:cp k X.A)(hn:n<=k)(O:e6 X E)(ho:PE X o (tE E g))(ha:PA X (e::es) (tL E fs))
  (hst:starEach (e::es) X.env=(false,eval e X.env)::starEach es X.env:=by rfl) (hpl:(backTo pos (starEach es X.env)).any (·.1)=false:=by rfl)
  (ht:eval (.Call (.Attribute o x apos) (e::es) [] pos) X.env=(do
   let ov ← eval o X.env
   standAt apos.atName
   let (f,first) ← holding [ov] (getMethod ov x pl)
   callWith pos f first (backTo pos (starEach (e::es) X.env)) (backToKw pos (keywordEach [] X.env))):=by rfl) :
  PE X (.Call (.Attribute o x apos) (e::es) [] pos) (tE E (bD C x (bf m sem) g fs)):=by
 obtain⟨f,fd,ps,h1,h2,h3,h4⟩:=F.ex
 exact Gr ho h1 h2 h4 (hr.mono hn) h3 O (fun ps' hp=>qe hp) ha hst hpl ht
theorem kq.Lh{C:Addr}{o:Expr}{g:af->M PV}{apos:Pos}{pl:Sem Bool}(F:kq X.prog X.w X.K X.mg X.base C n x m sem)(hr:cp k X.A)(hn:n<=k)(O:e6 X E)(ho:PE X o (tE E g))
  (ht:eval (.Call (.Attribute o x apos) [] [] pos) X.env=(do
   let ov ← eval o X.env
   standAt apos.atName
   let (f,first) ← holding [ov] (getMethod ov x pl)
   callWith pos f first (backTo pos (starEach [] X.env)) (backToKw pos (keywordEach [] X.env))):=by rfl) :
  PE X (.Call (.Attribute o x apos) [] [] pos) (tE E (bD C x (bf m sem) g ak)):=by
 obtain⟨f,fd,ps,h1,h2,h3,h4⟩:=F.ex
 exact CT ho h1 h2 h4 (hr.mono hn) h3 O (fun ps' hp=>qe hp) ht
end
structure G0 (P:Program) (w:World) (K:PySem.W.Frag) (mg:Str->Option Value) (base:Heap) (C:Addr) (n:Nat) (x:Str) (m:Nat) (dps:List PV) (sem:Addr->List PV->M (List (Str×PV))):Prop where
 ex:∃ (f:Addr) (fd:FuncData) (ps:List Str) (ds:List Value) (dvs:List V),mg x=some (.ref C)/\Mk K C f/\Binds K fd ps ds/\Vals dvs ds/\(∀ H,aK H dps dvs)/\aQ P w K mg base (bV P w) n f fd ps (Hg m C sem)
def vB(m:Nat)(sem:Addr->List PV->M (List (Str×PV))):Addr->List PV->M (List (Str×PV)):=fun a ps=>cJ (ps.length+1=m) (sem a ps)
theorem Bo{P:Program}{w:World}{K:PySem.W.Frag}{mg:Str->Option Value}{base:Heap}{k n:Nat}{f C:Addr}{fd:FuncData}{ps:List Str}{s:Addr->List PV->M (List (Str×PV))}(F:aQ P w K mg base (bV P w) k f fd ps (Hg n C s)):aQ P w K mg base (bV P w) k f fd ps (Hg n C (vB n s)) where
 len:=fun vs H Q E h=>by
  obtain⟨h0,a,dx,us,Hs,H1,qs,e1,e2,e3,e4,e5,sm,r,h⟩:=h
  exact F.len vs H Q E ⟨h0,a,dx,us,Hs,H1,qs,e1,e2,e3,e4,e5,sm,r,(ax.cJ h).2⟩
 run:=fun A outer s H args us vs Q E hr e hb rv h=>by
  obtain⟨h0,a,dx,us',Hs,H1,qs,e1,e2,e3,e4,e5,sm,r,h⟩:=h
  exact F.run A outer s H args us vs Q E hr e hb rv ⟨h0,a,dx,us',Hs,H1,qs,e1,e2,e3,e4,e5,sm,r,(ax.cJ h).2⟩
theorem aE.SM{P:Program}{w:World}{K:PySem.W.Frag}{mg:Str->Option Value}{base:Heap}{x qual:Str}{st:Stmt}{dv:Value}{f C:Addr}{fd:FuncData}{N ps:List Str}{k:Nat}{g:af->M Out}(F:aE K x qual st dv f fd)(S:az N ps (aq st))(hN:0<N.length)
  (hb:∀ (cdv:Value) (A:Around) (outer:List Env) (s:Shared) (H:Hp) (E:XK),cp k (A.deeper (envOfC qual (aq st) s.heap.objs.size f cdv))->e6 ((pf (bV P w) P w K mg base N qual (aq st) f cdv A outer s H E).out fun _=>E) (fun _=>E)->l_ ((pf (bV P w) P w K mg base N qual (aq st) f cdv A outer s H E).out fun _=>E) (fx st) (tS E g)) :
  aQ P w K mg base (bV P w) (k+1) f fd ps (Hg ps.length C (vB ps.length (Bk N.length g C))):=by
 obtain⟨oc,od,kV,doc,pm,an,cdv,ct,osl,rfl,lk,hcd⟩:=F.ex
 exact Bo <| Fw lk hcd S hN fun A outer s H E hr=>hb cdv A outer s H E hr (CF rfl rfl)
section
variable{X:Cx}{E:St->XK}{n m k:Nat}{x:Str}{e:Expr}{es:List Expr}{fs:af->M (List PV)}{p pos:Pos}
theorem G0.make{C:Addr}{dps:List PV}{sem:Addr->List PV->M (List (Str×PV))}(F:G0 X.prog X.w X.K X.mg X.base C n x m dps (vB m sem))(hr:cp k X.A)(hn:n+1<=k)(hg:Gl X x)(O:e6 X E)(ha:PA X (e::es) (tL E fs))(hdb:(x==("__debug__" : Str))=false:=by decide)(he:starEach (e::es) X.env=(false,eval e X.env)::starEach es X.env:=by rfl)(hpl:(backTo pos (starEach es X.env)).any (·.1)=false:=by rfl) :
  PE X (.Call (.Name x p) (e::es) [] pos) (tE E (ai (jW C (vB m sem) dps) fs)):=by
 obtain⟨f,fd,ps,ds,dvs,h1,h2,h4,h5,h6,h7⟩:=F.ex
 refine Gh (p:=p) h2 h7 (hr.mono hn) hg h1 h4 h5 h6 O (fun a ps' hp=>?_) ha hdb he hpl
 unfold vB cJ at hp
 split at hp
 ·rename_i h;rwa [List.length_append] at h
 ·exact(hp rfl).elim
end
def oh:Addr->Option Bool:=fun _=>none
theorem jC{P:Addr->Bool->Prop}:∀ C b,oh C=some b->P C b:=fun _ _ h=>by cases h
theorem vr{X:Cx}{E:St->XK}{x:Str}{pos:Pos}(i:Nat)(hN:X.N[i]?=some x:=by rfl)(hv:Ez X.env.scope x:=by first | exact .inl rfl | exact .inr (.inl rfl) | exact .inr (.inr rfl))(hd:(x==("__debug__" : Str))=false:=by decide)(hcd:(x==("__classdict__" : Str))=false:=by decide):PE X (.Name x pos) (tE E (aa i)):=Ho hN hv hd hcd
end L2
namespace L2
open PySem PySem.Spec PyProof.Rows
theorem G_{env:Env}{e:Expr}{es:List Expr}(h:(match e with | .Starred ..=>true | _=>false)=false):starEach (e::es) env=(false,eval e env)::starEach es env:=by
 cases e <;> first | rfl | cases h
def lD:List Expr->Option (List Int)
 | []=>some []
 | .Constant (.int i) _ _::r=>(lD r).map (i::·)
 | _=>none
section
variable{X:Cx}{E:St->XK}{pos:Pos}
theorem zj:∀ {es:List Expr} {ns:List Int},lD es=some ns->PA X es (tL E fun _=>M.ok (ns.map PV.int))
 | [],_,h=>by cases h;exact BF
 | .Constant (.int i) j p::r,ns,h=>by
  obtain⟨ms,h1,rfl⟩:=Option.map_eq_some_iff.mp (show (lD r).map (i::·)=some ns from h)
  exact zk BS (zj h1) (G_ rfl)
theorem pN{es:List Expr}(ns:List Int)(h:lD es=some ns:=by rfl)(hz:ns.length<=1000:=by decide):PE X (.List es pos) (tE E fun _=>M.ok (.lst (ns.map PV.int))):=by
 refine(Dl (E:=E) (zj h)).imp fun σ H Q q=>?_
 have e:(uX fun _=>M.ok (ns.map PV.int))=fun _=>M.ok (.lst (ns.map PV.int)):=by
  funext env
  show cJ _ _=_
  unfold cJ
  rw[if_pos (by rw[List.length_map];exact Nat.le_trans hz (by decide))]
 rw[e];exact q
end
end L2
namespace L2
open PySem PySem.Spec PyProof.Rows
def v9:PV->PV->M (List PV)
 | .lst xs,.int k=>cJ (-(2^63)<=k/\k<2^63/\xs.length*k.toNat<=sizeLine) (M.ok (List.replicate k.toNat xs).flatten)
 | _,_=>none
def DC(f g:af->M PV):af->M (List PV):=fun env=>(f env).bind fun p=>(g env).bind fun q=>v9 p q
section
variable{X:Cx}{E:St->XK}{a b:Expr}{pos:Pos}{f g:af->M PV}
theorem CU(ha:PE X a (tE E f))(hb:PE X b (tE E g)):PE X (.BinOp a .Mult b pos) (tO E (DC f g)):=by
 refine(Hf C2 ha hb).imp fun σ H Q q=>bJ (K:=KO Q) KO.gr q fun B H₀ Hs H1 env p v sr rp hp=>?_
 refine⟨B,H₀,Hs,env,sr,(ax.bind hp).imp (fun q hq u Hs' H' g' ru=>?_) fun e he=>he⟩
 have sr':=sr.grow g'
 have rp':=rp.mono g'.st
 cases rp' with
 | @lst l xs vs ha hx=>cases ru with
  | int k =>
   obtain⟨⟨h1,h2,h3⟩,h⟩:=ax.cJ hq
   exact⟨l,k,vs,rfl,rfl,sr'.gr.sub _ _ ha,h1,h2,by rw[← hx.length];exact h3,fun p n=>h _ p Hs' H' g' (hx.rep _) n⟩
  | _=>exact hq.elim
 | _=>exact hq.elim
end
end L2
namespace L2
open PySem PySem.Spec PyProof.Rows
structure Dk (K:PySem.W.Frag) (mg:Str->Option Value) (C:Addr) (x:Str):Prop where
 hc:PySem.W.excIn K C e8 "ValueError.__new__" = true
 c:fY K C
 ht:PySem.W.typeIn K (.ref C)=some (.type "type")
 kp:PySem.W.keepIn K (.ref C)=true
 m:mg x=some (.ref C)
structure sM (P:Program) (w:World) (K:PySem.W.Frag) (mg:Str->Option Value) (base:Heap) (C:Addr) (x fl:Str):Prop where
 ex:∃ (f:Addr) (fd:FuncData) (ps:List Str),qS K C "ValueError.__new__" f=true/\PySem.W.isFn K (.ref f)=true/\aQ P w K mg base (bV P w) 1 f fd ps (Ay K C fl)/\Binds K fd ps []
 c:fY K C
 ht:PySem.W.typeIn K (.ref C)=some (.type "type")
 kp:PySem.W.keepIn K (.ref C)=true
 m:mg x=some (.ref C)
section
variable{X:Cx}{E:XK}{e:Expr}{es:List Expr}{pos p cpos:Pos}{x fl:Str}{C:Addr}{k:Nat}{fs:af->M (List PV)}
theorem Dk.raise(F:Dk X.K X.mg C x)(O:e6 X fun _=>E)(hcalm:X.calm=true)(hg:Gl X x)(ha:PA X (e::es) (tL (fun _=>E) fs))
  (hdb:(x==("__debug__" : Str))=false:=by decide) (he:starEach (e::es) X.env=(false,eval e X.env)::starEach es X.env:=by rfl) (hpl:(backTo cpos (starEach es X.env)).any (·.1)=false:=by rfl) :
  PS X (.Raise (some (.Call (.Name x p) (e::es) [] cpos)) none pos) (tS E (my C fs)):=Bc O hcalm F.hc F.c F.ht F.kp hg F.m ha hdb he hpl
theorem sM.raise(F:sM X.prog X.w X.K X.mg X.base C x fl)(hr:cp k X.A)(hn:2<=k)(O:e6 X fun _=>E)(hcalm:X.calm=true)(hg:Gl X x)(ha:PA X [e] (tL (fun _=>E) fs))
  (hdb:(x==("__debug__" : Str))=false:=by decide) (he:starEach [e] X.env=(false,eval e X.env)::starEach [] X.env:=by rfl) (hpl:(backTo cpos (starEach [] X.env)).any (·.1)=false:=by rfl) :
  PS X (.Raise (some (.Call (.Name x p) [e] [] cpos)) none pos) (tS E (jE C fl fs)):=by
 obtain⟨f,fd,ps,h1,h2,h3,h4⟩:=F.ex
 exact Az O hcalm h1 h2 F.c F.ht F.kp h3 (hr.mono hn) h4 hg F.m ha hdb he hpl
end
end L2
namespace L2
open PySem PySem.Spec PyProof.Rows
section
variable{X:Cx}{E:St->XK}
end
end L2
namespace L2
open PySem PySem.Spec PyProof.Rows
end L2
namespace L2
open PySem PySem.Spec PyProof.Rows
def Kg(i j:Nat)(env:af):List PV->M Out
 | [p,q]=>M.ok (.nx ((env.set i (some (.sh p))).set j (some (.sh q))))
 | _=>none
def JD(i j:Nat)(fs:af->M (List PV)):af->M Out:=fun env=>(fs env).bind (Kg i j env)
theorem J4{X:Cx}{E:XK}{i j:Nat}{x y:Str}{a b:Expr}{fs:af->M (List PV)}{px py pt pos:Pos}{kt k2:Nat}{pt2:Pos}(hc:X.calm=true)(hN:X.N.Nodup)(hi:X.N[i]?=some x)(hj:X.N[j]?=some y)(hij:i≠j)
  (hx:X.env.scope.names.lookup x=some .local) (hy:X.env.scope.names.lookup y=some .local) (ha:PA X [a,b] (tL (fun _=>E) fs))
  (hw:swappedStores [.Tuple [.Name x px,.Name y py] kt pt] (.Tuple [a,b] k2 pt2) X.env=pure (some [x,y]))
  (hs:swapsWithSole [.Tuple [.Name x px,.Name y py] kt pt] (.Tuple [a,b] k2 pt2) pos.line X.env=pure false:=by rfl) :
  PS X (.Assign [.Tuple [.Name x px,.Name y py] kt pt] (.Tuple [a,b] k2 pt2) pos) (tS E (JD i j fs)):=by
 refine(JS hc hN hi hj hij hx hy ha hw hs).imp fun D σ H q=>qG q fun B H₀ Hs H1 env ps v sr rp hp=>?_
 match ps,rp,hp with
 | [],_,hp=>exact hp.elim
 | [_],_,hp=>exact hp.elim
 | _::_::_::_,_,hp=>exact hp.elim
 | [p,q],rp,hp =>
  obtain⟨v,u,rfl,r1,r2⟩:=rp.two
  exact⟨v,u,rfl,hp _ Hs H1 ((sr.set r1).set r2)⟩
end L2
namespace L2
open PySem PySem.Spec PyProof.Rows
section
variable{X:Cx}{E:St->XK}{pos:Pos}
end
end L2
namespace L2
open PySem PySem.Spec PyProof.Rows
section
variable{X:Cx}{tg elt iter c:Expr}{scope:Scope}{cl:List (Str×Addr)}{pos:Pos}{wi:TI}{it:af->M (List PV)}{g:TG}{set:PV->af->M af}{f:af->M PV}{ts fs:List Str}{js:List Nat}
theorem CZ{E:St->XK}{σ:St}{H:Hp}{Q:VK}(hv:Ew E wi it)(tgv:∀ E,GK E g set)(so:t8 set)(q:tO E (cK it set none f ts.length js) σ H Q):xU wi g (tE EF f) ts js σ H Q:=by
 refine hv σ H _ ?_
 obtain⟨B,H₀,Hs,env,sr,q⟩:=q
 refine⟨B,H₀,Hs,env,sr,(ax.bind q).imp (fun xs hp J Hs1 H1 gr ok D hD=>?_) fun e he=>he⟩
 obtain⟨hz,hp⟩:=ax.cJ hp
 have hp:=ax.Dr hp
 have sr1:=sr.grow gr
 refine⟨fun i m σ H=>m=xs.length-i/\i<=xs.length/\Jc set none f Q Hs1 H1 D xs i σ H,⟨xs.length,by simp,Nat.zero_le _,Hs1,_,[],[],sr1.block hD,fb,aC,?_,.nil,Nat.le_refl _,hp.imp (fun zs hz vs p Hs2 H2 g2 r n=>hz vs p Hs2 H2 (gr.trans g2) r n) fun _ z=>z⟩,?_⟩
 ·cases z:Hs1 D with
  | none=>rfl
  | some o=>have:=gr.sub _ _ z;rw[hD] at this;cases this
 rintro i m σ' H2 ⟨rfl,hi,Hs2,env2,ys,vs,sr2,n2,d1,d2,r2,l2,h2⟩
 by_cases hlt:i<xs.length
 ·refine .inr ⟨ok.go i Hs2 H2 sr2.gr.st sr2.gr.sub hlt,Jc set none f Q Hs1 H1 D xs (i+1),fun σ3 H3 j=>⟨xs.length-(i+1),by omega,rfl,hlt,j⟩,fun x H3 y=>?_⟩
  obtain⟨p,Hs3,ep,g3,r3⟩:=ok.xM i Hs2 H2 x H3 sr2.gr.st sr2.gr.sub hlt y
  have hd:xs.drop i=p::xs.drop (i+1):=by
   rw[List.drop_eq_getElem_cons hlt]
   rw[List.getElem?_eq_getElem hlt] at ep
   rw[Option.some.inj ep]
  rw[hd] at h2
  have h3:=ax.bind h2
  have sr3:=sr2.grow g3
  refine tgv (fun _ _ _=>False) Hs1 H1 Hs3 H3 σ' env2 p x _ (fun _=>False) sr3 r3 ?_
  cases hset:set p env2 with
  | none=>rw[hset] at h3;exact h3
  | some z=>cases z with
   | error e=>rw[hset] at h3;exact h3
   | ok e3 =>
    rw[hset] at h3
    intro σ4 sr4
    have n4:=so p env2 e3 hset n2
    refine⟨Hs1,H1,Hs3,e3,sr4,(ax.bind h3).imp (fun y hy v Hs5 H5 g5 r5=>?_) fun _ z=>z.elim⟩
    exact Jc.put (set:=set) (t:=none) (f:=f) hD (sr4.grow g5) n4 (g5.al _ _ (g3.al _ _ d1)) (g5.nw _ _ (g3.nw _ _ d2 d1) (g3.al _ _ d1)) ((r2.mono g3.st).mono g5.st) l2 (by omega) r5 hy
 ·refine .inl ⟨ok.stop i Hs2 H2 sr2.gr.st sr2.gr.sub (by omega),?_⟩
  exact Jc.done (set:=set) (t:=none) (f:=f) (xs:=xs) (Hs1:=Hs1) (H1:=H1) (i:=i) hD ⟨Hs2,env2,ys,vs,sr2,n2,d1,d2,r2,l2,h2⟩ (by omega)
variable{E:XK}{i:Nat}{y:Str}{py spos:Pos}
theorem jM(hcalm:X.calm=true)
  (hclos:closureFor scope X.env=pure cl) (hk:scope.kind=.function) (nc:iQ scope.names=true) (lo:lB scope.names=true) (fh:lq cl scope.names=true) (ag:fU X cl) (fr:kr X scope cl fs js)
  (hi:PI X tg iter wi) (hv:Ew (fun _=>E) wi it) (hg:∀ C s₀ H₀ ex pins,PG (xN X scope cl (ts++fs) C s₀ H₀ ex pins) tg g) (tgv:∀ E,GK E g set) (so:t8 set) (he:∀ C s₀ H₀ ex pins,PE (xN X scope cl (ts++fs) C s₀ H₀ ex pins) elt (tE EF f))
  (hN:X.N.Nodup) (hiy:X.N[i]?=some y) (hy:Loc X.env.scope y)
  (hs:∀ x,foldedSetIterable iter X.env x=pure x:=by intro _;rfl) (hsw:swapsWith (.ListComp elt [⟨tg,iter,[],0⟩] scope pos) (some (.Name y py)) spos.line X.env=pure true:=by rfl)
  (hf:X.fn y=true\/X.env.scope.names.lookup y=some .local:=by first | exact .inl rfl | exact .inr rfl | assumption) :
  PS X (.Assign [.Name y py] (.ListComp elt [⟨tg,iter,[],0⟩] scope pos) spos) (tS E (aW i (cO (cK it set none f ts.length js)))):=by
 refine(FH hN hiy hy hcalm hclos hk nc lo fh ag fr hi hg he hs hsw hf).imp fun D σ H q=>?_
 refine CZ hv tgv so ?_
 obtain⟨B,H₀,Hs,env,sr,q⟩:=q
 refine⟨B,H₀,Hs,env,sr,(ax.bind (ax.bind q)).imp (fun ps hp vs p Hs' H' g r n=>?_) fun e he=>he.grow sr.gr⟩
 have gn:=bC.new (o:=.lst vs) g.sub n
 exact hp _ _ _ ((sr.grow (g.trans gn)).set (.lst aC (r.mono gn.st)))
end
end L2
namespace L2
open PySem PySem.Spec PyProof.Rows
section
variable{X:Cx}{tg:Expr}{a:Expr}{ta:TA}{p pos:Pos}
end
section
variable{E:St->XK}{X:Cx}{fs:af->M (List PV)}{a tg:Expr}{p p2 pos pos2:Pos}
end
end L2
namespace L2
open PySem PySem.Spec PyProof.Rows
open AutoSeq1 (wpAny_loadPart')
theorem AS(l:Addr)(items:Array Value)(n:Nat)(dct:Option Addr)(sl:Array (Option Value)) :
  Meets (Builtin.«enumerate.__new__» ⟨[.type "enumerate", .ref l],[]⟩) (fun _ R s=>s.heap.get? l=some { cls:=.type "tuple", dict:=dct,data:=.seq items n,slots:=sl } ∧
   R (.ok (.ret (.ref (s.heap.push { cls:=.type "tuple_iterator", data:=.fields #[.ref l,.int 0 0] }).objs.size)))
    { s with heap:=(s.heap.push { cls:=.type "tuple_iterator", data:=.fields #[.ref l,.int 0 0] }).push { cls:=.type "enumerate", data:=.fields #[.none,.bool false,.ref s.heap.objs.size,rawInt 0,.none,.none] } }) :=
 .of_wp fun prog w A R s h=>by
  obtain⟨hp,g,d,tk,os⟩:=s;obtain⟨hl,h⟩:=h
  have hsub:=sub_enumerate
  have hL:Heap.IsTuple (Shared.heap ⟨hp,g,d,tk,os⟩) l items:=⟨_,hl,rfl,n,rfl⟩
  wp_walk using wpAny_loadPart' hl
  refine wpAny_stack_any fun st=>wpAny_pure ?_
  split
  ·rename_i c _ _ _ _ _
   cases (c==Value.type "enumerate")
   ·wp_walk using wpAny_loadPart' hl,wpAny_pyIter_tuple hL
    exact⟨_,rfl,h⟩
   ·wp_walk using wpAny_loadPart' hl,wpAny_pyIter_tuple hL
    exact⟨_,rfl,h⟩
  ·wp_walk using wpAny_loadPart' hl,wpAny_pyIter_tuple hL
   exact⟨_,rfl,h⟩
section
variable{prog:Program}{w:World}{A:Around}{E:Value->Shared->Prop}{s:Shared}
theorem xQ{l:Addr}{items:Array Value}{Q:Value->Shared->Prop}(hL:s.heap.IsTuple l items)
  (h:∀ h',IsEnum h' (s.heap.objs.size+1) s.heap.objs.size 0 .none->h'.IsTupleIter s.heap.objs.size l 0->h'.objs.size=s.heap.objs.size+2 ->
   (∀ b o,s.heap.get? b=some o->h'.get? b=some o)->Q (.ref (s.heap.objs.size+1)) { s with heap:=h' }) :
  wpAny (model prog w) A (call (.type "enumerate") [.ref l]) Q E s:=by
 obtain⟨⟨c,dct,dt,sl⟩,hl,hc,n,hd⟩:=hL
 replace hc:c=.type "tuple" := hc
 replace hd:dt=.seq items n:=hd
 subst hc hd
 refine callType_new F.called_enumerate (by decide) (F.typeCall_enumerate_1 _) (F.newCall_enumerate_1 _) (fun obj=>F.args_object_init_2 obj _) F.entry_enumerate_new
  (AS l items n dct sl) ⟨hl,?_⟩
 have hz:(s.heap.push { cls:=.type "tuple_iterator", data:=.fields #[.ref l,.int 0 0] }).objs.size=s.heap.objs.size+1:=Heap.size_push ..
 show _/\_
 rw[hz]
 have he:IsEnum ((s.heap.push { cls:=.type "tuple_iterator", data:=.fields #[.ref l,.int 0 0] }).push
   { cls:=.type "enumerate", data:=.fields #[.none,.bool false,.ref s.heap.objs.size,rawInt 0,.none,.none] }) (s.heap.objs.size+1) s.heap.objs.size 0 .none:=by
  have:=Heap.get?_push_size (s.heap.push { cls:=.type "tuple_iterator", data:=.fields #[.ref l,.int 0 0] })
   (o:={ cls:=.type "enumerate", data:=.fields #[.none,.bool false,.ref s.heap.objs.size,rawInt 0,.none,.none] }) rfl
  rw[hz] at this;exact this
 refine⟨⟨_,he,rfl⟩,h _ he ⟨_,Heap.get?_push_of_some _ (Heap.get?_push_size _ rfl),rfl,rfl⟩ (by rw[Heap.size_push,hz]) fun b o x=>Heap.get?_push_of_some _ (Heap.get?_push_of_some _ x)⟩
end
theorem Hl{prog:Program}{w:World}{A:Around}(hh:A.handled=none)(it t:Addr)(items:Array Value) :
  Draws prog w A it [it,t] items.size (fun i v=>items[i]?=some v) (fun i h=>h.IsTupleIter it t i/\h.IsTuple t items) where
 live:=fun _ _ st=>let ⟨⟨o,ho,_⟩,_⟩:=st;⟨o,ho⟩
 frame:=fun _ _ _ st hk=>by
  obtain⟨⟨o,ho,r⟩,⟨o2,ho2,r2⟩⟩:=st
  exact⟨⟨o,hk it (by simp) o ho,r⟩,⟨o2,hk t (by simp) o2 ho2,r2⟩⟩
 item:=fun i s Q E hi st hQ=>by
  obtain⟨st,tt⟩:=st
  refine iq st tt (x:=items[i]) (by simp[hi]) fun h' hit' hs'=>?_
  refine hQ _ h' s.toks (by simp[hi]) ⟨hit',?_⟩ hs'
  obtain⟨o,ho,c1,_⟩:=st
  obtain⟨o2,ho2,c2,r2⟩:=tt
  refine⟨o2,(hs'.2 t fun z=>?_).trans ho2,c2,r2⟩
  rw[z,ho] at ho2;cases ho2
  rw[c1] at c2;exact absurd c2 (by decide)
 done:=fun s Q E st hE=>e9 hh st.1 st.2 (by simp) hE
section
variable{X:Cx}
def HA (K : PySem.W.Frag) (a : Addr) : It :=
  ⟨fun i H => ∃ xs x, gU K H a xs /\ xs[i]? = some x,
   fun i H y H' => ∃ p x, H p = none /\ y = .ref p /\ H' = upd H p (.tup [.int i, x]) /\ ∀ xs, gU K H a xs -> xs[i]? = some x,
   fun i H => ∃ xs, gU K H a xs /\ xs.length <= i⟩
theorem yp{P:Program}{w:World}{K:PySem.W.Frag}{elts:List Expr}{x1:Nat}{tp:Pos}(a e it:Addr)(hne:e≠it):Turn P w K (.Tuple elts x1 tp) (HA K a) [e,it] e (fun i h=>(∃ old,IsEnum h e it i old)/\h.IsTupleIter it a i) where
 mem:=by simp
 obj:=fun i h st b hb=>by
  obtain⟨⟨old,he⟩,⟨o,e1,c,d⟩⟩:=st
  rcases List.mem_cons.mp hb with z | z
  ·subst z
   exact⟨_,he,fun v z=>by cases z⟩
  ·have z':b=it:=by simpa using z
   subst z'
   exact⟨o,e1,fun v z=>by rw[d] at z;cases z⟩
 keep:=fun i h h' st k=>by
  obtain⟨⟨old,he⟩,⟨o,ho,r⟩⟩:=st
  exact⟨⟨old,k e (by simp) _ he⟩,⟨o,k it (by simp) o ho,r⟩⟩
 item:=by
  intro X hP hw hK hc i pins s σ H E I hf st hg
  subst hP hw hK
  obtain⟨xs,x,hq,hx⟩:=hg
  obtain⟨its,rv,p,hz⟩:=I.tuple hq
  obtain⟨u,hu,ru⟩:=rv.get hx
  obtain⟨⟨old,he⟩,hit⟩:=st
  have helt:e<s.heap.objs.size:=Heap.lt_size he
  have hilt:it<s.heap.objs.size:=by obtain⟨_,z,_⟩:=hit;exact Heap.lt_size z
  have hea:e ∉ [it,a]:=fun z=>by
   rcases List.mem_cons.mp z with z | z
   ·exact hne z
   ·obtain⟨o,ho,c,_⟩:=p
    rw[← List.mem_singleton.mp z,he] at ho
    cases ho;exact absurd (show Value.type "enumerate" = Value.type "tuple" from c) (by decide)
  have hi':i<its.toArray.size:=by
   have:=(List.getElem?_eq_some_iff.mp hu).1
   simpa using this
  refine wpAny_pyNext_enum_itemD (Hl (A:=X.A.in1) (I.ok.hd hc) it a its.toArray) he ⟨hit,p⟩ hi' hne hea fun u' h' tk hu' ho hst hT hsz hk=>⟨_,rfl,?_⟩
  have eu:u'=u:=by
   rw[List.getElem?_toArray,hu] at hu';exact(Option.some.inj hu').symm
  subst eu
  refine wpAny_letOwnedTupleGo_enum (s:={ s with heap:=h',toks:=tk+1 }) ho fun h2 he2 hs2=>?_
  have keep2:∀ b o,b ∉ [e,it]->s.heap.get? b=some o->h2.get? b=some o:=fun b o hb q=>by
   have n1:b≠e:=fun z=>hb (by simp[z])
   have n2:b≠it:=fun z=>hb (by simp[z])
   exact(hs2.2 b n1).trans (hk b o n1 n2 q)
  have hT2:h2.get? s.heap.objs.size=some { cls:=.type "tuple", data:=.seq #[.int i tk,u'] }:=(hs2.2 _ (Nat.ne_of_gt helt)).trans hT
  have I2:Inv X pins σ (upd H s.heap.objs.size (.tup [.int i,x])) { s with heap:=h2,toks:=tk+1 } :=
   I.lj (ch:=[e,it]) keep2 hf (Nat.le_refl _) (fun b hb=>by
    rcases List.mem_cons.mp hb with z | z
    ·subst z;exact⟨_,he⟩
    ·have z':b=it:=by simpa using z
     subst z'
     obtain⟨o,z,_⟩:=hit
     exact⟨o,z⟩)
    ⟨by show 2<=sizeLine;decide,[.int i tk,u'],.cons ⟨_,rfl⟩ (.cons ru .nil),⟨_,hT2,rfl,_,rfl⟩⟩
  have hnew:H s.heap.objs.size=none:=I.bo.fresh (Nat.le_refl _)
  obtain⟨oi,hoi,ri⟩:=hst.1
  refine⟨.ref s.heap.objs.size,_,I2,rfl,⟨_,x,hnew,rfl,rfl,fun ys hy=>by rw[I.nO hy hq];exact hx⟩,⟨⟨u',by simpa using he2⟩,⟨oi,(hs2.2 it (Ne.symm hne)).trans hoi,ri⟩⟩,fun b hb=>?_⟩
  have nb:b≠s.heap.objs.size:=by
   rcases List.mem_cons.mp hb with z | z
   ·rw[z];exact Nat.ne_of_lt helt
   ·have z':b=it:=by simpa using z
    rw[z'];exact Nat.ne_of_lt hilt
  rw[au nb]
  exact(hf b hb).1
 done:=by
  intro X hP hw hK hc i pins s σ H E I hf st hg
  subst hP hw hK
  obtain⟨xs,hq,hx⟩:=hg
  obtain⟨its,rv,p,hz⟩:=I.tuple hq
  have hl:=rv.length
  obtain⟨⟨old,he⟩,hit⟩:=st
  obtain⟨f0,f1,f2,f3,f4,f5⟩:=hf it (by simp)
  have hT:s.TypeIs (.ref e) "enumerate" := ⟨_,he,rfl⟩
  unfold pyNext
  refine wpAny_bind (wpAny_attempt (wpAny_callSpecial?_slot (name:=Str.ofString "__next__") hT F.slot_enumerate_next
   (wpAny_call_entry F.slot_enumerate_next hT F.entry_enumerate_next ?_ (F.args_enumerate_next_1 _))))
  show wpAny _ _ (field (.ref e) 2 >>= _) _ _ _
  refine wpAny_bind (wpAny_field he rfl (x:=.ref it) rfl ?_)
  refine wpAny_bind (e9 (I.ok.hd hc) hit p (by simp;omega) fun h' x he' hx'=>?_)
  obtain⟨o,ho,hc'⟩:=hx'
  refine wpAny_bind (wpAny_isInstance (T := "StopIteration") (b:=true) ⟨o,ho,hc'⟩ isSubtype_stop ?_)
  exact wpAny_pure ⟨rfl,I.turned (t':=s.toks) (fun b o hb e=>he' b o hb e) f0 f1 f3 f4 f5⟩
 self:=fun _ _ _ _ _ st h=>by
  obtain⟨⟨old,he⟩,_⟩:=st
  exact wpAny_pyIter_enum he h
def Lo(K:PySem.W.Frag)(tl:TA):TI:=fun σ H R=>tl σ H fun vs H1=>∃ a,vs=[.ref a]/\(((∃ xs,i4 K H1 a xs)/\R (JN K a) H1)\/((∃ xs,gU K H1 a xs)/\R (HA K a) H1))
theorem oo{elts:List Expr}{x1:Nat}{tp:Pos}{l:Expr}{tl:TA}{p pos:Pos}(hg:Gl X "enumerate")(hm:X.mg "enumerate" = none)(hl:PA X [l] tl)(hs:starEach [l] X.env=[(false,eval l X.env)]:=by rfl) :
  PI X (.Tuple elts x1 tp) (.Call (.Name "enumerate" p) [l] [] pos) (Lo X.K tl):=by
 intro pins s σ H R I h
 refine Call_ (jN I hg hm PyProof.Rows.boot_enumerate (PyProof.Rows.callWith_type1 (cB (hl pos pins s σ H _ I h) fun us s1 ⟨vs,H1,I1,r1,q1⟩=>?_) hs rfl))
 obtain⟨a,e,q⟩:=q1
 subst e
 cases r1 with
 | cons r rr =>
  cases rr
  cases (show _=Value.ref a from r)
  have fp:∀ b∈[s1.heap.objs.size+1,s1.heap.objs.size],m_ X pins H1 b:=fun b hb=>by
   rcases List.mem_cons.mp hb with z | z
   ·subst z
    exact I1.uP (Nat.le_succ _) (I1.bo.fresh (Nat.le_succ _))
   ·have z':b=s1.heap.objs.size:=by simpa using z
    subst z'
    exact I1.uP (Nat.le_refl _) (I1.bo.fresh (Nat.le_refl _))
  rcases q with ⟨⟨xs,hq⟩,q⟩ | ⟨⟨xs,hq⟩,q⟩
  ·obtain⟨its,rv,pl,hz⟩:=I1.list hq
   refine call_enumerate_list pl.isList fun h' he hit hsz hk=>?_
   refine wpAny_pyIter_enum (s:={ s1 with heap:=h' }) he ?_
   exact⟨s1.heap.objs.size+1,[s1.heap.objs.size+1,s1.heap.objs.size],_,_,H1,rfl,I1.kept (t':=s1.toks) hk,Bh a _ _ (Nat.succ_ne_self _),⟨⟨_,he⟩,hit⟩,fp,q⟩
  ·obtain⟨its,rv,pl,hz⟩:=I1.tuple hq
   refine xQ pl fun h' he hit hsz hk=>?_
   refine wpAny_pyIter_enum (s:={ s1 with heap:=h' }) he ?_
   exact⟨s1.heap.objs.size+1,[s1.heap.objs.size+1,s1.heap.objs.size],_,_,H1,rfl,I1.kept (t':=s1.toks) hk,yp a _ _ (Nat.succ_ne_self _),⟨⟨_,he⟩,hit⟩,fp,q⟩
end
def Md(p:PV):M (List PV):=match cy p with
 | some xs=>M.ok (ip xs)
 | none=>none
def CK:List PV->M (List PV)
 | [p]=>Md p
 | _=>none
section
variable{E:St->XK}{K:PySem.W.Frag}{fs:af->M (List PV)}
theorem C9{a:Addr}{Hs1:Hp}{xs:List PV}{vs:List V}(hq:∀ Hs' H',a_ Hs1 Hs'->a_ Hs' H'->gU K H' a vs)(hr:aK Hs1 xs vs):kh (HA K a) Hs1 (ip xs) where
 stop:=fun i Hs H s1 s2 hi=>by
  unfold ip at hi
  rw[List.length_mapIdx,hr.length] at hi
  exact⟨vs,hq Hs H s1 s2,hi⟩
 go:=fun i Hs H s1 s2 hi=>by
  unfold ip at hi
  rw[List.length_mapIdx] at hi
  obtain⟨v,e,_⟩:=hr.get (List.getElem?_eq_getElem hi)
  exact⟨vs,v,hq Hs H s1 s2,e⟩
 xM:=fun i Hs H x H2 s1 s2 hi y=>by
  unfold ip at hi
  rw[List.length_mapIdx] at hi
  obtain⟨v,e,r⟩:=hr.get (List.getElem?_eq_getElem hi)
  obtain⟨pa,v',hn,rfl,rfl,y1⟩:=y
  have z1:=y1 vs (hq Hs H s1 s2)
  rw[e] at z1;cases z1
  have gr:=bC.new (o:=.tup [.int (i:Nat),v]) s2 hn
  refine⟨.tup [.int (i:Nat),xs[i]],_,?_,gr,.tup aC (.cons (.int _) (.cons ((r.mono s1).mono gr.st) .nil))⟩
  unfold ip
  rw[List.getElem?_mapIdx,List.getElem?_eq_getElem hi]
  rfl
theorem kY:Ew E (Lo K (tL E fs)) (j_ CK fs):=by
 intro σ H R q
 refine c_ (K:=KI R) KI.g q fun B H₀ Hs H1 env ps v sr rp hp=>?_
 match ps,rp,hp with
 | [],_,hp=>exact hp.elim
 | _::_::_,_,hp=>exact hp.elim
 | [p],rp,hp =>
  obtain⟨w,rfl,rw'⟩:=rp.one
  cases rw' with
  | lst ha hx=>exact⟨_,rfl,.inl ⟨⟨_,i4.of (sr.gr.sub _ _ ha)⟩,hp _ Hs H1 (.refl sr.gr.sub) (uc (fun Hs' H' s1 s2=>i4.of (s2 _ _ (s1 _ _ ha))) hx)⟩⟩
  | kS ha hx=>exact⟨_,rfl,.inl ⟨⟨_,.inl (.inr ⟨_,sr.gr.sub _ _ ha⟩)⟩,hp _ Hs H1 (.refl sr.gr.sub) (uc (fun Hs' H' s1 s2=>.inl (.inr ⟨_,s2 _ _ (s1 _ _ ha)⟩)) hx)⟩⟩
  | tup ha hx=>exact⟨_,rfl,.inr ⟨⟨_,gU.of (sr.gr.sub _ _ ha)⟩,hp _ Hs H1 (.refl sr.gr.sub) (C9 (fun Hs' H' s1 s2=>gU.of (s2 _ _ (s1 _ _ ha))) hx)⟩⟩
  | _=>exact hp.elim
end
end L2
namespace L2
open PySem PySem.Spec PyProof.Rows
def R5(E:St->XK)(f:af->M Out):TS:=fun D σ H=>∃ B H₀ Hs env,SR B H₀ Hs H σ env/\ax (f env) (KS D B H₀) (XW (E σ) Hs H)
theorem A7{E:St->XK}{f:af->M PV}{g:af->PV->M Out}{D:Ends}{σ:St}{H:Hp}{R:VK}(h:R5 E (fun env=>(f env).bind (g env)) D σ H)
  (k:∀ B H₀ Hs H1 env p v,SR B H₀ Hs H1 σ env->Rep Hs p v->ax (g env p) (KS D B H₀) (fun _=>True)->R v H1):tE E f σ H R:=by
 obtain⟨B,H₀,Hs,env,sr,h⟩:=h
 refine⟨B,H₀,Hs,env,sr,(ax.bind h).imp (fun p hp v Hs' H' g r=>?_) fun e he=>he⟩
 exact k B H₀ Hs' H' env p v (sr.grow g) r (hp.imp (fun _ z=>z) fun _ _=>trivial)
section
variable{X:Cx}{E:St->XK}{e:Expr}{pos pos':Pos}{f:af->M PV}{i:Nat}{x:Str}
theorem E1(he:PE X e (tE E f))(hs:swapsWith e none pos.line X.env=pure false:=by rfl):l_ X [.Expr e pos] (R5 E (kP f)):=by
 intro pins s σ H D I q
 exact wX (ur he hs) zM pins s σ H D I (A7 q fun B H₀ Hs H1 env p v sr rp hp=>hp σ Hs H1 sr)
end
theorem SR.unset{B H₀ Hs H:Hp}{σ:St}{env:af}{i:Nat}(r:SR B H₀ Hs H σ env):SR B H₀ Hs H (σ.set i none) (env.set i none):=by
 have key:∀ (j:Nat) (q:SV),(env.set i none)[j]?=some (some q)->env[j]?=some (some q)/\i≠j:=fun j q e=>by
  rw[List.getElem?_set] at e
  by_cases z:i=j
  ·rw[if_pos z] at e
   split at e <;> cases e
  ·rw[if_neg z] at e;exact⟨e,z⟩
 have old:∀ j,i≠j->(σ.set i none)[j]?=σ[j]?:=fun j z=>by rw[List.getElem?_set,if_neg z]
 refine⟨r.gr,by rw[List.length_set,List.length_set];exact r.len,fun j q e=>?_,fun j xs e=>?_,fun j k xs ys a n e1 e2 e3=>?_,fun j a C fs e=>?_,fun j k a b C D fs gs e1 e2=>?_⟩
 ·obtain⟨e,z⟩:=key j _ e
  rw[old j z];exact r.sh j q e
 ·obtain⟨e,z⟩:=key j _ e
  rw[old j z];exact r.ow j xs e
 ·obtain⟨e1,z1⟩:=key j _ e1
  obtain⟨e2,z2⟩:=key k _ e2
  rw[old j z1] at e3
  rw[old k z2];exact r.sep j k xs ys a n e1 e2 e3
 ·obtain⟨e,z⟩:=key j _ e
  rw[old j z];exact r.bd j a C fs e
 ·exact r.one j k a b C D fs gs (key j _ e1).1 (key k _ e2).1
section
variable{X:Cx}{E:St->XK}{e:Expr}{pos pos':Pos}{f:af->M PV}{i:Nat}{x:Str}
end
abbrev Cx.qR(X:Cx)(pn:List (Addr×Obj)):Cx:={ X with pn:=pn }
abbrev Cx.hand(X:Cx)(ea:Addr):Cx:={ X with A:=X.A.mark (some (.ref ea)),calm:=false,xe:=fun _ _=>False }
section
variable{X:Cx}{pins pins':List (Addr×Obj)}{σ:St}{H:Hp}{s:Shared}{ea:Addr}
theorem Cx.Ok.qR(ok:X.Ok)(pn:List (Addr×Obj)):(X.qR pn).Ok:=⟨ok.mod,ok.kind,ok.glob,ok.blt,ok.above,ok.inj,ok.has,ok.GV,ok.hd,ok.frames,ok.Hu,ok.Kd,ok.bs,ok.BO,ok.vD,ok.wW,ok.mh,ok.EC⟩
theorem Cx.Ok.rg{pn:List (Addr×Obj)}(ok:(X.qR pn).Ok):X.Ok:=⟨ok.mod,ok.kind,ok.glob,ok.blt,ok.above,ok.inj,ok.has,ok.GV,ok.hd,ok.frames,ok.Hu,ok.Kd,ok.bs,ok.BO,ok.vD,ok.wW,ok.mh,ok.EC⟩
theorem Cx.Ok.hand(ok:X.Ok)(ea:Addr):(X.hand ea).Ok:=⟨ok.mod,ok.kind,ok.glob,ok.blt,ok.above,ok.inj,ok.has,ok.GV,(fun z=>nomatch z),ok.frames,ok.Hu,ok.Kd,ok.bs,ok.BO,ok.vD,ok.wW,ok.mh,ok.EC⟩
theorem Inv.qR(I:Inv X pins σ H s):Inv (X.qR (X.pn++pins)) [] σ H s:=⟨I.ok.qR _,I.os,I.bare,I.base,I.loc,I.cell,I.free,I.f9,(fun p hp=>I.pin p (by rw[List.append_nil] at hp;exact hp)),I.bo,I.len⟩
theorem Inv.rg(I:Inv (X.qR (X.pn++pins)) pins' σ H s):Inv X pins σ H s:=⟨I.ok.rg,I.os,I.bare,I.base,I.loc,I.cell,I.free,I.f9,(fun p hp=>I.pin p (List.mem_append_left _ hp)),I.bo,I.len⟩
theorem Inv.hand(I:Inv X pins σ H s)(ea:Addr):Inv (X.hand ea) pins σ H s:=⟨I.ok.hand ea,I.os,I.bare,I.base,I.loc,I.cell,I.free,I.f9,I.pin,I.bo,I.len⟩
theorem Inv.iJ(I:Inv (X.hand ea) pins σ H s)(ok:X.Ok):Inv X pins σ H s:=⟨ok,I.os,I.bare,I.base,I.loc,I.cell,I.free,I.f9,I.pin,I.bo,I.len⟩
theorem Inv.BH{Hc:Hp}{T C:Addr}{dd:Option Addr}{fl:Value}(I:Inv X pins σ (nU Hc ea T C dd fl) s)(h1:Hc ea=some (h_ C dd ea))(h2:Hc T=none)(h3:T≠ea):Inv X pins σ Hc s:=by
 have no:∀ b,nU Hc ea T C dd fl b=none->Hc b=none:=fun b e=>by
  by_cases z:b=ea
  ·rw[z,qg] at e;cases e
  ·by_cases z2:b=T
   ·rw[z2];exact h2
   ·rw[jG z z2] at e;exact e
 have so:∀ b o,nU Hc ea T C dd fl b=some o->(∀ φ,o≠.ext φ)->Hc b=some o:=fun b o e n=>by
  by_cases z:b=ea
  ·rw[z,qg] at e;cases e;exact absurd rfl (n _)
  ·by_cases z2:b=T
   ·rw[z2,rK h3] at e;cases e;exact absurd rfl (n _)
   ·rw[jG z z2] at e;exact e
 refine⟨I.ok,I.os,I.bare,⟨I.base.keep,I.base.slot,fun b o e n hx=>no b (I.base.free b o e n hx),I.base.there,fun b xs e=>so b _ (I.base.qA b xs e) (fun _ z=>nomatch z),fun b o u e=>so b _ (I.base.l9 b o u e) (fun _ z=>nomatch z),fun b ps e=>?_⟩,I.loc,I.cell,no _ I.free,fun x c e=>no _ (I.f9 x c e),fun p hp=>?_,fun b o e=>?_,I.len⟩
 ·obtain⟨more,q⟩:=I.base.pS b ps e
  exact⟨more,so b _ q fun _ z=>nomatch z⟩
 ·obtain⟨e,n,r⟩:=I.pin p hp
  exact⟨e,no _ n,r⟩
 ·by_cases z:b=ea
  ·subst z
   rw[h1] at e;cases e
   obtain⟨vs,_,_,hx,_⟩:=I.Bt h3
   exact FX hx
  ·by_cases z2:b=T
   ·rw[z2,h2] at e;cases e
   ·refine(I.bo b o (by rw[jG z z2];exact e)).nv (fun _ _ _ q=>q) (fun c q=>so c _ q fun _ z=>nomatch z) fun c xs q=>so c _ q fun _ z=>nomatch z
theorem Inv.gone{A:Around}{E:Value->Shared->Prop}{i:Nat}{n:Str}{pos:Pos}{Q:Unit->Shared->Prop}(I:Inv X pins σ H s)(hN:X.N.Nodup)(hi:X.N[i]?=some n)(hx:X.env.scope.names.lookup n=some .local)
  (h:∀ s',Inv X pins (σ.set i none) H s'->Q () s'):wpAny (model X.prog X.w) A (do bindName X.env n .none;unbindBehindTheSuite X.env n pos) Q E s:=by
 obtain⟨m,hn,hl⟩:=id I.loc
 have BU:=I.BU
 refine wpAny_nameGoes_keeps hx hn (by rw[I.ok.kind];rfl) fun h' v hn' hs=>?_
 obtain⟨oL,_,_,hoL,_⟩:=id hn
 have tracked:n6 X.prog X.w H h':=fun b ob e=>by
  refine(I.bo b ob e).nv (fun c w' hc q=>(hs.2 c ?_).trans q) (fun _ q=>q) fun _ _ q=>q
  rintro rfl
  rcases hc with z | hc
  ·rw[← z,I.free] at e;cases e
  ·rw[I.free] at hc;cases hc
 refine h _ ⟨I.ok,I.os,I.bare,⟨fun b o e n hb hx=>?_,fun b o e n hb hx=>?_,I.base.free,fun b o e hx=>?_,I.base.qA,I.base.l9,I.base.pS⟩,⟨_,hn',fun j y v' e1 e2 e3=>?_⟩,fun y c e=>?_,I.free,I.f9,fun p hp=>?_,tracked,by simpa using I.len⟩
 ·exact(hs.2 b (Nat.ne_of_lt (Nat.lt_of_lt_of_le (Heap.lt_size e) I.ok.above))).trans (I.base.keep b o e n hb hx)
 ·obtain⟨sl,e1⟩:=I.base.slot b o e n hb hx
  exact⟨sl,(hs.2 b (Nat.ne_of_lt (Nat.lt_of_lt_of_le (Heap.lt_size e) I.ok.above))).trans e1⟩
 ·obtain⟨o',e1⟩:=I.base.there b o e hx
  exact⟨o',(hs.2 b (Nat.ne_of_lt (Nat.lt_of_lt_of_le (Heap.lt_size e) I.ok.above))).trans e1⟩
 ·have hj:i≠j:=fun z=>by
   subst z
   rw[List.getElem?_set,if_pos rfl] at e2
   split at e2 <;> cases e2
  rw[List.getElem?_set_ne hj] at e2
  obtain⟨u',r',q⟩:=hl j y v' e1 e2 e3
  refine⟨u',r',?_⟩
  rcases q with ⟨k,e⟩ | ⟨k,c,e,z⟩
  ·refine .inl ⟨k,?_⟩
   have:y≠n:=fun e=>hj (qQ hN hi (e▸e1))
   simp[this,e]
  ·exact .inr ⟨k,c,e,z.sameBut hs (BU y c e)⟩
 ·obtain⟨w',z⟩:=I.cell y c e
  exact⟨w',z.sameBut hs (BU y c e)⟩
 ·obtain⟨e,n,ne,nf,d⟩:=I.pin p hp
  exact⟨(hs.2 p.1 ne).trans e,n,ne,nf,d⟩
end
abbrev Hd:=(Addr->Option Bool)×Option Nat×(af->M Out)
def uS(i:Nat):Out->Out
 | .nx e=>.nx (e.set i none)
 | .bk e=>.bk (e.set i none)
 | .ct e=>.ct (e.set i none)
 | .rt p=>.rt p
def qu(o:Option Nat)(h:af->M Out)(x:EX)(env:af):M Out:=match o with
 | none=>Dr (h env)
 | some i=>(Dr (h (env.set i (some (.sh (.exc x.1 x.2)))))).bind fun out=>M.ok (uS i out)
def uQ(b:Option Bool)(x y:M Out):M Out:=match b with
 | some true=>x
 | some false=>y
 | none=>none
def i5:List Hd->EX->af->M Out
 | [],_,_=>none
 | (t,o,h)::r,x,env=>uQ (t x.1) (qu o h x env) (i5 r x env)
def za(r:M Out)(k:EX->M Out):M Out:=match r with
 | some (.error x)=>k x
 | r=>r
def FF(f:af->M Out)(hs:List Hd):af->M Out:=fun env=>za (f env) fun x=>i5 hs x env
inductive He (X:Cx) (E:XK):List ExceptHandler->List Hd->Prop where
 | nil:He X E [] []
 | Lu {x:Str} {np pos:Pos} {b₀:Stmt} {suite:List Stmt} {rest:List ExceptHandler} {t:Addr->Option Bool} {h:af->M Out} {hs:List Hd} {D:Addr} (hg:Gl X x) (hm:X.mg x=some (.ref D)) (hd:(x==("__debug__" : Str))=false)
   (ht:∀ C b,t C=some b->PySem.W.exmOne X.K (.ref C) (.ref D)=some b) (hb:∀ ea,l_ (X.hand ea) (b₀::suite) (tS E h)) (r:He X E rest hs):He X E (.ExceptHandler (some (.Name x np)) none (b₀::suite) pos::rest) ((t,none,h)::hs)
 | G6 {x n:Str} {i:Nat} {np pos:Pos} {b₀:Stmt} {suite:List Stmt} {rest:List ExceptHandler} {t:Addr->Option Bool} {h:af->M Out} {hs:List Hd} {D:Addr} (hg:Gl X x) (hm:X.mg x=some (.ref D)) (hd:(x==("__debug__" : Str))=false)
   (hN:X.N.Nodup) (hi:X.N[i]?=some n) (hx:X.env.scope.names.lookup n=some .local)
   (ht:∀ C b,t C=some b->PySem.W.exmOne X.K (.ref C) (.ref D)=some b) (hb:∀ ea,l_ (X.hand ea) (b₀::suite) (tS E h)) (r:He X E rest hs):He X E (.ExceptHandler (some (.Name x np)) (some n) (b₀::suite) pos::rest) ((t,some i,h)::hs)
section
variable{X:Cx}{pins:List (Addr×Obj)}{σ:St}{H Hc B H₀ Hs:Hp}{s:Shared}{ea T C:Addr}{dd:Option Addr}{E:XK}{env:af}{fo:Option (List (Str×PV))}{D:Ends}{Z:EX->Prop}{F:Value->Shared->Prop}
theorem SP.iJ{D:Ends}{f:Flow}{s':Shared}(h:SP (X.hand ea) pins D f s')(ok:X.Ok):SP X pins D f s':=by
 cases f with
 | next=>obtain⟨σ',H',I,q⟩:=h;exact⟨σ',H',I.iJ ok,q⟩
 | brk=>obtain⟨σ',H',I,q⟩:=h;exact⟨σ',H',I.iJ ok,q⟩
 | cont=>obtain⟨σ',H',I,q⟩:=h;exact⟨σ',H',I.iJ ok,q⟩
 | ret u=>obtain⟨v,σ',H',I,r,q⟩:=h;exact⟨v,σ',H',I.iJ ok,r,q⟩
theorem ax.err{α:Type}{r:M α}{Q:α->Prop}{E':EX->Prop}(h:ax r Q (fun _=>False)):ax r Q E':=h.imp (fun _ z=>z) fun _ z=>z.elim
def Ends.gone(D:Ends)(i:Nat):Ends:=⟨fun σ H=>D.nx (σ.set i none) H,D.rt,fun σ H=>D.bk (σ.set i none) H,fun σ H=>D.ct (σ.set i none) H⟩
theorem KS.gone{i:Nat}{o:Out}(h:KS D B H₀ (uS i o)):KS (D.gone i) B H₀ o:=by
 cases o with
 | nx e=>exact fun σ Hs H sr=>h _ Hs H sr.unset
 | bk e=>exact fun σ Hs H sr=>h _ Hs H sr.unset
 | ct e=>exact fun σ Hs H sr=>h _ Hs H sr.unset
 | rt p=>exact h
theorem D_{M:Model}{o:Obj}(hx:s.heap.get? ea=some o):PySem.W.Looks M s.heap (typeOf (.ref ea)) o.cls:=by
 intro A Q E s' k q
 exact C5 (k _ _ hx) q
theorem He.run{hls:List ExceptHandler}{hd:List Hd}(hh:He X E hls hd):∀ {s:Shared},Inv X pins σ (nU Hc ea T C dd .none) s->Hc ea=some (h_ C dd ea)->Hc T=none->T≠ea->SR B H₀ Hs Hc σ env->Rep Hs (.exc C fo) (.ref ea) ->
  ax (i5 hd (C,fo) env) (KS D B H₀) Z->wpAny (model X.prog X.w) X.A (handleBy (.ref ea) X.env hls) (SP X pins D) F s:=by
 induction hh with
 | nil=>intro s I h1 h2 h3 sr rp q;exact q.elim
 | @Lu x np pos b₀ suite rest t h hs Dc hg hm hd ht hb r ih =>
  intro s I h1 h2 h3 sr rp q
  obtain⟨vs,oT,ts,hx,_⟩:=I.Bt h3
  refine wpAny_handleBy_cons (codeAny_handlers_test (jv (I.hand ea) hg hm ?_ hd)) (fun q=>nomatch q)
  have LT:=D_ (M:=model X.prog X.w) hx
  cases e:t C with
  | none=>simp only[i5,e,uQ] at q;exact q.elim
  | some b =>
   refine(PySem.W.exm_one I.j7 LT (ht C b e)).here ?_
   cases b with
   | false =>
    simp only[i5,e,uQ] at q
    exact ih I h1 h2 h3 sr rp q
   | true =>
    simp only[i5,e,uQ,qu] at q
    refine codeAny_handlers_suite ((I.hand ea).qZ (fr:=none) h3 fun h' I2=>?_)
    refine wpAny_mono (hb ea pins _ σ Hc D (I2.BH h1 h2 h3) ⟨B,H₀,Hs,env,sr,(ax.Dr q).err⟩) (fun f s' z=>z.iJ I.ok) fun _ _ z=>z.elim
 | @G6 x n i np pos b₀ suite rest t h hs Dc hg hm hd hN hi hxn ht hb r ih =>
  intro s I h1 h2 h3 sr rp q
  obtain⟨vs,oT,ts,hx,_⟩:=I.Bt h3
  refine wpAny_handleBy_cons (codeAny_handlers_test (jv (I.hand ea) hg hm ?_ hd)) (fun q=>nomatch q)
  have LT:=D_ (M:=model X.prog X.w) hx
  cases e:t C with
  | none=>simp only[i5,e,uQ] at q;exact q.elim
  | some b =>
   refine(PySem.W.exm_one I.j7 LT (ht C b e)).here ?_
   cases b with
   | false =>
    simp only[i5,e,uQ] at q
    exact ih I h1 h2 h3 sr rp q
   | true =>
    simp only[i5,e,uQ,qu] at q
    refine codeAny_handlers_suite_as ((I.hand ea).qZ (fr:=none) h3 fun h' I2=>?_)
    refine kW (X:=X.hand ea) (v:=.ref ea) (i:=i) (I2.BH h1 h2 h3) hN hi (.inl hxn) rfl (fun s3 I3=>?_) (.inr hxn)
    refine wpAny_mono (hb ea pins _ _ Hc (D.gone i) I3 ⟨B,H₀,Hs,_,sr.set rp,(ax.Dr (E:=Z) ?_).err⟩) (fun f s' z=>?_) fun _ _ z=>z.elim
    ·exact(ax.bind q).imp (fun o z=>KS.gone z) fun _ z=>z
    ·cases f with
     | next=>obtain⟨σ',H',I4,d⟩:=z;exact(I4.iJ I.ok).gone hN hi hxn fun s5 I5=>⟨_,H',I5,d⟩
     | brk=>obtain⟨σ',H',I4,d⟩:=z;exact(I4.iJ I.ok).gone hN hi hxn fun s5 I5=>⟨_,H',I5,d⟩
     | cont=>obtain⟨σ',H',I4,d⟩:=z;exact(I4.iJ I.ok).gone hN hi hxn fun s5 I5=>⟨_,H',I5,d⟩
     | ret u=>obtain⟨v,σ',H',I4,rv,d⟩:=z;exact(I4.iJ I.ok).gone hN hi hxn fun s5 I5=>⟨v,_,H',I5,rv,d⟩
theorem Hw{body:List Stmt}{h₀:ExceptHandler}{hls:List ExceptHandler}{pos:Pos}{f:af->M Out}{hd:List Hd}(hst:X.stack=X.env::X.outer)(hf:X.env.frame=some X.env.locals)
  (hb:∀ (pn:List (Addr×Obj)) (E2:St->XK),e6 ((X.qR pn).out E2) E2->l_ ((X.qR pn).out E2) body (R5 E2 f)) (hh:He X E (h₀::hls) hd):PS X (.Try body (h₀::hls) [] [] pos) (tS E (FF f hd)):=by
 intro pins s σ H D I q
 obtain⟨B,H₀,Hs,env,sr,q⟩:=q
 refine wpAny_Try_except ?_
 let E2:St->XK:=fun σ v _ Hc=>∃ Hs C fo ea,v=.ref ea/\SR B H₀ Hs Hc σ env/\Rep Hs (.exc C fo) (.ref ea)/\ax (i5 hd (C,fo) env) (KS D B H₀) (XW E B H₀)
 have q1:ax (f env) (KS D B H₀) (XW (E2 σ) Hs H):=by
  unfold FF at q
  cases e:f env with
  | none=>rw[e] at q;exact q
  | some r =>
   rw[e] at q
   cases r with
   | ok o=>exact q
   | error x=>exact fun ea Hs' H' g rp=>⟨Hs',x.1,x.2,ea,rfl,sr.grow g,rp,q⟩
 refine wpAny_mono (hb (X.pn++pins) E2 (CF hst hf) [] s σ H D (I.qR.pV _) ⟨B,H₀,Hs,env,sr,q1⟩) (fun fl s1 hq=>?_) (fun e s1 z=>?_)
 ·cases fl with
  | next=>obtain⟨σ',H',I',d⟩:=hq;exact wpAny_execs_nil ⟨σ',H',I'.eH.rg,d⟩
  | brk=>obtain⟨σ',H',I',d⟩:=hq;exact⟨σ',H',I'.eH.rg,d⟩
  | cont=>obtain⟨σ',H',I',d⟩:=hq;exact⟨σ',H',I'.eH.rg,d⟩
  | ret u=>obtain⟨v,σ',H',I',r,d⟩:=hq;exact⟨v,σ',H',I'.eH.rg,r,d⟩
 ·refine Zx.note (X:=X.qR (X.pn++pins)) z hst hf fun s' ea C dd pins' σ' Hc T he I2 h1 h2 h3 h4=>?_
  subst he
  refine I2.qZ (fr:=none) h3 fun h' I3=>?_
  obtain⟨Hs',C',fo,ea',ee,sr',rp,hp⟩:=h4
  cases ee
  have I4:=I3.BH h1 h2 h3
  have eC:C'=C:=by
   obtain⟨vs,hx⟩:=I4.rB h1
   cases rp with
   | yU hr =>
    obtain⟨vs2,hx2⟩:=I4.rB (sr'.gr.sub _ _ hr)
    rw[hx] at hx2;injection hx2 with hx2;injection hx2 with hx2;injection hx2 with hx2;exact hx2.symm
   | x_ hr _ _ =>
    obtain⟨vs2,hx2⟩:=I4.rB (sr'.gr.sub _ _ hr)
    rw[hx] at hx2;injection hx2 with hx2;injection hx2 with hx2;injection hx2 with hx2;exact hx2.symm
  subst eC
  exact hh.run I3.rg h1 h2 h3 sr' rp hp
end
end L2
namespace L2
open PySem PySem.Spec PyProof.Rows
def rR(ys ns:List Addr)(C:Addr):Option Bool:=if ys.contains C=true then some true else if ns.contains C=true then some false else none
theorem qt{ys ns:List Addr}{C:Addr}{b:Bool}(h:rR ys ns C=some b):(b=true/\C∈ys)\/(b=false/\C∈ns):=by
 unfold rR at h
 by_cases h1:ys.contains C=true
 ·rw[if_pos h1] at h;cases h;exact .inl ⟨rfl,by simpa using h1⟩
 ·rw[if_neg h1] at h
  by_cases h2:ns.contains C=true
  ·rw[if_pos h2] at h;cases h;exact .inr ⟨rfl,by simpa using h2⟩
  ·rw[if_neg h2] at h;cases h
def Ey(f:Addr->Option Bool)(ys ns:List Addr):Bool:=ys.all (fun C=>f C==some true)&&ns.all fun C=>f C==some false
theorem yG{f:Addr->Option Bool}{ys ns:List Addr}(h:Ey f ys ns=true){C:Addr}{b:Bool}(e:rR ys ns C=some b):f C=some b:=by
 unfold Ey at h
 rw[Bool.and_eq_true,List.all_eq_true,List.all_eq_true] at h
 rcases qt e with ⟨rfl,m⟩ | ⟨rfl,m⟩
 ·exact eq_of_beq (h.1 C m)
 ·exact eq_of_beq (h.2 C m)
structure Pl (K:PySem.W.Frag) (mg:Str->Option Value) (x:Str) (D:Addr) (ys ns:List Addr):Prop where
 mg:mg x=some (.ref D)
 ok:∀ C b,rR ys ns C=some b->PySem.W.exmOne K (.ref C) (.ref D)=some b
theorem Pl.of{K:PySem.W.Frag}{mg:Str->Option Value}{x:Str}{D:Addr}{ys ns:List Addr}(h1:mg x=some (.ref D))(h2:Ey (fun C=>PySem.W.exmOne K (.ref C) (.ref D)) ys ns=true):Pl K mg x D ys ns:=⟨h1,fun _ _ e=>yG h2 e⟩
theorem sH:bootBuiltins "ValueError" = some (.type "ValueError"):=by decide +kernel
theorem uE{α:Type}{p:α->Prop}:∀ x∈([]:List α),p x:=fun _ h=>nomatch h
theorem yu{α:Type}{p:α->Prop}{a:α}{l:List α}(h:p a)(r:∀ x∈l,p x):∀ x∈a::l,p x:=fun x m=>by
 rcases List.mem_cons.mp m with rfl | m
 ·exact h
 ·exact r x m
def Gb:List String:=["NoneType", "bool", "int", "str", "tuple", "list", "dict"]
theorem GC{p:PV}{a:String}(h:G2 p=some a):a∈Gb:=by
 cases p <;> first | (cases h;decide) | cases h
structure J9 (K:PySem.W.Frag) (mg:Str->Option Value) (x:Str) (D:Addr) (ys ns yo no:List Addr):Prop where
 mg:mg x=some (.ref D)
 ty:∀ p a,G2 p=some a->PySem.W.kitOne K (.type a) (.ref D)=some false
 ob:∀ C b,rR yo no C=some b->yD K C/\PySem.W.kitOne K (.ref C) (.ref D)=some b
 oe:∀ C b,rR ys ns C=some b->fY K C/\PySem.W.kitOne K (.ref C) (.ref D)=some b
theorem J9.of{K:PySem.W.Frag}{mg:Str->Option Value}{x:Str}{D:Addr}{ys ns yo no:List Addr}(h1:mg x=some (.ref D))(h2:(Gb.all fun a=>PySem.W.kitOne K (.type a) (.ref D)==some false)=true)
  (h3:Ey (fun C=>PySem.W.kitOne K (.ref C) (.ref D)) yo no=true) (h4:Ey (fun C=>PySem.W.kitOne K (.ref C) (.ref D)) ys ns=true) (o1:∀ C∈yo,yD K C) (o2:∀ C∈no,yD K C) (e1:∀ C∈ys,fY K C) (e2:∀ C∈ns,fY K C):J9 K mg x D ys ns yo no where
 mg:=h1
 ty:=fun p a h=>by
  rw[List.all_eq_true] at h2
  exact eq_of_beq (h2 a (GC h))
 ob:=fun C b h=>⟨by rcases qt h with ⟨_,m⟩ | ⟨_,m⟩ <;> first | exact o1 C m | exact o2 C m,yG h3 h⟩
 oe:=fun C b h=>⟨by rcases qt h with ⟨_,m⟩ | ⟨_,m⟩ <;> first | exact e1 C m | exact e2 C m,yG h4 h⟩
section
variable{X:Cx}{E:St->XK}{e:Expr}{pos p px pt:Pos}{f:af->M PV}{x:Str}{D:Addr}{ys ns yo no:List Addr}
theorem J9.is(c:J9 X.K X.mg x D ys ns yo no)(hg:Gl X "isinstance")(hm:X.mg "isinstance" = none)(hx:Gl X x)(he:PE X e (tE E f))(hd:(x==("__debug__" : Str))=false:=by decide)
  (h1:starEach [e,.Name x pt] X.env=(false,eval e X.env)::starEach [.Name x pt] X.env:=by rfl) (h2:starEach [.Name x pt] X.env=(false,eval (.Name x pt) X.env)::starEach [] X.env:=by rfl) (hpl:(backTo pos (starEach [.Name x pt] X.env)).any (·.1)=false:=by rfl) :
  PE X (.Call (.Name "isinstance" p) [e,.Name x pt] [] pos) (tE E (vI (fun _=>false) (rR yo no) (rR ys ns) f)) :=
 Ih hg hm (zZ hx c.mg rfl hd) c.ty c.ob c.oe he h1 h2 hpl
def Ld(ys:List Addr):PV->M PV
 | .exc C _=>cJ (ys.contains C=true) (M.ok (.bl true))
 | _=>none
def IE(ys:List Addr)(f:af->M PV):af->M PV:=fun env=>(f env).bind (Ld ys)
theorem EL(hg:Gl X "isinstance")(hm:X.mg "isinstance" = none)(hT:PE X (.Name x pt) (tC (.ty "ValueError")))(hoe:∀ C∈ys,fY X.K C/\PySem.W.kitOne X.K (.ref C) (.type "ValueError")=some true)(he:PE X e (tE E f))
  (h1:starEach [e,.Name x pt] X.env=(false,eval e X.env)::starEach [.Name x pt] X.env:=by rfl) (h2:starEach [.Name x pt] X.env=(false,eval (.Name x pt) X.env)::starEach [] X.env:=by rfl) (hpl:(backTo pos (starEach [.Name x pt] X.env)).any (·.1)=false:=by rfl) :
  PE X (.Call (.Name "isinstance" p) [e,.Name x pt] [] pos) (tE E (IE ys f)):=by
 refine(ke (cN.or xh qV) hg hm uM (dF he (dF hT mi h2) h1) (by decide) (by decide) h1 hpl).imp fun σ H Q q=>bJ (K:=j5 Q) j5.g q fun B H₀ Hs H1 env p v sr rp hp=>?_
 cases p with
 | exc C fo =>
  obtain⟨m,q⟩:=ax.cJ hp
  obtain⟨a,fo',rfl,hx⟩:=yM sr.gr.sub rp
  have m':C∈ys:=by simpa using m
  exact .inr ⟨a,C,fo',true,(hoe C m').1,hx,.inl ⟨"ValueError", rfl,(hoe C m').2⟩,dz.flat q sr.gr.sub (.bl _)⟩
 | _=>exact hp.elim
end
end L2
namespace L2
open PySem PySem.Spec PyProof.Rows
section
variable{X:Cx}{E:St->XK}{e o:Expr}{pos apos cpos:Pos}{f g:af->M PV}
def G7:List V->Hp->VK->Prop:=fun xs H Q=>∃ b,xs=[.bl b]/\Q (.int (if b then 1 else 0)) H
theorem Ah:cN X (.type "int") G7:=by
 intro pins s σ H xs us Q I r h
 obtain⟨b,rfl,q⟩:=h
 obtain⟨u,rfl,rx⟩:=vals1 r
 cases rx
 exact call_int_bool ⟨.int _,H,I.kept (t':=s.toks+1) fun _ _ z=>z,⟨_,rfl⟩,q⟩
def KA:PV->M PV
 | .bl b=>M.ok (.int (if b then 1 else 0))
 | _=>none
def zq:List PV->M PV
 | [p]=>KA p
 | _=>none
theorem Gg:lM E G7 zq:=by
 intro σ Hs H ps vs Q s rp h
 match ps,rp,h with
 | [],_,h=>exact h.elim
 | _::_::_,_,h=>exact h.elim
 | [p],rp,h =>
  obtain⟨w,rfl,rw'⟩:=rp.one
  cases rw' with
  | bl b=>exact⟨b,rfl,dz.flat h s (.int _)⟩
  | _=>exact h.elim
end
end L2
namespace L2
open PySem PySem.Spec PyProof.Rows _root_.HT
section
variable{prog:Program}{w:World}{A:Around}{E:Value->Shared->Prop}{s:Shared}
theorem mU{t sl:Addr}{items:Array Value}{vl vu:Value}{lo hi:Option Int}{Q:Value->Shared->Prop}(ht:IsTup s.heap t items)(hs:s.heap.IsSliceOf sl vl vu .none)(pl:IsPart vl lo)(pu:IsPart vu hi)
  (hw:de items.size 0 lo=0/\de items.size items.size hi=items.size) (h:Q (.ref t) s):wpAny (model prog w) A (getItem (.ref t) (.ref sl)) Q E s:=by
 obtain⟨os,hos,hcs,hds⟩:=id hs
 have hTs:s.TypeIs (.ref sl) "slice" := ⟨os,hos,hcs⟩
 unfold getItem
 try with_reducible refine wpAny_holding ?_
 first | refine wpAny_bind (wpAny_pure ?_) | skip
 refine wpAny_bind (wpAny_sequenceKey ht.typeIs (by decide) ?_)
 refine wpAny_bind (wpAny_callSpecial?_slot (name:=Str.ofString "__getitem__") ht.typeIs PyProof.Rows.slot_tuple_getitem
  (wpAny_call_entry PyProof.Rows.slot_tuple_getitem ht.typeIs entry_tuple_getitem ?_ (args_tuple_getitem _ _)))
 show wpAny _ _ (Builtin.Tuple.tupleItemsOf (.ref t) >>= _) _ _ s
 refine wpAny_bind (tupleItemsOf_ ht ?_)
 refine wpAny_bind (wpAny_typeOf hTs ?_)
 rw[if_pos (by decide)]
 refine wpAny_bind (jf hs pl pu ?_)
 have hyes:(((de items.size 0 lo:Nat):Int)==0&&(1:Int)==1&&(de items.size items.size hi-de items.size 0 lo)==items.size)=true:=by
  rw[hw.1,hw.2];simp
 show wpAny _ _ (if (((de items.size 0 lo:Nat):Int)==0&&(1:Int)==1&&(de items.size items.size hi-de items.size 0 lo)==items.size)=true then _ else _) _ _ s
 rw[if_pos hyes]
 unfold Builtin.Tuple.tupleIsExact
 refine wpAny_bind (wpAny_bind (wpAny_typeOf ht.typeIs (wpAny_pure ?_)))
 rw[if_pos (show ((Value.type "tuple" == Value.type "tuple")=true) from beq_self_eq_true _)]
 refine wpAny_bind (wpAny_rule ?_)
 first
  | exact wpAny_bind (wpAny_pure (wpAny_pure ⟨_,rfl,wpAny_pure h⟩))
  | exact wpAny_bind (wpAny_pure ⟨_,rfl,wpAny_pure h⟩)
  | exact wpAny_pure ⟨_,rfl,wpAny_pure h⟩
end
section
variable{X:Cx}{E:St->XK}{e:Expr}{lo hi:Option Expr}{pos p2:Pos}{f:af->M PV}{gl gh:af->M (Option Int)}
def Rb(K:PySem.W.Frag):V->Option Int->Option Int->Hp->VK->Prop:=fun x lo hi H Q=>∃ a xs,x=.ref a/\gU K H a xs/\(de xs.length 0 lo=0/\de xs.length xs.length hi=xs.length)/\Q (.ref a) H
theorem Fu:EB X (Rb X.K):=by
 intro pins s σ H x v vl vu lo hi sl Q I rx hs pl pu h
 obtain⟨a,xs,rfl,hx,hw,q⟩:=h
 cases rx
 obtain⟨its,r,ht,hz⟩:=I.tuple hx
 have hlen:its.toArray.size=xs.length:=by rw[List.size_toArray];exact r.length.symm
 refine⟨"tuple", _,PyProof.Rows.slot_tuple_getitem.lookup,ht.typeIs,?_⟩
 exact mU ht hs pl pu (by rw[hlen];exact hw) ⟨.ref a,H,I,rfl,q⟩
def J6(p:PV)(lo hi:Option Int):M PV:=match p with
 | .tup xs=>M.ok (.tup (nI xs lo hi))
 | .lst xs=>M.ok (.lst (nI xs lo hi))
 | .kS xs=>M.ok (.lst (nI xs lo hi))
 | _=>none
def eN(f:af->M PV)(lo hi:af->M (Option Int)):af->M PV:=fun env=>(f env).bind fun p=>(lo env).bind fun l=>(hi env).bind fun h=>J6 p l h
theorem dQ(he:PE X e (tE E f))(hl:PO X lo (LU E gl))(hh:PO X hi (LU E gh)):PE X (.Subscript e (.Slice lo hi none p2) pos) (tE E (eN f gl gh)):=by
 refine(Ej (EB.or Iu (EB.or Fu Gx)) he hl hh).imp fun σ H Q q=>bJ (K:=j5 Q) j5.g q fun B H₀ Hs H1 env p v sr rp hp=>?_
 refine⟨B,H₀,Hs,env,sr,(ax.bind hp).imp (fun l hl Hs2 H2 g2=>?_) fun e he=>he⟩
 have sr2:=sr.grow g2
 refine⟨B,H₀,Hs2,env,sr2,(ax.bind hl).imp (fun h hh Hs3 H3 g3=>?_) fun e he=>he.grow g2⟩
 have sr3:=sr2.grow g3
 have hz:ax (J6 p l h) (dz Hs3 H3 Q) (fun _=>True):=hh.imp (fun z hz w Hs4 H4 g4 r=>hz w Hs4 H4 ((g2.trans g3).trans g4) r) fun _ _=>trivial
 have rp3:=(rp.mono g2.st).mono g3.st
 cases rp3 with
 | @tup a xs vs ha hx =>
  by_cases hn:de xs.length 0 l=0/\de xs.length xs.length h=xs.length
  ·refine .inr (.inl ⟨_,_,rfl,gU.of (sr3.gr.sub _ _ ha),by rw[← hx.length];exact hn,?_⟩)
   have e:nI xs l h=xs:=by
    unfold nI;rw[hn.1,hn.2,List.drop_zero,Nat.sub_zero,List.take_length]
   have hz':dz Hs3 H3 Q (.tup xs):=by
    have z:dz Hs3 H3 Q (.tup (nI xs l h)):=hz
    rw[e] at z;exact z
   exact dz.flat hz' sr3.gr.sub (.tup ha hx)
  ·exact .inl ⟨_,_,rfl,gU.of (sr3.gr.sub _ _ ha),by rw[← hx.length];exact hn,dz.tup hz sr3.gr.sub (hx.cut l h)⟩
 | lst ha hx=>exact .inr (.inr ⟨_,_,rfl,i4.of (sr3.gr.sub _ _ ha),dz.lst hz sr3.gr.sub (hx.cut l h)⟩)
 | kS ha hx=>exact .inr (.inr ⟨_,_,rfl,.inl (.inr ⟨_,sr3.gr.sub _ _ ha⟩),dz.lst hz sr3.gr.sub (hx.cut l h)⟩)
 | _=>exact hz.elim
end
end L2
namespace L2
open PySem PySem.Spec PyProof.Rows
open PySem.SeqAt (shaped noMix noMixAll)
section
variable{α β:Type}
theorem M.aT(a:α)(f:α->M β):M.bind (M.ok a) f=f a:=Eq.trans rfl rfl
theorem M.Cr(e:EX)(f:α->M β):M.bind (some (Except.error e)) f=some (.error e):=Eq.trans rfl rfl
theorem M.bind_none(f:α->M β):M.bind none f=none:=Eq.trans rfl rfl
theorem M.bind_some(a:α)(f:α->M β):M.bind (some (Except.ok a)) f=f a:=Eq.trans rfl rfl
theorem M.bind_assoc{γ:Type}(x:M α)(f:α->M β)(g:β->M γ):M.bind (M.bind x f) g=M.bind x fun a=>M.bind (f a) g:=by
 cases x with
 | none=>rfl
 | some x=>cases x <;> rfl
theorem aw{c:Prop}[Decidable c]{x:M α}(h:c):cJ c x=x:=if_pos h
theorem IC(a:α):Dr (M.ok a)=M.ok a:=Eq.trans rfl rfl
end
theorem Br(x:PV):fF (some x)=M.ok x:=Eq.trans rfl rfl
theorem xx(g:af->M Out)(env:af):DP g (.nx env)=g env:=Eq.trans rfl rfl
theorem wG(g:af->M Out)(p:PV):DP g (.rt p)=M.ok (.rt p):=Eq.trans rfl rfl
theorem FT(b:Bool):yz (.bl b)=M.ok b:=Eq.trans rfl rfl
theorem Gp(p:PV):Hz (.rt p)=M.ok p:=Eq.trans rfl rfl
theorem E9(e:af):Hz (.nx e)=M.ok .cz:=Eq.trans rfl rfl
def tI(xs:List Int):PV:=.tup (xs.map PV.int)
def lI(xs:List Int):PV:=.lst (xs.map PV.int)
theorem FE(xs:List Int):cy (tI xs)=some (xs.map PV.int):=Eq.trans rfl rfl
theorem Fv(xs:List Int):cy (lI xs)=some (xs.map PV.int):=Eq.trans rfl rfl
theorem CQ(xs:List PV):cy (.tup xs)=some xs:=Eq.trans rfl rfl
theorem qN(xs:List PV):cy (.lst xs)=some xs:=Eq.trans rfl rfl
theorem Ed(xs:List PV):cy (.kS xs)=some xs:=Eq.trans rfl rfl
theorem FQ(xs:List Int):w4 (tI xs)=M.ok (.int xs.length):=by simp[w4,tI,cy,fF]
theorem Fz(xs:List Int):w4 (lI xs)=M.ok (.int xs.length):=by simp[w4,lI,cy,fF]
theorem D8(xs:List PV):w4 (.tup xs)=M.ok (.int xs.length):=Eq.trans rfl rfl
theorem BI(xs:List PV):w4 (.lst xs)=M.ok (.int xs.length):=Eq.trans rfl rfl
theorem Dq(xs:List PV):w4 (.kS xs)=M.ok (.int xs.length):=Eq.trans rfl rfl
theorem vS(xs:List Int):wc [.lst (xs.map PV.int)]=M.ok (.int xs.sum):=by simp[wc,LO,tM,fF]
theorem qh(xs:List Bool):sG [.lst (xs.map PV.bl)]=M.ok (.bl (xs.all id)):=by simp[sG,all1,xk,fF]
theorem iK{α:Type}{f:af->M PV}{inj h:α->PV}{rest:af}{x0:Option SV}(xs:List α)(H:∀ a∈xs,f (some (.sh (inj a))::rest)=M.ok (h a)):bK (cH 0) none f (xs.map inj) (x0::rest)=M.ok (xs.map h):=by
 induction xs generalizing x0 with
 | nil=>rfl
 | cons a r ih =>
  rw[List.map_cons,bK]
  show M.bind (M.ok ((x0::rest).set 0 (some (.sh (inj a))))) _=_
  rw[M.aT,List.set_cons_zero]
  show M.bind (f _) _=_
  rw[H a List.mem_cons_self,M.aT,ih fun b hb=>H b (List.mem_cons_of_mem _ hb)]
  rfl
theorem iP{α:Type}{f:af->M PV}{p q h:α->PV}{rest:af}{x0 x1:Option SV}(xs:List α)(H:∀ a∈xs,f (some (.sh (p a))::some (.sh (q a))::rest)=M.ok (h a)):bK (bA 0 1) none f (xs.map fun a=>.tup [p a,q a]) (x0::x1::rest)=M.ok (xs.map h):=by
 induction xs generalizing x0 x1 with
 | nil=>rfl
 | cons a r ih =>
  rw[List.map_cons,bK]
  show M.bind (M.ok (((x0::x1::rest).set 0 (some (.sh (p a)))).set 1 (some (.sh (q a))))) _=_
  rw[M.aT,List.set_cons_zero,List.set_cons_succ,List.set_cons_zero]
  show M.bind (f _) _=_
  rw[H a List.mem_cons_self,M.aT,ih fun b hb=>H b (List.mem_cons_of_mem _ hb)]
  rfl
theorem D6{α:Type}{f:af->M PV}{p q s h:α->PV}{rest:af}{x0 x1 x2:Option SV}(xs:List α)(H:∀ a∈xs,f (some (.sh (p a))::some (.sh (q a))::some (.sh (s a))::rest)=M.ok (h a)):bK (oK 0 1 2) none f (xs.map fun a=>.tup [p a,q a,s a]) (x0::x1::x2::rest)=M.ok (xs.map h):=by
 induction xs generalizing x0 x1 x2 with
 | nil=>rfl
 | cons a r ih =>
  rw[List.map_cons,bK]
  show M.bind (M.ok ((((x0::x1::x2::rest).set 0 (some (.sh (p a)))).set 1 (some (.sh (q a)))).set 2 (some (.sh (s a))))) _=_
  rw[M.aT,List.set_cons_zero,List.set_cons_succ,List.set_cons_zero,List.set_cons_succ,List.set_cons_succ,List.set_cons_zero]
  show M.bind (f _) _=_
  rw[H a List.mem_cons_self,M.aT,ih fun b hb=>H b (List.mem_cons_of_mem _ hb)]
  rfl
theorem c8{α β:Type}{f:α->PV}{g:β->PV}{p q:PV}(xs:List α)(ys:List β)(hp:cy p=some (xs.map f))(hq:cy q=some (ys.map g)):zip2 [p,q]=M.ok ((xs.zip ys).map fun z=>.tup [f z.1,g z.2]):=by
 simp only[zip2,hp,hq]
 congr 2
 rw[List.zipWith_map,List.zip_eq_zipWith,List.map_zipWith]
theorem xH{α β γ:Type}{f:α->PV}{g:β->PV}{h:γ->PV}{p q r:PV}(xs:List α)(ys:List β)(zs:List γ)(hp:cy p=some (xs.map f))(hq:cy q=some (ys.map g))(hr:cy r=some (zs.map h)):y0 [p,q,r]=M.ok ((xs.zip (ys.zip zs)).map fun z=>.tup [f z.1,g z.2.1,h z.2.2]):=by
 simp only[y0,hp,hq,hr]
 congr 2
 clear hp hq hr
 induction xs generalizing ys zs with
 | nil=>cases ys <;> cases zs <;> rfl
 | cons a r ih =>
  cases ys with
  | nil=>rfl
  | cons b s =>
   cases zs with
   | nil=>rfl
   | cons c t=>simp only[List.map_cons,jT,List.zip_cons_cons,ih]
theorem AE{α:Type}{f:α->PV}(xs:List α):ip (xs.map f)=(xs.zipIdx).map fun z=>.tup [.int (z.2:Int),f z.1]:=by
 unfold ip
 rw[List.mapIdx_eq_zipIdx_map,List.zipIdx_map,List.map_map]
 rfl
theorem xf{set:PV->af->M af}{body:af->M Out}{α:Type}{inj:α->PV}(J:List α->af->Prop)
  (H:∀ a r env,J (a::r) env->∃ e' env',set (inj a) env=M.ok e'/\body e'=M.ok (.nx env')/\J r env'):∀ (xs:List α) (env:af),J xs env->∃ env',kK set body (xs.map inj) env=M.ok (.nx env')/\J [] env'
 | [],env,h=>⟨env,rfl,h⟩
 | a::r,env,h=>by
  obtain⟨e',env',h1,h2,h3⟩:=H a r env h
  obtain⟨env'',h4,h5⟩:=xf J H r env' h3
  refine⟨env'',?_,h5⟩
  rw[List.map_cons,kK,h1,M.aT,h2,M.aT]
  exact h4
theorem tq{u:af->M Bool}{b:af->M Out}(J:af->Prop)(m:af->Nat)
  (H:∀ env,J env->(u env=M.ok false)\/(u env=M.ok true/\∃ env',b env=M.ok (.nx env')/\J env'/\m env'<m env)) (env:af) (h:J env):∃ env',mx u b env=M.ok (.nx env')/\J env'/\u env'=M.ok false:=by
 have key:∀ (n:Nat) (env:af),J env->m env<n->∃ env',cG u b n env=M.ok (.nx env')/\J env'/\u env'=M.ok false:=by
  intro n
  induction n with
  | zero=>intro env _ hn;omega
  | succ n ih =>
   intro env h hn
   rcases H env h with hu | ⟨hu,env',hb,hj,hm⟩
   ·exact⟨env,by rw[cG,hu,M.aT];rfl,h,hu⟩
   ·obtain⟨env'',h1,h2,h3⟩:=ih env' hj (by omega)
    exact⟨env'',by rw[cG,hu,M.aT,if_pos rfl,hb,M.aT];exact h1,h2,h3⟩
 obtain⟨env',h1,h2,h3⟩:=key (m env+1) env h (Nat.lt_succ_self _)
 refine⟨env',?_,h2,h3⟩
 rw[AO (n:=m env+1) (by rw[h1];exact fun z=>nomatch z),h1]
theorem log2_small{i:Int}{k:Nat}(h:i.natAbs<2^k)(hk:k<=9000):i.natAbs.log2<67108864:=by
 by_cases z:i.natAbs=0
 ·rw[z];decide
 ·have:=(Nat.log2_lt z).mpr h
  omega
theorem aZ{i j:Int}{k l:Nat}(hi:i.natAbs<2^k)(hj:j.natAbs<2^l)(hk:k<=9000:=by decide)(hl:l<=9000:=by decide):bR (.int i) (.int j)=M.ok (.int (i*j)):=by
 rw[bR,aw ⟨log2_small hi hk,log2_small hj hl⟩]
theorem tP{i j:Int}(h0:j≠0)(h:j.natAbs<2^9000):bj (.int i) (.int j)=M.ok (.int (i.fdiv j)):=by
 show cJ _ _=_
 refine aw (decide_eq_true ⟨h0,(Nat.log2_lt (by omega)).mpr h⟩)
theorem DQ{i j:Int}(h0:j≠0):bZ (.int i) (.int j)=M.ok (.int (i.fmod j)):=by
 show cJ _ _=_
 exact aw (decide_eq_true h0)
theorem aH{i j:Int}(h0:0<j)(h:j<2^64):bj (.int i) (.int j)=M.ok (.int (i/j)):=by
 rw[tP (by omega) (Nat.lt_of_lt_of_le (show j.natAbs<2^64 by omega) (Nat.pow_le_pow_right (by decide) (by decide))),Int.fdiv_eq_ediv_of_nonneg _ (by omega)]
theorem aF{i j:Int}(h0:0<j):bZ (.int i) (.int j)=M.ok (.int (i%j)):=by
 rw[DQ (by omega),Int.fmod_eq_emod_of_nonneg _ (by omega)]
theorem bQ{xs:List PV}{p:PV}{j:Nat}{x:PV}(hs:cy p=some xs)(h:xs[j]?=some x):aM p (.int (j:Int))=M.ok x:=by
 cases p with
 | tup ys=>cases hs;simp only[aM,uO h,fF]
 | lst ys=>cases hs;simp only[aM,uO h,fF]
 | kS ys=>cases hs;simp only[aM,uO h,fF]
 | _=>cases hs
section
variable{b:String->Bool}{ob oe:Addr->Option Bool}
theorem HR(xs:List Int):Af b ob oe (tI xs)=M.ok (.bl (b "tuple")):=Eq.trans rfl rfl
theorem I_(xs:List Int):Af b ob oe (lI xs)=M.ok (.bl (b "list")):=Eq.trans rfl rfl
theorem EJ(xs:List PV):Af b ob oe (.tup xs)=M.ok (.bl (b "tuple")):=Eq.trans rfl rfl
theorem FZ(xs:List PV):Af b ob oe (.lst xs)=M.ok (.bl (b "list")):=Eq.trans rfl rfl
theorem EN(i:Int):Af b ob oe (.int i)=M.ok (.bl (b "int")):=Eq.trans rfl rfl
theorem JT(i:Bool):Af b ob oe (.bl i)=M.ok (.bl (b "bool")):=Eq.trans rfl rfl
theorem E3:Af b ob oe .cz=M.ok (.bl (b "NoneType")):=Eq.trans rfl rfl
theorem F8(x:Str):Af b ob oe (.str x)=M.ok (.bl (b "str")):=Eq.trans rfl rfl
theorem Fn:Af b ob oe .emp=M.ok (.bl (b "dict")):=Eq.trans rfl rfl
end
theorem FR(i j:Int):xq (.int i) (.int j)=M.ok (.bl (!decide (i=j))):=by
 simp only[xq,uz,dat,J8,shaped,PyData.canLay0,PyData.depth,noMix]
 rw[aw ⟨rfl,rfl,trivial⟩]
 unfold same
 rw[M.aT];congr
theorem F_(i j:Int):xu (.int i) (.int j)=M.ok (.bl (decide (i=j))):=by
 simp only[xu,uz,dat,J8,shaped,PyData.canLay0,PyData.depth,noMix]
 rw[aw ⟨rfl,rfl,trivial⟩]
 unfold same
 rw[M.aT];congr
theorem HK(i j:Bool):xq (.bl i) (.bl j)=M.ok (.bl (!decide (i=j))):=by
 simp only[xq,uz,dat,J8,shaped,PyData.canLay0,PyData.depth,noMix]
 rw[aw ⟨rfl,rfl,trivial⟩]
 unfold same
 rw[M.aT];congr
theorem J3(i j:Bool):xu (.bl i) (.bl j)=M.ok (.bl (decide (i=j))):=by
 simp only[xu,uz,dat,J8,shaped,PyData.canLay0,PyData.depth,noMix]
 rw[aw ⟨rfl,rfl,trivial⟩]
 unfold same
 rw[M.aT];congr
theorem By(xs:List Int):pR (xs.map PV.int)=some (xs.map PyData.int):=by
 induction xs with
 | nil=>rfl
 | cons a r ih=>simp[pR,dat,ih]
theorem vL(xs:List Int):PyData.canLayAll0 (xs.map PyData.int)=true:=by
 induction xs with
 | nil=>rfl
 | cons a r ih=>simp[PyData.canLayAll0,PyData.canLay0,ih]
theorem ye(xs:List Int):PyData.depthAll (xs.map PyData.int)=0:=by
 induction xs with
 | nil=>rfl
 | cons a r ih=>simp[PyData.depthAll,PyData.depth,ih]
theorem noMix_ints:∀ (xs ys:List Int),noMixAll (xs.map PyData.int) (ys.map PyData.int)=true
 | [],[]=>by simp[noMixAll]
 | [],_::_=>by simp[noMixAll]
 | _::_,[]=>by simp[noMixAll]
 | a::r,b::s=>by simp[noMixAll,noMix,noMix_ints r s]
theorem same_ints:∀ (xs ys:List Int),sameAll (xs.map PyData.int) (ys.map PyData.int)=decide (xs=ys)
 | [],[]=>by simp[sameAll]
 | [],_::_=>by simp[sameAll]
 | _::_,[]=>by simp[sameAll]
 | a::r,b::s=>by
  simp only[List.map_cons,sameAll,same_ints r s]
  unfold same
  rw[Bool.eq_iff_iff];simp
theorem BJ(xs ys:List Int):xq (tI xs) (tI ys)=M.ok (.bl (!decide (xs=ys))):=by
 simp only[xq,uz,dat,tI,By,Option.map_some,J8]
 rw[aw (by simp[shaped,PyData.canLay0,PyData.depth,vL,ye,noMix,noMix_ints])]
 unfold same
 rw[same_ints];rfl
theorem EM(i j:Int):ED (.int i) (.int j)=M.ok (.bl (decide (i<j))):=Eq.trans rfl rfl
theorem F7(i j:Int):EA (.int i) (.int j)=M.ok (.bl (decide (i<=j))):=Eq.trans rfl rfl
theorem FD(i j:Int):GY (.int i) (.int j)=M.ok (.bl (decide (j<i))):=Eq.trans rfl rfl
theorem Gi(i j:Int):Ka (.int i) (.int j)=M.ok (.bl (decide (j<=i))):=Eq.trans rfl rfl
theorem C1(i j:Int):cj (.int i) (.int j)=M.ok (.int (i+j)):=Eq.trans rfl rfl
theorem El(i j:Int):l7 (.int i) (.int j)=M.ok (.int (i-j)):=Eq.trans rfl rfl
theorem kf{n:Int}(h:0<=n)(h2:n<2^62):sU [.int n]=M.ok ((List.range n.toNat).map fun (i:Nat)=>.int (i:Int)):=by
 show cJ (-(2^62)<=n/\n<2^62) _=_
 rw[aw (by omega)]
 simp
theorem dP{β:Type}{set:PV->af->M af}{body:af->M Out}{α:Type}{inj:α->PV}{k:Out->M β}{r:M β}(xs:List α)(J:List α->af->Prop){env:af}(h:J xs env)
  (H:∀ a r env,J (a::r) env->∃ e' env',set (inj a) env=M.ok e'/\body e'=M.ok (.nx env')/\J r env') (hk:∀ env',J [] env'->k (.nx env')=r):M.bind (kK set body (xs.map inj) env) k=r:=by
 obtain⟨env',e,h'⟩:=xf J H xs env h
 rw[e,M.aT];exact hk env' h'
theorem yx{β:Type}{u:af->M Bool}{b:af->M Out}{k:Out->M β}{r:M β}(J:af->Prop)(m:af->Nat){env:af}(h:J env)
  (H:∀ env,J env->(u env=M.ok false)\/(u env=M.ok true/\∃ env',b env=M.ok (.nx env')/\J env'/\m env'<m env)) (hk:∀ env',J env'->u env'=M.ok false->k (.nx env')=r):M.bind (mx u b env) k=r:=by
 obtain⟨env',e,h',h2⟩:=tq J m H env h
 rw[e,M.aT];exact hk env' h' h2
theorem aJ{n:Nat}(h:n<=1000):n<=sizeLine:=Nat.le_of_lt (nV h)
def tupK(ps:List PV):M PV:=cJ (ps.length<=sizeLine) (M.ok (.tup ps))
def lstK(ps:List PV):M PV:=cJ (ps.length<=sizeLine) (M.ok (.lst ps))
theorem F2(fs:af->M (List PV))(env:af):i6 fs env=(fs env).bind tupK:=rfl
theorem F5(fs:af->M (List PV))(env:af):uX fs env=(fs env).bind lstK:=rfl
theorem HV:tupK []=M.ok (.tup []):=aw (aJ (show 0<=1000 by decide))
theorem JL:lstK []=M.ok (.lst []):=aw (aJ (show 0<=1000 by decide))
theorem Iy(a:PV):tupK [a]=M.ok (.tup [a]):=aw (aJ (show 1<=1000 by decide))
theorem Jb(a:PV):lstK [a]=M.ok (.lst [a]):=aw (aJ (show 1<=1000 by decide))
theorem Jk(a b:PV):tupK [a,b]=M.ok (.tup [a,b]):=aw (aJ (show 2<=1000 by decide))
theorem Jn(a b:PV):lstK [a,b]=M.ok (.lst [a,b]):=aw (aJ (show 2<=1000 by decide))
theorem HU(a b c:PV):tupK [a,b,c]=M.ok (.tup [a,b,c]):=aw (aJ (show 3<=1000 by decide))
theorem HY(a b c:PV):lstK [a,b,c]=M.ok (.lst [a,b,c]):=aw (aJ (show 3<=1000 by decide))
theorem J5(a b c d:PV):tupK [a,b,c,d]=M.ok (.tup [a,b,c,d]):=aw (aJ (show 4<=1000 by decide))
theorem IT(a b c d:PV):lstK [a,b,c,d]=M.ok (.lst [a,b,c,d]):=aw (aJ (show 4<=1000 by decide))
theorem Jr(a b c d e:PV):tupK [a,b,c,d,e]=M.ok (.tup [a,b,c,d,e]):=aw (aJ (show 5<=1000 by decide))
theorem Ic(a b c d e:PV):lstK [a,b,c,d,e]=M.ok (.lst [a,b,c,d,e]):=aw (aJ (show 5<=1000 by decide))
theorem JH(a b c d e f:PV):tupK [a,b,c,d,e,f]=M.ok (.tup [a,b,c,d,e,f]):=aw (aJ (show 6<=1000 by decide))
theorem Jy(a b c d e f:PV):lstK [a,b,c,d,e,f]=M.ok (.lst [a,b,c,d,e,f]):=aw (aJ (show 6<=1000 by decide))
end L2
namespace L2
open PySem PySem.Spec PyProof.Rows
def j0{α:Type}(m:M α)(Q:α->Prop):Prop:=∃ a,m=M.ok a/\Q a
section
variable{α β γ:Type}{Q Q':α->Prop}{m:M α}
theorem j0.eq{a:α}(h:j0 m fun x=>x=a):m=M.ok a:=by obtain⟨b,e,rfl⟩:=h;exact e
def Tn(J:af->Prop)(B:af->Prop)(R:PV->Prop):Out->Prop
 | .nx e=>J e
 | .ct e=>J e
 | .bk e=>B e
 | .rt p=>R p
theorem j0.zr{set:PV->af->M af}{body:af->M Out}{inj:γ->PV}{B:af->Prop}{R:PV->Prop}(J:List γ->af->Prop)
  (H:∀ a r env,J (a::r) env->j0 (M.bind (set (inj a) env) body) (Tn (J r) B R)):∀ (xs:List γ) (env:af),J xs env->j0 (kK set body (xs.map inj) env) fun o=>(∃ e,o=.nx e/\(J [] e\/B e))\/∃ p,o=.rt p/\R p
 | [],env,h=>⟨_,rfl,.inl ⟨_,rfl,.inl h⟩⟩
 | a::r,env,h=>by
  obtain⟨o,e,q⟩:=H a r env h
  rw[List.map_cons,kK,← M.bind_assoc,e,M.aT]
  cases o with
  | nx e'=>exact j0.zr J H r e' q
  | ct e'=>exact j0.zr J H r e' q
  | bk e'=>exact⟨_,rfl,.inl ⟨_,rfl,.inr q⟩⟩
  | rt p=>exact⟨_,rfl,.inr ⟨_,rfl,q⟩⟩
theorem j0.loop{R:β->Prop}{set:PV->af->M af}{body:af->M Out}{inj:γ->PV}{k:Out->M β}{xs:List γ}{env:af}(J:List γ->af->Prop)(h:J xs env)
  (H:∀ a r env,J (a::r) env->j0 (M.bind (set (inj a) env) body) (Tn (J r) (fun _=>False) fun _=>False)) (hk:∀ env',J [] env'->j0 (k (.nx env')) R):j0 (M.bind (kK set body (xs.map inj) env) k) R:=by
 obtain⟨o,e,q⟩:=j0.zr J H xs env h
 rw[e,M.aT]
 rcases q with ⟨e',rfl,q | q⟩ | ⟨p,_,q⟩
 ·exact hk e' q
 ·exact q.elim
 ·exact q.elim
theorem j0.Kx{R:β->Prop}{set:PV->af->M af}{body:af->M Out}{inj:γ->PV}{k:Out->M β}{xs:List γ}{env:af}(J:List γ->af->Prop)(h:J xs env)
  (H:∀ a r env,J (a::r) env->j0 (M.bind (set (inj a) env) body) (Tn (J r) (fun e=>j0 (k (.nx e)) R) fun p=>j0 (k (.rt p)) R)) (hk:∀ env',J [] env'->j0 (k (.nx env')) R):j0 (M.bind (kK set body (xs.map inj) env) k) R:=by
 obtain⟨o,e,q⟩:=j0.zr J H xs env h
 rw[e,M.aT]
 rcases q with ⟨e',rfl,q | q⟩ | ⟨p,rfl,q⟩
 ·exact hk e' q
 ·exact q
 ·exact q
end
def K1(i:Nat)(env:af)(xs:List PV)(p:PV):M Out:=if xs.length<sizeLine then M.ok (.nx (env.set i (some (.ow (xs++[p]))))) else none
theorem uG(i:Nat)(f:af->M PV)(env:af):pB i f env=(ownAt i env).bind fun xs=>(f env).bind fun p=>K1 i env xs p:=by
 unfold pB ownAt
 rcases env[i]? with _ | _ | (_ | _ | _) <;> rfl
theorem vi{i:Nat}{env:af}{xs:List PV}{p:PV}(h:xs.length<1000):K1 i env xs p=M.ok (.nx (env.set i (some (.ow (xs++[p]))))):=if_pos (nV (Nat.le_of_lt h))
def s_(C:Addr)(m:Str)(sem:List PV->M PV)(p:PV)(x:M (List PV)):M PV:=match p with
 | .obj C' fl=>cJ (C'=C/\fl.lookup m=none) (x.bind fun ps=>sem (.obj C' fl::ps))
 | _=>none
theorem cF(C:Addr)(m:Str)(sem:List PV->M PV)(g:af->M PV)(fs:af->M (List PV))(env:af):bD C m sem g fs env=(g env).bind fun p=>s_ C m sem p (fs env):=rfl
theorem la{C:Addr}{m:Str}{sem:List PV->M PV}{fl:List (Str×PV)}{x:M (List PV)}(h:fl.lookup m=none):s_ C m sem (.obj C fl) x=x.bind fun ps=>sem (.obj C fl::ps):=aw ⟨rfl,h⟩
def FN(ok:Addr->Bool)(f:Str)(p:PV):M PV:=match p with
 | .obj C fs=>cJ (ok C=true) (fF (fs.lookup f))
 | _=>none
theorem pI(ok:Addr->Bool)(f:Str)(g:af->M PV)(env:af):iZ ok f g env=(g env).bind (FN ok f):=rfl
theorem vQ{ok:Addr->Bool}{f:Str}{C:Addr}{fs:List (Str×PV)}{x:PV}(h:ok C=true)(hl:fs.lookup f=some x):FN ok f (.obj C fs)=M.ok x:=by
 show cJ _ _=_
 rw[aw h,hl];rfl
theorem tV(xs:List Int)(x:Int):xs.map PV.int++[.int x]=(xs++[x]).map PV.int:=by simp
end L2
namespace L2
open PySem PySem.Spec PyProof.Rows
theorem ux{α:Type}{f:α->PV}{p:PV}(xs:List α)(h:cy p=some (xs.map f)):CK [p]=M.ok (xs.zipIdx.map fun z=>.tup [.int (z.2:Int),f z.1]):=by
 show Md p=_
 unfold Md
 rw[h]
 show M.ok (ip _)=_
 rw[AE]
theorem BG(xs:List Int):CK [lI xs]=M.ok (xs.zipIdx.map fun z=>.tup [.int (z.2:Int),.int z.1]):=ux xs rfl
theorem Jg(xs:List Int):CK [tI xs]=M.ok (xs.zipIdx.map fun z=>.tup [.int (z.2:Int),.int z.1]):=ux xs rfl
theorem uj{α:Type}{f:α->PV}(xs:List α):CK [.lst (xs.map f)]=M.ok (xs.zipIdx.map fun z=>.tup [.int (z.2:Int),f z.1]):=ux xs rfl
theorem FU(f:af->M Out)(hs:List Hd)(env:af):FF f hs env=za (f env) fun x=>i5 hs x env:=rfl
theorem yI(x:EX)(k:EX->M Out):za (some (.error x)) k=k x:=Eq.trans rfl rfl
theorem x9(t:Addr->Option Bool)(o:Option Nat)(h:af->M Out)(r:List Hd)(x:EX)(env:af):i5 ((t,o,h)::r) x env=uQ (t x.1) (qu o h x env) (i5 r x env):=Eq.trans rfl rfl
theorem HF(x y:M Out):uQ (some true) x y=x:=Eq.trans rfl rfl
theorem Dh(i:Nat)(h:af->M Out)(x:EX)(env:af):qu (some i) h x env=(Dr (h (env.set i (some (.sh (.exc x.1 x.2)))))).bind fun out=>M.ok (uS i out):=Eq.trans rfl rfl
end L2
namespace L2
open PySem PySem.Spec PyProof.Rows
theorem SD{α:Type}{us:List α}(h:us.length=1):∃ a,us=[a]:=by
 cases us with
 | nil=>cases h
 | cons a t=>cases t with
  | nil=>exact⟨a,rfl⟩
  | cons b t=>cases h
theorem ln2{α:Type}{us:List α}(h:us.length=2):∃ a b,us=[a,b]:=by
 cases us with
 | nil=>cases h
 | cons a t=>obtain⟨b,rfl⟩:=SD (Nat.succ.inj h);exact⟨a,b,rfl⟩
theorem MZ{α:Type}{us:List α}(h:us.length=3):∃ a b c,us=[a,b,c]:=by
 cases us with
 | nil=>cases h
 | cons a t=>obtain⟨b,c,rfl⟩:=ln2 (Nat.succ.inj h);exact⟨a,b,c,rfl⟩
theorem Sy{α:Type}{us:List α}(h:us.length=4):∃ a b c d,us=[a,b,c,d]:=by
 cases us with
 | nil=>cases h
 | cons a t=>obtain⟨b,c,d,rfl⟩:=MZ (Nat.succ.inj h);exact⟨a,b,c,d,rfl⟩
theorem T9{α:Type}{us:List α}(h:us.length=5):∃ a b c d e,us=[a,b,c,d,e]:=by
 cases us with
 | nil=>cases h
 | cons a t=>obtain⟨b,c,d,e,rfl⟩:=Sy (Nat.succ.inj h);exact⟨a,b,c,d,e,rfl⟩
def zv(K:PySem.W.Frag):Bool:=K.all fun p=>match p.2.cls with
 | .type t=>t != "list"
 | _=>true
theorem DG{K:PySem.W.Frag}(h:zv K=true){a:Addr}{o:Obj}(e:K.lookup a=some o):o.cls≠.type "list" := by
 induction K with
 | nil=>cases e
 | cons p r ih =>
  obtain⟨b,u⟩:=p
  rw[zv,List.all_cons,Bool.and_eq_true] at h
  rw[List.lookup_cons] at e
  cases q:a==b with
  | true =>
   rw[q] at e;cases e
   intro z
   have h1:=h.1
   simp only[z] at h1
   exact absurd h1 (by decide)
  | false=>rw[q] at e;exact ih h.2 e
theorem sY{H:Hp}:∀ ns:List Int,aK H (ns.map PV.int) (ns.map V.int)
 | []=>.nil
 | i::r=>.cons (.int i) (sY r)
theorem yf{l:PySem.W.OpenLaw}{n k:Nat}{q:Program}{loose:List Str}{XP:(Str->Option Value)->Heap->Prop}{YP:World->Heap->Prop}{d:DefRec}{K:Params->PySem.W.Frag}{sem:List PV->M PV}{x:Str}
  (hn:l.most=some n) (hn2:n<=sizeLine) (hdf:d.params.defaults=[]) (hr:cp k callerA)
  (hY:∀ (w:World) (h:Heap),YP w h->(K w.params).In h)
  (hK:∀ w:World,zv (K w.params)=true)
  (F:∀ (w:World) (mg:Str->Option Value) (fa:Addr) (h:Heap),(K w.params).In h->h.Ns mainGlobals mg->mg d.name=some (.ref fa) ->
   ∃ fd:FuncData,(∀ (s:Shared) (u:Value),BindsTo s fd ⟨[u],[]⟩ [(x,u)]) ∧
    ∀ base:Heap,(K w.params).In base->base.Ns mainGlobals mg->aQ l.prog w (K w.params) mg base (bV l.prog w) k fa fd [x] (dW 1 sem))
  (hsem:∀ ns:List Int,ns.length<=n->(∀ i∈ns,Builtin.Int.intBits i<=1048576)->sem [.kS (ns.map PV.int)]=M.ok (.bl true)) :
  PySem.W.WalkO q loose XP YP l.row.toRowW d [] (fun f vs=>PySem.call f vs):=by
 intro w s₀ s₁ mg mb G Y fa o pm cd doc dV kV ho hd hcd hD hmg hg args vals as Bp hlay hrd hwl hlo
 obtain rfl:dV=.none:=PySem.W.Dflts.none hD hdf
 obtain rfl:kV=.none:=PySem.W.Dflts.noKw hD
 obtain⟨a,vs,ns,rfl,rfl,hobj,hints,hlen⟩:=Att.AY hn Bp hwl
 have hbits:∀ i∈ns,Builtin.Int.intBits i<=1048576:=fun i hi=>by
  have h1:=PySem.W.layableW_arg hlay _ (List.mem_singleton.mpr rfl)
  have h2:=PySem.W.layableW_item h1 (.int i) (List.mem_map.mpr ⟨i,hi,rfl⟩)
  exact intBits_le_of_layable h2
 have KX:=hY w _ Y
 obtain⟨fd,hb,hF⟩:=F w mg fa _ KX G.T.g hmg
 have hs:=hsem ns hlen hbits
 refine PySem.W.enter_call (codeAny_mono (Dw KX G.T.g G.T.b G.T.builtins G.T.nolimit hg hobj hints (Nat.le_trans hlen hn2) hr hF hb (fun H hO hS=>⟨rfl,H,[.kS (ns.map PV.int)],fun _ _ e=>e,?_,?_⟩) fun H e s' z=>?_) fun r s' hq=>?_)
 ·rcases hS with (hS | ⟨ob,hS⟩) | ⟨ob,its,m,e1,e2,_⟩
  ·rcases hO a with z | ⟨ob,xs,z⟩
   ·rw[z] at hS;cases hS
   ·rw[z] at hS;cases hS
  ·exact .cons (.kS hS (sY ns)) .nil
  ·exact absurd e2 (DG (hK w) e1)
 ·rw[hs]
  intro v Hs' H' g r
  cases r;rfl
 ·obtain⟨ea,T,C,dd,Hc,_,_,_,_,_,_,_,_,z⟩:=z;exact z
 ·obtain⟨rfl,h2,h3,h4⟩:=hq
  exact⟨.inl ⟨.bool true,.bool true,[],rfl,fun _=>rfl,.bool true,Att.AH l _,fun _=>⟨List.Pairwise.nil,fun _ hm=>(nomatch hm)⟩⟩,h2,h3,h4⟩
end L2
namespace L2
open PySem PySem.Spec PyProof.Rows
abbrev fJ(x q:Str)(t:Stmt)(s:Value)(c:Addr):FuncData:=PySem.W.fnOf x q (ir t) (fx t) (aq t) .none .none .none s none (.ref c) .none
theorem aE.of{K:PySem.W.Frag}{x q:Str}{t:Stmt}{dv kV doc pm:Value}{an:Option Addr}{cdv ct:Value}{f:Addr}(h1:K.lookup f=some ⟨.type "function", none,.func (PySem.W.fnOf x q (ir t) (fx t) (aq t) dv kV doc pm an cdv ct),⟨[]⟩⟩)(h2:PySem.W.codeIn K cdv q=true)(h3:PySem.W.keepIn K (.ref f)=true):aE K x q t dv f (PySem.W.fnOf x q (ir t) (fx t) (aq t) dv kV doc pm an cdv ct):=⟨⟨_,_,_,_,_,_,_,_,_,rfl,h1,h2⟩,h3⟩
section
variable{α:Type}{P:List α->Prop}
theorem BA(h:∀ a,P [a]):∀ us,us.length=1->P us:=fun us hl=>by obtain⟨a,rfl⟩:=SD hl;exact h a
theorem n9(h:∀ a b,P [a,b]):∀ us,us.length=2->P us:=fun us hl=>by obtain⟨a,b,rfl⟩:=ln2 hl;exact h a b
theorem FP(h:∀ a b c,P [a,b,c]):∀ us,us.length=3->P us:=fun us hl=>by obtain⟨a,b,c,rfl⟩:=MZ hl;exact h a b c
theorem N1(h:∀ a b c d,P [a,b,c,d]):∀ us,us.length=4->P us:=fun us hl=>by obtain⟨a,b,c,d,rfl⟩:=Sy hl;exact h a b c d
theorem Tw(h:∀ a b c d e,P [a,b,c,d,e]):∀ us,us.length=5->P us:=fun us hl=>by obtain⟨a,b,c,d,e,rfl⟩:=T9 hl;exact h a b c d e
end
theorem az.of{N P:List Str}{sc:Scope}(h1:sc.kind=.function:=by rfl)(h2:sc.isCoroutine=false:=by rfl)(h3:sc.isGenerator=false:=by rfl)(h4:N.Nodup:=by decide +kernel)(h5:N.take P.length=P:=by rfl)(h6:∀ x∈P,sc.names.lookup x=some .local\/sc.names.lookup x=some .cell:=by decide +kernel)(h7:∀ y∈sc.names,y.2≠.free:=by decide +kernel):az N P sc:=⟨h1,h2,h3,h4,h5,h6,h7⟩
theorem aL{X:Cx}{pos:Pos}{i:Nat}{x:Str}(hN:X.N.Nodup)(hi:X.N[i]?=some x:=by rfl)(hx:Loc X.env.scope x:=by first | exact .inl rfl | exact .inr rfl)(hf:X.fn x=true\/X.env.scope.names.lookup x=some .local:=by first | exact .inl rfl | exact .inr rfl):PG X (.Name x pos) (aG i):=Fs hN hi hx hf
end L2
namespace HD
open PySem PySem.W L2
abbrev pw:Program:=PySem.Challenge.pw_dialvault_k43_still_weights_written
noncomputable section
def st(s:String)(t:Nat):Value:=.str (Str.ofString s) t
def en(P:Params)(s:String)(t:Nat)(v:Value):DictEntry:=⟨PyData.keyHash P (Str.ofString s),st s t,v⟩
def tu(xs:List Value):Obj:=⟨.type "tuple", none,.seq ⟨xs⟩ 0,⟨[]⟩⟩
def di(n:Nat)(es:List DictEntry):Obj:=⟨.type "dict", none,.dict ⟨es⟩ n,⟨[]⟩⟩
def tp(i:Nat):Stmt:=pw.main.body.getD i (.Pass ⟨0,0,0,0⟩)
def mp(i j:Nat):Stmt:=inClass (tp i) j
def co(a b:String)(t:Nat)(l n:Int)(x1 x2 x3 x4 x5:Nat)(u:Nat):Obj:=⟨.type "code", none,.fields ⟨[st a t,st b (t+1),st "/claim/cut.py" (t+2),.int l 0,.int n 0,.int 0 0,.int 0 0,.int 3 0,.ref x1,.bool true,.int 181 0,.ref x2,.none,.ref x3,.ref x4,.ref x5,.int u 0,.int l 0,st "/claim/cut.py" (u+1)]⟩,⟨[]⟩⟩
def ft(a b:String)(s:Stmt):Obj:=⟨.none,none,.func ⟨Str.ofString a,Str.ofString b,ir s,.stmts (fx s),aq s,0,[],.none,.none,.none,.none,none,.none,.none,0⟩,⟨[]⟩⟩
def fo(a b:String)(s:Stmt)(df pm:Value)(cd:Nat):Obj:=⟨.type "function", none,.func ⟨Str.ofString a,Str.ofString b,ir s,.stmts (fx s),aq s,3,[],df,.none,.none,pm,none,.ref cd,.none,0⟩,⟨[]⟩⟩
def Iq:List Obj->List Obj
 | []=>[]
 | [a]=>[a]
 | a::_::r=>a::Iq r
def bt:Nat->List Obj->BT
 | 0,_=>.nil
 | _+1,[]=>.nil
 | n+1,a::r=>.node a (bt n (Iq r)) (bt n (Iq (r.drop 1)))
def S(L:Params->List Obj)(n k:Nat)(w:World)(os:OsState):SharedT:=⟨bt 14 (L w.params),n,{},⟨[]⟩,⟨0,0,0,0⟩,k,os⟩
def F(L:Params->List Obj)(k:Nat)(w:World)(os:OsState):Shared:=⟨⟨⟨L w.params⟩,{}⟩,⟨[]⟩,⟨0,0,0,0⟩,k,os⟩
def cc(a:String)(t:Nat)(l:Int)(x y u:Nat):Obj:=⟨.type "code", none,.fields ⟨[st a t,st a (t+1),st "/claim/cut.py" (t+2),.int l 0,.int 0 0,.int 0 0,.int 0 0,.int 0 0,.ref x,.bool false,.int 181 0,.ref y,.none,.none,.none,.none,.int u 0,.int l 0,st "/claim/cut.py" (u+1)]⟩,⟨[]⟩⟩
def fr(a b:Nat)(s:String)(t:Nat):Obj:=⟨.type "frame", none,.plain,⟨[some (.ref a),some (.ref 3),some (.ref b),none,some (st s t),none,some (.ref 0)]⟩⟩
def su(a:Nat):Obj:=⟨.type "super", none,.fields ⟨[.ref a,.ref a,.ref a]⟩,⟨[]⟩⟩
def ii(a:Nat):Obj:=⟨.type "builtin_function_or_method", none,.fields ⟨[.builtin "object.__init_subclass__", .ref a]⟩,⟨[]⟩⟩
def vX:List Nat->List Value
 | a::b::c::r=>.int a 0::.int b 0::.ref c::vX r
 | _=>[]
def fi(xs:List Nat):Obj:=⟨.none,none,.fields ⟨vX xs⟩,⟨[]⟩⟩
def cl(n:Str)(bs ms:List Value)(k:Nat)(ss:List Value)(sl:List (Option Value)):Obj:=⟨.type "type", none,.cls ⟨n,bs,ms,k,n,true,[],ss,false,none,false⟩,⟨sl⟩⟩
def pt(L:List Obj)(us:List (Nat×Obj))(ns:List Obj):List Obj:=us.foldl (fun l u=>l.set u.1 u.2) L++ns
abbrev b0:=boot_o_0
abbrev b1:=boot_o_1
abbrev b2:=boot_o_2
abbrev b3:=boot_o_3
abbrev b4:=boot_o_4
abbrev b5:=boot_o_5
abbrev b6:=boot_o_6
abbrev b7:=boot_o_7
abbrev b8:=boot_o_8
abbrev b9:=boot_o_9
abbrev UI:=boot_o_10
def gl P:=[en P "__doc__" 166 .none,en P "__package__" 167 .none,en P "__loader__" 168 (.builtin "__main__.__loader__#opaque"),en P "__spec__" 169 .none,en P "__annotations__" 170 (.ref 6),en P "__builtins__" 171 (.ref 4),en P "__file__" 173 (st "/claim/cut.py" 172),en P "__cached__" 174 .none,en P "_wall" 193 (.ref 21),en P "VaultError" 220 (.ref 38),en P "NoDial" 252 (.ref 65),en P "NoLever" 284 (.ref 91),en P "NoPrice" 316 (.ref 117),en P "NoSetting" 339 (.ref 136),en P "NoPulls" 362 (.ref 155),en P "TooMany" 385 (.ref 174),en P "is_whole" 394 (.ref 183),en P "is_row" 400 (.ref 188),en P "common" 412 (.ref 195),en P "multiple_of" 421 (.ref 202),en P "unit_row" 427 (.ref 207),en P "rest_sum" 433 (.ref 212),en P "MOST_DIALS" 437 (.int 6 436),en P "LEAST_SIZE" 439 (.int 2 438),en P "MOST_SIZE" 441 (.int 360 440),en P "MOST_LEVERS" 443 (.int 8 442),en P "LEAST_PRICE" 445 (.int 1 444),en P "MOST_PRICE" 447 (.int 1000 446),en P "Vault" 505 (.ref 256),en P "is_within" 514 (.ref 267),en P "need_sizes" 523 (.ref 274),en P "need_levers" 533 (.ref 281),en P "prices_for" 542 (.ref 288),en P "rests" 548 (.ref 293),en P "nought" 555 (.ref 300),en P "is_setting" 561 (.ref 305),en P "need_setting" 569 (.ref 312),en P "added" 575 (.ref 317),en P "weigh" 583 (.ref 322),en P "weighs_no_lever" 589 (.ref 327),en P "mixed" 597 (.ref 332),en P "mixed_made" 609 (.ref 339),en P "unpulled" 617 (.ref 346),en P "pulled_once" 626 (.ref 353),en P "step_size" 636 (.ref 360),en P "taken_in" 651 (.ref 367),en P "lowered" 663 (.ref 374),en P "in_spans" 673 (.ref 381),en P "Rungs" 759 (.ref 448),en P "written" 767 (.ref 457),en P "_law_cell" 777 (.ref 464),en P "_law_mix" 786 (.ref 471),en P "_law_digits" 796 (.ref 478),en P "_law_size" 803 (.ref 485),en P "_law_sizes" 809 (.ref 490),en P "_law_lever" 822 (.ref 497),en P "_law_round" 833 (.ref 504),en P "_law_weigh" 839 (.ref 509),en P "_law_like" 849 (.ref 516),en P "_law_sum" 855 (.ref 521),en P "_law_below" 865 (.ref 528),en P "_law_still" 875 (.ref 535),en P "_law_refused" 885 (.ref 542),en P "_law_other" 896 (.ref 549),en P "law" 902 (.ref 554)]
def o0:=cc "<module>" 182 1 11 12 185
def o1:=fr 13 3 "__main__" 164
def LA(P:Params):List Obj:=[b0 P,b1 P,b2 P,b3 P,b4 P,b5 P,b6 P,b7 P,b8 P,b9 P,UI P,b7 P,b8 P,o0,o1]
def o2 P:=di 11 (en P "__name__" 165 (st "dialvault.errors" 194)::(gl P).take 10)
def o3:=fi [1,0,20,5,0,27]
def o4:=tu [st "k" 190]
def o5:=ft "_wall" "_wall" (tp 0)
def o6:=co "_wall" "_wall" 187 1 1 15 16 17 18 19 191
def o7:=fo "_wall" "_wall" (tp 0) .none (st "__main__" 164) 20
def o8:=tu [.type "ValueError"]
def o9:Obj:=⟨.type "builtin_function_or_method", none,(.fields ⟨[.builtin "type.__prepare__", .type "type"]⟩),⟨[]⟩⟩
def Tf P:=di 5 [en P "__module__" 203 (st "dialvault.errors" 194),en P "__qualname__" 205 (st "VaultError" 204),en P "__firstlineno__" 207 (.int 5 206),en P "word" 214 (.ref 35),en P "__static_attributes__" 215 (.ref 36)]
def Um:=fi [7,4,34]
def UR:=cc "VaultError" 198 5 25 26 201
def TH:=fr 27 24 "dialvault.errors" 194
def U1:=tu [st "self" 211]
def S7:=ft "word" "VaultError.word" (mp 2 0)
def Ui:=co "word" "VaultError.word" 208 7 1 29 30 31 32 33 212
def S9:=fo "word" "VaultError.word" (mp 2 0) .none (st "dialvault.errors" 194) 34
def Uh P:=di 3 [en P "__module__" 203 (st "dialvault.errors" 194),en P "__firstlineno__" 207 (.int 5 206),en P "word" 214 (.ref 35),en P "__static_attributes__" 215 (.ref 36),en P "__weakref__" 217 (.ref 39),en P "__doc__" 218 .none]
def S2:=cl "VaultError" [.type "ValueError"] [.ref 38,.type "ValueError", .type "Exception", .type "BaseException", .type "object"] 37 [] [some (.ref 22),none,some (st "VaultError" 196),some (st "VaultError" 204),some (.builtin "ValueError.__new__"),some (.bool true)]
def S1:Obj:=⟨.type "getset_descriptor", none,(.fields ⟨[st "__weakref__" 216,.ref 38,.builtin "ExceptionGroup.__weakref__", .none]⟩),⟨[]⟩⟩
def TR:=su 38
def Uw:=ii 38
def L0 P:=pt (LA P) [(3,o2 P),(12,o3)] [b7 P,b8 P,o4,b7 P,o5,o6,o7,o8,o9,Tf P,b7 P,Um,UR,TH,b7 P,b8 P,U1,b7 P,S7,Ui,S9,b7 P,Uh P,S2,S1,TR,Uw]
def Ul P:=di 12 (en P "__name__" 165 (st "dialvault.errors" 194)::(gl P).take 11)
def UA:=fi [1,0,20,5,0,27,9,0,47]
def TM:=cl "VaultError" [.type "ValueError"] [.ref 38,.type "ValueError", .type "Exception", .type "BaseException", .type "object"] 37 [.ref 65] [some (.ref 22),none,some (st "VaultError" 196),some (st "VaultError" 204),some (.builtin "ValueError.__new__"),some (.bool true)]
def J_:=tu [.ref 38]
def UO P:=di 6 [en P "__module__" 228 (st "dialvault.errors" 194),en P "__qualname__" 230 (st "NoDial" 229),en P "__firstlineno__" 232 (.int 9 231),en P "__init__" 240 (.ref 55),en P "word" 247 (.ref 62),en P "__static_attributes__" 249 (.ref 63)]
def TK:=fi [11,4,54,14,4,61]
def UX:=cc "NoDial" 223 9 45 46 226
def Th:=fr 47 44 "dialvault.errors" 194
def Ue:=tu [st "self" 236,st "dial" 237]
def Ta:=ft "__init__" "NoDial.__init__" (mp 3 0)
def Ur:=co "__init__" "NoDial.__init__" 233 11 2 49 50 51 52 53 238
def Ua:=fo "__init__" "NoDial.__init__" (mp 3 0) .none (st "dialvault.errors" 194) 54
def Tg:=tu [st "self" 244]
def Tz:=ft "word" "NoDial.word" (mp 3 1)
def T1:=co "word" "NoDial.word" 241 14 1 56 57 58 59 60 245
def UZ:=fo "word" "NoDial.word" (mp 3 1) .none (st "dialvault.errors" 194) 61
def TZ:=tu [st "dial" 248]
def UN P:=di 2 [en P "__module__" 228 (st "dialvault.errors" 194),en P "__firstlineno__" 232 (.int 9 231),en P "__init__" 240 (.ref 55),en P "word" 247 (.ref 62),en P "__static_attributes__" 249 (.ref 63),en P "__doc__" 250 .none]
def Tj:=cl "NoDial" [.ref 38] [.ref 65,.ref 38,.type "ValueError", .type "Exception", .type "BaseException", .type "object"] 64 [] [some (.ref 42),none,some (st "NoDial" 221),some (st "NoDial" 229),some (.builtin "ValueError.__new__"),some (.bool true)]
def Tc:=su 65
def UL:=ii 65
def L1 P:=pt (L0 P) [(3,Ul P),(12,UA),(38,TM)] [J_,o9,UO P,b7 P,TK,UX,Th,b7 P,b8 P,Ue,b7 P,Ta,Ur,Ua,b7 P,b8 P,Tg,b7 P,Tz,T1,UZ,TZ,UN P,Tj,Tc,UL]
def UT P:=di 13 (en P "__name__" 165 (st "dialvault.errors" 194)::(gl P).take 12)
def UG:=fi [1,0,20,5,0,27,9,0,47,16,0,73]
def SS:=cl "VaultError" [.type "ValueError"] [.ref 38,.type "ValueError", .type "Exception", .type "BaseException", .type "object"] 37 [.ref 65,.ref 91] [some (.ref 22),none,some (st "VaultError" 196),some (st "VaultError" 204),some (.builtin "ValueError.__new__"),some (.bool true)]
def UB P:=di 6 [en P "__module__" 260 (st "dialvault.errors" 194),en P "__qualname__" 262 (st "NoLever" 261),en P "__firstlineno__" 264 (.int 16 263),en P "__init__" 272 (.ref 81),en P "word" 279 (.ref 88),en P "__static_attributes__" 281 (.ref 89)]
def UW:=fi [18,4,80,21,4,87]
def Up:=cc "NoLever" 255 16 71 72 258
def To:=fr 73 70 "dialvault.errors" 194
def Tq:=tu [st "self" 268,st "lever" 269]
def TU:=ft "__init__" "NoLever.__init__" (mp 4 0)
def UM:=co "__init__" "NoLever.__init__" 265 18 2 75 76 77 78 79 270
def T5:=fo "__init__" "NoLever.__init__" (mp 4 0) .none (st "dialvault.errors" 194) 80
def S6:=tu [st "self" 276]
def TB:=ft "word" "NoLever.word" (mp 4 1)
def Uo:=co "word" "NoLever.word" 273 21 1 82 83 84 85 86 277
def Ug:=fo "word" "NoLever.word" (mp 4 1) .none (st "dialvault.errors" 194) 87
def Ux:=tu [st "lever" 280]
def S_ P:=di 2 [en P "__module__" 260 (st "dialvault.errors" 194),en P "__firstlineno__" 264 (.int 16 263),en P "__init__" 272 (.ref 81),en P "word" 279 (.ref 88),en P "__static_attributes__" 281 (.ref 89),en P "__doc__" 282 .none]
def Td:=cl "NoLever" [.ref 38] [.ref 91,.ref 38,.type "ValueError", .type "Exception", .type "BaseException", .type "object"] 90 [] [some (.ref 68),none,some (st "NoLever" 253),some (st "NoLever" 261),some (.builtin "ValueError.__new__"),some (.bool true)]
def TF:=su 91
def T4:=ii 91
def L2 P:=pt (L1 P) [(3,UT P),(12,UG),(38,SS)] [J_,o9,UB P,b7 P,UW,Up,To,b7 P,b8 P,Tq,b7 P,TU,UM,T5,b7 P,b8 P,S6,b7 P,TB,Uo,Ug,Ux,S_ P,Td,TF,T4]
def Tu P:=di 14 (en P "__name__" 165 (st "dialvault.errors" 194)::(gl P).take 13)
def UY:=fi [1,0,20,5,0,27,9,0,47,16,0,73,23,0,99]
def Te:=cl "VaultError" [.type "ValueError"] [.ref 38,.type "ValueError", .type "Exception", .type "BaseException", .type "object"] 37 [.ref 65,.ref 91,.ref 117] [some (.ref 22),none,some (st "VaultError" 196),some (st "VaultError" 204),some (.builtin "ValueError.__new__"),some (.bool true)]
def T7 P:=di 6 [en P "__module__" 292 (st "dialvault.errors" 194),en P "__qualname__" 294 (st "NoPrice" 293),en P "__firstlineno__" 296 (.int 23 295),en P "__init__" 304 (.ref 107),en P "word" 311 (.ref 114),en P "__static_attributes__" 313 (.ref 115)]
def UH:=fi [25,4,106,28,4,113]
def Ut:=cc "NoPrice" 287 23 97 98 290
def Uj:=fr 99 96 "dialvault.errors" 194
def T6:=tu [st "self" 300,st "lever" 301]
def Ub:=ft "__init__" "NoPrice.__init__" (mp 5 0)
def Tx:=co "__init__" "NoPrice.__init__" 297 25 2 101 102 103 104 105 302
def Tr:=fo "__init__" "NoPrice.__init__" (mp 5 0) .none (st "dialvault.errors" 194) 106
def Ud:=tu [st "self" 308]
def Tb:=ft "word" "NoPrice.word" (mp 5 1)
def UE:=co "word" "NoPrice.word" 305 28 1 108 109 110 111 112 309
def TJ:=fo "word" "NoPrice.word" (mp 5 1) .none (st "dialvault.errors" 194) 113
def Uv:=tu [st "lever" 312]
def SN P:=di 2 [en P "__module__" 292 (st "dialvault.errors" 194),en P "__firstlineno__" 296 (.int 23 295),en P "__init__" 304 (.ref 107),en P "word" 311 (.ref 114),en P "__static_attributes__" 313 (.ref 115),en P "__doc__" 314 .none]
def S4:=cl "NoPrice" [.ref 38] [.ref 117,.ref 38,.type "ValueError", .type "Exception", .type "BaseException", .type "object"] 116 [] [some (.ref 94),none,some (st "NoPrice" 285),some (st "NoPrice" 293),some (.builtin "ValueError.__new__"),some (.bool true)]
def UP:=su 117
def T8:=ii 117
def L3 P:=pt (L2 P) [(3,Tu P),(12,UY),(38,Te)] [J_,o9,T7 P,b7 P,UH,Ut,Uj,b7 P,b8 P,T6,b7 P,Ub,Tx,Tr,b7 P,b8 P,Ud,b7 P,Tb,UE,TJ,Uv,SN P,S4,UP,T8]
def Uc P:=di 15 (en P "__name__" 165 (st "dialvault.errors" 194)::(gl P).take 14)
def TN:=fi [1,0,20,5,0,27,9,0,47,16,0,73,23,0,99,30,0,125]
def TL:=cl "VaultError" [.type "ValueError"] [.ref 38,.type "ValueError", .type "Exception", .type "BaseException", .type "object"] 37 [.ref 65,.ref 91,.ref 117,.ref 136] [some (.ref 22),none,some (st "VaultError" 196),some (st "VaultError" 204),some (.builtin "ValueError.__new__"),some (.bool true)]
def Us P:=di 5 [en P "__module__" 324 (st "dialvault.errors" 194),en P "__qualname__" 326 (st "NoSetting" 325),en P "__firstlineno__" 328 (.int 30 327),en P "word" 335 (.ref 133),en P "__static_attributes__" 336 (.ref 134)]
def T_:=fi [32,4,132]
def S3:=cc "NoSetting" 319 30 123 124 322
def UC:=fr 125 122 "dialvault.errors" 194
def TX:=tu [st "self" 332]
def S5:=ft "word" "NoSetting.word" (mp 6 0)
def Tv:=co "word" "NoSetting.word" 329 32 1 127 128 129 130 131 333
def US:=fo "word" "NoSetting.word" (mp 6 0) .none (st "dialvault.errors" 194) 132
def UU P:=di 2 [en P "__module__" 324 (st "dialvault.errors" 194),en P "__firstlineno__" 328 (.int 30 327),en P "word" 335 (.ref 133),en P "__static_attributes__" 336 (.ref 134),en P "__doc__" 337 .none]
def SX:=cl "NoSetting" [.ref 38] [.ref 136,.ref 38,.type "ValueError", .type "Exception", .type "BaseException", .type "object"] 135 [] [some (.ref 120),none,some (st "NoSetting" 317),some (st "NoSetting" 325),some (.builtin "ValueError.__new__"),some (.bool true)]
def UD:=su 136
def Tp:=ii 136
def L4 P:=pt (L3 P) [(3,Uc P),(12,TN),(38,TL)] [J_,o9,Us P,b7 P,T_,S3,UC,b7 P,b8 P,TX,b7 P,S5,Tv,US,b7 P,UU P,SX,UD,Tp]
def UK P:=di 16 (en P "__name__" 165 (st "dialvault.errors" 194)::(gl P).take 15)
def OX:=fi [1,0,20,5,0,27,9,0,47,16,0,73,23,0,99,30,0,125,34,0,144]
def Nf:=cl "VaultError" [.type "ValueError"] [.ref 38,.type "ValueError", .type "Exception", .type "BaseException", .type "object"] 37 [.ref 65,.ref 91,.ref 117,.ref 136,.ref 155] [some (.ref 22),none,some (st "VaultError" 196),some (st "VaultError" 204),some (.builtin "ValueError.__new__"),some (.bool true)]
def Pj P:=di 5 [en P "__module__" 347 (st "dialvault.errors" 194),en P "__qualname__" 349 (st "NoPulls" 348),en P "__firstlineno__" 351 (.int 34 350),en P "word" 358 (.ref 152),en P "__static_attributes__" 359 (.ref 153)]
def Se:=fi [36,4,151]
def Nr:=cc "NoPulls" 342 34 142 143 345
def M6:=fr 144 141 "dialvault.errors" 194
def Q1:=tu [st "self" 355]
def Q3:=ft "word" "NoPulls.word" (mp 7 0)
def RY:=co "word" "NoPulls.word" 352 36 1 146 147 148 149 150 356
def Mw:=fo "word" "NoPulls.word" (mp 7 0) .none (st "dialvault.errors" 194) 151
def O6 P:=di 2 [en P "__module__" 347 (st "dialvault.errors" 194),en P "__firstlineno__" 351 (.int 34 350),en P "word" 358 (.ref 152),en P "__static_attributes__" 359 (.ref 153),en P "__doc__" 360 .none]
def NC:=cl "NoPulls" [.ref 38] [.ref 155,.ref 38,.type "ValueError", .type "Exception", .type "BaseException", .type "object"] 154 [] [some (.ref 139),none,some (st "NoPulls" 340),some (st "NoPulls" 348),some (.builtin "ValueError.__new__"),some (.bool true)]
def Po:=su 155
def R9:=ii 155
def L5 P:=pt (L4 P) [(3,UK P),(12,OX),(38,Nf)] [J_,o9,Pj P,b7 P,Se,Nr,M6,b7 P,b8 P,Q1,b7 P,Q3,RY,Mw,b7 P,O6 P,NC,Po,R9]
def Nu P:=di 22 (en P "__name__" 165 (st "dialvault.wholes" 386)::(gl P).take 21)
def PD:=fi [1,0,20,5,0,27,9,0,47,16,0,73,23,0,99,30,0,125,34,0,144,38,0,163,43,0,182,45,0,187,49,0,194,60,0,201,65,0,206]
def Pm:=cl "VaultError" [.type "ValueError"] [.ref 38,.type "ValueError", .type "Exception", .type "BaseException", .type "object"] 37 [.ref 65,.ref 91,.ref 117,.ref 136,.ref 155,.ref 174] [some (.ref 22),none,some (st "VaultError" 196),some (st "VaultError" 204),some (.builtin "ValueError.__new__"),some (.bool true)]
def Pq P:=di 5 [en P "__module__" 370 (st "dialvault.errors" 194),en P "__qualname__" 372 (st "TooMany" 371),en P "__firstlineno__" 374 (.int 38 373),en P "word" 381 (.ref 171),en P "__static_attributes__" 382 (.ref 172)]
def Rl:=fi [40,4,170]
def O7:=cc "TooMany" 365 38 161 162 368
def O8:=fr 163 160 "dialvault.errors" 194
def Qw:=tu [st "self" 378]
def Qu:=ft "word" "TooMany.word" (mp 8 0)
def Mu:=co "word" "TooMany.word" 375 40 1 165 166 167 168 169 379
def Qz:=fo "word" "TooMany.word" (mp 8 0) .none (st "dialvault.errors" 194) 170
def MN P:=di 2 [en P "__module__" 370 (st "dialvault.errors" 194),en P "__firstlineno__" 374 (.int 38 373),en P "word" 381 (.ref 171),en P "__static_attributes__" 382 (.ref 172),en P "__doc__" 383 .none]
def MT:=cl "TooMany" [.ref 38] [.ref 174,.ref 38,.type "ValueError", .type "Exception", .type "BaseException", .type "object"] 173 [] [some (.ref 158),none,some (st "TooMany" 363),some (st "TooMany" 371),some (.builtin "ValueError.__new__"),some (.bool true)]
def Pt:=su 174
def R6:=ii 174
def Ss:=tu [st "thing" 391]
def OD:=ft "is_whole" "is_whole" (tp 10)
def QU:=co "is_whole" "is_whole" 388 43 1 177 178 179 180 181 392
def Qj:=fo "is_whole" "is_whole" (tp 10) .none (st "dialvault.wholes" 386) 182
def Oz:=ft "is_row" "is_row" (tp 11)
def Sq:Obj:=⟨.type "code", none,(.fields ⟨[st "is_row" 395,st "is_row" 396,st "/claim/cut.py" 397,.int 45 0,.int 2 0,.int 0 0,.int 0 0,.int 3 0,.ref 184,.bool true,.int 181 0,.ref 185,.none,.none,.none,.ref 186,.int 398 0,.int 45 0,st "/claim/cut.py" 399]⟩),⟨[]⟩⟩
def Oy:=fo "is_row" "is_row" (tp 11) .none (st "dialvault.wholes" 386) 187
def MH:=tu [st "one" 404,st "other" 405,st "row" 406,st "behind" 407,st "times" 408,st "rest" 409]
def RS:=ft "common" "common" (tp 12)
def N2:=co "common" "common" 401 49 2 189 190 191 192 193 410
def Qc:=fo "common" "common" (tp 12) .none (st "dialvault.wholes" 386) 194
def RZ:=tu [st "numbers" 416,st "multiple" 417,st "number" 418]
def Mt:=ft "multiple_of" "multiple_of" (tp 13)
def QO:=co "multiple_of" "multiple_of" 413 60 1 196 197 198 199 200 419
def Np:=fo "multiple_of" "multiple_of" (tp 13) .none (st "dialvault.wholes" 386) 201
def QE:=ft "unit_row" "unit_row" (tp 14)
def Om:Obj:=⟨.type "code", none,(.fields ⟨[st "unit_row" 422,st "unit_row" 423,st "/claim/cut.py" 424,.int 65 0,.int 2 0,.int 0 0,.int 0 0,.int 3 0,.ref 203,.bool true,.int 181 0,.ref 204,.none,.none,.none,.ref 205,.int 425 0,.int 65 0,st "/claim/cut.py" 426]⟩),⟨[]⟩⟩
def M5:=fo "unit_row" "unit_row" (tp 14) .none (st "dialvault.wholes" 386) 206
def L6 P:=pt (L5 P) [(3,Nu P),(12,PD),(38,Pm)] [J_,o9,Pq P,b7 P,Rl,O7,O8,b7 P,b8 P,Qw,b7 P,Qu,Mu,Qz,b7 P,MN P,MT,Pt,R6,b7 P,b8 P,Ss,b7 P,OD,QU,Qj,b7 P,b8 P,Oz,Sq,Oy,b7 P,b8 P,MH,b7 P,RS,N2,Qc,b7 P,b8 P,RZ,b7 P,Mt,QO,Np,b7 P,b8 P,QE,Om,M5]
def MW P:=di 29 (en P "__name__" 165 (st "dialvault.vault" 434)::(gl P).take 28)
def MA:=fi [1,0,20,5,0,27,9,0,47,16,0,73,23,0,99,30,0,125,34,0,144,38,0,163,43,0,182,45,0,187,49,0,194,60,0,201,65,0,206,67,0,211]
def Qp:=ft "rest_sum" "rest_sum" (tp 15)
def Qo:Obj:=⟨.type "code", none,(.fields ⟨[st "rest_sum" 428,st "rest_sum" 429,st "/claim/cut.py" 430,.int 67 0,.int 3 0,.int 0 0,.int 0 0,.int 3 0,.ref 208,.bool true,.int 181 0,.ref 209,.none,.none,.none,.ref 210,.int 431 0,.int 67 0,st "/claim/cut.py" 432]⟩),⟨[]⟩⟩
def Rh:=fo "rest_sum" "rest_sum" (tp 15) .none (st "dialvault.wholes" 386) 211
def L7 P:=pt (L6 P) [(3,MW P),(12,MA)] [b7 P,b8 P,Qp,Qo,Rh]
def Og P:=di 31 (en P "__name__" 165 (st "dialvault.vault" 434)::(gl P).take 30)
def QM:=fi [1,0,20,5,0,27,9,0,47,16,0,73,23,0,99,30,0,125,34,0,144,38,0,163,43,0,182,45,0,187,49,0,194,60,0,201,65,0,206,67,0,211,76,0,218,97,0,266]
def OP P:=di 9 [en P "__module__" 455 (st "dialvault.vault" 434),en P "__qualname__" 457 (st "Vault" 456),en P "__firstlineno__" 459 (.int 76 458),en P "__init__" 465 (.ref 225),en P "sizes" 472 (.ref 232),en P "levers" 479 (.ref 239),en P "prices" 486 (.ref 246),en P "around" 493 (.ref 253),en P "__static_attributes__" 498 (.ref 254)]
def M_:=fi [78,4,224,86,4,231,89,4,238,92,4,245,95,4,252]
def RR:=cc "Vault" 450 76 216 217 453
def Pg:=fr 218 215 "dialvault.vault" 434
def NG:=tu [.none]
def N0:=ft "__init__" "Vault.__init__" (mp 23 0)
def Rt:Obj:=⟨.type "code", none,(.fields ⟨[st "__init__" 460,st "Vault.__init__" 461,st "/claim/cut.py" 462,.int 78 0,.int 4 0,.int 0 0,.int 0 0,.int 3 0,.ref 221,.bool true,.int 181 0,.ref 222,.none,.none,.none,.ref 223,.int 463 0,.int 78 0,st "/claim/cut.py" 464]⟩),⟨[]⟩⟩
def Oq:=fo "__init__" "Vault.__init__" (mp 23 0) (.ref 220) (st "dialvault.vault" 434) 224
def QS:=tu [st "self" 469]
def PK:=ft "sizes" "Vault.sizes" (mp 23 1)
def Mo:=co "sizes" "Vault.sizes" 466 86 1 226 227 228 229 230 470
def Q4:=fo "sizes" "Vault.sizes" (mp 23 1) .none (st "dialvault.vault" 434) 231
def Sk:=tu [st "self" 476]
def QF:=ft "levers" "Vault.levers" (mp 23 2)
def QD:=co "levers" "Vault.levers" 473 89 1 233 234 235 236 237 477
def MF:=fo "levers" "Vault.levers" (mp 23 2) .none (st "dialvault.vault" 434) 238
def NN:=tu [st "self" 483]
def Pr:=ft "prices" "Vault.prices" (mp 23 3)
def PX:=co "prices" "Vault.prices" 480 92 1 240 241 242 243 244 484
def Nl:=fo "prices" "Vault.prices" (mp 23 3) .none (st "dialvault.vault" 434) 245
def Mm:=tu [st "self" 490]
def PF:=ft "around" "Vault.around" (mp 23 4)
def R1:=co "around" "Vault.around" 487 95 1 247 248 249 250 251 491
def PN:=fo "around" "Vault.around" (mp 23 4) .none (st "dialvault.vault" 434) 252
def MP:=tu [st "dial_sizes" 494,st "least_round" 495,st "lever_prices" 496,st "lever_settings" 497]
def NS P:=di 4 [en P "__module__" 455 (st "dialvault.vault" 434),en P "__firstlineno__" 459 (.int 76 458),en P "__init__" 465 (.ref 225),en P "sizes" 472 (.ref 232),en P "levers" 479 (.ref 239),en P "prices" 486 (.ref 246),en P "around" 493 (.ref 253),en P "__static_attributes__" 498 (.ref 254),en P "__dict__" 500 (.ref 257),en P "__weakref__" 502 (.ref 258),en P "__doc__" 503 .none]
def OB:=cl "Vault" [.type "object"] [.ref 256,.type "object"] 255 [] [none,none,some (st "Vault" 448),some (st "Vault" 456),some (.builtin "object.__new__"),some (.bool true)]
def Sd:Obj:=⟨.type "getset_descriptor", none,(.fields ⟨[st "__dict__" 499,.ref 256,.builtin "function.__dict__", .builtin "function.__dict__#set"]⟩),⟨[]⟩⟩
def OZ:Obj:=⟨.type "getset_descriptor", none,(.fields ⟨[st "__weakref__" 501,.ref 256,.builtin "ExceptionGroup.__weakref__", .none]⟩),⟨[]⟩⟩
def Ox:=su 256
def Rz:=ii 256
def Q6:=tu [st "thing" 509,st "least" 510,st "most" 511]
def O4:=ft "is_within" "is_within" (tp 24)
def Qg:=co "is_within" "is_within" 506 97 3 261 262 263 264 265 512
def Qf:=fo "is_within" "is_within" (tp 24) .none (st "dialvault.vault" 434) 266
def L8 P:=pt (L7 P) [(3,Og P),(12,QM)] [b7 P,o9,OP P,b7 P,M_,RR,Pg,NG,b7 P,b8 P,N0,Rt,Oq,b7 P,b8 P,QS,b7 P,PK,Mo,Q4,b7 P,b8 P,Sk,b7 P,QF,QD,MF,b7 P,b8 P,NN,b7 P,Pr,PX,Nl,b7 P,b8 P,Mm,b7 P,PF,R1,PN,MP,NS P,OB,Sd,OZ,Ox,Rz,b7 P,b8 P,Q6,b7 P,O4,Qg,Qf]
def Pw P:=di 44 (en P "__name__" 165 (st "dialvault.rungs" 590)::(gl P).take 43)
def P_:=fi [1,0,20,5,0,27,9,0,47,16,0,73,23,0,99,30,0,125,34,0,144,38,0,163,43,0,182,45,0,187,49,0,194,60,0,201,65,0,206,67,0,211,76,0,218,97,0,266,99,0,273,107,0,280,113,0,287,122,0,292,124,0,299,126,0,304,131,0,311,134,0,316,138,0,321,144,0,326,147,0,331,149,0,338,152,0,345]
def OH:=tu [st "sizes" 518,st "dial" 519,st "size" 520]
def OJ:=ft "need_sizes" "need_sizes" (tp 25)
def PQ:=co "need_sizes" "need_sizes" 515 99 1 268 269 270 271 272 521
def P1:=fo "need_sizes" "need_sizes" (tp 25) .none (st "dialvault.vault" 434) 273
def Mq:=tu [st "levers" 527,st "dials" 528,st "place" 529,st "lever" 530]
def Sm:=ft "need_levers" "need_levers" (tp 26)
def Rc:=co "need_levers" "need_levers" 524 107 2 275 276 277 278 279 531
def Rr:=fo "need_levers" "need_levers" (tp 26) .none (st "dialvault.vault" 434) 280
def PJ:=tu [st "levers" 537,st "prices" 538,st "place" 539]
def NO:=ft "prices_for" "prices_for" (tp 27)
def MC:=co "prices_for" "prices_for" 534 113 2 282 283 284 285 286 540
def Pu:=fo "prices_for" "prices_for" (tp 27) .none (st "dialvault.vault" 434) 287
def P5:=ft "rests" "rests" (tp 28)
def Rf:Obj:=⟨.type "code", none,(.fields ⟨[st "rests" 543,st "rests" 544,st "/claim/cut.py" 545,.int 122 0,.int 2 0,.int 0 0,.int 0 0,.int 3 0,.ref 289,.bool true,.int 181 0,.ref 290,.none,.none,.none,.ref 291,.int 546 0,.int 122 0,st "/claim/cut.py" 547]⟩),⟨[]⟩⟩
def OK:=fo "rests" "rests" (tp 28) .none (st "dialvault.vault" 434) 292
def M9:=tu [st "vault" 552]
def Sj:=ft "nought" "nought" (tp 29)
def PZ:=co "nought" "nought" 549 124 1 294 295 296 297 298 553
def PC:=fo "nought" "nought" (tp 29) .none (st "dialvault.vault" 434) 299
def Pk:=ft "is_setting" "is_setting" (tp 30)
def PL:Obj:=⟨.type "code", none,(.fields ⟨[st "is_setting" 556,st "is_setting" 557,st "/claim/cut.py" 558,.int 126 0,.int 2 0,.int 0 0,.int 0 0,.int 3 0,.ref 301,.bool true,.int 181 0,.ref 302,.none,.none,.none,.ref 303,.int 559 0,.int 126 0,st "/claim/cut.py" 560]⟩),⟨[]⟩⟩
def OT:=fo "is_setting" "is_setting" (tp 30) .none (st "dialvault.vault" 434) 304
def MO:=tu [st "vault" 565,st "thing" 566]
def Mh:=ft "need_setting" "need_setting" (tp 31)
def RU:=co "need_setting" "need_setting" 562 131 2 306 307 308 309 310 567
def Nt:=fo "need_setting" "need_setting" (tp 31) .none (st "dialvault.vault" 434) 311
def MM:=ft "added" "added" (tp 32)
def P8:Obj:=⟨.type "code", none,(.fields ⟨[st "added" 570,st "added" 571,st "/claim/cut.py" 572,.int 134 0,.int 4 0,.int 0 0,.int 0 0,.int 3 0,.ref 313,.bool true,.int 181 0,.ref 314,.none,.none,.none,.ref 315,.int 573 0,.int 134 0,st "/claim/cut.py" 574]⟩),⟨[]⟩⟩
def RE:=fo "added" "added" (tp 32) .none (st "dialvault.vault" 434) 316
def Pp:=ft "weigh" "weigh" (tp 34)
def RL:Obj:=⟨.type "code", none,(.fields ⟨[st "weigh" 578,st "weigh" 579,st "/claim/cut.py" 580,.int 138 0,.int 3 0,.int 0 0,.int 0 0,.int 3 0,.ref 318,.bool true,.int 181 0,.ref 319,.none,.none,.none,.ref 320,.int 581 0,.int 138 0,st "/claim/cut.py" 582]⟩),⟨[]⟩⟩
def Oh:=fo "weigh" "weigh" (tp 34) .none (st "dialvault.papers" 576) 321
def OC:=ft "weighs_no_lever" "weighs_no_lever" (tp 35)
def M1:Obj:=⟨.type "code", none,(.fields ⟨[st "weighs_no_lever" 584,st "weighs_no_lever" 585,st "/claim/cut.py" 586,.int 144 0,.int 2 0,.int 0 0,.int 0 0,.int 3 0,.ref 323,.bool true,.int 181 0,.ref 324,.none,.none,.none,.ref 325,.int 587 0,.int 144 0,st "/claim/cut.py" 588]⟩),⟨[]⟩⟩
def RQ:=fo "weighs_no_lever" "weighs_no_lever" (tp 35) .none (st "dialvault.papers" 576) 326
def Nq:=ft "mixed" "mixed" (tp 37)
def NA:Obj:=⟨.type "code", none,(.fields ⟨[st "mixed" 592,st "mixed" 593,st "/claim/cut.py" 594,.int 147 0,.int 4 0,.int 0 0,.int 0 0,.int 3 0,.ref 328,.bool true,.int 181 0,.ref 329,.none,.none,.none,.ref 330,.int 595 0,.int 147 0,st "/claim/cut.py" 596]⟩),⟨[]⟩⟩
def NY:=fo "mixed" "mixed" (tp 37) .none (st "dialvault.rungs" 590) 331
def OE:=tu [st "sizes" 601,st "made" 602,st "times" 603,st "other" 604,st "others" 605,st "doing" 606]
def PM:=ft "mixed_made" "mixed_made" (tp 38)
def MQ:=co "mixed_made" "mixed_made" 598 149 5 333 334 335 336 337 607
def O1:=fo "mixed_made" "mixed_made" (tp 38) .none (st "dialvault.rungs" 590) 338
def P6:=tu [st "vault" 613,st "setting" 614]
def NH:=ft "unpulled" "unpulled" (tp 39)
def ND:=co "unpulled" "unpulled" 610 152 2 340 341 342 343 344 615
def RM:=fo "unpulled" "unpulled" (tp 39) .none (st "dialvault.rungs" 590) 345
def L9 P:=pt (L8 P) [(3,Pw P),(12,P_)] [b7 P,b8 P,OH,b7 P,OJ,PQ,P1,b7 P,b8 P,Mq,b7 P,Sm,Rc,Rr,b7 P,b8 P,PJ,b7 P,NO,MC,Pu,b7 P,b8 P,P5,Rf,OK,b7 P,b8 P,M9,b7 P,Sj,PZ,PC,b7 P,b8 P,Pk,PL,OT,b7 P,b8 P,MO,b7 P,Mh,RU,Nt,b7 P,b8 P,MM,P8,RE,b7 P,b8 P,Pp,RL,Oh,b7 P,b8 P,OC,M1,RQ,b7 P,b8 P,Nq,NA,NY,b7 P,b8 P,OE,b7 P,PM,MQ,O1,b7 P,b8 P,P6,b7 P,NH,ND,RM]
def ME P:=di 49 (en P "__name__" 165 (st "dialvault.rungs" 590)::(gl P).take 48)
def N3:=fi [1,0,20,5,0,27,9,0,47,16,0,73,23,0,99,30,0,125,34,0,144,38,0,163,43,0,182,45,0,187,49,0,194,60,0,201,65,0,206,67,0,211,76,0,218,97,0,266,99,0,273,107,0,280,113,0,287,122,0,292,124,0,299,126,0,304,131,0,311,134,0,316,138,0,321,144,0,326,147,0,331,149,0,338,152,0,345,154,0,352,157,0,359,160,0,366,169,0,373,174,0,380]
def N_:=tu [st "vault" 621,st "lever" 622,st "levers" 623]
def NQ:=ft "pulled_once" "pulled_once" (tp 40)
def QK:=co "pulled_once" "pulled_once" 618 154 2 347 348 349 350 351 624
def P7:=fo "pulled_once" "pulled_once" (tp 40) .none (st "dialvault.rungs" 590) 352
def Py:=tu [st "sizes" 630,st "made_rows" 631,st "dial" 632,st "notch" 633]
def PR:=ft "step_size" "step_size" (tp 41)
def Qi:=co "step_size" "step_size" 627 157 3 354 355 356 357 358 634
def Sa:=fo "step_size" "step_size" (tp 41) .none (st "dialvault.rungs" 590) 359
def NK:=tu [st "sizes" 640,st "made_rows" 641,st "left" 642,st "wider" 643,st "dial" 644,st "made" 645,st "step" 646,st "notch" 647,st "found" 648]
def Na:=ft "taken_in" "taken_in" (tp 42)
def NR:=co "taken_in" "taken_in" 637 160 3 361 362 363 364 365 649
def Qs:=fo "taken_in" "taken_in" (tp 42) .none (st "dialvault.rungs" 590) 366
def QT:=tu [st "sizes" 655,st "made_rows" 656,st "made" 657,st "first" 658,st "dial" 659,st "times" 660]
def N8:=ft "lowered" "lowered" (tp 43)
def Pb:=co "lowered" "lowered" 652 169 4 368 369 370 371 372 661
def RT:=fo "lowered" "lowered" (tp 43) .none (st "dialvault.rungs" 590) 373
def MI:=tu [st "pulls" 667,st "idle_rows" 668,st "lever" 669,st "row" 670]
def N5:=ft "in_spans" "in_spans" (tp 44)
def N4:=co "in_spans" "in_spans" 664 174 2 375 376 377 378 379 671
def QJ:=fo "in_spans" "in_spans" (tp 44) .none (st "dialvault.rungs" 590) 380
def RX P:=pt (L9 P) [(3,ME P),(12,N3)] [b7 P,b8 P,N_,b7 P,NQ,QK,P7,b7 P,b8 P,Py,b7 P,PR,Qi,Sa,b7 P,b8 P,NK,b7 P,Na,NR,Qs,b7 P,b8 P,QT,b7 P,N8,Pb,RT,b7 P,b8 P,MI,b7 P,N5,N4,QJ]
def OW P:=di 50 (en P "__name__" 165 (st "dialvault.rungs" 590)::(gl P).take 49)
def QA:=fi [1,0,20,5,0,27,9,0,47,16,0,73,23,0,99,30,0,125,34,0,144,38,0,163,43,0,182,45,0,187,49,0,194,60,0,201,65,0,206,67,0,211,76,0,218,97,0,266,99,0,273,107,0,280,113,0,287,122,0,292,124,0,299,126,0,304,131,0,311,134,0,316,138,0,321,144,0,326,147,0,331,149,0,338,152,0,345,154,0,352,157,0,359,160,0,366,169,0,373,174,0,380,179,0,387]
def Ow P:=di 13 [en P "__module__" 681 (st "dialvault.rungs" 590),en P "__qualname__" 683 (st "Rungs" 682),en P "__firstlineno__" 685 (.int 179 684),en P "__init__" 691 (.ref 393),en P "steps" 697 (.ref 398),en P "rows" 704 (.ref 405),en P "spans" 711 (.ref 412),en P "idle" 718 (.ref 419),en P "brought_down" 726 (.ref 426),en P "least" 734 (.ref 433),en P "pulls_to" 742 (.ref 440),en P "weights_at" 748 (.ref 445),en P "__static_attributes__" 752 (.ref 446)]
def Oe:=fi [181,4,392,193,4,397,197,4,404,200,4,411,203,4,418,206,4,425,210,4,432,213,4,439,216,4,444]
def QB:=cc "Rungs" 676 179 385 386 679
def Pd:=fr 387 384 "dialvault.rungs" 590
def QV:=ft "__init__" "Rungs.__init__" (mp 45 0)
def NZ:Obj:=⟨.type "code", none,(.fields ⟨[st "__init__" 686,st "Rungs.__init__" 687,st "/claim/cut.py" 688,.int 181 0,.int 2 0,.int 0 0,.int 0 0,.int 3 0,.ref 389,.bool true,.int 181 0,.ref 390,.none,.none,.none,.ref 391,.int 689 0,.int 181 0,st "/claim/cut.py" 690]⟩),⟨[]⟩⟩
def Sh:=fo "__init__" "Rungs.__init__" (mp 45 0) .none (st "dialvault.rungs" 590) 392
def Mv:=ft "steps" "Rungs.steps" (mp 45 1)
def QL:Obj:=⟨.type "code", none,(.fields ⟨[st "steps" 692,st "Rungs.steps" 693,st "/claim/cut.py" 694,.int 193 0,.int 1 0,.int 0 0,.int 0 0,.int 3 0,.ref 394,.bool true,.int 181 0,.ref 395,.none,.none,.none,.ref 396,.int 695 0,.int 193 0,st "/claim/cut.py" 696]⟩),⟨[]⟩⟩
def QP:=fo "steps" "Rungs.steps" (mp 45 1) .none (st "dialvault.rungs" 590) 397
def ON:=tu [st "self" 701]
def RB:=ft "rows" "Rungs.rows" (mp 45 2)
def Sn:=co "rows" "Rungs.rows" 698 197 1 399 400 401 402 403 702
def OQ:=fo "rows" "Rungs.rows" (mp 45 2) .none (st "dialvault.rungs" 590) 404
def OO:=tu [st "self" 708]
def Qt:=ft "spans" "Rungs.spans" (mp 45 3)
def RI:=co "spans" "Rungs.spans" 705 200 1 406 407 408 409 410 709
def Ry:=fo "spans" "Rungs.spans" (mp 45 3) .none (st "dialvault.rungs" 590) 411
def N6:=tu [st "self" 715]
def MG:=ft "idle" "Rungs.idle" (mp 45 4)
def Nc:=co "idle" "Rungs.idle" 712 203 1 413 414 415 416 417 716
def R4:=fo "idle" "Rungs.idle" (mp 45 4) .none (st "dialvault.rungs" 590) 418
def MK:=tu [st "self" 722,st "setting" 723]
def QW:=ft "brought_down" "Rungs.brought_down" (mp 45 5)
def Oo:=co "brought_down" "Rungs.brought_down" 719 206 2 420 421 422 423 424 724
def Ri:=fo "brought_down" "Rungs.brought_down" (mp 45 5) .none (st "dialvault.rungs" 590) 425
def P2:=tu [st "self" 730,st "setting" 731]
def NB:=ft "least" "Rungs.least" (mp 45 6)
def Nx:=co "least" "Rungs.least" 727 210 2 427 428 429 430 431 732
def Nd:=fo "least" "Rungs.least" (mp 45 6) .none (st "dialvault.rungs" 590) 432
def MB:=tu [st "self" 738,st "setting" 739]
def Of:=ft "pulls_to" "Rungs.pulls_to" (mp 45 7)
def PY:=co "pulls_to" "Rungs.pulls_to" 735 213 2 434 435 436 437 438 740
def OY:=fo "pulls_to" "Rungs.pulls_to" (mp 45 7) .none (st "dialvault.rungs" 590) 439
def Nk:=ft "weights_at" "Rungs.weights_at" (mp 45 8)
def OU:Obj:=⟨.type "code", none,(.fields ⟨[st "weights_at" 743,st "Rungs.weights_at" 744,st "/claim/cut.py" 745,.int 216 0,.int 2 0,.int 0 0,.int 0 0,.int 3 0,.ref 441,.bool true,.int 181 0,.ref 442,.none,.none,.none,.ref 443,.int 746 0,.int 216 0,st "/claim/cut.py" 747]⟩),⟨[]⟩⟩
def RW:=fo "weights_at" "Rungs.weights_at" (mp 45 8) .none (st "dialvault.rungs" 590) 444
def Ms:=tu [st "idle_rows" 749,st "made_rows" 750,st "vault" 751]
def OS P:=di 4 [en P "__module__" 681 (st "dialvault.rungs" 590),en P "__firstlineno__" 685 (.int 179 684),en P "__init__" 691 (.ref 393),en P "steps" 697 (.ref 398),en P "rows" 704 (.ref 405),en P "spans" 711 (.ref 412),en P "idle" 718 (.ref 419),en P "brought_down" 726 (.ref 426),en P "least" 734 (.ref 433),en P "pulls_to" 742 (.ref 440),en P "weights_at" 748 (.ref 445),en P "__static_attributes__" 752 (.ref 446),en P "__dict__" 754 (.ref 449),en P "__weakref__" 756 (.ref 450),en P "__doc__" 757 .none]
def M0:=cl "Rungs" [.type "object"] [.ref 448,.type "object"] 447 [] [none,none,some (st "Rungs" 674),some (st "Rungs" 682),some (.builtin "object.__new__"),some (.bool true)]
def RC:Obj:=⟨.type "getset_descriptor", none,(.fields ⟨[st "__dict__" 753,.ref 448,.builtin "function.__dict__", .builtin "function.__dict__#set"]⟩),⟨[]⟩⟩
def MX:Obj:=⟨.type "getset_descriptor", none,(.fields ⟨[st "__weakref__" 755,.ref 448,.builtin "ExceptionGroup.__weakref__", .none]⟩),⟨[]⟩⟩
def Pc:=su 448
def Mn:=ii 448
def Sb P:=pt (RX P) [(3,OW P),(12,QA)] [b7 P,o9,Ow P,b7 P,Oe,QB,Pd,b7 P,b8 P,QV,NZ,Sh,b7 P,b8 P,Mv,QL,QP,b7 P,b8 P,ON,b7 P,RB,Sn,OQ,b7 P,b8 P,OO,b7 P,Qt,RI,Ry,b7 P,b8 P,N6,b7 P,MG,Nc,R4,b7 P,b8 P,MK,b7 P,QW,Oo,Ri,b7 P,b8 P,P2,b7 P,NB,Nx,Nd,b7 P,b8 P,MB,b7 P,Of,PY,OY,b7 P,b8 P,Nk,OU,RW,Ms,OS P,M0,RC,MX,Pc,Mn]
def Nz P:=di 62 (en P "__name__" 165 (st "law_dialvault_k43_still_weights_written" 768)::(gl P).take 61)
def Mp:=fi [1,0,20,5,0,27,9,0,47,16,0,73,23,0,99,30,0,125,34,0,144,38,0,163,43,0,182,45,0,187,49,0,194,60,0,201,65,0,206,67,0,211,76,0,218,97,0,266,99,0,273,107,0,280,113,0,287,122,0,292,124,0,299,126,0,304,131,0,311,134,0,316,138,0,321,144,0,326,147,0,331,149,0,338,152,0,345,154,0,352,157,0,359,160,0,366,169,0,373,174,0,380,179,0,387,229,0,456,242,0,463,246,0,470,250,0,477,256,0,484,260,0,489,265,0,496,274,0,503,283,0,508,286,0,515,293,0,520,298,0,527]
def Ov:=ft "written" "written" (tp 47)
def Pe:Obj:=⟨.type "code", none,(.fields ⟨[st "written" 762,st "written" 763,st "/claim/cut.py" 764,.int 229 0,.int 2 0,.int 0 0,.int 0 0,.int 3 0,.ref 453,.bool true,.int 181 0,.ref 454,.none,.none,.none,.ref 455,.int 765 0,.int 229 0,st "/claim/cut.py" 766]⟩),⟨[]⟩⟩
def MJ:=fo "written" "written" (tp 47) .none (st "dialvault.stills" 760) 456
def Q2:=tu [st "_law_script" 773,st "_law_k" 774]
def Q5:=ft "_law_cell" "_law_cell" (tp 49)
def Mx:=co "_law_cell" "_law_cell" 770 242 2 458 459 460 461 462 775
def QQ:=fo "_law_cell" "_law_cell" (tp 49) .none (st "law_dialvault_k43_still_weights_written" 768) 463
def Sr:=tu [st "_law_cell_here" 781,st "_law_k" 782,st "_law_number" 783]
def Qx:=ft "_law_mix" "_law_mix" (tp 50)
def O0:=co "_law_mix" "_law_mix" 778 246 2 465 466 467 468 469 784
def Qn:=fo "_law_mix" "_law_mix" (tp 50) .none (st "law_dialvault_k43_still_weights_written" 768) 470
def Rj:=tu [st "_law_cell_here" 790,st "_law_sizes_here" 791,st "_law_row" 792,st "_law_size_here" 793]
def OA:=ft "_law_digits" "_law_digits" (tp 51)
def M8:=co "_law_digits" "_law_digits" 787 250 2 472 473 474 475 476 794
def Ql:=fo "_law_digits" "_law_digits" (tp 51) .none (st "law_dialvault_k43_still_weights_written" 768) 477
def OV:=tu [st "_law_number" 800]
def Ru:=ft "_law_size" "_law_size" (tp 52)
def Nb:=co "_law_size" "_law_size" 797 256 1 479 480 481 482 483 801
def ML:=fo "_law_size" "_law_size" (tp 52) .none (st "law_dialvault_k43_still_weights_written" 768) 484
def Nj:=ft "_law_sizes" "_law_sizes" (tp 53)
def QY:Obj:=⟨.type "code", none,(.fields ⟨[st "_law_sizes" 804,st "_law_sizes" 805,st "/claim/cut.py" 806,.int 260 0,.int 1 0,.int 0 0,.int 0 0,.int 3 0,.ref 486,.bool true,.int 181 0,.ref 487,.none,.none,.none,.ref 488,.int 807 0,.int 260 0,st "/claim/cut.py" 808]⟩),⟨[]⟩⟩
def R0:=fo "_law_sizes" "_law_sizes" (tp 53) .none (st "law_dialvault_k43_still_weights_written" 768) 489
def Rk:=tu [st "_law_cell_here" 813,st "_law_sizes_here" 814,st "_law_factor" 815,st "_law_row" 816,st "_law_k" 817,st "_law_size_here" 818,st "_law_number" 819]
def QR:=ft "_law_lever" "_law_lever" (tp 54)
def Pa:=co "_law_lever" "_law_lever" 810 265 2 491 492 493 494 495 820
def Qa:=fo "_law_lever" "_law_lever" (tp 54) .none (st "law_dialvault_k43_still_weights_written" 768) 496
def QH:=tu [st "_law_sizes_here" 826,st "_law_found" 827,st "_law_size_here" 828,st "_law_one" 829,st "_law_other_here" 830]
def P4:=ft "_law_round" "_law_round" (tp 55)
def P9:=co "_law_round" "_law_round" 823 274 1 498 499 500 501 502 831
def Mi:=fo "_law_round" "_law_round" (tp 55) .none (st "law_dialvault_k43_still_weights_written" 768) 503
def Rv:=ft "_law_weigh" "_law_weigh" (tp 56)
def Qy:Obj:=⟨.type "code", none,(.fields ⟨[st "_law_weigh" 834,st "_law_weigh" 835,st "/claim/cut.py" 836,.int 283 0,.int 3 0,.int 0 0,.int 0 0,.int 3 0,.ref 505,.bool true,.int 181 0,.ref 506,.none,.none,.none,.ref 507,.int 837 0,.int 283 0,st "/claim/cut.py" 838]⟩),⟨[]⟩⟩
def Ob:=fo "_law_weigh" "_law_weigh" (tp 56) .none (st "law_dialvault_k43_still_weights_written" 768) 508
def RD:=tu [st "_law_found" 843,st "_law_due" 844,st "_law_one" 845,st "_law_other_here" 846]
def QI:=ft "_law_like" "_law_like" (tp 57)
def Ml:=co "_law_like" "_law_like" 840 286 2 510 511 512 513 514 847
def Sg:=fo "_law_like" "_law_like" (tp 57) .none (st "law_dialvault_k43_still_weights_written" 768) 515
def My:=ft "_law_sum" "_law_sum" (tp 58)
def O_:Obj:=⟨.type "code", none,(.fields ⟨[st "_law_sum" 850,st "_law_sum" 851,st "/claim/cut.py" 852,.int 293 0,.int 3 0,.int 0 0,.int 0 0,.int 3 0,.ref 517,.bool true,.int 181 0,.ref 518,.none,.none,.none,.ref 519,.int 853 0,.int 293 0,st "/claim/cut.py" 854]⟩),⟨[]⟩⟩
def Ot:=fo "_law_sum" "_law_sum" (tp 58) .none (st "law_dialvault_k43_still_weights_written" 768) 520
def O3:=tu [st "_law_times" 859,st "_law_steps" 860,st "_law_many" 861,st "_law_step" 862]
def Si:=ft "_law_below" "_law_below" (tp 59)
def Ou:=co "_law_below" "_law_below" 856 298 2 522 523 524 525 526 863
def Pf:=fo "_law_below" "_law_below" (tp 59) .none (st "law_dialvault_k43_still_weights_written" 768) 527
def Sf P:=pt (Sb P) [(3,Nz P),(12,Mp)] [b7 P,b8 P,Ov,Pe,MJ,b7 P,b8 P,Q2,b7 P,Q5,Mx,QQ,b7 P,b8 P,Sr,b7 P,Qx,O0,Qn,b7 P,b8 P,Rj,b7 P,OA,M8,Ql,b7 P,b8 P,OV,b7 P,Ru,Nb,ML,b7 P,b8 P,Nj,QY,R0,b7 P,b8 P,Rk,b7 P,QR,Pa,Qa,b7 P,b8 P,QH,b7 P,P4,P9,Mi,b7 P,b8 P,Rv,Qy,Ob,b7 P,b8 P,RD,b7 P,QI,Ml,Sg,b7 P,b8 P,My,O_,Ot,b7 P,b8 P,O3,b7 P,Si,Ou,Pf]
def Rp P:=di 66 (en P "__name__" 165 (st "law_dialvault_k43_still_weights_written" 768)::gl P)
def Oa:=fi [1,0,20,5,0,27,9,0,47,16,0,73,23,0,99,30,0,125,34,0,144,38,0,163,43,0,182,45,0,187,49,0,194,60,0,201,65,0,206,67,0,211,76,0,218,97,0,266,99,0,273,107,0,280,113,0,287,122,0,292,124,0,299,126,0,304,131,0,311,134,0,316,138,0,321,144,0,326,147,0,331,149,0,338,152,0,345,154,0,352,157,0,359,160,0,366,169,0,373,174,0,380,179,0,387,229,0,456,242,0,463,246,0,470,250,0,477,256,0,484,260,0,489,265,0,496,274,0,503,283,0,508,286,0,515,293,0,520,298,0,527,305,0,534,310,0,541,317,0,548,322,0,553]
def Nh:=tu [st "_law_weights" 869,st "_law_levers" 870,st "_law_sizes_here" 871,st "_law_lever_here" 872]
def RN:=ft "_law_still" "_law_still" (tp 60)
def Rw:=co "_law_still" "_law_still" 866 305 3 529 530 531 532 533 873
def Ph:=fo "_law_still" "_law_still" (tp 60) .none (st "law_dialvault_k43_still_weights_written" 768) 534
def RG:=tu [st "_law_vault" 879,st "_law_thing" 880,st "_law_error" 881,st "e" 882]
def RJ:=ft "_law_refused" "_law_refused" (tp 61)
def NM:=co "_law_refused" "_law_refused" 876 310 2 536 537 538 539 540 883
def PH:=fo "_law_refused" "_law_refused" (tp 61) .none (st "law_dialvault_k43_still_weights_written" 768) 541
def RF:=tu [st "_law_cell_here" 889,st "_law_weights" 890,st "_law_sizes_here" 891,st "_law_at" 892,st "_law_some" 893]
def PU:=ft "_law_other" "_law_other" (tp 62)
def QZ:=co "_law_other" "_law_other" 886 317 3 543 544 545 546 547 894
def OL:=fo "_law_other" "_law_other" (tp 62) .none (st "law_dialvault_k43_still_weights_written" 768) 548
def NI:=ft "law" "law" (tp 63)
def OR:Obj:=⟨.type "code", none,(.fields ⟨[st "law" 897,st "law" 898,st "/claim/cut.py" 899,.int 322 0,.int 1 0,.int 0 0,.int 0 0,.int 3 0,.ref 550,.bool true,.int 181 0,.ref 551,.none,.none,.none,.ref 552,.int 900 0,.int 322 0,st "/claim/cut.py" 901]⟩),⟨[]⟩⟩
def Rx:=fo "law" "law" (tp 63) .none (st "law_dialvault_k43_still_weights_written" 768) 553
def M7 P:=pt (Sf P) [(3,Rp P),(12,Oa)] [b7 P,b8 P,Nh,b7 P,RN,Rw,Ph,b7 P,b8 P,RG,b7 P,RJ,NM,PH,b7 P,b8 P,RF,b7 P,PU,QZ,OL,b7 P,b8 P,NI,OR,Rx]
def LF(P:Params):=M7 P
def bE:List Stmt:=behindTheImports pw
def env:Env:={ scope:=pw.main.scope,locals:=mainNs,globals:=mainNs,cells:=[],code:=.ref 13,frame:=some 14 }
def cE:Code:=.body bE env
abbrev B:List Frame:=[topFrame ⟨0,0,0,0⟩]
abbrev ann:Option Value:=(some (.ref 6))
def Ib:List Stmt:=(bE.drop 0).take 3
def Jz:List Stmt:=(bE.drop 3).take 1
def HE:List Stmt:=(bE.drop 4).take 1
def IV:List Stmt:=(bE.drop 5).take 1
def HB:List Stmt:=(bE.drop 6).take 1
def Jh:List Stmt:=(bE.drop 7).take 1
def Jt:List Stmt:=(bE.drop 8).take 7
def H_:List Stmt:=(bE.drop 15).take 8
def IH:List Stmt:=(bE.drop 23).take 2
def JB:List Stmt:=(bE.drop 25).take 15
def Eg:List Stmt:=(bE.drop 40).take 5
def DR:List Stmt:=(bE.drop 45).take 1
def BW:List Stmt:=(bE.drop 46).take 14
def CA:List Stmt:=(bE.drop 60).take 4
end
theorem Bp:∀ w:World,(fun os=>topGo treeTable pw w 11 ann 12 ⟨boot_heap w.params,⟨[]⟩,boot_drawn,boot_toks,os⟩ (topStub pw))=fun os=>some (F LA 187 w os,⟨denote treeTable cE,cE,⟨0,0,0,0⟩,B⟩):=fun w=>by
 rw[PySem.W.Fast.te15667345088766844465,PySem.W.Fast.te14364793385576792824,PySem.W.Fast.te11892475500146522536]
 kernel_rfl
theorem Mf:∀ w:World,(fun os=>segRun treeTable pw w 11 ann 1 1 (F LA 187 w os) (blockOf bE env cE ⟨0,0,0,0⟩ B))=fun os=>some (Flow.next,(S LA 15 187 w os).abs,cE,⟨0,0,0,0⟩):=fun w=>by
 rw[PySem.W.Fast.te14374325043358763698,PySem.W.Fast.te14364793385576792824]
 kernel_rfl
theorem Uq:∀ w:World,(fun os=>segRunT treeTable pw w 11 ann 1 255 (S LA 15 187 w os) (piecesOf Ib env cE ⟨0,0,0,0⟩ B))=fun os=>some (Flow.next,S L0 42 221 w os,cE,⟨5,0,8,16⟩):=fun w=>by
 rw[PySem.W.Fast.te10110043849684766642,PySem.W.Fast.te14364793385576792824]
 kernel_rfl
theorem SQ:∀ w:World,(fun os=>segRunT treeTable pw w 11 ann 1 277 (S L0 42 221 w os) (piecesOf Jz env cE ⟨5,0,8,16⟩ B))=fun os=>some (Flow.next,S L1 68 253 w os,cE,⟨9,0,15,16⟩):=fun w=>by
 rw[PySem.W.Fast.te10110043849684766642,PySem.W.Fast.te14364793385576792824]
 kernel_rfl
theorem Kb:∀ w:World,(fun os=>segRunT treeTable pw w 11 ann 1 277 (S L1 68 253 w os) (piecesOf HE env cE ⟨9,0,15,16⟩ B))=fun os=>some (Flow.next,S L2 94 285 w os,cE,⟨16,0,22,16⟩):=fun w=>by
 rw[PySem.W.Fast.te10110043849684766642,PySem.W.Fast.te14364793385576792824]
 kernel_rfl
theorem Uu:∀ w:World,(fun os=>segRunT treeTable pw w 11 ann 1 277 (S L2 94 285 w os) (piecesOf IV env cE ⟨16,0,22,16⟩ B))=fun os=>some (Flow.next,S L3 120 317 w os,cE,⟨23,0,29,16⟩):=fun w=>by
 rw[PySem.W.Fast.te10110043849684766642,PySem.W.Fast.te14364793385576792824]
 kernel_rfl
theorem TV:∀ w:World,(fun os=>segRunT treeTable pw w 11 ann 1 244 (S L3 120 317 w os) (piecesOf HB env cE ⟨23,0,29,16⟩ B))=fun os=>some (Flow.next,S L4 139 340 w os,cE,⟨30,0,33,16⟩):=fun w=>by
 rw[PySem.W.Fast.te10110043849684766642,PySem.W.Fast.te14364793385576792824]
 kernel_rfl
theorem Tt:∀ w:World,(fun os=>segRunT treeTable pw w 11 ann 1 244 (S L4 139 340 w os) (piecesOf Jh env cE ⟨30,0,33,16⟩ B))=fun os=>some (Flow.next,S L5 158 363 w os,cE,⟨34,0,37,16⟩):=fun w=>by
 rw[PySem.W.Fast.te10110043849684766642,PySem.W.Fast.te14364793385576792824]
 kernel_rfl
theorem TC:∀ w:World,(fun os=>segRunT treeTable pw w 11 ann 1 399 (S L5 158 363 w os) (piecesOf Jt env cE ⟨34,0,37,16⟩ B))=fun os=>some (Flow.next,S L6 208 428 w os,cE,⟨65,0,66,73⟩):=fun w=>by
 rw[PySem.W.Fast.te10110043849684766642,PySem.W.Fast.te14364793385576792824]
 kernel_rfl
theorem T3:∀ w:World,(fun os=>segRunT treeTable pw w 11 ann 1 90 (S L6 208 428 w os) (piecesOf H_ env cE ⟨65,0,66,73⟩ B))=fun os=>some (Flow.next,S L7 213 448 w os,cE,⟨75,0,75,10⟩):=fun w=>by
 rw[PySem.W.Fast.te10110043849684766642,PySem.W.Fast.te14364793385576792824]
 kernel_rfl
theorem UQ:∀ w:World,(fun os=>segRunT treeTable pw w 11 ann 1 378 (S L7 213 448 w os) (piecesOf IH env cE ⟨75,0,75,10⟩ B))=fun os=>some (Flow.next,S L8 268 515 w os,cE,⟨97,0,98,53⟩):=fun w=>by
 rw[PySem.W.Fast.te10110043849684766642,PySem.W.Fast.te14364793385576792824]
 kernel_rfl
theorem UJ:∀ w:World,(fun os=>segRunT treeTable pw w 11 ann 1 392 (S L8 268 515 w os) (piecesOf JB env cE ⟨97,0,98,53⟩ B))=fun os=>some (Flow.next,S L9 347 618 w os,cE,⟨152,0,153,48⟩):=fun w=>by
 rw[PySem.W.Fast.te10110043849684766642,PySem.W.Fast.te14364793385576792824]
 kernel_rfl
theorem Qr:∀ w:World,(fun os=>segRunT treeTable pw w 11 ann 1 167 (S L9 347 618 w os) (piecesOf Eg env cE ⟨152,0,153,48⟩ B))=fun os=>some (Flow.next,S RX 382 674 w os,cE,⟨174,0,178,16⟩):=fun w=>by
 rw[PySem.W.Fast.te10110043849684766642,PySem.W.Fast.te14364793385576792824]
 kernel_rfl
theorem Q_:∀ w:World,(fun os=>segRunT treeTable pw w 11 ann 1 466 (S RX 382 674 w os) (piecesOf DR env cE ⟨174,0,178,16⟩ B))=fun os=>some (Flow.next,S Sb 453 760 w os,cE,⟨179,0,227,29⟩):=fun w=>by
 rw[PySem.W.Fast.te10110043849684766642,PySem.W.Fast.te14364793385576792824]
 kernel_rfl
theorem Rm:∀ w:World,(fun os=>segRunT treeTable pw w 11 ann 1 377 (S Sb 453 760 w os) (piecesOf BW env cE ⟨179,0,227,29⟩ B))=fun os=>some (Flow.next,S Sf 529 866 w os,cE,⟨298,0,304,15⟩):=fun w=>by
 rw[PySem.W.Fast.te10110043849684766642,PySem.W.Fast.te14364793385576792824]
 kernel_rfl
theorem OG:∀ w:World,(fun os=>segRunT treeTable pw w 11 ann 1 124 (S Sf 529 866 w os) (piecesOf CA env cE ⟨298,0,304,15⟩ B))=fun os=>some (Flow.next,S M7 555 903 w os,cE,⟨322,0,345,15⟩):=fun w=>by
 rw[PySem.W.Fast.te10110043849684766642,PySem.W.Fast.te14364793385576792824]
 kernel_rfl
theorem Ia:∀ w:World,(fun os=>topRun treeTable pw w 11 ann 2 (S M7 555 903 w os).abs ⟨doneF .next,cE,⟨322,0,345,15⟩,B⟩)=fun os=>some (F LF 903 w os):=fun w=>by
 rw[PySem.W.Fast.te14082659384304107361,PySem.W.Fast.te14364793385576792824]
 kernel_rfl
theorem SY:bE=(Ib++(Jz++(HE++(IV++(HB++(Jh++(Jt++(H_++(IH++(JB++(Eg++(DR++(BW++(CA++[])))))))))))))):=by kernel_rfl
theorem C8(w:World)(os:OsState):topRun treeTable pw w 11 ann (255+(277+(277+(277+(244+(244+(399+(90+(378+(392+(167+(466+(377+(124+2)))))))))))))) (S LA 15 187 w os).abs (restOf bE env cE ⟨0,0,0,0⟩ B)=some (F LF 903 w os):=by
 rw[show restOf bE env cE ⟨0,0,0,0⟩ B=restOf (Ib++(Jz++(HE++(IV++(HB++(Jh++(Jt++(H_++(IH++(JB++(Eg++(DR++(BW++(CA++[])))))))))))))) env cE ⟨0,0,0,0⟩ B from congrArg (fun b=>restOf b env cE ⟨0,0,0,0⟩ B) SY]
 exact piece_app (segRun_of (congrFun (Uq w) os)) (piece_app (segRun_of (congrFun (SQ w) os)) (piece_app (segRun_of (congrFun (Kb w) os)) (piece_app (segRun_of (congrFun (Uu w) os)) (piece_app (segRun_of (congrFun (TV w) os)) (piece_app (segRun_of (congrFun (Tt w) os)) (piece_app (segRun_of (congrFun (TC w) os)) (piece_app (segRun_of (congrFun (T3 w) os)) (piece_app (segRun_of (congrFun (UQ w) os)) (piece_app (segRun_of (congrFun (UJ w) os)) (piece_app (segRun_of (congrFun (Qr w) os)) (piece_app (segRun_of (congrFun (Q_ w) os)) (piece_app (segRun_of (congrFun (Rm w) os)) (piece_app (segRun_of (congrFun (OG w) os)) (piece_nil (congrFun (Ia w) os)))))))))))))))
theorem R8(w:World)(os:OsState):topRun treeTable pw w 11 ann (12+(1+(255+(277+(277+(277+(244+(244+(399+(90+(378+(392+(167+(466+(377+(124+2)))))))))))))))) ⟨boot_heap w.params,⟨[]⟩,boot_drawn,boot_toks,os⟩ (topStub pw)=some (F LF 903 w os) :=
 go_top (congrFun (Bp w) os) (piece_block (congrFun (Mf w) os) (C8 w os))
end HD
namespace HD
open PySem PySem.W L2
noncomputable section
def vw:Program:=PySem.W.view pw [0,2,3,4,5,6,7,8,10,11,12,13,14,15,17,18,19,20,21,22,23,24,25,26,27,28,29,30,31,32,34,35,37,38,39,40,41,42,43,44,45,47,49,50,51,52,53,54,55,56,57,58,59,60,61,62,63]
def loose:List Str:=[]
def as:List Addr:=[2,3,15,17,18,20,21,22,29,31,32,34,35,36,37,38,39,42,49,51,52,54,55,56,58,59,61,62,63,64,65,68,75,77,78,80,81,82,84,85,87,88,89,90,91,94,101,103,104,106,107,108,110,111,113,114,115,116,117,120,127,129,130,132,133,134,135,136,139,146,148,149,151,152,153,154,155,158,165,167,168,170,171,172,173,174,177,179,180,182,183,184,187,188,189,191,192,194,195,196,198,199,201,202,203,206,207,208,211,212,220,221,224,225,226,228,229,231,232,233,235,236,238,239,240,242,243,245,246,247,249,250,252,253,254,255,256,257,258,261,263,264,266,267,268,270,271,273,274,275,277,278,280,281,282,284,285,287,288,289,292,293,294,296,297,299,300,301,304,305,306,308,309,311,312,313,316,317,318,321,322,323,326,327,328,331,332,333,335,336,338,339,340,342,343,345,346,347,349,350,352,353,354,356,357,359,360,361,363,364,366,367,368,370,371,373,374,375,377,378,380,381,389,392,393,394,397,398,399,401,402,404,405,406,408,409,411,412,413,415,416,418,419,420,422,423,425,426,427,429,430,432,433,434,436,437,439,440,441,444,445,446,447,448,449,450,453,456,457,458,460,461,463,464,465,467,468,470,471,472,474,475,477,478,479,481,482,484,485,486,489,490,491,493,494,496,497,498,500,501,503,504,505,508,509,510,512,513,515,516,517,520,521,522,524,525,527,528,529,531,532,534,535,536,538,539,541,542,543,545,546,548,549,550,553,554]
def K(P:Params):Frag:=as.map fun a=>(a,(LF P).getD a o0)
def hook:Hook:=kHook K as (fun _=>by kernel_rfl)
abbrev rr:RowW:=(PySem.Challenge.rw_dialvault_k43_still_weights_written.row).toRowW
def Xt:Shared->Bool:=fun s=>xlAt vw [] s&&recOk (RowW.records rr) s
def H1(P:Params):Heap:=⟨⟨LF P⟩,{}⟩
end
theorem LD:∀ w:World,((boot_heap w.params).isNs mainGlobals&&(Array.mk []:Array GenState).size==0,(boot_heap w.params).objs.size,(boot_heap w.params).nsMap mainGlobals "__annotations__")=(true,11,ann):=fun w=>by
 rw[PySem.W.Fast.te8920871248978507458]
 kernel_rfl
theorem JI:∀ w:World,(fun os=>((staticsOk (importedModules pw.main.body) (boot_heap w.params) (H1 w.params)&&namesBound pw (H1 w.params)&&gensDone ⟨H1 w.params,⟨[]⟩,⟨0,0,0,0⟩,903,os⟩&&laidKept (boot_heap w.params) (H1 w.params)),
  openSeen vw loose (importedModules pw.main.body) Xt true ⟨H1 w.params,⟨[]⟩,⟨0,0,0,0⟩,903,os⟩,Hook.obs hook ⟨H1 w.params,⟨[]⟩,⟨0,0,0,0⟩,903,os⟩))=fun _=>(true,openGood vw loose,Hook.val hook w):=fun w=>by
 rw[PySem.W.Fast.te4187177175401517315,PySem.W.Fast.te5923862056798008813]
 kernel_rfl
theorem K9:LeftO pw vw loose Xt (Hook.obs hook) (Hook.val hook) 8032 :=
 LeftO.of_pieces (H₀:=boot_heap) (H₁:=H1) (gs₀:=⟨[]⟩) (gs₁:=⟨[]⟩) (d₀:=boot_drawn) (d₁:=⟨0,0,0,0⟩) (k₀:=boot_toks) (k₁:=903) (m₀:=11) (ann:=ann) (M:=(12+(1+(255+(277+(277+(277+(244+(244+(399+(90+(378+(392+(167+(466+(377+(124+2)))))))))))))))))
  (boot_open (by kernel_rfl) (by kernel_rfl) (fun s=>by kernel_rfl)) LD R8 (by kernel_rfl) JI
end HD
open PySem PySem.W
theorem HD.said:PySem.Challenge.rw_dialvault_k43_still_weights_written.wellSaid=true:=by
 decide +kernel
namespace xK
open PySem L2 PyProof.Rows
def cM:Addr:=65
def dj:Addr:=91
def cQ:Addr:=117
def k4:Addr:=155
def aI:Addr:=136
def aB:Addr:=448
def dO:Addr:=174
def ay:Addr:=256
def nr:Addr:=38
def fj:List Addr:=[cM,dj,cQ,aI,dO]
def fw:List Addr:=[]
def fc:List Addr:=[]
def eZ:List Addr:=[cM,dj,cQ,aI,dO]
def ju:List Addr:=[]
def jO:List Addr:=[]
def dr:List Addr:=[aI]
def dm:List Addr:=[cM,dj,cQ,dO]
def gx:List Addr:=[]
def gg:List Addr:=[]
def Ra:List Addr:=[cM,dj,cQ,aI,dO]
noncomputable def gL:af->M Out :=
 (ao (retS (Ak (vI (fun a=>lK a "int") oh oh (aa 0)) (Fj (vI (fun a=>lK a "bool") oh oh (aa 0)))))
 ar)
noncomputable def dM:List PV->M PV:=bf 1 (av 1 gL)
noncomputable def i7:af->M Out :=
 (ao (mz (Bb (iI (dR (vI (fun a=>["list", "tuple"].any fun t=>lK a t) oh oh (aa 0)))) (dR (aj xq (ai cZ (ae (aa 0) ak)) (aa 1)))) (ao (retS (fun _=>M.ok (.bl false)))
 ar) ar)
 (ao (retS (ai sG (ae (cO (cK (itemsOf (aa 0)) (cH 0) none (ai dM (ae (aa 0) ak)) 1 [])) ak)))
 ar))
noncomputable def je:List PV->M PV:=bf 2 (av 2 i7)
noncomputable def jd:af->M Out :=
 (ao (aW 2 (i6 (ae (aa 0) (ae (fun _=>M.ok (.int 1)) (ae (fun _=>M.ok (.int 0)) ak)))))
 (ao (aW 3 (i6 (ae (aa 1) (ae (fun _=>M.ok (.int 0)) (ae (fun _=>M.ok (.int 1)) ak)))))
 (ao (mx (dR (aj xq (aj aM (aa 3) (fun _=>M.ok (.int 0))) (fun _=>M.ok (.int 0)))) (ao (aW 4 (aj bj (aj aM (aa 2) (fun _=>M.ok (.int 0))) (aj aM (aa 3) (fun _=>M.ok (.int 0)))))
 (ao (aW 5 (i6 (ae (aj l7 (aj aM (aa 2) (fun _=>M.ok (.int 0))) (aj bR (aa 4) (aj aM (aa 3) (fun _=>M.ok (.int 0))))) (ae (aj l7 (aj aM (aa 2) (fun _=>M.ok (.int 1))) (aj bR (aa 4) (aj aM (aa 3) (fun _=>M.ok (.int 1))))) (ae (aj l7 (aj aM (aa 2) (fun _=>M.ok (.int 2))) (aj bR (aa 4) (aj aM (aa 3) (fun _=>M.ok (.int 2))))) ak)))))
 (ao (aW 2 (aa 3))
 (ao (aW 3 (aa 5))
 ar)))))
 (ao (mz (dR (aj ED (aj aM (aa 2) (fun _=>M.ok (.int 0))) (fun _=>M.ok (.int 0)))) (ao (retS (i6 (ae (j4 (aj aM (aa 2) (fun _=>M.ok (.int 0)))) (ae (j4 (aj aM (aa 2) (fun _=>M.ok (.int 1)))) (ae (j4 (aj aM (aa 2) (fun _=>M.ok (.int 2)))) ak)))))
 ar) ar)
 (ao (retS (aa 2))
 ar)))))
noncomputable def fO:List PV->M PV:=bf 2 (av 6 jd)
noncomputable def dC:af->M Out :=
 (ao (aW 1 (fun _=>M.ok (.int 1)))
 (ao (jb (itemsOf (aa 0)) (cH 2) (ao (aW 1 (aj bR (aj bj (aa 1) (aj aM (ai fO (ae (aa 1) (ae (aa 2) ak))) (fun _=>M.ok (.int 0)))) (aa 2)))
 ar))
 (ao (retS (aa 1))
 ar)))
noncomputable def fq:List PV->M PV:=bf 1 (av 3 dC)
noncomputable def g9:af->M Out :=
 (ao (retS (ai cV (ae (cO (cK (j_ sU (ae (aa 0) ak)) (cH 0) none (Ad (dR (aj xu (aa 0) (aa 1))) (fun _=>M.ok (.int 1)) (fun _=>M.ok (.int 0))) 1 [1])) ak)))
 ar)
noncomputable def jP:List PV->M PV:=bf 2 (av 2 g9)
noncomputable def hX:af->M Out :=
 (ao (retS (aj bZ (ai wc (ae (cO (cK (j_ zip2 (ae (aa 0) (ae (aa 1) ak))) (bA 0 1) none (aj bR (aa 0) (aa 1)) 2 [])) ak)) (aa 2)))
 ar)
noncomputable def jK:List PV->M PV:=bf 3 (av 3 hX)
noncomputable def c6:af->M Out :=
 (ao (retS (Ak (ai dM (ae (aa 0) ak)) (jo EA EA (aa 1) (aa 0) (aa 2))))
 ar)
noncomputable def cX:List PV->M PV:=bf 3 (av 3 c6)
noncomputable def eh:af->M Out :=
 (ao (mz (dR (aj GY (ai cZ (ae (aa 0) ak)) (fun _=>M.ok (.int 6)))) (ao (my dO (ae (fun _=>M.ok (.str "a vault has at most six dials")) ak))
 ar) ar)
 (ao (mz (dR (aj xu (ai cZ (ae (aa 0) ak)) (fun _=>M.ok (.int 0)))) (ao (jE cM "dial" (ae (fun _=>M.ok (.int 0)) ak))
 ar) ar)
 (ao (jb (j_ CK (ae (aa 0) ak)) (bA 1 2) (ao (mz (iI (dR (ai cX (ae (aa 2) (ae (fun _=>M.ok (.int 2)) (ae (fun _=>M.ok (.int 360)) ak)))))) (ao (jE cM "dial" (ae (aa 1) ak))
 ar) ar)
 ar))
 ar)))
noncomputable def gv:List PV->M PV:=bf 1 (av 3 eh)
noncomputable def dA:af->M Out :=
 (ao (mz (dR (aj GY (ai cZ (ae (aa 0) ak)) (fun _=>M.ok (.int 8)))) (ao (my dO (ae (fun _=>M.ok (.str "a vault has at most eight levers")) ak))
 ar) ar)
 (ao (jb (j_ CK (ae (aa 0) ak)) (bA 2 3) (ao (mz (iI (dR (ai je (ae (aa 3) (ae (aa 1) ak))))) (ao (jE dj "lever" (ae (aa 2) ak))
 ar) ar)
 ar))
 ar))
noncomputable def fA:List PV->M PV:=bf 2 (av 4 dA)
noncomputable def eQ:af->M Out :=
 (ao (mz (dR (aj Cb (aa 1) (fun _=>M.ok .cz))) (ao (retS (aj bR (i6 (ae (fun _=>M.ok (.int 1)) ak)) (ai cZ (ae (aa 0) ak))))
 ar) ar)
 (ao (jb (j_ sU (ae (ai (GO fun i j=>if j>i then j else i) (ae (ai cZ (ae (aa 0) ak)) (ae (ai cZ (ae (aa 1) ak)) ak))) ak)) (cH 2) (ao (mz (Bb (dR (aj Ka (aa 2) (ai cZ (ae (aa 0) ak)))) (dR (aj Ka (aa 2) (ai cZ (ae (aa 1) ak))))) (ao (jE cQ "lever" (ae (aa 2) ak))
 ar) ar)
 (ao (mz (iI (dR (ai cX (ae (aj aM (aa 1) (aa 2)) (ae (fun _=>M.ok (.int 1)) (ae (fun _=>M.ok (.int 1000)) ak)))))) (ao (jE cQ "lever" (ae (aa 2) ak))
 ar) ar)
 ar)))
 (ao (retS (ai cV (ae (aa 1) ak)))
 ar)))
noncomputable def gm:List PV->M PV:=bf 2 (av 3 eQ)
noncomputable def jl:af->M Out :=
 (ao (retS (ai cV (ae (cO (cK (j_ zip2 (ae (aa 0) (ae (aa 1) ak))) (bA 0 1) none (aj bZ (aa 0) (aa 1)) 2 [])) ak)))
 ar)
noncomputable def jw:List PV->M PV:=bf 2 (av 2 jl)
noncomputable def lz:af->M Out :=
 (ao (retS (ai cV (ae (cO (cK (j_ zip2 (ae (aa 0) (ae (aa 2) ak))) (bA 0 1) none (aj cj (aj bR (aa 2) (aa 0)) (aj bR (aa 3) (aa 1))) 2 [1,3])) ak)))
 ar)
noncomputable def k8:List PV->M PV:=bf 4 (av 4 lz)
noncomputable def dk:af->M Out :=
 (ao (aW 5 (ai k8 (ae (aj aM (aa 1) (fun _=>M.ok (.int 0))) (ae (aa 2) (ae (aj aM (aa 3) (fun _=>M.ok (.int 0))) (ae (aa 4) ak))))))
 (ao (retS (i6 (ae (ai jw (ae (aa 5) (ae (aa 0) ak))) (ae (ai k8 (ae (aj aM (aa 1) (fun _=>M.ok (.int 1))) (ae (aa 2) (ae (aj aM (aa 3) (fun _=>M.ok (.int 1))) (ae (aa 4) ak))))) ak))))
 ar))
noncomputable def dh:List PV->M PV:=bf 5 (av 6 dk)
noncomputable def da:af->M Out :=
 (ao (aW 3 (aj aM (aj aM (aj aM (aa 1) (aa 2)) (fun _=>M.ok (.int 0))) (aa 2)))
 (ao (retS (Ad (dR (aj xu (aa 3) (fun _=>M.ok (.int 0)))) (aj aM (aa 0) (aa 2)) (aa 3)))
 ar))
noncomputable def cW:List PV->M PV:=bf 3 (av 4 da)
noncomputable def gK:af->M Out :=
 (ao (r0 3 (lZ ak))
 (ao (jb (j_ CK (ae (aa 1) ak)) (bA 4 5) (ao (aW 6 (ai cW (ae (aa 0) (ae (aa 1) (ae (aa 4) ak)))))
 (ao (aW 7 (aj aM (aj aM (aa 2) (fun _=>M.ok (.int 0))) (aa 4)))
 (ao (aW 8 (ai fO (ae (aa 6) (ae (aa 7) ak))))
 (ao (pB 3 (ai dh (ae (aa 0) (ae (aa 5) (ae (aj aM (aa 8) (fun _=>M.ok (.int 1))) (ae (aa 2) (ae (aj aM (aa 8) (fun _=>M.ok (.int 2))) ak)))))))
 (ao (aW 2 (ai dh (ae (aa 0) (ae (aa 2) (ae (aj bj (aa 6) (aj aM (aa 8) (fun _=>M.ok (.int 0)))) (ae (aa 5) (ae (j4 (aj bj (aa 7) (aj aM (aa 8) (fun _=>M.ok (.int 0))))) ak)))))))
 ar))))))
 (ao (sE [3] (retS (i6 (ae (aa 3) (ae (aj aM (aa 2) (fun _=>M.ok (.int 1))) ak)))))
 ar)))
noncomputable def jh:List PV->M PV:=bf 3 (av 9 gK)
noncomputable def gE:af->M Out :=
 (ao (jb (j_ AF (ae (aa 3) (ae (ai cZ (ae (aa 0) ak)) ak))) (cH 4) (ao (aW 5 (aj bj (aj aM (aj aM (aa 2) (fun _=>M.ok (.int 0))) (aa 4)) (ai cW (ae (aa 0) (ae (aa 1) (ae (aa 4) ak))))))
 (ao (aW 2 (ai dh (ae (aa 0) (ae (aa 2) (ae (fun _=>M.ok (.int 1)) (ae (aj aM (aa 1) (aa 4)) (ae (j4 (aa 5)) ak)))))))
 ar)))
 (ao (retS (aa 2))
 ar))
noncomputable def gD:List PV->M PV:=bf 4 (av 6 gE)
noncomputable def gM:af->M Out :=
 (ao (jb (j_ yt (ae (aj l7 (ai cZ (ae (aa 1) ak)) (fun _=>M.ok (.int 1))) (ae (j4 (fun _=>M.ok (.int 1))) (ae (j4 (fun _=>M.ok (.int 1))) ak)))) (cH 2) (ao (aW 3 (aj aM (aa 1) (aa 2)))
 (ao (aW 0 (ai k8 (ae (aa 0) (ae (fun _=>M.ok (.int 1)) (ae (aa 3) (ae (j4 (aj bj (aj aM (aa 0) (aa 2)) (aj aM (aa 3) (aa 2)))) ak))))))
 ar)))
 (ao (retS (aa 0))
 ar))
noncomputable def jn:List PV->M PV:=bf 2 (av 4 gM)
noncomputable def fP:af->M Out :=
 (ao (mz (dR (aj ED (aa 1) (ai cZ (ae (aa 0) ak)))) (ao (retS (aj aM (aa 0) (aa 1)))
 ar) ar)
 (ao (retS (aj bZ (aj bR (aj cj (aa 1) (fun _=>M.ok (.int 2))) (fun _=>M.ok (.int 104729))) (fun _=>M.ok (.int 65537))))
 ar))
noncomputable def ij:List PV->M PV:=bf 2 (av 2 fP)
noncomputable def dG:af->M Out :=
 (ao (aW 2 (aj bZ (aj cj (aj cj (aj bR (aj bZ (aa 0) (fun _=>M.ok (.int 2147483647))) (fun _=>M.ok (.int 48271))) (aj bR (fun _=>M.ok (.int 7919)) (aa 1))) (fun _=>M.ok (.int 13))) (fun _=>M.ok (.int 2147483629))))
 (ao (aW 2 (aj bZ (aj cj (aj cj (aj bR (aa 2) (aa 2)) (aj bR (fun _=>M.ok (.int 104729)) (aa 1))) (fun _=>M.ok (.int 7))) (fun _=>M.ok (.int 2147483587))))
 (ao (retS (aj bZ (aj bR (aa 2) (aa 2)) (fun _=>M.ok (.int 2147483579))))
 ar)))
noncomputable def bS:List PV->M PV:=bf 2 (av 3 dG)
noncomputable def cv:af->M Out :=
 (ao (r0 2 (lZ ak))
 (ao (jb (itemsOf (aa 1)) (cH 3) (ao (pB 2 (aj bZ (aa 0) (aa 3)))
 (ao (aW 0 (aj bj (aa 0) (aa 3)))
 ar)))
 (ao (sE [2] (retS (ai cV (ae (aa 2) ak))))
 ar)))
noncomputable def bO:List PV->M PV:=bf 2 (av 4 cv)
noncomputable def fD:af->M Out :=
 (ao (mz (dR (aj xu (aj bZ (aa 0) (fun _=>M.ok (.int 3))) (fun _=>M.ok (.int 0)))) (ao (retS (aj cj (fun _=>M.ok (.int 2)) (aj bZ (aj bj (aa 0) (fun _=>M.ok (.int 3))) (fun _=>M.ok (.int 359)))))
 ar) ar)
 (ao (retS (aj bR (aj aM (fun _=>M.ok (.lst (([2,3,4,6,8,9,12]:List Int).map PV.int))) (aj bZ (aj bj (aa 0) (fun _=>M.ok (.int 3))) (fun _=>M.ok (.int 7)))) (aj aM (fun _=>M.ok (.lst (([1,2,5,10,30]:List Int).map PV.int))) (aj bZ (aj bj (aa 0) (fun _=>M.ok (.int 21))) (fun _=>M.ok (.int 5))))))
 ar))
noncomputable def dS:List PV->M PV:=bf 1 (av 1 fD)
noncomputable def eO:af->M Out :=
 (ao (mz (dR (aj xu (aj bZ (aa 0) (fun _=>M.ok (.int 2))) (fun _=>M.ok (.int 0)))) (ao (retS (cO (cK (itemsOf (ai bO (ae (aj bj (aa 0) (fun _=>M.ok (.int 12))) (ae (aj bR (uX (ae (fun _=>M.ok (.int 359)) ak)) (aj cj (fun _=>M.ok (.int 1)) (aj bZ (aj bj (aa 0) (fun _=>M.ok (.int 2))) (fun _=>M.ok (.int 6))))) ak)))) (cH 0) none (aj cj (fun _=>M.ok (.int 2)) (aa 0)) 1 [])))
 ar) ar)
 (ao (aW 1 (aj aM (fun _=>M.ok (.lst (([1,2,3,4,2,3,5,6]:List Int).map PV.int))) (aj bZ (aj bj (aa 0) (fun _=>M.ok (.int 2))) (fun _=>M.ok (.int 8)))))
 (ao (retS (cO (cK (j_ sU (ae (aa 1) ak)) (cH 0) none (ai dS (ae (ai bS (ae (aj bj (aa 1) (fun _=>M.ok (.int 16))) (ae (aa 0) ak))) ak)) 1 [0])))
 ar)))
noncomputable def gc:List PV->M PV:=bf 1 (av 2 eO)
noncomputable def dY:af->M Out :=
 (ao (mz (dR (aj xu (aj bZ (aa 0) (fun _=>M.ok (.int 2))) (fun _=>M.ok (.int 0)))) (ao (retS (ai bO (ae (aj bj (aa 0) (fun _=>M.ok (.int 2))) (ae (aa 1) ak))))
 ar) ar)
 (ao (aW 2 (aj aM (fun _=>M.ok (.lst (([1,2,3,6,12,30]:List Int).map PV.int))) (aj bZ (aj bj (aa 0) (fun _=>M.ok (.int 2))) (fun _=>M.ok (.int 6)))))
 (ao (r0 3 (lZ ak))
 (ao (jb (j_ CK (ae (aa 1) ak)) (bA 4 5) (ao (aW 6 (ai bS (ae (aj bj (aa 0) (fun _=>M.ok (.int 12))) (ae (aa 4) ak))))
 (ao (pB 3 (aj bR (aj bZ (aj bR (aj bj (aa 6) (fun _=>M.ok (.int 4))) (aa 2)) (aa 5)) (ai zq (ae (aj GY (aj bZ (aa 6) (fun _=>M.ok (.int 4))) (fun _=>M.ok (.int 0))) ak))))
 ar)))
 (ao (sE [3] (retS (ai cV (ae (aa 3) ak))))
 ar)))))
noncomputable def dq:List PV->M PV:=bf 2 (av 7 dY)
noncomputable def eR:af->M Out :=
 (ao (aW 1 (fun _=>M.ok (.int 1)))
 (ao (jb (itemsOf (aa 0)) (cH 2) (ao (aW 3 (aa 1))
 (ao (aW 4 (aa 2))
 (ao (mx (dR (aj GY (aa 4) (fun _=>M.ok (.int 0)))) (ao (JD 3 4 (ae (aa 4) (ae (aj bZ (aa 3) (aa 4)) ak)))
 ar))
 (ao (aW 1 (aj bR (aj bj (aa 1) (aa 3)) (aa 2)))
 ar)))))
 (ao (retS (aa 1))
 ar)))
noncomputable def gz:List PV->M PV:=bf 1 (av 5 eR)
noncomputable def eI:af->M Out :=
 (ao (aW 3 (ai gz (ae (aa 2) ak)))
 (ao (retS (aj bZ (ai wc (ae (cO (cK (j_ y0 (ae (aa 0) (ae (aa 1) (ae (aa 2) ak)))) (oK 0 1 2) none (aj bR (aj bR (aa 0) (aa 1)) (aj bj (aa 3) (aa 2))) 3 [3])) ak)) (aa 3)))
 ar))
noncomputable def gA:List PV->M PV:=bf 3 (av 4 eI)
noncomputable def fH:af->M Out :=
 (ao (mz (Bb (iI (dR (vI (fun a=>lK a "tuple") oh oh (aa 0)))) (dR (aj xq (ai cZ (ae (aa 0) ak)) (ai cZ (ae (aa 1) ak))))) (ao (retS (fun _=>M.ok (.bl false)))
 ar) ar)
 (ao (jb (j_ zip2 (ae (aa 0) (ae (aa 1) ak))) (bA 2 3) (ao (mz (Bb (iI (dR (vI (fun a=>lK a "int") oh oh (aa 2)))) (Bb (dR (vI (fun a=>lK a "bool") oh oh (aa 2))) (dR (aj xq (aa 2) (aa 3))))) (ao (retS (fun _=>M.ok (.bl false)))
 ar) ar)
 ar))
 (ao (retS (fun _=>M.ok (.bl true)))
 ar)))
noncomputable def ib:List PV->M PV:=bf 2 (av 4 fH)
noncomputable def gW:af->M Out :=
 (ao (aW 3 (aj bR (uX (ae (fun _=>M.ok (.int 0)) ak)) (ai cZ (ae (aa 2) ak))))
 (ao (jb (j_ zip2 (ae (aa 0) (ae (aa 1) ak))) (bA 4 5) (ao (aW 3 (cO (cK (j_ y0 (ae (aa 3) (ae (aa 4) (ae (aa 2) ak)))) (oK 0 1 2) none (aj bZ (aj cj (aa 0) (aj bR (aa 3) (aa 1))) (aa 2)) 3 [5])))
 ar))
 (ao (retS (ai cV (ae (aa 3) ak)))
 ar)))
noncomputable def dJ:List PV->M PV:=bf 3 (av 6 gW)
noncomputable def dZ:af->M Out :=
 (ao (mz (Bb (iI (dR (vI (fun a=>lK a "tuple") oh oh (aa 0)))) (dR (aj xq (ai cZ (ae (aa 0) ak)) (ai cZ (ae (aa 1) ak))))) (ao (retS (fun _=>M.ok (.bl false)))
 ar) ar)
 (ao (jb (j_ zip2 (ae (aa 0) (ae (aa 1) ak))) (bA 2 3) (ao (mz (Bb (iI (dR (vI (fun a=>lK a "int") oh oh (aa 2)))) (Bb (dR (vI (fun a=>lK a "bool") oh oh (aa 2))) (iI (dR (jo EA ED (fun _=>M.ok (.int 0)) (aa 2) (aa 3)))))) (ao (retS (fun _=>M.ok (.bl false)))
 ar) ar)
 ar))
 (ao (retS (fun _=>M.ok (.bl true)))
 ar)))
noncomputable def eK:List PV->M PV:=bf 2 (av 4 dZ)
noncomputable def eE:af->M Out :=
 (ao (jb (itemsOf (aa 1)) (cH 3) (ao (mz (dR (aj xq (ai gA (ae (aa 0) (ae (aa 3) (ae (aa 2) ak)))) (fun _=>M.ok (.int 0)))) (ao (retS (fun _=>M.ok (.bl false)))
 ar) ar)
 ar))
 (ao (retS (fun _=>M.ok (.bl true)))
 ar))
noncomputable def gy:List PV->M PV:=bf 3 (av 4 eE)
noncomputable def eD:af->M Out :=
 (ao (aW 3 (aj bZ (aj bj (aa 0) (fun _=>M.ok (.int 6))) (ai cZ (ae (aa 2) ak))))
 (ao (r0 4 (lZ (ae (ai zF (ae (aa 1) ak)) (ae (aj cj (aa 1) (i6 (ae (fun _=>M.ok (.int 0)) ak))) (ae (aj cj (aj cj (eN (aa 1) qc (du (aa 3))) (i6 (ae (aj aM (aa 2) (aa 3)) ak))) (eN (aa 1) (du (aj cj (aa 3) (fun _=>M.ok (.int 1)))) qc)) (ae (fun _=>M.ok .cz) (ae (aj bR (i6 (ae (fun _=>M.ok (.bl true)) ak)) (ai cZ (ae (aa 2) ak))) ak)))))))
 (ao (pB 4 (aj cj (aj cj (eN (aa 1) qc (du (aa 3))) (i6 (ae (aj l7 (j4 (fun _=>M.ok (.int 1))) (aj bZ (aj bj (aa 0) (fun _=>M.ok (.int 6))) (aj E6 (fun _=>M.ok (.int 10)) (fun _=>M.ok (.int 9))))) ak))) (eN (aa 1) (du (aj cj (aa 3) (fun _=>M.ok (.int 1)))) qc)))
 (ao (sE [4] (retS (aj aM (aa 4) (aj bZ (aa 0) (fun _=>M.ok (.int 6))))))
 ar))))
noncomputable def gf:List PV->M PV:=bf 3 (av 5 eD)
noncomputable def jt:af->M Out :=
 (ao (kP (ai gv (ae (aa 1) ak)))
 (ao (kP (ai fA (ae (aa 2) (ae (ai cZ (ae (aa 1) ak)) ak))))
 (ao (mn 0 ay "dial_sizes" (ai cV (ae (aa 1) ak)))
 (ao (mn 0 ay "lever_settings" (ai cV (ae (cO (cK (itemsOf (aa 2)) (cH 0) none (ai jw (ae (aa 0) (ae (aa 1) ak))) 1 [1])) ak)))
 (ao (mn 0 ay "lever_prices" (ai gm (ae (aa 2) (ae (aa 3) ak))))
 (ao (mn 0 ay "least_round" (ai fq (ae (aa 1) ak)))
 ar))))))
noncomputable def ic:Addr->List PV->M (List (Str×PV)):=vB 4 (Bk 4 jt ay)
noncomputable def aU:af->M Out :=
 (ao (retS (iZ (fun c=>c==ay) "dial_sizes" (aa 0)))
 ar)
noncomputable def aS:List PV->M PV:=bf 1 (av 1 aU)
noncomputable def bx:af->M Out :=
 (ao (retS (iZ (fun c=>c==ay) "lever_settings" (aa 0)))
 ar)
noncomputable def bg:List PV->M PV:=bf 1 (av 1 bx)
noncomputable def gZ:af->M Out :=
 (ao (retS (iZ (fun c=>c==ay) "lever_prices" (aa 0)))
 ar)
noncomputable def rO:List PV->M PV:=bf 1 (av 1 gZ)
noncomputable def cD:af->M Out :=
 (ao (retS (iZ (fun c=>c==ay) "least_round" (aa 0)))
 ar)
noncomputable def cC:List PV->M PV:=bf 1 (av 1 cD)
noncomputable def cw:af->M Out :=
 (ao (aW 1 (bD ay "sizes" aS (iZ (fun c=>c==aB) "vault" (aa 0)) ak))
 (ao (retS (ai cV (ae (cO (cK (j_ sU (ae (ai cZ (ae (aa 1) ak)) ak)) (cH 0) none (ai cW (ae (aa 2) (ae (iZ (fun c=>c==aB) "made_rows" (aa 1)) (ae (aa 0) ak)))) 1 [0,1])) ak)))
 ar))
noncomputable def cR:List PV->M PV:=bf 1 (av 2 cw)
noncomputable def kQ:af->M Out :=
 (ao (retS (aj bR (i6 (ae (fun _=>M.ok (.int 0)) ak)) (ai cZ (ae (bD ay "sizes" aS (aa 0) ak) ak))))
 ar)
noncomputable def ky:List PV->M PV:=bf 1 (av 1 kQ)
noncomputable def ck:af->M Out :=
 (ao (aW 2 (bD ay "sizes" aS (aa 0) ak))
 (ao (mz (Bb (iI (dR (vI (fun a=>lK a "tuple") oh oh (aa 1)))) (iI (dR (ai je (ae (aa 1) (ae (ai cZ (ae (aa 2) ak)) ak)))))) (ao (retS (fun _=>M.ok (.bl false)))
 ar) ar)
 (ao (retS (ai sG (ae (cO (cK (j_ zip2 (ae (aa 1) (ae (aa 2) ak))) (bA 0 1) none (jo EA ED (fun _=>M.ok (.int 0)) (aa 0) (aa 1)) 2 [])) ak)))
 ar)))
noncomputable def aR:List PV->M PV:=bf 2 (av 3 ck)
noncomputable def bB:af->M Out :=
 (ao (mz (iI (dR (ai aR (ae (aa 0) (ae (aa 1) ak))))) (ao (my aI (ae (fun _=>M.ok (.str "this is no setting of the vault")) ak))
 ar) ar)
 ar)
noncomputable def bh:List PV->M PV:=bf 2 (av 2 bB)
noncomputable def mQ:af->M Out :=
 (ao (aW 4 (cO (cK (j_ zip2 (ae (aa 1) (ae (aa 2) ak))) (bA 0 1) none (aj cj (aa 0) (aj bR (aa 2) (aa 1))) 2 [3])))
 (ao (retS (ai jw (ae (aa 4) (ae (bD ay "sizes" aS (aa 0) ak) ak))))
 ar))
noncomputable def pH:List PV->M PV:=bf 4 (av 5 mQ)
noncomputable def lp:af->M Out :=
 (ao (kP (ai bh (ae (aa 0) (ae (aa 1) ak))))
 (ao (kP (ai bh (ae (aa 0) (ae (aa 2) ak))))
 (ao (aW 3 (bD ay "around" cC (aa 0) ak))
 (ao (aW 4 (cO (cK (j_ zip2 (ae (aa 1) (ae (bD ay "sizes" aS (aa 0) ak) ak))) (bA 0 1) none (aj bR (aa 0) (aj bj (aa 2) (aa 1))) 2 [3])))
 (ao (retS (ai jK (ae (aa 4) (ae (aa 2) (ae (aa 3) ak)))))
 ar)))))
noncomputable def lF:List PV->M PV:=bf 3 (av 5 lp)
noncomputable def b_:af->M Out :=
 (ao (retS (ai sG (ae (cO (cK (itemsOf (bD ay "levers" bg (aa 0) ak)) (cH 0) none (aj xu (ai lF (ae (aa 1) (ae (aa 2) (ae (aa 0) ak)))) (fun _=>M.ok (.int 0))) 1 [0,1])) ak)))
 ar)
noncomputable def cT:List PV->M PV:=bf 2 (av 2 b_)
noncomputable def fe:af->M Out :=
 (ao (retS (i6 (ae (aa 1) (ae (aj bR (i6 (ae (fun _=>M.ok (.int 0)) ak)) (ai cZ (ae (bD ay "levers" bg (aa 0) ak) ak))) ak))))
 ar)
noncomputable def e_:List PV->M PV:=bf 2 (av 2 fe)
noncomputable def dB:af->M Out :=
 (ao (aW 2 (bD ay "levers" bg (aa 0) ak))
 (ao (retS (i6 (ae (aj aM (aa 2) (aa 1)) (ae (ai jP (ae (ai cZ (ae (aa 2) ak)) (ae (aa 1) ak))) ak))))
 ar))
noncomputable def fy:List PV->M PV:=bf 2 (av 3 dB)
noncomputable def jy:af->M Out :=
 (ao (aW 2 (bD ay "sizes" aS (aa 1) ak))
 (ao (aW 3 (cO (cK (itemsOf (aa 2)) (cH 0) none (ai e_ (ae (aa 1) (ae (ai ky (ae (aa 1) ak)) ak))) 1 [1])))
 (ao (r0 4 (lZ ak))
 (ao (jb (j_ sU (ae (ai cZ (ae (bD ay "levers" bg (aa 1) ak) ak)) ak)) (cH 5) (ao (aW 6 (ai jh (ae (aa 2) (ae (aa 3) (ae (ai fy (ae (aa 1) (ae (aa 5) ak))) ak)))))
 (ao (aW 3 (aj aM (aa 6) (fun _=>M.ok (.int 0))))
 (ao (pB 4 (qM 4 (ai jn (ae (aj aM (aa 6) (fun _=>M.ok (.int 1))) (ae (aa 4) ak)))))
 ar))))
 (ao (mn 0 aB "vault" (aa 1))
 (ao (mn 0 aB "made_rows" (cO (cK (j_ CK (ae (aa 3) ak)) (bA 0 1) none (ai gD (ae (aa 2) (ae (aa 3) (ae (aa 1) (ae (aj cj (aa 0) (fun _=>M.ok (.int 1))) ak))))) 2 [2,3])))
 (ao (sE [4] (mn 0 aB "idle_rows" (aa 4)))
 ar)))))))
noncomputable def fg:Addr->List PV->M (List (Str×PV)):=vB 2 (Bk 7 jy aB)
noncomputable def cm:af->M Out :=
 (ao (kP (ai bh (ae (iZ (fun c=>c==aB) "vault" (aa 0)) (ae (aa 1) ak))))
 (ao (retS (ai gD (ae (bD ay "sizes" aS (iZ (fun c=>c==aB) "vault" (aa 0)) ak) (ae (iZ (fun c=>c==aB) "made_rows" (aa 0)) (ae (ai e_ (ae (iZ (fun c=>c==aB) "vault" (aa 0)) (ae (aa 1) ak))) (ae (fun _=>M.ok (.int 0)) ak))))))
 ar))
noncomputable def fM:List PV->M PV:=bf 2 (av 2 cm)
noncomputable def iD:af->M Out :=
 (ao (retS (aj aM (bD aB "brought_down" fM (aa 0) (ae (aa 1) ak)) (fun _=>M.ok (.int 0))))
 ar)
noncomputable def rV:List PV->M PV:=bf 2 (av 2 iD)
noncomputable def br:af->M Out :=
 (ao (aW 2 (bD ay "sizes" aS (iZ (fun c=>c==aB) "vault" (aa 0)) ak))
 (ao (mz (iI (dR (ai cX (ae (aa 1) (ae (fun _=>M.ok (.int 0)) (ae (aj l7 (ai cZ (ae (aa 2) ak)) (fun _=>M.ok (.int 1))) ak)))))) (ao (jE cM "dial" (ae (aa 1) ak))
 ar) ar)
 (ao (aW 3 (cO (cK (j_ zip2 (ae (aa 2) (ae (bD aB "steps" cR (aa 0) ak) ak))) (bA 0 1) none (aj bj (aa 0) (aa 1)) 2 [])))
 (ao (r0 4 (DC (uX (ae (fun _=>M.ok (.int 0)) ak)) (ai cZ (ae (aa 2) ak))))
 (ao (H0 4 (aa 1) (aj bZ (aj aM (aa 3) (aa 1)) (aj aM (aa 2) (aa 1))))
 (ao (jb (j_ yt (ae (aj l7 (aa 1) (fun _=>M.ok (.int 1))) (ae (j4 (fun _=>M.ok (.int 1))) (ae (j4 (fun _=>M.ok (.int 1))) ak)))) (cH 5) (ao (aW 6 (qM 4 (ai lF (ae (iZ (fun c=>c==aB) "vault" (aa 0)) (ae (ai cV (ae (aa 4) ak)) (ae (aj aM (aj aM (iZ (fun c=>c==aB) "made_rows" (aa 0)) (aa 5)) (fun _=>M.ok (.int 0))) ak))))))
 (ao (aW 7 (aj bj (bD ay "around" cC (iZ (fun c=>c==aB) "vault" (aa 0)) ak) (aj aM (aa 3) (aa 5))))
 (ao (H0 4 (aa 5) (aj bZ (j4 (aj bj (aa 6) (aa 7))) (aj aM (aa 3) (aa 5))))
 ar))))
 (ao (sE [4] (retS (ai cV (ae (aa 4) ak))))
 ar)))))))
noncomputable def aX:List PV->M PV:=bf 2 (av 8 br)
noncomputable def dN:af->M Out :=
 (ao (kP (ai bh (ae (aa 0) (ae (aa 1) ak))))
 (ao (mz (iI (dR (ai cT (ae (aa 0) (ae (aa 1) ak))))) (ao (retS (fun _=>M.ok .cz))
 ar) ar)
 (ao (aW 2 (ai (jW aB fg []) (ae (aa 0) ak)))
 (ao (aW 3 (cO (cK (j_ zip2 (ae (bD ay "sizes" aS (aa 0) ak) (ae (bD aB "steps" cR (aa 2) ak) ak))) (bA 0 1) none (aj bj (aa 0) (aa 1)) 2 [])))
 (ao (r0 4 (DC (uX (ae (fun _=>M.ok (.int 0)) ak)) (ai cZ (ae (aa 3) ak))))
 (ao (aW 5 (aa 1))
 (ao (jb (j_ yt (ae (aj l7 (ai cZ (ae (aa 3) ak)) (fun _=>M.ok (.int 1))) (ae (j4 (fun _=>M.ok (.int 1))) (ae (j4 (fun _=>M.ok (.int 1))) ak)))) (cH 6) (ao (H0 4 (aa 6) (aj bj (aj aM (aa 5) (aa 6)) (aj aM (aa 3) (aa 6))))
 (ao (aW 5 (qM 4 (ai pH (ae (aa 0) (ae (aa 5) (ae (bD aB "weights_at" aX (aa 2) (ae (aa 6) ak)) (ae (j4 (aj aM (aa 4) (aa 6))) ak)))))))
 ar)))
 (ao (sE [4] (retS (ai cV (ae (aa 4) ak))))
 ar))))))))
noncomputable def bW:List PV->M PV:=bf 2 (av 7 dN)
noncomputable def cY:af->M Out :=
 (ao (aW 2 (fun _=>M.ok .cz))
 (ao (FF (kP (ai bW (ae (aa 0) (ae (aa 1) ak)))) [(rR fj fw,some 3,(ao (aW 2 (aa 3))
 ar))])
 (ao (retS (Ak (vI (fun _=>false) (rR gx gg) (rR dr dm) (aa 2)) (Ak (IE Ra (aa 2)) (Fj (vI (fun _=>false) (rR ju jO) (rR fc eZ) (aa 2))))))
 ar)))
noncomputable def eJ:List PV->M PV:=bf 2 (av 4 cY)
noncomputable def C_:af->M Out :=
 (ao (aW 1 (ai gc (ae (ai ij (ae (aa 0) (ae (fun _=>M.ok (.int 0)) ak))) ak)))
 (ao (aW 2 (cO (cK (itemsOf (eN (aa 0) (du (fun _=>M.ok (.int 1))) (du (fun _=>M.ok (.int 9))))) (cH 0) none (ai dq (ae (aa 0) (ae (aa 1) ak))) 1 [1])))
 (ao (aW 3 (ai (jW ay ic [.cz]) (ae (aa 1) (ae (aa 2) ak))))
 (ao (aW 4 (ai (jW aB fg []) (ae (aa 3) ak)))
 (ao (aW 5 (bD aB "steps" cR (aa 4) ak))
 (ao (aW 6 (cO (cK (j_ sU (ae (ai cZ (ae (aa 1) ak)) ak)) (cH 0) none (bD aB "weights_at" aX (aa 1) (ae (aa 0) ak)) 1 [4])))
 (ao (jb (itemsOf (aj cj (uX (ae (fun _=>M.ok (.int 0)) ak)) (eN (aa 0) (du (fun _=>M.ok (.int 1))) (du (fun _=>M.ok (.int 24)))))) (cH 7) (ao (aW 8 (ai bO (ae (aj bj (aa 7) (fun _=>M.ok (.int 2))) (ae (aa 5) ak))))
 (ao (mz (dR (aj xu (aj bZ (aa 7) (fun _=>M.ok (.int 2))) (fun _=>M.ok (.int 1)))) (ao (aW 8 (ai cV (ae (cO (cK (j_ CK (ae (aa 5) ak)) (bA 0 1) none (aj bZ (ai bS (ae (aa 2) (ae (aj cj (fun _=>M.ok (.int 30)) (aa 0)) ak))) (aa 1)) 2 [7])) ak)))
 ar) ar)
 (ao (aW 9 (ai dJ (ae (aa 6) (ae (aa 8) (ae (aa 1) ak)))))
 (ao (mz (Bb (iI (dR (ai ib (ae (ai bW (ae (aa 3) (ae (aa 9) ak))) (ae (aa 8) ak))))) (iI (dR (ai eJ (ae (aa 3) (ae (ai gf (ae (aa 7) (ae (aa 9) (ae (aa 1) ak)))) ak)))))) (ao (retS (fun _=>M.ok (.bl false)))
 ar) ar)
 (ao (aW 10 (aj bZ (aa 7) (ai cZ (ae (aa 1) ak))))
 (ao (aW 11 (aj cj (fun _=>M.ok (.int 1)) (aj bZ (ai bS (ae (aa 7) (ae (fun _=>M.ok (.int 40)) ak))) (aj l7 (aj aM (aa 1) (aa 10)) (fun _=>M.ok (.int 1))))))
 (ao (aW 12 (aj cj (aj cj (eN (aa 9) qc (du (aa 10))) (i6 (ae (aj bZ (aj cj (aj aM (aa 9) (aa 10)) (aa 11)) (aj aM (aa 1) (aa 10))) ak))) (eN (aa 9) (du (aj cj (aa 10) (fun _=>M.ok (.int 1)))) qc)))
 (ao (aW 13 (ai bW (ae (aa 3) (ae (aa 12) ak))))
 (ao (mz (iI (dR (ai gy (ae (aa 12) (ae (aa 2) (ae (aa 1) ak)))))) (ao (mz (dR (aj nu (aa 13) (fun _=>M.ok .cz))) (ao (retS (fun _=>M.ok (.bl false)))
 ar) ar)
 ar) (ao (mz (Bb (iI (dR (ai eK (ae (aa 13) (ae (aa 5) ak))))) (dR (aj xq (ai dJ (ae (aa 6) (ae (aa 13) (ae (aa 1) ak)))) (aa 12)))) (ao (retS (fun _=>M.ok (.bl false)))
 ar) ar)
 ar))
 ar))))))))))
 (ao (retS (fun _=>M.ok (.bl true)))
 ar))))))))
noncomputable def t_:List PV->M PV:=bf 1 (av 14 C_)
end xK
namespace xK
open PySem L2 PyProof.Rows
local macro_rules | `(tactic| walk_at "s")=>`(tactic| exact⟨rfl,rfl,rfl,by decide +kernel,rfl,by decide +kernel,by decide +kernel⟩)
local macro_rules | `(tactic| walk_at "l")=>`(tactic| first | exact .inl rfl | exact .inr rfl)
local macro_rules | `(tactic| walk_at "pp")=>`(tactic| all_goals repeat' (first | ((with_reducible show l_ _ _ (tS _ (ao _ _)));refine Ex ?_ ?_) | ((with_reducible show l_ _ _ (tS _ ar));exact EW) | ((with_reducible show PE _ _ (tE _ (aa _)));exact vr _) | ((with_reducible show PA _ _ (tL _ (ae _ _)));refine zk ?_ ?_ (G_ rfl)) | ((with_reducible show PA _ _ (tL _ ak));exact BF) | ((with_reducible show PE _ _ (tE _ (fun _=>M.ok (.int _))));first | exact BS | exact mS (Lb (by rfl) (by assumption)) fun _=>.int _) | ((with_reducible show PE _ _ (tE _ (fun _=>M.ok (.bl _))));exact Ln) | ((with_reducible show PE _ _ (tE _ (fun _=>M.ok .cz)));exact Jw) | ((with_reducible show PE _ _ (tE _ (fun _=>M.ok (.str _))));exact IB) | ((with_reducible show PE _ _ (tE _ (aj cj _ _)));refine nZ Fm JZ ?_ ?_) | ((with_reducible show PE _ _ (tE _ (aj l7 _ _)));refine nZ HG JA ?_ ?_) | ((with_reducible show PE _ _ (tE _ (aj bR _ _)));refine nZ EY HN ?_ ?_) | ((with_reducible show PE _ _ (tE _ (aj bj _ _)));refine nZ DH DO ?_ ?_) | ((with_reducible show PE _ _ (tE _ (aj bZ _ _)));refine nZ Ge Gn ?_ ?_) | ((with_reducible show PE _ _ (tE _ (aj E6 _ _)));refine nZ Im Gk ?_ ?_) | ((with_reducible show PE _ _ (tE _ (aj aM _ _)));refine Iv ?_ ?_ ?_) | ((with_reducible show um _);exact fun _ _=>rfl) | ((with_reducible show PT _ _ (tT _ (dR (aj xu _ _))));refine kF (BM (cp.units (by assumption))) GF ?_ ?_ (dw _)) | ((with_reducible show PE _ _ (tE _ (aj xu _ _)));refine kE (BM (cp.units (by assumption))) GF ?_ ?_ (dw _)) | ((with_reducible show PT _ _ (tT _ (dR (aj xq _ _))));refine kF (CN (cp.units (by assumption))) G1 ?_ ?_ (dw _)) | ((with_reducible show PE _ _ (tE _ (aj xq _ _)));refine kE (CN (cp.units (by assumption))) G1 ?_ ?_ (dw _)) | ((with_reducible show PT _ _ (tT _ (dR (aj ED _ _))));refine kF z8 uD ?_ ?_ (dw _)) | ((with_reducible show PE _ _ (tE _ (aj ED _ _)));refine kE z8 uD ?_ ?_ (dw _)) | ((with_reducible show PT _ _ (tT _ (dR (aj EA _ _))));refine kF ug oz ?_ ?_ (dw _)) | ((with_reducible show PE _ _ (tE _ (aj EA _ _)));refine kE ug oz ?_ ?_ (dw _)) | ((with_reducible show PT _ _ (tT _ (dR (aj GY _ _))));refine kF GI Cv ?_ ?_ (dw _)) | ((with_reducible show PE _ _ (tE _ (aj GY _ _)));refine kE GI Cv ?_ ?_ (dw _)) | ((with_reducible show PT _ _ (tT _ (dR (aj Ka _ _))));refine kF G8 DW ?_ ?_ (dw _)) | ((with_reducible show PE _ _ (tE _ (aj Ka _ _)));refine kE G8 DW ?_ ?_ (dw _)) | ((with_reducible show PT _ _ (tT _ (dR (aj Cb _ _))));refine kF Cm Dm ?_ ?_ (dw _)) | ((with_reducible show PE _ _ (tE _ (aj Cb _ _)));refine kE Cm Dm ?_ ?_ (dw _)) | ((with_reducible show PT _ _ (tT _ (dR (aj nu _ _))));refine kF zV zR ?_ ?_ (dw _)) | ((with_reducible show PE _ _ (tE _ (aj nu _ _)));refine kE zV zR ?_ ?_ (dw _)) | ((with_reducible show PT _ _ (tT _ (iI _)));refine Ht ?_) | ((with_reducible show PT _ _ (tT _ (dR (ai _ _))));refine uL ?_) | ((with_reducible show PT _ _ (tT _ (dR (vI _ _ _ _))));refine uL ?_) | ((with_reducible show PT _ _ (tT _ (dR (bD _ _ _ _ _))));refine uL ?_) | ((with_reducible show PT _ _ (tT _ (dR (aa _))));refine uL ?_) | ((with_reducible show PS _ _ (tS _ (retS _)));refine Hv ?_) | ((with_reducible show PS _ _ (tS _ (aW _ _)));refine Ig (by assumption) rfl (by walk_at "l") ?_) | ((with_reducible show PS _ _ (tS _ (mz _ _ _)));refine LM ?_ ?_ ?_) | ((with_reducible show PS _ _ (tS _ (pB _ _)));refine Bz rfl (by first | exact .inl rfl | exact .inr (.inl rfl)) ?_) | ((with_reducible show PS _ _ (tS _ (r0 _ _)));refine Fi (by assumption) rfl (by walk_at "l") ?_) | ((with_reducible show PE _ _ (tO _ (lZ _)));refine JV ?_) | ((with_reducible show PS _ _ (tS _ (sE _ _)));refine JX _ ?_) | ((with_reducible show PS _ _ (tS _ (kP _)));refine EG ?_) | ((with_reducible show PS _ _ (tS _ (my _ _)));refine Dk.raise (by assumption) (by assumption) rfl (by rfl) ?_) | ((with_reducible show PS _ _ (tS _ (jE _ _ _)));refine sM.raise (by assumption) (by assumption) (by omega) (by assumption) rfl (by rfl) ?_) | ((with_reducible show PE _ _ (tE _ (i6 _)));refine Jf ?_) | ((with_reducible show PE _ _ (tE _ (uX _)));refine Dl ?_) | ((with_reducible show PE _ _ (tE _ (j4 _)));refine IL ?_) | ((with_reducible show PE _ _ (tE _ (Ad _ _ _)));refine IX ?_ ?_ ?_) | ((with_reducible show PE _ _ (tE _ (iZ _ _ _)));refine Iz ?_ (by assumption) rfl) | ((with_reducible show PE _ _ (tE _ (ai cZ _)));refine mV Bm IG (by rfl) (by assumption) PySem.boot_len ?_) | ((with_reducible show PE _ _ (tE _ (ai cV _)));refine n8 sd Cz (by rfl) (by assumption) kA ?_) | ((with_reducible show PE _ _ (tE _ (ai zF _)));refine n8 uw EZ (by rfl) (by assumption) zT ?_) | ((with_reducible show PE _ _ (tE _ (ai wc _)));refine mV (A6 rfl) JU (by rfl) (by assumption) HX ?_) | ((with_reducible show PE _ _ (tE _ (ai sG _)));refine mV (Bl rfl) Hy (by rfl) (by assumption) IQ ?_) | ((with_reducible show PE _ _ (tE _ (ai zq _)));refine n8 Ah Gg (by rfl) (by assumption) vF ?_) | ((with_reducible show PE _ _ (tE _ (ai (jW _ _ _) _)));refine G0.make (by assumption) (by assumption) (by omega) (by rfl) (by first | assumption | exact zP) ?_) | ((with_reducible show PE _ _ (tE _ (ai _ _)));refine bF.call (by assumption) (by assumption) (by omega) (by rfl) (by first | assumption | exact zP) ?_) | ((with_reducible show PE _ _ (tE _ (bD _ _ _ _ ak)));refine kq.Lh (by assumption) (by assumption) (by omega) (by first | assumption | exact zP) ?_) | ((with_reducible show PE _ _ (tE _ (bD _ _ _ _ _)));refine kq.call (by assumption) (by assumption) (by omega) (by first | assumption | exact zP) ?_ ?_)))
def top(i:Nat):Stmt:=PySem.Challenge.pw_dialvault_k43_still_weights_written.main.body.getD i (.Pass ⟨0,0,0,0⟩)
structure Txt (K:PySem.W.Frag) (mg:Str->Option Value):Prop where
 mY:mg "ValueError" = none
 KZ:mg "all" = none
 uq:mg "bool" = none
 c7:mg "enumerate" = none
 zu:mg "int" = none
 aV:mg "isinstance" = none
 K5:mg "len" = none
 Ct:mg "list" = none
 G3:mg "max" = none
 eS:mg "range" = none
 Ki:mg "sum" = none
 mO:mg "tuple" = none
 iy:mg "zip" = none
 sF:∃ u,mg "LEAST_PRICE" = some u/\RelV (.int 1) u
 uu:∃ u,mg "LEAST_SIZE" = some u/\RelV (.int 2) u
 uZ:∃ u,mg "MOST_DIALS" = some u/\RelV (.int 6) u
 rW:∃ u,mg "MOST_LEVERS" = some u/\RelV (.int 8) u
 u6:∃ u,mg "MOST_PRICE" = some u/\RelV (.int 1000) u
 xG:∃ u,mg "MOST_SIZE" = some u/\RelV (.int 360) u
 pO:n5 K aB
 ng:n5 K ay
 xa:Dk K mg aI "NoSetting"
 A1:Dk K mg dO "TooMany"
 jF:Pl K mg "VaultError" nr fj fw
 sZ:J9 K mg "NoPulls" k4 fc eZ ju jO
 oC:J9 K mg "NoSetting" aI dr dm gx gg
 SA:∀ C∈Ra,fY K C/\PySem.W.kitOne K (.ref C) (.type "ValueError")=some true
 iw:bM K aB "idle_rows"
 ix:bM K aB "made_rows"
 lX:bM K aB "vault"
 gQ:bM K ay "dial_sizes"
 f_:bM K ay "least_round"
 fK:bM K ay "lever_prices"
 eG:bM K ay "lever_settings"
 uB:∀ C,(C==ay)=true->n5 K C/\bM K C "dial_sizes"
 wF:∀ C,(C==aB)=true->n5 K C/\bM K C "idle_rows"
 sQ:∀ C,(C==ay)=true->n5 K C/\bM K C "least_round"
 qy:∀ C,(C==ay)=true->n5 K C/\bM K C "lever_prices"
 oq:∀ C,(C==ay)=true->n5 K C/\bM K C "lever_settings"
 wm:∀ C,(C==aB)=true->n5 K C/\bM K C "made_rows"
 Gj:∀ C,(C==aB)=true->n5 K C/\bM K C "vault"
variable{P:Program}{w:World}{K:PySem.W.Frag}{mg:Str->Option Value}{base:Heap}{f:Addr}{fd:FuncData}{dv:Value}
theorem oJ:az ["thing"] ["thing"] (aq (top 10)):=.of
theorem xv(F:aE K "is_whole" "is_whole" (top 10) dv f fd)(T:Txt K mg)  : aQ P w K mg base (bV P w) 1 f fd ["thing"] (dW 1 dM) :=
 F.gk oJ fun _ _ _ _ _ _ hr O=>by
 unfold gL;have:=oJ.nd;have T2:=T;cases T2
 walk_at "pp"
 refine(vp ?_ (yk ?_))
 walk_at "pp"
 refine(jI (T := "int") (by rfl) T.aV (dD (v:=.ty "int") (by rfl) T.zu vF rfl) (by decide) jC jC ?_)
 walk_at "pp"
 refine(Cp ?_)
 walk_at "pp"
 refine(jI (T := "bool") (by rfl) T.aV (dD (v:=.ty "bool") (by rfl) T.uq vy rfl) (by decide) jC jC ?_)
 walk_at "pp"
theorem tU:az ["thing", "length"] ["thing", "length"] (aq (top 11)):=.of
theorem xj:((["number"]:List Str)++([]:List Str)).Nodup:=by decide +kernel
theorem Aq(F:aE K "is_row" "is_row" (top 11) dv f fd)(T:Txt K mg)(o_is_whole:bF P w K mg base 1 "is_whole" 1 (av 1 gL)):aQ P w K mg base (bV P w) 2 f fd ["thing", "length"] (dW 2 je) :=
 F.gk tU fun _ _ _ _ _ _ hr O=>by
 unfold i7;have:=tU.nd;have T2:=T;cases T2
 walk_at "pp"
 refine(kL ?_ (jq ?_)).pt
 walk_at "pp"
 refine(F4 (Ts:=["list", "tuple"]) (by rfl) T.aV (CJ (dF (dD (v:=.ty "list") (by rfl) T.Ct zT rfl) (dF (dD (v:=.ty "tuple") (by rfl) T.mO kA rfl) mi))) (fun σ H R h=>⟨by show 2<=sizeLine;decide,h⟩) (by decide) jC ?_)
 walk_at "pp"
 refine(dI (bP (g:=(aG 0)) (ts:=["number"]) (fs:=[]) (js:=[]) (cl:=[]) rfl rfl rfl rfl rfl rfl .nil .nil (g_ ?_) eM (fun _ _ _ _ _=>(aL (i:=0) xj)) (fun _=>bw) cu (fun _ _ _ _ _=>?_)))
 walk_at "pp"
theorem t9:az ["one", "other", "row", "behind", "times", "rest"] ["one", "other"] (aq (top 12)):=.of
theorem A9(F:aE K "common" "common" (top 12) dv f fd)(T:Txt K mg)  : aQ P w K mg base (bV P w) 1 f fd ["one", "other"] (dW 2 fO) :=
 F.gk t9 fun _ _ _ _ _ _ hr O=>by
 unfold jd;have:=t9.nd;have T2:=T;cases T2
 walk_at "pp"
 refine(wg O ?_ ?_)
 walk_at "pp"
theorem gY:az ["numbers", "multiple", "number"] ["numbers"] (aq (top 13)):=.of
theorem qq(F:aE K "multiple_of" "multiple_of" (top 13) dv f fd)(T:Txt K mg)(o_common:bF P w K mg base 1 "common" 2 (av 6 jd)):aQ P w K mg base (bV P w) 2 f fd ["numbers"] (dW 1 fq) :=
 F.gk gY fun _ _ _ _ _ _ hr O=>by
 unfold dC;have:=gY.nd;have T2:=T;cases T2
 walk_at "pp"
 refine(bU (g:=(aG 2)) O rfl (g_ ?_) eM (aL (i:=2) gY.nd) bw ?_)
 walk_at "pp"
theorem oN:az ["length", "place"] ["length", "place"] (aq (top 14)):=.of
theorem sS:((["other"]:List Str)++(["place"]:List Str)).Nodup:=by decide +kernel
theorem wQ(F:aE K "unit_row" "unit_row" (top 14) dv f fd)(T:Txt K mg)  : aQ P w K mg base (bV P w) 1 f fd ["length", "place"] (dW 2 jP) :=
 F.gk oN fun _ _ _ _ _ _ hr O=>by
 unfold g9;have:=oN.nd;have T2:=T;cases T2
 walk_at "pp"
 refine(dI (bP (g:=(aG 0)) (ts:=["other"]) (fs:=["place"]) (js:=[1]) rfl rfl rfl rfl rfl rfl (.cons rfl .nil) (.cons rfl rfl (by walk_at "l") rfl rfl .nil) (gF (by rfl) T.eS ?_) i_ (fun _ _ _ _ _=>(aL (i:=0) sS)) (fun _=>bw) cu (fun _ _ _ _ _=>?_)))
 walk_at "pp"
theorem oO:az ["numbers", "others", "by"] ["numbers", "others", "by"] (aq (top 15)):=.of
theorem lQ:((["number", "other"]:List Str)++([]:List Str)).Nodup:=by decide +kernel
theorem wM(F:aE K "rest_sum" "rest_sum" (top 15) dv f fd)(T:Txt K mg)  : aQ P w K mg base (bV P w) 1 f fd ["numbers", "others", "by"] (dW 3 jK) :=
 F.gk oO fun _ _ _ _ _ _ hr O=>by
 unfold hX;have:=oO.nd;have T2:=T;cases T2
 walk_at "pp"
 refine(dI (bP (g:=(h9 K 2 (aY (aG 0) (aY (aG 1) hZ)))) (ts:=["number", "other"]) (fs:=[]) (js:=[]) (cl:=[]) rfl rfl rfl rfl rfl rfl .nil .nil (gP (by rfl) T.iy ?_) eT (fun _ _ _ _ _=>(cL (n:=2) rfl (aD (aL (i:=0) lQ) (aD (aL (i:=1) lQ) bL)))) (fun _=>bX) cx (fun _ _ _ _ _=>?_)))
 walk_at "pp"
theorem m5:az ["thing", "least", "most"] ["thing", "least", "most"] (aq (top 24)):=.of
theorem uU(F:aE K "is_within" "is_within" (top 24) dv f fd)(T:Txt K mg)(o_is_whole:bF P w K mg base 1 "is_whole" 1 (av 1 gL)):aQ P w K mg base (bV P w) 2 f fd ["thing", "least", "most"] (dW 3 cX) :=
 F.gk m5 fun _ _ _ _ _ _ hr O=>by
 unfold c6;have:=m5.nd;have T2:=T;cases T2
 walk_at "pp"
 refine(vp ?_ (yk ?_))
 walk_at "pp"
 refine(wD ug oz ug oz ?_ ?_ ?_)
 walk_at "pp"
theorem fk:az ["sizes", "dial", "size"] ["sizes"] (aq (top 25)):=.of
theorem sL(F:aE K "need_sizes" "need_sizes" (top 25) dv f fd)(T:Txt K mg)(x_NoDial:sM P w K mg base cM "NoDial" "dial")(o_is_within:bF P w K mg base 2 "is_within" 3 (av 3 c6)):aQ P w K mg base (bV P w) 3 f fd ["sizes"] (dW 1 gv) :=
 F.gk fk fun _ _ _ _ _ _ hr O=>by
 unfold eh;have:=fk.nd;have T2:=T;cases T2
 walk_at "pp"
 refine(bU (g:=(h9 K 2 (aY (aG 1) (aY (aG 2) hZ)))) O rfl (oo (by rfl) T.c7 ?_) kY (cL (n:=2) rfl (aD (aL (i:=1) fk.nd) (aD (aL (i:=2) fk.nd) bL))) bX ?_)
 walk_at "pp"
theorem eP:az ["levers", "dials", "place", "lever"] ["levers", "dials"] (aq (top 26)):=.of
theorem p4(F:aE K "need_levers" "need_levers" (top 26) dv f fd)(T:Txt K mg)(o_is_row:bF P w K mg base 2 "is_row" 2 (av 2 i7))(x_NoLever:sM P w K mg base dj "NoLever" "lever"):aQ P w K mg base (bV P w) 3 f fd ["levers", "dials"] (dW 2 fA) :=
 F.gk eP fun _ _ _ _ _ _ hr O=>by
 unfold dA;have:=eP.nd;have T2:=T;cases T2
 walk_at "pp"
 refine(bU (g:=(h9 K 2 (aY (aG 2) (aY (aG 3) hZ)))) O rfl (oo (by rfl) T.c7 ?_) kY (cL (n:=2) rfl (aD (aL (i:=2) eP.nd) (aD (aL (i:=3) eP.nd) bL))) bX ?_)
 walk_at "pp"
theorem iX:az ["levers", "prices", "place"] ["levers", "prices"] (aq (top 27)):=.of
theorem sC(F:aE K "prices_for" "prices_for" (top 27) dv f fd)(T:Txt K mg)(x_NoPrice:sM P w K mg base cQ "NoPrice" "lever")(o_is_within:bF P w K mg base 2 "is_within" 3 (av 3 c6)):aQ P w K mg base (bV P w) 3 f fd ["levers", "prices"] (dW 2 gm) :=
 F.gk iX fun _ _ _ _ _ _ hr O=>by
 unfold eQ;have:=iX.nd;have T2:=T;cases T2
 walk_at "pp"
 refine(bU (g:=(aG 2)) O rfl (gF (by rfl) T.eS ?_) i_ (aL (i:=2) iX.nd) bw ?_)
 walk_at "pp"
 refine(mV (Bx rfl) EV (by rfl) T.G3 IW ?_)
 walk_at "pp"
 refine(kL ?_ (jq ?_)).pt
 walk_at "pp"
theorem w_:az ["numbers", "sizes"] ["numbers", "sizes"] (aq (top 28)):=.of
theorem p6:((["number", "size"]:List Str)++([]:List Str)).Nodup:=by decide +kernel
theorem Df(F:aE K "rests" "rests" (top 28) dv f fd)(T:Txt K mg)  : aQ P w K mg base (bV P w) 1 f fd ["numbers", "sizes"] (dW 2 jw) :=
 F.gk w_ fun _ _ _ _ _ _ hr O=>by
 unfold jl;have:=w_.nd;have T2:=T;cases T2
 walk_at "pp"
 refine(dI (bP (g:=(h9 K 2 (aY (aG 0) (aY (aG 1) hZ)))) (ts:=["number", "size"]) (fs:=[]) (js:=[]) (cl:=[]) rfl rfl rfl rfl rfl rfl .nil .nil (gP (by rfl) T.iy ?_) eT (fun _ _ _ _ _=>(cL (n:=2) rfl (aD (aL (i:=0) p6) (aD (aL (i:=1) p6) bL)))) (fun _=>bX) cx (fun _ _ _ _ _=>?_)))
 walk_at "pp"
theorem wO:az ["row", "times", "other", "others"] ["row", "times", "other", "others"] (aq (top 37)):=.of
theorem p5:((["one", "two"]:List Str)++(["times", "others"]:List Str)).Nodup:=by decide +kernel
theorem Ee(F:aE K "mixed" "mixed" (top 37) dv f fd)(T:Txt K mg)  : aQ P w K mg base (bV P w) 1 f fd ["row", "times", "other", "others"] (dW 4 k8) :=
 F.gk wO fun _ _ _ _ _ _ hr O=>by
 unfold lz;have:=wO.nd;have T2:=T;cases T2
 walk_at "pp"
 refine(dI (bP (g:=(h9 K 2 (aY (aG 0) (aY (aG 1) hZ)))) (ts:=["one", "two"]) (fs:=["times", "others"]) (js:=[1,3]) rfl rfl rfl rfl rfl rfl (.cons rfl (.cons rfl .nil)) (.cons rfl rfl (by walk_at "l") rfl rfl (.cons rfl rfl (by walk_at "l") rfl rfl .nil)) (gP (by rfl) T.iy ?_) eT (fun _ _ _ _ _=>(cL (n:=2) rfl (aD (aL (i:=0) p5) (aD (aL (i:=1) p5) bL)))) (fun _=>bX) cx (fun _ _ _ _ _=>?_)))
 walk_at "pp"
theorem lN:az ["sizes", "made", "times", "other", "others", "doing"] ["sizes", "made", "times", "other", "others"] (aq (top 38)):=.of
theorem sy(F:aE K "mixed_made" "mixed_made" (top 38) dv f fd)(T:Txt K mg)(o_mixed:bF P w K mg base 1 "mixed" 4 (av 4 lz))(o_rests:bF P w K mg base 1 "rests" 2 (av 2 jl)):aQ P w K mg base (bV P w) 2 f fd ["sizes", "made", "times", "other", "others"] (dW 5 dh) :=
 F.gk lN fun _ _ _ _ _ _ hr O=>by
 unfold dk;have:=lN.nd;have T2:=T;cases T2
 walk_at "pp"
theorem nG:az ["sizes", "made_rows", "dial", "notch"] ["sizes", "made_rows", "dial"] (aq (top 41)):=.of
theorem uF(F:aE K "step_size" "step_size" (top 41) dv f fd)(T:Txt K mg)  : aQ P w K mg base (bV P w) 1 f fd ["sizes", "made_rows", "dial"] (dW 3 cW) :=
 F.gk nG fun _ _ _ _ _ _ hr O=>by
 unfold da;have:=nG.nd;have T2:=T;cases T2
 walk_at "pp"
theorem iu:az ["sizes", "made_rows", "left", "wider", "dial", "made", "step", "notch", "found"] ["sizes", "made_rows", "left"] (aq (top 42)):=.of
theorem wV(F:aE K "taken_in" "taken_in" (top 42) dv f fd)(T:Txt K mg)(o_step_size:bF P w K mg base 1 "step_size" 3 (av 4 da))(o_common:bF P w K mg base 1 "common" 2 (av 6 jd))(o_mixed_made:bF P w K mg base 2 "mixed_made" 5 (av 6 dk)):aQ P w K mg base (bV P w) 3 f fd ["sizes", "made_rows", "left"] (dW 3 jh) :=
 F.gk iu fun _ _ _ _ _ _ hr O=>by
 unfold gK;have:=iu.nd;have T2:=T;cases T2
 walk_at "pp"
 refine(bU (g:=(h9 K 2 (aY (aG 4) (aY (aG 5) hZ)))) O rfl (oo (by rfl) T.c7 ?_) kY (cL (n:=2) rfl (aD (aL (i:=4) iu.nd) (aD (aL (i:=5) iu.nd) bL))) bX ?_)
 walk_at "pp"
theorem md:az ["sizes", "made_rows", "made", "first", "dial", "times"] ["sizes", "made_rows", "made", "first"] (aq (top 43)):=.of
theorem ym(F:aE K "lowered" "lowered" (top 43) dv f fd)(T:Txt K mg)(o_step_size:bF P w K mg base 1 "step_size" 3 (av 4 da))(o_mixed_made:bF P w K mg base 2 "mixed_made" 5 (av 6 dk)):aQ P w K mg base (bV P w) 3 f fd ["sizes", "made_rows", "made", "first"] (dW 4 gD) :=
 F.gk md fun _ _ _ _ _ _ hr O=>by
 unfold gE;have:=md.nd;have T2:=T;cases T2
 walk_at "pp"
 refine(bU (g:=(aG 4)) O rfl (AB (by rfl) T.eS ?_) Dt (aL (i:=4) md.nd) bw ?_)
 walk_at "pp"
theorem ka:az ["pulls", "idle_rows", "lever", "row"] ["pulls", "idle_rows"] (aq (top 44)):=.of
theorem vV(F:aE K "in_spans" "in_spans" (top 44) dv f fd)(T:Txt K mg)(o_mixed:bF P w K mg base 1 "mixed" 4 (av 4 lz)):aQ P w K mg base (bV P w) 2 f fd ["pulls", "idle_rows"] (dW 2 jn) :=
 F.gk ka fun _ _ _ _ _ _ hr O=>by
 unfold gM;have:=ka.nd;have T2:=T;cases T2
 walk_at "pp"
 refine(bU (g:=(aG 2)) O rfl (nM (by rfl) T.eS ?_) qr (aL (i:=2) ka.nd) bw ?_)
 walk_at "pp"
theorem mX:az ["_law_script", "_law_k"] ["_law_script", "_law_k"] (aq (top 49)):=.of
theorem vo(F:aE K "_law_cell" "_law_cell" (top 49) dv f fd)(T:Txt K mg)  : aQ P w K mg base (bV P w) 1 f fd ["_law_script", "_law_k"] (dW 2 ij) :=
 F.gk mX fun _ _ _ _ _ _ hr O=>by
 unfold fP;have:=mX.nd;have T2:=T;cases T2
 walk_at "pp"
theorem oB:az ["_law_cell_here", "_law_k", "_law_number"] ["_law_cell_here", "_law_k"] (aq (top 50)):=.of
theorem wL(F:aE K "_law_mix" "_law_mix" (top 50) dv f fd)(T:Txt K mg)  : aQ P w K mg base (bV P w) 1 f fd ["_law_cell_here", "_law_k"] (dW 2 bS) :=
 F.gk oB fun _ _ _ _ _ _ hr O=>by
 unfold dG;have:=oB.nd;have T2:=T;cases T2
 walk_at "pp"
theorem gT:az ["_law_cell_here", "_law_sizes_here", "_law_row", "_law_size_here"] ["_law_cell_here", "_law_sizes_here"] (aq (top 51)):=.of
theorem qX(F:aE K "_law_digits" "_law_digits" (top 51) dv f fd)(T:Txt K mg)  : aQ P w K mg base (bV P w) 1 f fd ["_law_cell_here", "_law_sizes_here"] (dW 2 bO) :=
 F.gk gT fun _ _ _ _ _ _ hr O=>by
 unfold cv;have:=gT.nd;have T2:=T;cases T2
 walk_at "pp"
 refine(bU (g:=(aG 3)) O rfl (g_ ?_) eM (aL (i:=3) gT.nd) bw ?_)
 walk_at "pp"
theorem mP:az ["_law_number"] ["_law_number"] (aq (top 52)):=.of
theorem vb(F:aE K "_law_size" "_law_size" (top 52) dv f fd)(T:Txt K mg)  : aQ P w K mg base (bV P w) 1 f fd ["_law_number"] (dW 1 dS) :=
 F.gk mP fun _ _ _ _ _ _ hr O=>by
 unfold fD;have:=mP.nd;have T2:=T;cases T2
 walk_at "pp"
 exact(pN [2,3,4,6,8,9,12])
 walk_at "pp"
 exact(pN [1,2,5,10,30])
 walk_at "pp"
theorem lP:az ["_law_cell_here", "_law_many"] ["_law_cell_here"] (aq (top 53)):=.of
theorem oY:((["_law_number"]:List Str)++([]:List Str)).Nodup:=by decide +kernel
theorem pz:((["_law_k"]:List Str)++(["_law_cell_here"]:List Str)).Nodup:=by decide +kernel
theorem sN(F:aE K "_law_sizes" "_law_sizes" (top 53) dv f fd)(T:Txt K mg)(o__law_digits:bF P w K mg base 1 "_law_digits" 2 (av 4 cv))(o__law_mix:bF P w K mg base 1 "_law_mix" 2 (av 3 dG))(o__law_size:bF P w K mg base 1 "_law_size" 1 (av 1 fD)):aQ P w K mg base (bV P w) 2 f fd ["_law_cell_here"] (dW 1 gc) :=
 F.gk lP fun _ _ _ _ _ _ hr O=>by
 unfold eO;have:=lP.nd;have T2:=T;cases T2
 walk_at "pp"
 refine(dI (bP (g:=(aG 0)) (ts:=["_law_number"]) (fs:=[]) (js:=[]) (cl:=[]) rfl rfl rfl rfl rfl rfl .nil .nil (g_ ?_) eM (fun _ _ _ _ _=>(aL (i:=0) oY)) (fun _=>bw) cu (fun _ _ _ _ _=>?_)))
 walk_at "pp"
 exact(pN [1,2,3,4,2,3,5,6])
 walk_at "pp"
 refine(dI (bP (g:=(aG 0)) (ts:=["_law_k"]) (fs:=["_law_cell_here"]) (js:=[0]) rfl rfl rfl rfl rfl rfl (.cons rfl .nil) (.cons rfl rfl (by walk_at "l") rfl rfl .nil) (gF (by rfl) T.eS ?_) i_ (fun _ _ _ _ _=>(aL (i:=0) pz)) (fun _=>bw) cu (fun _ _ _ _ _=>?_)))
 walk_at "pp"
theorem fz:az ["_law_cell_here", "_law_sizes_here", "_law_factor", "_law_row", "_law_k", "_law_size_here", "_law_number"] ["_law_cell_here", "_law_sizes_here"] (aq (top 54)):=.of
theorem sJ(F:aE K "_law_lever" "_law_lever" (top 54) dv f fd)(T:Txt K mg)(o__law_digits:bF P w K mg base 1 "_law_digits" 2 (av 4 cv))(o__law_mix:bF P w K mg base 1 "_law_mix" 2 (av 3 dG)):aQ P w K mg base (bV P w) 2 f fd ["_law_cell_here", "_law_sizes_here"] (dW 2 dq) :=
 F.gk fz fun _ _ _ _ _ _ hr O=>by
 unfold dY;have:=fz.nd;have T2:=T;cases T2
 walk_at "pp"
 exact(pN [1,2,3,6,12,30])
 walk_at "pp"
 refine(bU (g:=(h9 K 2 (aY (aG 4) (aY (aG 5) hZ)))) O rfl (oo (by rfl) T.c7 ?_) kY (cL (n:=2) rfl (aD (aL (i:=4) fz.nd) (aD (aL (i:=5) fz.nd) bL))) bX ?_)
 walk_at "pp"
theorem fv:az ["_law_sizes_here", "_law_found", "_law_size_here", "_law_one", "_law_other_here"] ["_law_sizes_here"] (aq (top 55)):=.of
theorem sP(F:aE K "_law_round" "_law_round" (top 55) dv f fd)(T:Txt K mg)  : aQ P w K mg base (bV P w) 1 f fd ["_law_sizes_here"] (dW 1 gz) :=
 F.gk fv fun _ _ _ _ _ _ hr O=>by
 unfold eR;have:=fv.nd;have T2:=T;cases T2
 walk_at "pp"
 refine(bU (g:=(aG 2)) O rfl (g_ ?_) eM (aL (i:=2) fv.nd) bw ?_)
 walk_at "pp"
 refine(wg O ?_ ?_)
 walk_at "pp"
 refine(J4 (i:=3) (j:=4) rfl fv.nd rfl rfl (by decide) rfl rfl ?_ ?_)
 walk_at "pp"
 exact rfl
 walk_at "pp"
theorem lW:az ["_law_weights", "_law_setting", "_law_sizes_here", "_law_around"] ["_law_weights", "_law_setting", "_law_sizes_here"] (aq (top 56)):=.of
theorem f7:((["_law_weight", "_law_notch", "_law_size_here"]:List Str)++(["_law_around"]:List Str)).Nodup:=by decide +kernel
theorem sD(F:aE K "_law_weigh" "_law_weigh" (top 56) dv f fd)(T:Txt K mg)(o__law_round:bF P w K mg base 1 "_law_round" 1 (av 5 eR)):aQ P w K mg base (bV P w) 2 f fd ["_law_weights", "_law_setting", "_law_sizes_here"] (dW 3 gA) :=
 F.gk lW fun _ _ _ _ _ _ hr O=>by
 unfold eI;have:=lW.nd;have T2:=T;cases T2
 walk_at "pp"
 refine(dI (bP (g:=(h9 K 3 (aY (aG 0) (aY (aG 1) (aY (aG 2) hZ))))) (ts:=["_law_weight", "_law_notch", "_law_size_here"]) (fs:=["_law_around"]) (js:=[3]) rfl rfl rfl rfl rfl rfl (.cons rfl .nil) (.cons rfl rfl (by walk_at "l") rfl rfl .nil) (zp (by rfl) T.iy ?_) v5 (fun _ _ _ _ _=>(cL (n:=3) rfl (aD (aL (i:=0) f7) (aD (aL (i:=1) f7) (aD (aL (i:=2) f7) bL))))) (fun _=>zz) pY (fun _ _ _ _ _=>?_)))
 walk_at "pp"
theorem gB:az ["_law_found", "_law_due", "_law_one", "_law_other_here"] ["_law_found", "_law_due"] (aq (top 57)):=.of
theorem vq(F:aE K "_law_like" "_law_like" (top 57) dv f fd)(T:Txt K mg)  : aQ P w K mg base (bV P w) 1 f fd ["_law_found", "_law_due"] (dW 2 ib) :=
 F.gk gB fun _ _ _ _ _ _ hr O=>by
 unfold fH;have:=gB.nd;have T2:=T;cases T2
 walk_at "pp"
 refine(kL ?_ (jq ?_)).pt
 walk_at "pp"
 refine(jI (T := "tuple") (by rfl) T.aV (dD (v:=.ty "tuple") (by rfl) T.mO kA rfl) (by decide) jC jC ?_)
 walk_at "pp"
 refine(bU (g:=(h9 K 2 (aY (aG 2) (aY (aG 3) hZ)))) O rfl (gP (by rfl) T.iy ?_) eT (cL (n:=2) rfl (aD (aL (i:=2) gB.nd) (aD (aL (i:=3) gB.nd) bL))) bX ?_)
 walk_at "pp"
 refine(kL ?_ (kL ?_ (jq ?_))).pt
 walk_at "pp"
 refine(jI (T := "int") (by rfl) T.aV (dD (v:=.ty "int") (by rfl) T.zu vF rfl) (by decide) jC jC ?_)
 walk_at "pp"
 refine(jI (T := "bool") (by rfl) T.aV (dD (v:=.ty "bool") (by rfl) T.uq vy rfl) (by decide) jC jC ?_)
 walk_at "pp"
theorem fL:az ["_law_rows", "_law_times", "_law_sizes_here", "_law_found", "_law_row", "_law_many"] ["_law_rows", "_law_times", "_law_sizes_here"] (aq (top 58)):=.of
theorem iO:((["_law_here", "_law_more", "_law_size_here"]:List Str)++(["_law_many"]:List Str)).Nodup:=by decide +kernel
theorem xg(F:aE K "_law_sum" "_law_sum" (top 58) dv f fd)(T:Txt K mg)  : aQ P w K mg base (bV P w) 1 f fd ["_law_rows", "_law_times", "_law_sizes_here"] (dW 3 dJ) :=
 F.gk fL fun _ _ _ _ _ _ hr O=>by
 unfold gW;have:=fL.nd;have T2:=T;cases T2
 walk_at "pp"
 refine(bU (g:=(h9 K 2 (aY (aG 4) (aY (aG 5) hZ)))) O rfl (gP (by rfl) T.iy ?_) eT (cL (n:=2) rfl (aD (aL (i:=4) fL.nd) (aD (aL (i:=5) fL.nd) bL))) bX ?_)
 walk_at "pp"
 refine(jM (i:=3) (g:=(h9 K 3 (aY (aG 0) (aY (aG 1) (aY (aG 2) hZ))))) (ts:=["_law_here", "_law_more", "_law_size_here"]) (fs:=["_law_many"]) (js:=[5]) rfl rfl rfl rfl rfl rfl (.cons rfl .nil) (.cons rfl rfl (by walk_at "l") rfl rfl .nil) (zp (by rfl) T.iy ?_) v5 (fun _ _ _ _ _=>(cL (n:=3) rfl (aD (aL (i:=0) iO) (aD (aL (i:=1) iO) (aD (aL (i:=2) iO) bL))))) (fun _=>zz) pY (fun _ _ _ _ _=>?_) fL.nd rfl (by walk_at "l"))
 walk_at "pp"
theorem fB:az ["_law_times", "_law_steps", "_law_many", "_law_step"] ["_law_times", "_law_steps"] (aq (top 59)):=.of
theorem sq(F:aE K "_law_below" "_law_below" (top 59) dv f fd)(T:Txt K mg)  : aQ P w K mg base (bV P w) 1 f fd ["_law_times", "_law_steps"] (dW 2 eK) :=
 F.gk fB fun _ _ _ _ _ _ hr O=>by
 unfold dZ;have:=fB.nd;have T2:=T;cases T2
 walk_at "pp"
 refine(kL ?_ (jq ?_)).pt
 walk_at "pp"
 refine(jI (T := "tuple") (by rfl) T.aV (dD (v:=.ty "tuple") (by rfl) T.mO kA rfl) (by decide) jC jC ?_)
 walk_at "pp"
 refine(bU (g:=(h9 K 2 (aY (aG 2) (aY (aG 3) hZ)))) O rfl (gP (by rfl) T.iy ?_) eT (cL (n:=2) rfl (aD (aL (i:=2) fB.nd) (aD (aL (i:=3) fB.nd) bL))) bX ?_)
 walk_at "pp"
 refine(kL ?_ (kL ?_ (jq ?_))).pt
 walk_at "pp"
 refine(jI (T := "int") (by rfl) T.aV (dD (v:=.ty "int") (by rfl) T.zu vF rfl) (by decide) jC jC ?_)
 walk_at "pp"
 refine(jI (T := "bool") (by rfl) T.aV (dD (v:=.ty "bool") (by rfl) T.uq vy rfl) (by decide) jC jC ?_)
 walk_at "pp"
 refine(DF ug oz z8 uD ?_ ?_ ?_)
 walk_at "pp"
theorem iW:az ["_law_weights", "_law_levers", "_law_sizes_here", "_law_lever_here"] ["_law_weights", "_law_levers", "_law_sizes_here"] (aq (top 60)):=.of
theorem sT(F:aE K "_law_still" "_law_still" (top 60) dv f fd)(T:Txt K mg)(o__law_weigh:bF P w K mg base 2 "_law_weigh" 3 (av 4 eI)):aQ P w K mg base (bV P w) 3 f fd ["_law_weights", "_law_levers", "_law_sizes_here"] (dW 3 gy) :=
 F.gk iW fun _ _ _ _ _ _ hr O=>by
 unfold eE;have:=iW.nd;have T2:=T;cases T2
 walk_at "pp"
 refine(bU (g:=(aG 3)) O rfl (g_ ?_) eM (aL (i:=3) iW.nd) bw ?_)
 walk_at "pp"
theorem lT:az ["_law_cell_here", "_law_weights", "_law_sizes_here", "_law_at", "_law_some"] ["_law_cell_here", "_law_weights", "_law_sizes_here"] (aq (top 62)):=.of
theorem rT(F:aE K "_law_other" "_law_other" (top 62) dv f fd)(T:Txt K mg)  : aQ P w K mg base (bV P w) 1 f fd ["_law_cell_here", "_law_weights", "_law_sizes_here"] (dW 3 gf) :=
 F.gk lT fun _ _ _ _ _ _ hr O=>by
 unfold eD;have:=lT.nd;have T2:=T;cases T2
 walk_at "pp"
 refine(dQ ?_ kZ (fm ?_))
 walk_at "pp"
 refine(dQ ?_ (fm ?_) kZ)
 walk_at "pp"
 refine(dQ ?_ kZ (fm ?_))
 walk_at "pp"
 refine(dQ ?_ (fm ?_) kZ)
 walk_at "pp"
theorem lY:az ["self", "sizes", "levers", "prices"] ["self", "sizes", "levers", "prices"] (aq (inClass (top 23) 0)):=.of
theorem pd:((["lever"]:List Str)++(["sizes"]:List Str)).Nodup:=by decide +kernel
theorem sA(F:aE K "__init__" "Vault.__init__" (inClass (top 23) 0) dv f fd)(T:Txt K mg)(o_need_sizes:bF P w K mg base 3 "need_sizes" 1 (av 3 eh))(o_need_levers:bF P w K mg base 3 "need_levers" 2 (av 4 dA))(o_rests:bF P w K mg base 1 "rests" 2 (av 2 jl))(o_prices_for:bF P w K mg base 3 "prices_for" 2 (av 3 eQ))(o_multiple_of:bF P w K mg base 2 "multiple_of" 1 (av 3 dC)):aQ P w K mg base (bV P w) 4 f fd ["self", "sizes", "levers", "prices"] (Hg 4 ay ic) :=
 F.SM lY (by decide) fun _ _ _ _ _ _ hr O=>by
 unfold jt;have:=lY.nd;have T2:=T;cases T2
 walk_at "pp"
 refine(ml (i:=0) rfl (by first | exact .inl rfl | exact .inr (.inl rfl)) T.ng T.gQ ?_)
 walk_at "pp"
 refine(ml (i:=0) rfl (by first | exact .inl rfl | exact .inr (.inl rfl)) T.ng T.eG ?_)
 walk_at "pp"
 refine(dI (bP (g:=(aG 0)) (ts:=["lever"]) (fs:=["sizes"]) (js:=[1]) rfl rfl rfl rfl rfl rfl (.cons rfl .nil) (.cons rfl rfl (by walk_at "l") rfl rfl .nil) (g_ ?_) eM (fun _ _ _ _ _=>(aL (i:=0) pd)) (fun _=>bw) cu (fun _ _ _ _ _=>?_)))
 walk_at "pp"
 refine(ml (i:=0) rfl (by first | exact .inl rfl | exact .inr (.inl rfl)) T.ng T.fK ?_)
 walk_at "pp"
 refine(ml (i:=0) rfl (by first | exact .inl rfl | exact .inr (.inl rfl)) T.ng T.f_ ?_)
 walk_at "pp"
theorem kM:az ["self"] ["self"] (aq (inClass (top 23) 1)):=.of
theorem rN(F:aE K "sizes" "Vault.sizes" (inClass (top 23) 1) dv f fd)(T:Txt K mg)  : aQ P w K mg base (bV P w) 1 f fd ["self"] (dW 1 aS) :=
 F.gk kM fun _ _ _ _ _ _ hr O=>by
 unfold aU;have:=kM.nd;have T2:=T;cases T2
 walk_at "pp"
theorem jY:az ["self"] ["self"] (aq (inClass (top 23) 2)):=.of
theorem pA(F:aE K "levers" "Vault.levers" (inClass (top 23) 2) dv f fd)(T:Txt K mg)  : aQ P w K mg base (bV P w) 1 f fd ["self"] (dW 1 bg) :=
 F.gk jY fun _ _ _ _ _ _ hr O=>by
 unfold bx;have:=jY.nd;have T2:=T;cases T2
 walk_at "pp"
theorem jX:az ["self"] ["self"] (aq (inClass (top 23) 3)):=.of
theorem pC(F:aE K "prices" "Vault.prices" (inClass (top 23) 3) dv f fd)(T:Txt K mg)  : aQ P w K mg base (bV P w) 1 f fd ["self"] (dW 1 rO) :=
 F.gk jX fun _ _ _ _ _ _ hr O=>by
 unfold gZ;have:=jX.nd;have T2:=T;cases T2
 walk_at "pp"
theorem jU:az ["self"] ["self"] (aq (inClass (top 23) 4)):=.of
theorem pD(F:aE K "around" "Vault.around" (inClass (top 23) 4) dv f fd)(T:Txt K mg)  : aQ P w K mg base (bV P w) 1 f fd ["self"] (dW 1 cC) :=
 F.gk jU fun _ _ _ _ _ _ hr O=>by
 unfold cD;have:=jU.nd;have T2:=T;cases T2
 walk_at "pp"
theorem ku:az ["self", "sizes"] ["self"] (aq (inClass (top 45) 1)):=.of
theorem nK:((["dial"]:List Str)++(["self", "sizes"]:List Str)).Nodup:=by decide +kernel
theorem pQ(F:aE K "steps" "Rungs.steps" (inClass (top 45) 1) dv f fd)(T:Txt K mg)(o_Vault_sizes:kq P w K mg base ay 1 "sizes" 1 (av 1 aU))(o_step_size:bF P w K mg base 1 "step_size" 3 (av 4 da)):aQ P w K mg base (bV P w) 2 f fd ["self"] (dW 1 cR) :=
 F.gk ku fun _ _ _ _ _ _ hr O=>by
 unfold cw;have:=ku.nd;have T2:=T;cases T2
 walk_at "pp"
 refine(dI (bP (g:=(aG 0)) (ts:=["dial"]) (fs:=["self", "sizes"]) (js:=[0,1]) rfl rfl rfl rfl rfl rfl (.cons rfl (.cons rfl .nil)) (.cons rfl rfl (by walk_at "l") rfl rfl (.cons rfl rfl (by walk_at "l") rfl rfl .nil)) (gF (by rfl) T.eS ?_) i_ (fun _ _ _ _ _=>(aL (i:=0) nK)) (fun _=>bw) cu (fun _ _ _ _ _=>?_)))
 walk_at "pp"
theorem tY:az ["vault"] ["vault"] (aq (top 29)):=.of
theorem AI(F:aE K "nought" "nought" (top 29) dv f fd)(T:Txt K mg)(o_Vault_sizes:kq P w K mg base ay 1 "sizes" 1 (av 1 aU)):aQ P w K mg base (bV P w) 2 f fd ["vault"] (dW 1 ky) :=
 F.gk tY fun _ _ _ _ _ _ hr O=>by
 unfold kQ;have:=tY.nd;have T2:=T;cases T2
 walk_at "pp"
theorem lS:az ["vault", "thing", "sizes"] ["vault", "thing"] (aq (top 30)):=.of
theorem jZ:((["notch", "size"]:List Str)++([]:List Str)).Nodup:=by decide +kernel
theorem rZ(F:aE K "is_setting" "is_setting" (top 30) dv f fd)(T:Txt K mg)(o_Vault_sizes:kq P w K mg base ay 1 "sizes" 1 (av 1 aU))(o_is_row:bF P w K mg base 2 "is_row" 2 (av 2 i7)):aQ P w K mg base (bV P w) 3 f fd ["vault", "thing"] (dW 2 aR) :=
 F.gk lS fun _ _ _ _ _ _ hr O=>by
 unfold ck;have:=lS.nd;have T2:=T;cases T2
 walk_at "pp"
 refine(kL ?_ (jq ?_)).pt
 walk_at "pp"
 refine(jI (T := "tuple") (by rfl) T.aV (dD (v:=.ty "tuple") (by rfl) T.mO kA rfl) (by decide) jC jC ?_)
 walk_at "pp"
 refine(dI (bP (g:=(h9 K 2 (aY (aG 0) (aY (aG 1) hZ)))) (ts:=["notch", "size"]) (fs:=[]) (js:=[]) (cl:=[]) rfl rfl rfl rfl rfl rfl .nil .nil (gP (by rfl) T.iy ?_) eT (fun _ _ _ _ _=>(cL (n:=2) rfl (aD (aL (i:=0) jZ) (aD (aL (i:=1) jZ) bL)))) (fun _=>bX) cx (fun _ _ _ _ _=>?_)))
 walk_at "pp"
 refine(wD ug oz z8 uD ?_ ?_ ?_)
 walk_at "pp"
theorem jV:az ["vault", "thing"] ["vault", "thing"] (aq (top 31)):=.of
theorem o_(F:aE K "need_setting" "need_setting" (top 31) dv f fd)(T:Txt K mg)(o_is_setting:bF P w K mg base 3 "is_setting" 2 (av 3 ck)):aQ P w K mg base (bV P w) 4 f fd ["vault", "thing"] (dW 2 bh) :=
 F.gk jV fun _ _ _ _ _ _ hr O=>by
 unfold bB;have:=jV.nd;have T2:=T;cases T2
 walk_at "pp"
theorem pX:az ["vault", "setting", "other", "times", "numbers"] ["vault", "setting", "other", "times"] (aq (top 32)):=.of
theorem pW:((["notch", "turn"]:List Str)++(["times"]:List Str)).Nodup:=by decide +kernel
theorem Ck(F:aE K "added" "added" (top 32) dv f fd)(T:Txt K mg)(o_Vault_sizes:kq P w K mg base ay 1 "sizes" 1 (av 1 aU))(o_rests:bF P w K mg base 1 "rests" 2 (av 2 jl)):aQ P w K mg base (bV P w) 2 f fd ["vault", "setting", "other", "times"] (dW 4 pH) :=
 F.gk pX fun _ _ _ _ _ _ hr O=>by
 unfold mQ;have:=pX.nd;have T2:=T;cases T2
 walk_at "pp"
 refine(jM (i:=4) (g:=(h9 K 2 (aY (aG 0) (aY (aG 1) hZ)))) (ts:=["notch", "turn"]) (fs:=["times"]) (js:=[3]) rfl rfl rfl rfl rfl rfl (.cons rfl .nil) (.cons rfl rfl (by walk_at "l") rfl rfl .nil) (gP (by rfl) T.iy ?_) eT (fun _ _ _ _ _=>(cL (n:=2) rfl (aD (aL (i:=0) pW) (aD (aL (i:=1) pW) bL)))) (fun _=>bX) cx (fun _ _ _ _ _=>?_) pX.nd rfl (by walk_at "l"))
 walk_at "pp"
theorem qY:az ["vault", "weights", "setting", "around", "worths"] ["vault", "weights", "setting"] (aq (top 34)):=.of
theorem qI:((["weight", "size"]:List Str)++(["around"]:List Str)).Nodup:=by decide +kernel
theorem CM(F:aE K "weigh" "weigh" (top 34) dv f fd)(T:Txt K mg)(o_need_setting:bF P w K mg base 4 "need_setting" 2 (av 2 bB))(o_Vault_around:kq P w K mg base ay 1 "around" 1 (av 1 cD))(o_Vault_sizes:kq P w K mg base ay 1 "sizes" 1 (av 1 aU))(o_rest_sum:bF P w K mg base 1 "rest_sum" 3 (av 3 hX)):aQ P w K mg base (bV P w) 5 f fd ["vault", "weights", "setting"] (dW 3 lF) :=
 F.gk qY fun _ _ _ _ _ _ hr O=>by
 unfold lp;have:=qY.nd;have T2:=T;cases T2
 walk_at "pp"
 refine(jM (i:=4) (g:=(h9 K 2 (aY (aG 0) (aY (aG 1) hZ)))) (ts:=["weight", "size"]) (fs:=["around"]) (js:=[3]) rfl rfl rfl rfl rfl rfl (.cons rfl .nil) (.cons rfl rfl (by walk_at "l") rfl rfl .nil) (gP (by rfl) T.iy ?_) eT (fun _ _ _ _ _=>(cL (n:=2) rfl (aD (aL (i:=0) qI) (aD (aL (i:=1) qI) bL)))) (fun _=>bX) cx (fun _ _ _ _ _=>?_) qY.nd rfl (by walk_at "l"))
 walk_at "pp"
theorem gO:az ["vault", "weights"] ["vault", "weights"] (aq (top 35)):=.of
theorem kN:((["lever"]:List Str)++(["vault", "weights"]:List Str)).Nodup:=by decide +kernel
theorem mw(F:aE K "weighs_no_lever" "weighs_no_lever" (top 35) dv f fd)(T:Txt K mg)(o_Vault_levers:kq P w K mg base ay 1 "levers" 1 (av 1 bx))(o_weigh:bF P w K mg base 5 "weigh" 3 (av 5 lp)):aQ P w K mg base (bV P w) 6 f fd ["vault", "weights"] (dW 2 cT) :=
 F.gk gO fun _ _ _ _ _ _ hr O=>by
 unfold b_;have:=gO.nd;have T2:=T;cases T2
 walk_at "pp"
 refine(dI (bP (g:=(aG 0)) (ts:=["lever"]) (fs:=["vault", "weights"]) (js:=[0,1]) rfl rfl rfl rfl rfl rfl (.cons rfl (.cons rfl .nil)) (.cons rfl rfl (by walk_at "l") rfl rfl (.cons rfl rfl (by walk_at "l") rfl rfl .nil)) (g_ ?_) eM (fun _ _ _ _ _=>(aL (i:=0) kN)) (fun _=>bw) cu (fun _ _ _ _ _=>?_)))
 walk_at "pp"
theorem oI:az ["vault", "setting"] ["vault", "setting"] (aq (top 39)):=.of
theorem vT(F:aE K "unpulled" "unpulled" (top 39) dv f fd)(T:Txt K mg)(o_Vault_levers:kq P w K mg base ay 1 "levers" 1 (av 1 bx)):aQ P w K mg base (bV P w) 2 f fd ["vault", "setting"] (dW 2 e_) :=
 F.gk oI fun _ _ _ _ _ _ hr O=>by
 unfold fe;have:=oI.nd;have T2:=T;cases T2
 walk_at "pp"
theorem kb:az ["vault", "lever", "levers"] ["vault", "lever"] (aq (top 40)):=.of
theorem qf(F:aE K "pulled_once" "pulled_once" (top 40) dv f fd)(T:Txt K mg)(o_Vault_levers:kq P w K mg base ay 1 "levers" 1 (av 1 bx))(o_unit_row:bF P w K mg base 1 "unit_row" 2 (av 2 g9)):aQ P w K mg base (bV P w) 2 f fd ["vault", "lever"] (dW 2 fy) :=
 F.gk kb fun _ _ _ _ _ _ hr O=>by
 unfold dB;have:=kb.nd;have T2:=T;cases T2
 walk_at "pp"
theorem iV:az ["self", "vault", "sizes", "made_rows", "idle_rows", "lever", "taken"] ["self", "vault"] (aq (inClass (top 45) 0)):=.of
theorem pq:((["size"]:List Str)++(["vault"]:List Str)).Nodup:=by decide +kernel
theorem j3:((["dial", "made"]:List Str)++(["sizes", "made_rows"]:List Str)).Nodup:=by decide +kernel
theorem sx(F:aE K "__init__" "Rungs.__init__" (inClass (top 45) 0) dv f fd)(T:Txt K mg)(o_Vault_sizes:kq P w K mg base ay 1 "sizes" 1 (av 1 aU))(o_nought:bF P w K mg base 2 "nought" 1 (av 1 kQ))(o_unpulled:bF P w K mg base 2 "unpulled" 2 (av 2 fe))(o_Vault_levers:kq P w K mg base ay 1 "levers" 1 (av 1 bx))(o_pulled_once:bF P w K mg base 2 "pulled_once" 2 (av 3 dB))(o_taken_in:bF P w K mg base 3 "taken_in" 3 (av 9 gK))(o_in_spans:bF P w K mg base 2 "in_spans" 2 (av 4 gM))(o_lowered:bF P w K mg base 3 "lowered" 4 (av 6 gE)):aQ P w K mg base (bV P w) 4 f fd ["self", "vault"] (Hg 2 aB fg) :=
 F.SM iV (by decide) fun _ _ _ _ _ _ hr O=>by
 unfold jy;have:=iV.nd;have T2:=T;cases T2
 walk_at "pp"
 refine(dI (bP (g:=(aG 0)) (ts:=["size"]) (fs:=["vault"]) (js:=[1]) rfl rfl rfl rfl rfl rfl (.cons rfl .nil) (.cons rfl rfl (by walk_at "l") rfl rfl .nil) (g_ ?_) eM (fun _ _ _ _ _=>(aL (i:=0) pq)) (fun _=>bw) cu (fun _ _ _ _ _=>?_)))
 walk_at "pp"
 refine(bU (g:=(aG 5)) O rfl (gF (by rfl) T.eS ?_) i_ (aL (i:=5) iV.nd) bw ?_)
 walk_at "pp"
 refine(vj 4 ?_)
 walk_at "pp"
 refine(ml (i:=0) rfl (by first | exact .inl rfl | exact .inr (.inl rfl)) T.pO T.lX ?_)
 walk_at "pp"
 refine(ml (i:=0) rfl (by first | exact .inl rfl | exact .inr (.inl rfl)) T.pO T.ix ?_)
 walk_at "pp"
 refine(dI (bP (g:=(h9 K 2 (aY (aG 0) (aY (aG 1) hZ)))) (ts:=["dial", "made"]) (fs:=["sizes", "made_rows"]) (js:=[2,3]) rfl rfl rfl rfl rfl rfl (.cons rfl (.cons rfl .nil)) (.cons rfl rfl (by walk_at "l") rfl rfl (.cons rfl rfl (by walk_at "l") rfl rfl .nil)) (oo (by rfl) T.c7 ?_) kY (fun _ _ _ _ _=>(cL (n:=2) rfl (aD (aL (i:=0) j3) (aD (aL (i:=1) j3) bL)))) (fun _=>bX) cx (fun _ _ _ _ _=>?_)))
 walk_at "pp"
 refine(ml (i:=0) rfl (by first | exact .inl rfl | exact .inr (.inl rfl)) T.pO T.iw ?_)
 walk_at "pp"
theorem eV:az ["self", "setting"] ["self", "setting"] (aq (inClass (top 45) 5)):=.of
theorem j8(F:aE K "brought_down" "Rungs.brought_down" (inClass (top 45) 5) dv f fd)(T:Txt K mg)(o_need_setting:bF P w K mg base 4 "need_setting" 2 (av 2 bB))(o_unpulled:bF P w K mg base 2 "unpulled" 2 (av 2 fe))(o_Vault_sizes:kq P w K mg base ay 1 "sizes" 1 (av 1 aU))(o_lowered:bF P w K mg base 3 "lowered" 4 (av 6 gE)):aQ P w K mg base (bV P w) 5 f fd ["self", "setting"] (dW 2 fM) :=
 F.gk eV fun _ _ _ _ _ _ hr O=>by
 unfold cm;have:=eV.nd;have T2:=T;cases T2
 walk_at "pp"
theorem kj:az ["self", "setting"] ["self", "setting"] (aq (inClass (top 45) 6)):=.of
theorem rC(F:aE K "least" "Rungs.least" (inClass (top 45) 6) dv f fd)(T:Txt K mg)(o_Rungs_brought_down:kq P w K mg base aB 5 "brought_down" 2 (av 2 cm)):aQ P w K mg base (bV P w) 6 f fd ["self", "setting"] (dW 2 rV) :=
 F.gk kj fun _ _ _ _ _ _ hr O=>by
 unfold iD;have:=kj.nd;have T2:=T;cases T2
 walk_at "pp"
theorem cA:az ["self", "dial", "sizes", "fills", "weights", "ahead", "weighed", "share"] ["self", "dial"] (aq (inClass (top 45) 8)):=.of
theorem eY:((["size", "step"]:List Str)++([]:List Str)).Nodup:=by decide +kernel
theorem lG(F:aE K "weights_at" "Rungs.weights_at" (inClass (top 45) 8) dv f fd)(T:Txt K mg)(o_Vault_sizes:kq P w K mg base ay 1 "sizes" 1 (av 1 aU))(o_is_within:bF P w K mg base 2 "is_within" 3 (av 3 c6))(x_NoDial:sM P w K mg base cM "NoDial" "dial")(o_Rungs_steps:kq P w K mg base aB 2 "steps" 1 (av 2 cw))(o_weigh:bF P w K mg base 5 "weigh" 3 (av 5 lp))(o_Vault_around:kq P w K mg base ay 1 "around" 1 (av 1 cD)):aQ P w K mg base (bV P w) 6 f fd ["self", "dial"] (dW 2 aX) :=
 F.gk cA fun _ _ _ _ _ _ hr O=>by
 unfold br;have:=cA.nd;have T2:=T;cases T2
 walk_at "pp"
 refine(jM (i:=3) (g:=(h9 K 2 (aY (aG 0) (aY (aG 1) hZ)))) (ts:=["size", "step"]) (fs:=[]) (js:=[]) (cl:=[]) rfl rfl rfl rfl rfl rfl .nil .nil (gP (by rfl) T.iy ?_) eT (fun _ _ _ _ _=>(cL (n:=2) rfl (aD (aL (i:=0) eY) (aD (aL (i:=1) eY) bL)))) (fun _=>bX) cx (fun _ _ _ _ _=>?_) cA.nd rfl (by walk_at "l"))
 walk_at "pp"
 refine(CU ?_ ?_)
 walk_at "pp"
 refine(DV (i:=4) rfl (by first | exact .inl rfl | exact .inr (.inl rfl)) ?_ ?_)
 walk_at "pp"
 refine(bU (g:=(aG 5)) O rfl (nM (by rfl) T.eS ?_) qr (aL (i:=5) cA.nd) bw ?_)
 walk_at "pp"
 refine(vj 4 ?_)
 walk_at "pp"
 refine(DV (i:=4) rfl (by first | exact .inl rfl | exact .inr (.inl rfl)) ?_ ?_)
 walk_at "pp"
theorem jL:az ["vault", "weights", "rungs", "fills", "times", "left", "dial"] ["vault", "weights"] (aq (top 47)):=.of
theorem m9:((["size", "step"]:List Str)++([]:List Str)).Nodup:=by decide +kernel
theorem xY(F:aE K "written" "written" (top 47) dv f fd)(T:Txt K mg)(o_need_setting:bF P w K mg base 4 "need_setting" 2 (av 2 bB))(o_weighs_no_lever:bF P w K mg base 6 "weighs_no_lever" 2 (av 2 b_))(o_Rungs_init:G0 P w K mg base aB 4 "Rungs" 2 [] fg)(o_Rungs_steps:kq P w K mg base aB 2 "steps" 1 (av 2 cw))(o_Vault_sizes:kq P w K mg base ay 1 "sizes" 1 (av 1 aU))(o_Rungs_weights_at:kq P w K mg base aB 6 "weights_at" 2 (av 8 br))(o_added:bF P w K mg base 2 "added" 4 (av 5 mQ)):aQ P w K mg base (bV P w) 7 f fd ["vault", "weights"] (dW 2 bW) :=
 F.gk jL fun _ _ _ _ _ _ hr O=>by
 unfold dN;have:=jL.nd;have T2:=T;cases T2
 walk_at "pp"
 refine(jM (i:=3) (g:=(h9 K 2 (aY (aG 0) (aY (aG 1) hZ)))) (ts:=["size", "step"]) (fs:=[]) (js:=[]) (cl:=[]) rfl rfl rfl rfl rfl rfl .nil .nil (gP (by rfl) T.iy ?_) eT (fun _ _ _ _ _=>(cL (n:=2) rfl (aD (aL (i:=0) m9) (aD (aL (i:=1) m9) bL)))) (fun _=>bX) cx (fun _ _ _ _ _=>?_) jL.nd rfl (by walk_at "l"))
 walk_at "pp"
 refine(CU ?_ ?_)
 walk_at "pp"
 refine(bU (g:=(aG 6)) O rfl (nM (by rfl) T.eS ?_) qr (aL (i:=6) jL.nd) bw ?_)
 walk_at "pp"
 refine(DV (i:=4) rfl (by first | exact .inl rfl | exact .inr (.inl rfl)) ?_ ?_)
 walk_at "pp"
 refine(vj 4 ?_)
 walk_at "pp"
theorem fZ:az ["_law_vault", "_law_thing", "_law_error", "e"] ["_law_vault", "_law_thing"] (aq (top 61)):=.of
theorem oZ(F:aE K "_law_refused" "_law_refused" (top 61) dv f fd)(T:Txt K mg)(o_written:bF P w K mg base 7 "written" 2 (av 7 dN)):aQ P w K mg base (bV P w) 8 f fd ["_law_vault", "_law_thing"] (dW 2 eJ) :=
 F.gk fZ fun _ _ _ _ _ _ hr O=>by
 unfold cY;have:=fZ.nd;have T2:=T;cases T2
 walk_at "pp"
 refine(Hw rfl rfl (fun pn E2 O2=>(E1 ?_)) (.G6 (i:=3) (by rfl) T.jF.mg (by decide) fZ.nd rfl rfl T.jF.ok (fun ea=>?_) .nil))
 walk_at "pp"
 refine(vp ?_ (vp ?_ (yk ?_)))
 walk_at "pp"
 refine(T.oC.is (by rfl) T.aV (by rfl) ?_)
 walk_at "pp"
 refine(EL (by rfl) T.aV (dD (v:=.ty "ValueError") (by rfl) T.mY sH rfl) T.SA ?_)
 walk_at "pp"
 refine(Cp ?_)
 walk_at "pp"
 refine(T.sZ.is (by rfl) T.aV (by rfl) ?_)
 walk_at "pp"
theorem qa:az ["_law_script", "_law_sizes_here", "_law_levers", "_law_vault", "_law_rungs", "_law_steps", "_law_rows", "_law_cell_here", "_law_times", "_law_weights", "_law_at", "_law_more", "_law_other_here", "_law_found"] ["_law_script"] (aq (top 63)):=.of
theorem Cw:((["_law_cell_here"]:List Str)++(["_law_sizes_here"]:List Str)).Nodup:=by decide +kernel
theorem Dz:((["_law_dial"]:List Str)++(["_law_rungs"]:List Str)).Nodup:=by decide +kernel
theorem wA:((["_law_k", "_law_step"]:List Str)++(["_law_cell_here"]:List Str)).Nodup:=by decide +kernel
theorem JR(F:aE K "law" "law" (top 63) dv f fd)(T:Txt K mg)(o__law_cell:bF P w K mg base 1 "_law_cell" 2 (av 2 fP))(o__law_sizes:bF P w K mg base 2 "_law_sizes" 1 (av 2 eO))(o__law_lever:bF P w K mg base 2 "_law_lever" 2 (av 7 dY))(o_Vault_init:G0 P w K mg base ay 4 "Vault" 4 [.cz] ic)(o_Rungs_init:G0 P w K mg base aB 4 "Rungs" 2 [] fg)(o_Rungs_steps:kq P w K mg base aB 2 "steps" 1 (av 2 cw))(o_Rungs_weights_at:kq P w K mg base aB 6 "weights_at" 2 (av 8 br))(o__law_digits:bF P w K mg base 1 "_law_digits" 2 (av 4 cv))(o__law_mix:bF P w K mg base 1 "_law_mix" 2 (av 3 dG))(o__law_sum:bF P w K mg base 1 "_law_sum" 3 (av 6 gW))(o_written:bF P w K mg base 7 "written" 2 (av 7 dN))(o__law_like:bF P w K mg base 1 "_law_like" 2 (av 4 fH))(o__law_other:bF P w K mg base 1 "_law_other" 3 (av 5 eD))(o__law_refused:bF P w K mg base 8 "_law_refused" 2 (av 4 cY))(o__law_still:bF P w K mg base 3 "_law_still" 3 (av 4 eE))(o__law_below:bF P w K mg base 1 "_law_below" 2 (av 4 dZ)):aQ P w K mg base (bV P w) 9 f fd ["_law_script"] (dW 1 t_) :=
 F.gk qa fun _ _ _ _ _ _ hr O=>by
 unfold C_;have:=qa.nd;have T2:=T;cases T2
 walk_at "pp"
 refine(jM (i:=2) (g:=(aG 0)) (ts:=["_law_cell_here"]) (fs:=["_law_sizes_here"]) (js:=[1]) rfl rfl rfl rfl rfl rfl (.cons rfl .nil) (.cons rfl rfl (by walk_at "l") rfl rfl .nil) (g_ ?_) eM (fun _ _ _ _ _=>(aL (i:=0) Cw)) (fun _=>bw) cu (fun _ _ _ _ _=>?_) qa.nd rfl (by walk_at "l"))
 walk_at "pp"
 refine(dQ ?_ (fm ?_) (fm ?_))
 walk_at "pp"
 refine(jM (i:=6) (g:=(aG 0)) (ts:=["_law_dial"]) (fs:=["_law_rungs"]) (js:=[4]) rfl rfl rfl rfl rfl rfl (.cons rfl .nil) (.cons rfl rfl (by walk_at "l") rfl rfl .nil) (gF (by rfl) T.eS ?_) i_ (fun _ _ _ _ _=>(aL (i:=0) Dz)) (fun _=>bw) cu (fun _ _ _ _ _=>?_) qa.nd rfl (by walk_at "l"))
 walk_at "pp"
 refine(bU (g:=(aG 7)) O rfl (g_ ?_) eM (aL (i:=7) qa.nd) bw ?_)
 walk_at "pp"
 refine(dQ ?_ (fm ?_) (fm ?_))
 walk_at "pp"
 refine(dI (bP (g:=(h9 K 2 (aY (aG 0) (aY (aG 1) hZ)))) (ts:=["_law_k", "_law_step"]) (fs:=["_law_cell_here"]) (js:=[7]) rfl rfl rfl rfl rfl rfl (.cons rfl .nil) (.cons rfl rfl (by walk_at "l") rfl rfl .nil) (oo (by rfl) T.c7 ?_) kY (fun _ _ _ _ _=>(cL (n:=2) rfl (aD (aL (i:=0) wA) (aD (aL (i:=1) wA) bL)))) (fun _=>bX) cx (fun _ _ _ _ _=>?_)))
 walk_at "pp"
 refine(kL ?_ (jq ?_)).pt
 walk_at "pp"
 refine(dQ ?_ kZ (fm ?_))
 walk_at "pp"
 refine(dQ ?_ (fm ?_) kZ)
 walk_at "pp"
 refine(kL ?_ (jq ?_)).pt
 walk_at "pp"
end xK
namespace xK
open PySem L2 PyProof.Rows
open PySem.W (nsIn findIn codeIn keepIn isFn mroIn specialIn takesIn hasDictIn typeIn plainGet plainOver makesIn mg_of mg_none_of fnOf excIn clsIn)
noncomputable abbrev κ(w:World):PySem.W.Frag:=HD.K w.params
variable(w:World)
def kH:FuncData:=fJ "is_whole" "is_whole" (top 10) (HD.st "dialvault.wholes" 386) 182
theorem qj:aE (κ w) "is_whole" "is_whole" (top 10) .none 183 kH:=.of (by kernel_rfl) (by kernel_rfl) (by kernel_rfl)
theorem xW:Binds (κ w) kH ["thing"] []:=Binds.all (BA fun _=>rfl)
def og:FuncData:=fJ "is_row" "is_row" (top 11) (HD.st "dialvault.wholes" 386) 187
theorem xD:aE (κ w) "is_row" "is_row" (top 11) .none 188 og:=.of (by kernel_rfl) (by kernel_rfl) (by kernel_rfl)
theorem B5:Binds (κ w) og ["thing", "length"] []:=Binds.all (n9 fun _ _=>rfl)
def om:FuncData:=fJ "common" "common" (top 12) (HD.st "dialvault.wholes" 386) 194
theorem wR:aE (κ w) "common" "common" (top 12) .none 195 om:=.of (by kernel_rfl) (by kernel_rfl) (by kernel_rfl)
theorem BX:Binds (κ w) om ["one", "other"] []:=Binds.all (n9 fun _ _=>rfl)
def gG:FuncData:=fJ "multiple_of" "multiple_of" (top 13) (HD.st "dialvault.wholes" 386) 201
theorem lU:aE (κ w) "multiple_of" "multiple_of" (top 13) .none 202 gG:=.of (by kernel_rfl) (by kernel_rfl) (by kernel_rfl)
theorem rX:Binds (κ w) gG ["numbers"] []:=Binds.all (BA fun _=>rfl)
def kJ:FuncData:=fJ "unit_row" "unit_row" (top 14) (HD.st "dialvault.wholes" 386) 206
theorem qW:aE (κ w) "unit_row" "unit_row" (top 14) .none 207 kJ:=.of (by kernel_rfl) (by kernel_rfl) (by kernel_rfl)
theorem yW:Binds (κ w) kJ ["length", "place"] []:=Binds.all (n9 fun _ _=>rfl)
def kR:FuncData:=fJ "rest_sum" "rest_sum" (top 15) (HD.st "dialvault.wholes" 386) 211
theorem qk:aE (κ w) "rest_sum" "rest_sum" (top 15) .none 212 kR:=.of (by kernel_rfl) (by kernel_rfl) (by kernel_rfl)
theorem yi:Binds (κ w) kR ["numbers", "others", "by"] []:=Binds.all (FP fun _ _ _=>rfl)
def jr:FuncData:=fJ "is_within" "is_within" (top 24) (HD.st "dialvault.vault" 434) 266
theorem oU:aE (κ w) "is_within" "is_within" (top 24) .none 267 jr:=.of (by kernel_rfl) (by kernel_rfl) (by kernel_rfl)
theorem xp:Binds (κ w) jr ["thing", "least", "most"] []:=Binds.all (FP fun _ _ _=>rfl)
def iL:FuncData:=fJ "need_sizes" "need_sizes" (top 25) (HD.st "dialvault.vault" 434) 273
theorem nz:aE (κ w) "need_sizes" "need_sizes" (top 25) .none 274 iL:=.of (by kernel_rfl) (by kernel_rfl) (by kernel_rfl)
theorem ui:Binds (κ w) iL ["sizes"] []:=Binds.all (BA fun _=>rfl)
def gJ:FuncData:=fJ "need_levers" "need_levers" (top 26) (HD.st "dialvault.vault" 434) 280
theorem lL:aE (κ w) "need_levers" "need_levers" (top 26) .none 281 gJ:=.of (by kernel_rfl) (by kernel_rfl) (by kernel_rfl)
theorem se:Binds (κ w) gJ ["levers", "dials"] []:=Binds.all (n9 fun _ _=>rfl)
def iR:FuncData:=fJ "prices_for" "prices_for" (top 27) (HD.st "dialvault.vault" 434) 287
theorem mL:aE (κ w) "prices_for" "prices_for" (top 27) .none 288 iR:=.of (by kernel_rfl) (by kernel_rfl) (by kernel_rfl)
theorem uN:Binds (κ w) iR ["levers", "prices"] []:=Binds.all (n9 fun _ _=>rfl)
def qv:FuncData:=fJ "rests" "rests" (top 28) (HD.st "dialvault.vault" 434) 292
theorem zY:aE (κ w) "rests" "rests" (top 28) .none 293 qv:=.of (by kernel_rfl) (by kernel_rfl) (by kernel_rfl)
theorem ES:Binds (κ w) qv ["numbers", "sizes"] []:=Binds.all (n9 fun _ _=>rfl)
def rn:FuncData:=fJ "mixed" "mixed" (top 37) (HD.st "dialvault.rungs" 590) 331
theorem zm:aE (κ w) "mixed" "mixed" (top 37) .none 332 rn:=.of (by kernel_rfl) (by kernel_rfl) (by kernel_rfl)
theorem Fg:Binds (κ w) rn ["row", "times", "other", "others"] []:=Binds.all (N1 fun _ _ _ _=>rfl)
def iB:FuncData:=fJ "mixed_made" "mixed_made" (top 38) (HD.st "dialvault.rungs" 590) 338
theorem mH:aE (κ w) "mixed_made" "mixed_made" (top 38) .none 339 iB:=.of (by kernel_rfl) (by kernel_rfl) (by kernel_rfl)
theorem uR:Binds (κ w) iB ["sizes", "made", "times", "other", "others"] []:=Binds.all (Tw fun _ _ _ _ _=>rfl)
def jA:FuncData:=fJ "step_size" "step_size" (top 41) (HD.st "dialvault.rungs" 590) 359
theorem oE:aE (κ w) "step_size" "step_size" (top 41) .none 360 jA:=.of (by kernel_rfl) (by kernel_rfl) (by kernel_rfl)
theorem xE:Binds (κ w) jA ["sizes", "made_rows", "dial"] []:=Binds.all (FP fun _ _ _=>rfl)
def kD:FuncData:=fJ "taken_in" "taken_in" (top 42) (HD.st "dialvault.rungs" 590) 366
theorem rD:aE (κ w) "taken_in" "taken_in" (top 42) .none 367 kD:=.of (by kernel_rfl) (by kernel_rfl) (by kernel_rfl)
theorem yv:Binds (κ w) kD ["sizes", "made_rows", "left"] []:=Binds.all (FP fun _ _ _=>rfl)
def ma:FuncData:=fJ "lowered" "lowered" (top 43) (HD.st "dialvault.rungs" 590) 373
theorem tK:aE (κ w) "lowered" "lowered" (top 43) .none 374 ma:=.of (by kernel_rfl) (by kernel_rfl) (by kernel_rfl)
theorem AL:Binds (κ w) ma ["sizes", "made_rows", "made", "first"] []:=Binds.all (N1 fun _ _ _ _=>rfl)
def ki:FuncData:=fJ "in_spans" "in_spans" (top 44) (HD.st "dialvault.rungs" 590) 380
theorem ql:aE (κ w) "in_spans" "in_spans" (top 44) .none 381 ki:=.of (by kernel_rfl) (by kernel_rfl) (by kernel_rfl)
theorem yK:Binds (κ w) ki ["pulls", "idle_rows"] []:=Binds.all (n9 fun _ _=>rfl)
def jj:FuncData:=fJ "_law_cell" "_law_cell" (top 49) (HD.st "law_dialvault_k43_still_weights_written" 768) 463
theorem oM:aE (κ w) "_law_cell" "_law_cell" (top 49) .none 464 jj:=.of (by kernel_rfl) (by kernel_rfl) (by kernel_rfl)
theorem wJ:Binds (κ w) jj ["_law_script", "_law_k"] []:=Binds.all (n9 fun _ _=>rfl)
def kO:FuncData:=fJ "_law_mix" "_law_mix" (top 50) (HD.st "law_dialvault_k43_still_weights_written" 768) 470
theorem p8:aE (κ w) "_law_mix" "_law_mix" (top 50) .none 471 kO:=.of (by kernel_rfl) (by kernel_rfl) (by kernel_rfl)
theorem yq:Binds (κ w) kO ["_law_cell_here", "_law_k"] []:=Binds.all (n9 fun _ _=>rfl)
def hG:FuncData:=fJ "_law_digits" "_law_digits" (top 51) (HD.st "law_dialvault_k43_still_weights_written" 768) 477
theorem l4:aE (κ w) "_law_digits" "_law_digits" (top 51) .none 478 hG:=.of (by kernel_rfl) (by kernel_rfl) (by kernel_rfl)
theorem si:Binds (κ w) hG ["_law_cell_here", "_law_sizes_here"] []:=Binds.all (n9 fun _ _=>rfl)
def jx:FuncData:=fJ "_law_size" "_law_size" (top 52) (HD.st "law_dialvault_k43_still_weights_written" 768) 484
theorem oH:aE (κ w) "_law_size" "_law_size" (top 52) .none 485 jx:=.of (by kernel_rfl) (by kernel_rfl) (by kernel_rfl)
theorem wy:Binds (κ w) jx ["_law_number"] []:=Binds.all (BA fun _=>rfl)
def iM:FuncData:=fJ "_law_sizes" "_law_sizes" (top 53) (HD.st "law_dialvault_k43_still_weights_written" 768) 489
theorem mE:aE (κ w) "_law_sizes" "_law_sizes" (top 53) .none 490 iM:=.of (by kernel_rfl) (by kernel_rfl) (by kernel_rfl)
theorem ve:Binds (κ w) iM ["_law_cell_here"] []:=Binds.all (BA fun _=>rfl)
def iY:FuncData:=fJ "_law_lever" "_law_lever" (top 54) (HD.st "law_dialvault_k43_still_weights_written" 768) 496
theorem mJ:aE (κ w) "_law_lever" "_law_lever" (top 54) .none 497 iY:=.of (by kernel_rfl) (by kernel_rfl) (by kernel_rfl)
theorem vt:Binds (κ w) iY ["_law_cell_here", "_law_sizes_here"] []:=Binds.all (n9 fun _ _=>rfl)
def iE:FuncData:=fJ "_law_round" "_law_round" (top 55) (HD.st "law_dialvault_k43_still_weights_written" 768) 503
theorem m7:aE (κ w) "_law_round" "_law_round" (top 55) .none 504 iE:=.of (by kernel_rfl) (by kernel_rfl) (by kernel_rfl)
theorem uH:Binds (κ w) iE ["_law_sizes_here"] []:=Binds.all (BA fun _=>rfl)
def iT:FuncData:=fJ "_law_weigh" "_law_weigh" (top 56) (HD.st "law_dialvault_k43_still_weights_written" 768) 508
theorem ny:aE (κ w) "_law_weigh" "_law_weigh" (top 56) .none 509 iT:=.of (by kernel_rfl) (by kernel_rfl) (by kernel_rfl)
theorem uI:Binds (κ w) iT ["_law_weights", "_law_setting", "_law_sizes_here"] []:=Binds.all (FP fun _ _ _=>rfl)
def jR:FuncData:=fJ "_law_like" "_law_like" (top 57) (HD.st "law_dialvault_k43_still_weights_written" 768) 515
theorem oW:aE (κ w) "_law_like" "_law_like" (top 57) .none 516 jR:=.of (by kernel_rfl) (by kernel_rfl) (by kernel_rfl)
theorem w9:Binds (κ w) jR ["_law_found", "_law_due"] []:=Binds.all (n9 fun _ _=>rfl)
def kx:FuncData:=fJ "_law_sum" "_law_sum" (top 58) (HD.st "law_dialvault_k43_still_weights_written" 768) 520
theorem qo:aE (κ w) "_law_sum" "_law_sum" (top 58) .none 521 kx:=.of (by kernel_rfl) (by kernel_rfl) (by kernel_rfl)
theorem yL:Binds (κ w) kx ["_law_rows", "_law_times", "_law_sizes_here"] []:=Binds.all (FP fun _ _ _=>rfl)
def iH:FuncData:=fJ "_law_below" "_law_below" (top 59) (HD.st "law_dialvault_k43_still_weights_written" 768) 527
theorem nF:aE (κ w) "_law_below" "_law_below" (top 59) .none 528 iH:=.of (by kernel_rfl) (by kernel_rfl) (by kernel_rfl)
theorem uJ:Binds (κ w) iH ["_law_times", "_law_steps"] []:=Binds.all (n9 fun _ _=>rfl)
def iF:FuncData:=fJ "_law_still" "_law_still" (top 60) (HD.st "law_dialvault_k43_still_weights_written" 768) 534
theorem nA:aE (κ w) "_law_still" "_law_still" (top 60) .none 535 iF:=.of (by kernel_rfl) (by kernel_rfl) (by kernel_rfl)
theorem vk:Binds (κ w) iF ["_law_weights", "_law_levers", "_law_sizes_here"] []:=Binds.all (FP fun _ _ _=>rfl)
def iS:FuncData:=fJ "_law_other" "_law_other" (top 62) (HD.st "law_dialvault_k43_still_weights_written" 768) 548
theorem mZ:aE (κ w) "_law_other" "_law_other" (top 62) .none 549 iS:=.of (by kernel_rfl) (by kernel_rfl) (by kernel_rfl)
theorem vn:Binds (κ w) iS ["_law_cell_here", "_law_weights", "_law_sizes_here"] []:=Binds.all (FP fun _ _ _=>rfl)
def i0:FuncData:=fnOf "__init__" "Vault.__init__" (ir (inClass (top 23) 0)) (fx (inClass (top 23) 0)) (aq (inClass (top 23) 0)) (.ref 220) .none .none (HD.st "dialvault.vault" 434) none (.ref 224) .none
theorem mT:aE (κ w) "__init__" "Vault.__init__" (inClass (top 23) 0) (.ref 220) 225 i0:=.of (by kernel_rfl) (by kernel_rfl) (by kernel_rfl)
def gS:FuncData:=fJ "sizes" "Vault.sizes" (inClass (top 23) 1) (HD.st "dialvault.vault" 434) 231
theorem lV:aE (κ w) "sizes" "Vault.sizes" (inClass (top 23) 1) .none 232 gS:=.of (by kernel_rfl) (by kernel_rfl) (by kernel_rfl)
theorem rY:Binds (κ w) gS ["self"] []:=Binds.all (BA fun _=>rfl)
def fW:FuncData:=fJ "levers" "Vault.levers" (inClass (top 23) 2) (HD.st "dialvault.vault" 434) 238
theorem kU:aE (κ w) "levers" "Vault.levers" (inClass (top 23) 2) .none 239 fW:=.of (by kernel_rfl) (by kernel_rfl) (by kernel_rfl)
theorem p7:Binds (κ w) fW ["self"] []:=Binds.all (BA fun _=>rfl)
def fX:FuncData:=fJ "prices" "Vault.prices" (inClass (top 23) 3) (HD.st "dialvault.vault" 434) 245
theorem kd:aE (κ w) "prices" "Vault.prices" (inClass (top 23) 3) .none 246 fX:=.of (by kernel_rfl) (by kernel_rfl) (by kernel_rfl)
theorem qU:Binds (κ w) fX ["self"] []:=Binds.all (BA fun _=>rfl)
def fT:FuncData:=fJ "around" "Vault.around" (inClass (top 23) 4) (HD.st "dialvault.vault" 434) 252
theorem kC:aE (κ w) "around" "Vault.around" (inClass (top 23) 4) .none 253 fT:=.of (by kernel_rfl) (by kernel_rfl) (by kernel_rfl)
theorem pP:Binds (κ w) fT ["self"] []:=Binds.all (BA fun _=>rfl)
def hV:FuncData:=fJ "steps" "Rungs.steps" (inClass (top 45) 1) (HD.st "dialvault.rungs" 590) 397
theorem lR:aE (κ w) "steps" "Rungs.steps" (inClass (top 45) 1) .none 398 hV:=.of (by kernel_rfl) (by kernel_rfl) (by kernel_rfl)
theorem sO:Binds (κ w) hV ["self"] []:=Binds.all (BA fun _=>rfl)
def nL:FuncData:=fJ "nought" "nought" (top 29) (HD.st "dialvault.vault" 434) 299
theorem wN:aE (κ w) "nought" "nought" (top 29) .none 300 nL:=.of (by kernel_rfl) (by kernel_rfl) (by kernel_rfl)
theorem Cc:Binds (κ w) nL ["vault"] []:=Binds.all (BA fun _=>rfl)
def iA:FuncData:=fJ "is_setting" "is_setting" (top 30) (HD.st "dialvault.vault" 434) 304
theorem nh:aE (κ w) "is_setting" "is_setting" (top 30) .none 305 iA:=.of (by kernel_rfl) (by kernel_rfl) (by kernel_rfl)
theorem uv:Binds (κ w) iA ["vault", "thing"] []:=Binds.all (n9 fun _ _=>rfl)
def f6:FuncData:=fJ "need_setting" "need_setting" (top 31) (HD.st "dialvault.vault" 434) 311
theorem kX:aE (κ w) "need_setting" "need_setting" (top 31) .none 312 f6:=.of (by kernel_rfl) (by kernel_rfl) (by kernel_rfl)
theorem qb:Binds (κ w) f6 ["vault", "thing"] []:=Binds.all (n9 fun _ _=>rfl)
def rE:FuncData:=fJ "added" "added" (top 32) (HD.st "dialvault.vault" 434) 316
theorem zJ:aE (κ w) "added" "added" (top 32) .none 317 rE:=.of (by kernel_rfl) (by kernel_rfl) (by kernel_rfl)
theorem F9:Binds (κ w) rE ["vault", "setting", "other", "times"] []:=Binds.all (N1 fun _ _ _ _=>rfl)
def rH:FuncData:=fJ "weigh" "weigh" (top 34) (HD.st "dialvault.papers" 576) 321
theorem zy:aE (κ w) "weigh" "weigh" (top 34) .none 322 rH:=.of (by kernel_rfl) (by kernel_rfl) (by kernel_rfl)
theorem Fx:Binds (κ w) rH ["vault", "weights", "setting"] []:=Binds.all (FP fun _ _ _=>rfl)
def dH:FuncData:=fJ "weighs_no_lever" "weighs_no_lever" (top 35) (HD.st "dialvault.papers" 576) 326
theorem ia:aE (κ w) "weighs_no_lever" "weighs_no_lever" (top 35) .none 327 dH:=.of (by kernel_rfl) (by kernel_rfl) (by kernel_rfl)
theorem mM:Binds (κ w) dH ["vault", "weights"] []:=Binds.all (n9 fun _ _=>rfl)
def ko:FuncData:=fJ "unpulled" "unpulled" (top 39) (HD.st "dialvault.rungs" 590) 345
theorem qH:aE (κ w) "unpulled" "unpulled" (top 39) .none 346 ko:=.of (by kernel_rfl) (by kernel_rfl) (by kernel_rfl)
theorem yT:Binds (κ w) ko ["vault", "setting"] []:=Binds.all (n9 fun _ _=>rfl)
def gN:FuncData:=fJ "pulled_once" "pulled_once" (top 40) (HD.st "dialvault.rungs" 590) 352
theorem lO:aE (κ w) "pulled_once" "pulled_once" (top 40) .none 353 gN:=.of (by kernel_rfl) (by kernel_rfl) (by kernel_rfl)
theorem sV:Binds (κ w) gN ["vault", "lever"] []:=Binds.all (n9 fun _ _=>rfl)
def iU:FuncData:=fJ "__init__" "Rungs.__init__" (inClass (top 45) 0) (HD.st "dialvault.rungs" 590) 392
theorem u4:aE (κ w) "__init__" "Rungs.__init__" (inClass (top 45) 0) .none 393 iU:=.of (by kernel_rfl) (by kernel_rfl) (by kernel_rfl)
theorem vm:Binds (κ w) iU ["self", "vault"] []:=Binds.all (n9 fun _ _=>rfl)
def cS:FuncData:=fJ "brought_down" "Rungs.brought_down" (inClass (top 45) 5) (HD.st "dialvault.rungs" 590) 425
theorem fE:aE (κ w) "brought_down" "Rungs.brought_down" (inClass (top 45) 5) .none 426 cS:=.of (by kernel_rfl) (by kernel_rfl) (by kernel_rfl)
theorem kG:Binds (κ w) cS ["self", "setting"] []:=Binds.all (n9 fun _ _=>rfl)
def gX:FuncData:=fJ "least" "Rungs.least" (inClass (top 45) 6) (HD.st "dialvault.rungs" 590) 432
theorem l5:aE (κ w) "least" "Rungs.least" (inClass (top 45) 6) .none 433 gX:=.of (by kernel_rfl) (by kernel_rfl) (by kernel_rfl)
theorem r9:Binds (κ w) gX ["self", "setting"] []:=Binds.all (n9 fun _ _=>rfl)
def dy:FuncData:=fJ "weights_at" "Rungs.weights_at" (inClass (top 45) 8) (HD.st "dialvault.rungs" 590) 444
theorem g8:aE (κ w) "weights_at" "Rungs.weights_at" (inClass (top 45) 8) .none 445 dy:=.of (by kernel_rfl) (by kernel_rfl) (by kernel_rfl)
theorem me:Binds (κ w) dy ["self", "dial"] []:=Binds.all (n9 fun _ _=>rfl)
def l8:FuncData:=fJ "written" "written" (top 47) (HD.st "dialvault.stills" 760) 456
theorem tF:aE (κ w) "written" "written" (top 47) .none 457 l8:=.of (by kernel_rfl) (by kernel_rfl) (by kernel_rfl)
theorem A4:Binds (κ w) l8 ["vault", "weights"] []:=Binds.all (n9 fun _ _=>rfl)
def fV:FuncData:=fJ "_law_refused" "_law_refused" (top 61) (HD.st "law_dialvault_k43_still_weights_written" 768) 541
theorem kT:aE (κ w) "_law_refused" "_law_refused" (top 61) .none 542 fV:=.of (by kernel_rfl) (by kernel_rfl) (by kernel_rfl)
theorem rj:Binds (κ w) fV ["_law_vault", "_law_thing"] []:=Binds.all (n9 fun _ _=>rfl)
def yw:FuncData:=fJ "law" "law" (top 63) (HD.st "law_dialvault_k43_still_weights_written" 768) 553
theorem Kf:aE (κ w) "law" "law" (top 63) .none 554 yw:=.of (by kernel_rfl) (by kernel_rfl) (by kernel_rfl)
theorem gw:fY (κ w) aI:=⟨(by kernel_rfl),(by kernel_rfl),(by kernel_rfl),(by kernel_rfl),(by kernel_rfl),(by kernel_rfl),(by kernel_rfl),(by kernel_rfl),(by kernel_rfl)⟩
theorem jD:fY (κ w) dO:=⟨(by kernel_rfl),(by kernel_rfl),(by kernel_rfl),(by kernel_rfl),(by kernel_rfl),(by kernel_rfl),(by kernel_rfl),(by kernel_rfl),(by kernel_rfl)⟩
theorem ja:fY (κ w) cM:=⟨(by kernel_rfl),(by kernel_rfl),(by kernel_rfl),(by kernel_rfl),(by kernel_rfl),(by kernel_rfl),(by kernel_rfl),(by kernel_rfl),(by kernel_rfl)⟩
def ig:FuncData:=fJ "__init__" "NoDial.__init__" (inClass (top 3) 0) (HD.st "dialvault.errors" 194) 54
theorem NF:(κ w).lookup 55=some ⟨.type "function", none,.func ig,⟨[]⟩⟩:=by kernel_rfl
theorem NV:codeIn (κ w) (.ref 54) "NoDial.__init__" = true:=by kernel_rfl
theorem yg:Binds (κ w) ig ["self", "dial"] []:=Binds.all (n9 fun _ _=>rfl)
theorem yR:az ["self", "dial"] ["self", "dial"] (aq (inClass (top 3) 0)):=.of
theorem Pn:((clsIn (κ w) 65).any fun cd=>gj cd.mro)=true:=by kernel_rfl
theorem Oc:findIn (κ w) (.ref 65) "dial" = some none:=by kernel_rfl
theorem xT{P:Program}{w:World}{mg:Str->Option Value}{base:Heap}:aQ P w (κ w) mg base (bV P w) 1 55 ig ["self", "dial"] (Ay (κ w) cM "dial") :=
 p_ (n0 := "self") (n1 := "dial") (fl := "dial") (NF w) (NV w) yR (ja w) (Pn w) (Oc w) (by first | exact .inl rfl | exact .inr (.inl rfl)) (by first | exact .inl rfl | exact .inr (.inl rfl)) (by decide) (by decide) (by decide) (by decide) (fun _=>rfl)
theorem gR:fY (κ w) dj:=⟨(by kernel_rfl),(by kernel_rfl),(by kernel_rfl),(by kernel_rfl),(by kernel_rfl),(by kernel_rfl),(by kernel_rfl),(by kernel_rfl),(by kernel_rfl)⟩
def gb:FuncData:=fJ "__init__" "NoLever.__init__" (inClass (top 4) 0) (HD.st "dialvault.errors" 194) 80
theorem Nw:(κ w).lookup 81=some ⟨.type "function", none,.func gb,⟨[]⟩⟩:=by kernel_rfl
theorem R_:codeIn (κ w) (.ref 80) "NoLever.__init__" = true:=by kernel_rfl
theorem vZ:Binds (κ w) gb ["self", "lever"] []:=Binds.all (n9 fun _ _=>rfl)
theorem wH:az ["self", "lever"] ["self", "lever"] (aq (inClass (top 4) 0)):=.of
theorem Oj:((clsIn (κ w) 91).any fun cd=>gj cd.mro)=true:=by kernel_rfl
theorem RO:findIn (κ w) (.ref 91) "lever" = some none:=by kernel_rfl
theorem xy{P:Program}{w:World}{mg:Str->Option Value}{base:Heap}:aQ P w (κ w) mg base (bV P w) 1 81 gb ["self", "lever"] (Ay (κ w) dj "lever") :=
 p_ (n0 := "self") (n1 := "lever") (fl := "lever") (Nw w) (R_ w) wH (gR w) (Oj w) (RO w) (by first | exact .inl rfl | exact .inr (.inl rfl)) (by first | exact .inl rfl | exact .inr (.inl rfl)) (by decide) (by decide) (by decide) (by decide) (fun _=>rfl)
theorem gI:fY (κ w) cQ:=⟨(by kernel_rfl),(by kernel_rfl),(by kernel_rfl),(by kernel_rfl),(by kernel_rfl),(by kernel_rfl),(by kernel_rfl),(by kernel_rfl),(by kernel_rfl)⟩
def gi:FuncData:=fJ "__init__" "NoPrice.__init__" (inClass (top 5) 0) (HD.st "dialvault.errors" 194) 106
theorem Ol:(κ w).lookup 107=some ⟨.type "function", none,.func gi,⟨[]⟩⟩:=by kernel_rfl
theorem M3:codeIn (κ w) (.ref 106) "NoPrice.__init__" = true:=by kernel_rfl
theorem wB:Binds (κ w) gi ["self", "lever"] []:=Binds.all (n9 fun _ _=>rfl)
theorem xr:az ["self", "lever"] ["self", "lever"] (aq (inClass (top 5) 0)):=.of
theorem NJ:((clsIn (κ w) 117).any fun cd=>gj cd.mro)=true:=by kernel_rfl
theorem Nn:findIn (κ w) (.ref 117) "lever" = some none:=by kernel_rfl
theorem vU{P:Program}{w:World}{mg:Str->Option Value}{base:Heap}:aQ P w (κ w) mg base (bV P w) 1 107 gi ["self", "lever"] (Ay (κ w) cQ "lever") :=
 p_ (n0 := "self") (n1 := "lever") (fl := "lever") (Ol w) (M3 w) xr (gI w) (NJ w) (Nn w) (by first | exact .inl rfl | exact .inr (.inl rfl)) (by first | exact .inl rfl | exact .inr (.inl rfl)) (by decide) (by decide) (by decide) (by decide) (fun _=>rfl)
theorem fI:n5 (κ w) aB:=⟨(by kernel_rfl),(by kernel_rfl),(by kernel_rfl),(by kernel_rfl)⟩
theorem eB:n5 (κ w) ay:=⟨(by kernel_rfl),(by kernel_rfl),(by kernel_rfl),(by kernel_rfl)⟩
theorem KQ:findIn (κ w) (.ref 448) "idle_rows" = some none:=by kernel_rfl
theorem Lw:findIn (κ w) (.ref 448) "made_rows" = some none:=by kernel_rfl
theorem Ky:findIn (κ w) (.ref 448) "vault" = some none:=by kernel_rfl
theorem Kl:findIn (κ w) (.ref 256) "dial_sizes" = some none:=by kernel_rfl
theorem LG:findIn (κ w) (.ref 256) "least_round" = some none:=by kernel_rfl
theorem Lg:findIn (κ w) (.ref 256) "lever_prices" = some none:=by kernel_rfl
theorem Ko:findIn (κ w) (.ref 256) "lever_settings" = some none:=by kernel_rfl
theorem Ny:nsIn (κ w) mainGlobals "LEAST_PRICE" = some (some (.int 1 444)):=by kernel_rfl
theorem Qm:nsIn (κ w) mainGlobals "LEAST_SIZE" = some (some (.int 2 438)):=by kernel_rfl
theorem Ng:nsIn (κ w) mainGlobals "MOST_DIALS" = some (some (.int 6 436)):=by kernel_rfl
theorem N7:nsIn (κ w) mainGlobals "MOST_LEVERS" = some (some (.int 8 442)):=by kernel_rfl
theorem Qk:nsIn (κ w) mainGlobals "MOST_PRICE" = some (some (.int 1000 446)):=by kernel_rfl
theorem M4:nsIn (κ w) mainGlobals "MOST_SIZE" = some (some (.int 360 440)):=by kernel_rfl
theorem OM:nsIn (κ w) mainGlobals "VaultError" = some (some (.ref 38)):=by kernel_rfl
theorem OI:Ey (fun C=>PySem.W.exmOne (κ w) (.ref C) (.ref nr)) fj fw=true:=by kernel_rfl
theorem RA:nsIn (κ w) mainGlobals "NoPulls" = some (some (.ref 155)):=by kernel_rfl
theorem Q0:(Gb.all fun a=>PySem.W.kitOne (κ w) (.type a) (.ref k4)==some false)=true:=by kernel_rfl
theorem So:Ey (fun C=>PySem.W.kitOne (κ w) (.ref C) (.ref k4)) ju jO=true:=by kernel_rfl
theorem NX:Ey (fun C=>PySem.W.kitOne (κ w) (.ref C) (.ref k4)) fc eZ=true:=by kernel_rfl
theorem RP:nsIn (κ w) mainGlobals "NoSetting" = some (some (.ref 136)):=by kernel_rfl
theorem Mz:(Gb.all fun a=>PySem.W.kitOne (κ w) (.type a) (.ref aI)==some false)=true:=by kernel_rfl
theorem NP:Ey (fun C=>PySem.W.kitOne (κ w) (.ref C) (.ref aI)) gx gg=true:=by kernel_rfl
theorem Qb:Ey (fun C=>PySem.W.kitOne (κ w) (.ref C) (.ref aI)) dr dm=true:=by kernel_rfl
theorem Rq:(κ w).lookup 220=some (HD.tu [.none]):=by kernel_rfl
theorem uC:Binds (κ w) i0 ["self", "sizes", "levers", "prices"] [.none]:=(mT w).binds (Rq w) rfl fun _ _ _ _ _ _ us hl=>by obtain⟨a,b,c,rfl⟩:=MZ (show _=3 from (by simpa using hl));exact⟨_,rfl,rfl⟩
theorem txt{w:World}{h:Heap}{mg:Str->Option Value}(X:PySem.W.Frag.In (κ w) h)(G:h.Ns mainGlobals mg):Txt (κ w) mg where
 mY:=mg_none_of X G (by kernel_rfl)
 KZ:=mg_none_of X G (by kernel_rfl)
 uq:=mg_none_of X G (by kernel_rfl)
 c7:=mg_none_of X G (by kernel_rfl)
 zu:=mg_none_of X G (by kernel_rfl)
 aV:=mg_none_of X G (by kernel_rfl)
 K5:=mg_none_of X G (by kernel_rfl)
 Ct:=mg_none_of X G (by kernel_rfl)
 G3:=mg_none_of X G (by kernel_rfl)
 eS:=mg_none_of X G (by kernel_rfl)
 Ki:=mg_none_of X G (by kernel_rfl)
 mO:=mg_none_of X G (by kernel_rfl)
 iy:=mg_none_of X G (by kernel_rfl)
 sF:=⟨_,mg_of X G (Ny w),⟨_,rfl⟩⟩
 uu:=⟨_,mg_of X G (Qm w),⟨_,rfl⟩⟩
 uZ:=⟨_,mg_of X G (Ng w),⟨_,rfl⟩⟩
 rW:=⟨_,mg_of X G (N7 w),⟨_,rfl⟩⟩
 u6:=⟨_,mg_of X G (Qk w),⟨_,rfl⟩⟩
 xG:=⟨_,mg_of X G (M4 w),⟨_,rfl⟩⟩
 pO:=fI w
 ng:=eB w
 xa:=⟨(by kernel_rfl),gw w,(by kernel_rfl),(by kernel_rfl),mg_of X G (by kernel_rfl)⟩
 A1:=⟨(by kernel_rfl),jD w,(by kernel_rfl),(by kernel_rfl),mg_of X G (by kernel_rfl)⟩
 jF:=.of (mg_of X G (OM w)) (OI w)
 sZ:=.of (mg_of X G (RA w)) (Q0 w) (So w) (NX w) uE uE uE (yu (ja w) (yu (gR w) (yu (gI w) (yu (gw w) (yu (jD w) uE)))))
 oC:=.of (mg_of X G (RP w)) (Mz w) (NP w) (Qb w) uE uE (yu (gw w) uE) (yu (ja w) (yu (gR w) (yu (gI w) (yu (jD w) uE))))
 SA:=(yu ⟨ja w,(by kernel_rfl)⟩ (yu ⟨gR w,(by kernel_rfl)⟩ (yu ⟨gI w,(by kernel_rfl)⟩ (yu ⟨gw w,(by kernel_rfl)⟩ (yu ⟨jD w,(by kernel_rfl)⟩ uE)))))
 iw:=(KQ w)
 ix:=(Lw w)
 lX:=(Ky w)
 gQ:=(Kl w)
 f_:=(LG w)
 fK:=(Lg w)
 eG:=(Ko w)
 uB:=fun C h=>by obtain rfl:=eq_of_beq h;exact⟨eB w,(Kl w)⟩
 wF:=fun C h=>by obtain rfl:=eq_of_beq h;exact⟨fI w,(KQ w)⟩
 sQ:=fun C h=>by obtain rfl:=eq_of_beq h;exact⟨eB w,(LG w)⟩
 qy:=fun C h=>by obtain rfl:=eq_of_beq h;exact⟨eB w,(Lg w)⟩
 oq:=fun C h=>by obtain rfl:=eq_of_beq h;exact⟨eB w,(Ko w)⟩
 wm:=fun C h=>by obtain rfl:=eq_of_beq h;exact⟨fI w,(Lw w)⟩
 Gj:=fun C h=>by obtain rfl:=eq_of_beq h;exact⟨fI w,(Ky w)⟩
theorem IY{P:Program}{w:World}{h:Heap}{mg:Str->Option Value}(X:PySem.W.Frag.In (κ w) h)(G:h.Ns mainGlobals mg)(base:Heap):aQ P w (κ w) mg base (bV P w) 9 554 yw ["_law_script"] (dW 1 t_):=by
 have T:=txt X G
 have x_NoDial:sM P w (κ w) mg base cM "NoDial" "dial" := ⟨⟨55,ig,["self", "dial"],(by kernel_rfl),(by kernel_rfl),xT,yg w⟩,ja w,(by kernel_rfl),(by kernel_rfl),mg_of X G (by kernel_rfl)⟩
 have x_NoLever:sM P w (κ w) mg base dj "NoLever" "lever" := ⟨⟨81,gb,["self", "lever"],(by kernel_rfl),(by kernel_rfl),xy,vZ w⟩,gR w,(by kernel_rfl),(by kernel_rfl),mg_of X G (by kernel_rfl)⟩
 have x_NoPrice:sM P w (κ w) mg base cQ "NoPrice" "lever" := ⟨⟨107,gi,["self", "lever"],(by kernel_rfl),(by kernel_rfl),vU,wB w⟩,gI w,(by kernel_rfl),(by kernel_rfl),mg_of X G (by kernel_rfl)⟩
 have o_is_whole:bF P w (κ w) mg base 1 "is_whole" 1 (av 1 gL):=⟨⟨183,kH,["thing"],mg_of X G (by kernel_rfl),(qj w).kp,rfl,xW w,xv (qj w) T ⟩⟩
 have o_is_row:bF P w (κ w) mg base 2 "is_row" 2 (av 2 i7):=⟨⟨188,og,["thing", "length"],mg_of X G (by kernel_rfl),(xD w).kp,rfl,B5 w,Aq (xD w) T o_is_whole⟩⟩
 have o_common:bF P w (κ w) mg base 1 "common" 2 (av 6 jd):=⟨⟨195,om,["one", "other"],mg_of X G (by kernel_rfl),(wR w).kp,rfl,BX w,A9 (wR w) T ⟩⟩
 have o_multiple_of:bF P w (κ w) mg base 2 "multiple_of" 1 (av 3 dC):=⟨⟨202,gG,["numbers"],mg_of X G (by kernel_rfl),(lU w).kp,rfl,rX w,qq (lU w) T o_common⟩⟩
 have o_unit_row:bF P w (κ w) mg base 1 "unit_row" 2 (av 2 g9):=⟨⟨207,kJ,["length", "place"],mg_of X G (by kernel_rfl),(qW w).kp,rfl,yW w,wQ (qW w) T ⟩⟩
 have o_rest_sum:bF P w (κ w) mg base 1 "rest_sum" 3 (av 3 hX):=⟨⟨212,kR,["numbers", "others", "by"],mg_of X G (by kernel_rfl),(qk w).kp,rfl,yi w,wM (qk w) T ⟩⟩
 have o_is_within:bF P w (κ w) mg base 2 "is_within" 3 (av 3 c6):=⟨⟨267,jr,["thing", "least", "most"],mg_of X G (by kernel_rfl),(oU w).kp,rfl,xp w,uU (oU w) T o_is_whole⟩⟩
 have o_need_sizes:bF P w (κ w) mg base 3 "need_sizes" 1 (av 3 eh):=⟨⟨274,iL,["sizes"],mg_of X G (by kernel_rfl),(nz w).kp,rfl,ui w,sL (nz w) T x_NoDial o_is_within⟩⟩
 have o_need_levers:bF P w (κ w) mg base 3 "need_levers" 2 (av 4 dA):=⟨⟨281,gJ,["levers", "dials"],mg_of X G (by kernel_rfl),(lL w).kp,rfl,se w,p4 (lL w) T o_is_row x_NoLever⟩⟩
 have o_prices_for:bF P w (κ w) mg base 3 "prices_for" 2 (av 3 eQ):=⟨⟨288,iR,["levers", "prices"],mg_of X G (by kernel_rfl),(mL w).kp,rfl,uN w,sC (mL w) T x_NoPrice o_is_within⟩⟩
 have o_rests:bF P w (κ w) mg base 1 "rests" 2 (av 2 jl):=⟨⟨293,qv,["numbers", "sizes"],mg_of X G (by kernel_rfl),(zY w).kp,rfl,ES w,Df (zY w) T ⟩⟩
 have o_mixed:bF P w (κ w) mg base 1 "mixed" 4 (av 4 lz):=⟨⟨332,rn,["row", "times", "other", "others"],mg_of X G (by kernel_rfl),(zm w).kp,rfl,Fg w,Ee (zm w) T ⟩⟩
 have o_mixed_made:bF P w (κ w) mg base 2 "mixed_made" 5 (av 6 dk):=⟨⟨339,iB,["sizes", "made", "times", "other", "others"],mg_of X G (by kernel_rfl),(mH w).kp,rfl,uR w,sy (mH w) T o_mixed o_rests⟩⟩
 have o_step_size:bF P w (κ w) mg base 1 "step_size" 3 (av 4 da):=⟨⟨360,jA,["sizes", "made_rows", "dial"],mg_of X G (by kernel_rfl),(oE w).kp,rfl,xE w,uF (oE w) T ⟩⟩
 have o_taken_in:bF P w (κ w) mg base 3 "taken_in" 3 (av 9 gK):=⟨⟨367,kD,["sizes", "made_rows", "left"],mg_of X G (by kernel_rfl),(rD w).kp,rfl,yv w,wV (rD w) T o_step_size o_common o_mixed_made⟩⟩
 have o_lowered:bF P w (κ w) mg base 3 "lowered" 4 (av 6 gE):=⟨⟨374,ma,["sizes", "made_rows", "made", "first"],mg_of X G (by kernel_rfl),(tK w).kp,rfl,AL w,ym (tK w) T o_step_size o_mixed_made⟩⟩
 have o_in_spans:bF P w (κ w) mg base 2 "in_spans" 2 (av 4 gM):=⟨⟨381,ki,["pulls", "idle_rows"],mg_of X G (by kernel_rfl),(ql w).kp,rfl,yK w,vV (ql w) T o_mixed⟩⟩
 have o__law_cell:bF P w (κ w) mg base 1 "_law_cell" 2 (av 2 fP):=⟨⟨464,jj,["_law_script", "_law_k"],mg_of X G (by kernel_rfl),(oM w).kp,rfl,wJ w,vo (oM w) T ⟩⟩
 have o__law_mix:bF P w (κ w) mg base 1 "_law_mix" 2 (av 3 dG):=⟨⟨471,kO,["_law_cell_here", "_law_k"],mg_of X G (by kernel_rfl),(p8 w).kp,rfl,yq w,wL (p8 w) T ⟩⟩
 have o__law_digits:bF P w (κ w) mg base 1 "_law_digits" 2 (av 4 cv):=⟨⟨478,hG,["_law_cell_here", "_law_sizes_here"],mg_of X G (by kernel_rfl),(l4 w).kp,rfl,si w,qX (l4 w) T ⟩⟩
 have o__law_size:bF P w (κ w) mg base 1 "_law_size" 1 (av 1 fD):=⟨⟨485,jx,["_law_number"],mg_of X G (by kernel_rfl),(oH w).kp,rfl,wy w,vb (oH w) T ⟩⟩
 have o__law_sizes:bF P w (κ w) mg base 2 "_law_sizes" 1 (av 2 eO):=⟨⟨490,iM,["_law_cell_here"],mg_of X G (by kernel_rfl),(mE w).kp,rfl,ve w,sN (mE w) T o__law_digits o__law_mix o__law_size⟩⟩
 have o__law_lever:bF P w (κ w) mg base 2 "_law_lever" 2 (av 7 dY):=⟨⟨497,iY,["_law_cell_here", "_law_sizes_here"],mg_of X G (by kernel_rfl),(mJ w).kp,rfl,vt w,sJ (mJ w) T o__law_digits o__law_mix⟩⟩
 have o__law_round:bF P w (κ w) mg base 1 "_law_round" 1 (av 5 eR):=⟨⟨504,iE,["_law_sizes_here"],mg_of X G (by kernel_rfl),(m7 w).kp,rfl,uH w,sP (m7 w) T ⟩⟩
 have o__law_weigh:bF P w (κ w) mg base 2 "_law_weigh" 3 (av 4 eI):=⟨⟨509,iT,["_law_weights", "_law_setting", "_law_sizes_here"],mg_of X G (by kernel_rfl),(ny w).kp,rfl,uI w,sD (ny w) T o__law_round⟩⟩
 have o__law_like:bF P w (κ w) mg base 1 "_law_like" 2 (av 4 fH):=⟨⟨516,jR,["_law_found", "_law_due"],mg_of X G (by kernel_rfl),(oW w).kp,rfl,w9 w,vq (oW w) T ⟩⟩
 have o__law_sum:bF P w (κ w) mg base 1 "_law_sum" 3 (av 6 gW):=⟨⟨521,kx,["_law_rows", "_law_times", "_law_sizes_here"],mg_of X G (by kernel_rfl),(qo w).kp,rfl,yL w,xg (qo w) T ⟩⟩
 have o__law_below:bF P w (κ w) mg base 1 "_law_below" 2 (av 4 dZ):=⟨⟨528,iH,["_law_times", "_law_steps"],mg_of X G (by kernel_rfl),(nF w).kp,rfl,uJ w,sq (nF w) T ⟩⟩
 have o__law_still:bF P w (κ w) mg base 3 "_law_still" 3 (av 4 eE):=⟨⟨535,iF,["_law_weights", "_law_levers", "_law_sizes_here"],mg_of X G (by kernel_rfl),(nA w).kp,rfl,vk w,sT (nA w) T o__law_weigh⟩⟩
 have o__law_other:bF P w (κ w) mg base 1 "_law_other" 3 (av 5 eD):=⟨⟨549,iS,["_law_cell_here", "_law_weights", "_law_sizes_here"],mg_of X G (by kernel_rfl),(mZ w).kp,rfl,vn w,rT (mZ w) T ⟩⟩
 have o_Vault_init:G0 P w (κ w) mg base ay 4 "Vault" 4 [.cz] ic:=⟨⟨225,i0,["self", "sizes", "levers", "prices"],[.none],[.cz],mg_of X G (by kernel_rfl),⟨(by kernel_rfl),(by kernel_rfl),(by kernel_rfl),(by kernel_rfl)⟩,uC w,(.cons rfl .nil),fun _=>(.cons .cz .nil),sA (mT w) T o_need_sizes o_need_levers o_rests o_prices_for o_multiple_of⟩⟩
 have o_Vault_sizes:kq P w (κ w) mg base ay 1 "sizes" 1 (av 1 aU):=⟨⟨232,gS,["self"],eB w,⟨(by kernel_rfl),(by kernel_rfl),(lV w).kp⟩,rY w,rN (lV w) T ⟩⟩
 have o_Vault_levers:kq P w (κ w) mg base ay 1 "levers" 1 (av 1 bx):=⟨⟨239,fW,["self"],eB w,⟨(by kernel_rfl),(by kernel_rfl),(kU w).kp⟩,p7 w,pA (kU w) T ⟩⟩
 have o_Vault_prices:kq P w (κ w) mg base ay 1 "prices" 1 (av 1 gZ):=⟨⟨246,fX,["self"],eB w,⟨(by kernel_rfl),(by kernel_rfl),(kd w).kp⟩,qU w,pC (kd w) T ⟩⟩
 have o_Vault_around:kq P w (κ w) mg base ay 1 "around" 1 (av 1 cD):=⟨⟨253,fT,["self"],eB w,⟨(by kernel_rfl),(by kernel_rfl),(kC w).kp⟩,pP w,pD (kC w) T ⟩⟩
 have o_Rungs_steps:kq P w (κ w) mg base aB 2 "steps" 1 (av 2 cw):=⟨⟨398,hV,["self"],fI w,⟨(by kernel_rfl),(by kernel_rfl),(lR w).kp⟩,sO w,pQ (lR w) T o_Vault_sizes o_step_size⟩⟩
 have o_nought:bF P w (κ w) mg base 2 "nought" 1 (av 1 kQ):=⟨⟨300,nL,["vault"],mg_of X G (by kernel_rfl),(wN w).kp,rfl,Cc w,AI (wN w) T o_Vault_sizes⟩⟩
 have o_is_setting:bF P w (κ w) mg base 3 "is_setting" 2 (av 3 ck):=⟨⟨305,iA,["vault", "thing"],mg_of X G (by kernel_rfl),(nh w).kp,rfl,uv w,rZ (nh w) T o_Vault_sizes o_is_row⟩⟩
 have o_need_setting:bF P w (κ w) mg base 4 "need_setting" 2 (av 2 bB):=⟨⟨312,f6,["vault", "thing"],mg_of X G (by kernel_rfl),(kX w).kp,rfl,qb w,o_ (kX w) T o_is_setting⟩⟩
 have o_added:bF P w (κ w) mg base 2 "added" 4 (av 5 mQ):=⟨⟨317,rE,["vault", "setting", "other", "times"],mg_of X G (by kernel_rfl),(zJ w).kp,rfl,F9 w,Ck (zJ w) T o_Vault_sizes o_rests⟩⟩
 have o_weigh:bF P w (κ w) mg base 5 "weigh" 3 (av 5 lp):=⟨⟨322,rH,["vault", "weights", "setting"],mg_of X G (by kernel_rfl),(zy w).kp,rfl,Fx w,CM (zy w) T o_need_setting o_Vault_around o_Vault_sizes o_rest_sum⟩⟩
 have o_weighs_no_lever:bF P w (κ w) mg base 6 "weighs_no_lever" 2 (av 2 b_):=⟨⟨327,dH,["vault", "weights"],mg_of X G (by kernel_rfl),(ia w).kp,rfl,mM w,mw (ia w) T o_Vault_levers o_weigh⟩⟩
 have o_unpulled:bF P w (κ w) mg base 2 "unpulled" 2 (av 2 fe):=⟨⟨346,ko,["vault", "setting"],mg_of X G (by kernel_rfl),(qH w).kp,rfl,yT w,vT (qH w) T o_Vault_levers⟩⟩
 have o_pulled_once:bF P w (κ w) mg base 2 "pulled_once" 2 (av 3 dB):=⟨⟨353,gN,["vault", "lever"],mg_of X G (by kernel_rfl),(lO w).kp,rfl,sV w,qf (lO w) T o_Vault_levers o_unit_row⟩⟩
 have o_Rungs_init:G0 P w (κ w) mg base aB 4 "Rungs" 2 [] fg:=⟨⟨393,iU,["self", "vault"],[],[],mg_of X G (by kernel_rfl),⟨(by kernel_rfl),(by kernel_rfl),(by kernel_rfl),(by kernel_rfl)⟩,vm w,.nil,fun _=>.nil,sx (u4 w) T o_Vault_sizes o_nought o_unpulled o_Vault_levers o_pulled_once o_taken_in o_in_spans o_lowered⟩⟩
 have o_Rungs_brought_down:kq P w (κ w) mg base aB 5 "brought_down" 2 (av 2 cm):=⟨⟨426,cS,["self", "setting"],fI w,⟨(by kernel_rfl),(by kernel_rfl),(fE w).kp⟩,kG w,j8 (fE w) T o_need_setting o_unpulled o_Vault_sizes o_lowered⟩⟩
 have o_Rungs_least:kq P w (κ w) mg base aB 6 "least" 2 (av 2 iD):=⟨⟨433,gX,["self", "setting"],fI w,⟨(by kernel_rfl),(by kernel_rfl),(l5 w).kp⟩,r9 w,rC (l5 w) T o_Rungs_brought_down⟩⟩
 have o_Rungs_weights_at:kq P w (κ w) mg base aB 6 "weights_at" 2 (av 8 br):=⟨⟨445,dy,["self", "dial"],fI w,⟨(by kernel_rfl),(by kernel_rfl),(g8 w).kp⟩,me w,lG (g8 w) T o_Vault_sizes o_is_within x_NoDial o_Rungs_steps o_weigh o_Vault_around⟩⟩
 have o_written:bF P w (κ w) mg base 7 "written" 2 (av 7 dN):=⟨⟨457,l8,["vault", "weights"],mg_of X G (by kernel_rfl),(tF w).kp,rfl,A4 w,xY (tF w) T o_need_setting o_weighs_no_lever o_Rungs_init o_Rungs_steps o_Vault_sizes o_Rungs_weights_at o_added⟩⟩
 have o__law_refused:bF P w (κ w) mg base 8 "_law_refused" 2 (av 4 cY):=⟨⟨542,fV,["_law_vault", "_law_thing"],mg_of X G (by kernel_rfl),(kT w).kp,rfl,rj w,oZ (kT w) T o_written⟩⟩
 exact JR (Kf w) T o__law_cell o__law_sizes o__law_lever o_Vault_init o_Rungs_init o_Rungs_steps o_Rungs_weights_at o__law_digits o__law_mix o__law_sum o_written o__law_like o__law_other o__law_refused o__law_still o__law_below
theorem MV:zv (κ w)=true:=by kernel_rfl
theorem Mj:nsIn (κ w) mainGlobals "law" = some (some (.ref 554)):=by kernel_rfl
end xK
open PySem PySem.W
theorem xK.hold(said:PySem.Challenge.rw_dialvault_k43_still_weights_written.wellSaid=true)(hsem:∀ ns:List Int,ns.length<=63->(∀ i∈ns,Builtin.Int.intBits i<=1048576)->xK.t_ [.kS (ns.map L2.PV.int)]=L2.M.ok (.bl true)):PySem.Challenge.rw_dialvault_k43_still_weights_written.Holds:=by
 refine holds_law said fun said=>?_
 refine holds_open (q:=HD.vw) (loose:=HD.loose) (Xt:=HD.Xt) (XP:=XL HD.vw []) (Yf:=Hook.obs HD.hook) (Ya:=Hook.val HD.hook) (YP:=Hook.says HD.hook) HD.K9 (Hook.of HD.hook) (Hook.keeps HD.hook) (fun s e=>xl_of s (Bool.and_eq_true_iff.mp e).1) XL.keeps (by rfl) (by rfl) (by rfl) (fun s e=>recFacts_of (Bool.and_eq_true_iff.mp e).2) (by rfl) said (by decide +kernel) ⟨rfl,rfl,rfl,rfl,rfl,by decide +kernel⟩ ?hw ?hc
 case hw=>w_witness2
 refine L2.yf (l:=PySem.Challenge.rw_dialvault_k43_still_weights_written) (n:=63) (k:=9) (x := "_law_script") (K:=HD.K) (sem:=xK.t_) rfl (by decide) rfl ⟨rfl,by decide,by decide⟩ (fun w h Y=>PySem.W.kIn_of Y) (fun w=>xK.MV w) (fun w mg fa h X G hmg=>?_) hsem
 have e:=hmg.symm.trans (PySem.W.mg_of X G (xK.Mj w))
 cases e
 exact⟨xK.yw,fun s v=>.of_eq rfl,fun base X' G'=>xK.IY X' G' base⟩
namespace Eu
theorem sX(a b:Int)(hb:b≠0):(a-a.fdiv b*b).natAbs<b.natAbs/\0<=(a-a.fdiv b*b)*b/\(0<=a*b->a.natAbs=(a.fdiv b).natAbs*b.natAbs+(a-a.fdiv b*b).natAbs):=by
 have pos:∀ (a b:Int),0<b->(a-a/b*b).natAbs<b.natAbs/\0<=(a-a/b*b)*b/\(0<=a*b->a.natAbs=(a/b).natAbs*b.natAbs+(a-a/b*b).natAbs):=by
  intro a b hb
  have e:a-a/b*b=a%b:=by
   have h:=Int.mul_ediv_add_emod a b
   rw[Int.mul_comm] at h
   omega
  have h0:=Int.emod_nonneg a (by omega:b≠0)
  have h1:=Int.emod_lt_of_pos a hb
  rw[e]
  refine⟨by omega,Int.mul_nonneg h0 (by omega),fun hab=>?_⟩
  have ha:0<=a:=by
   rcases Int.lt_or_le a 0 with h | h
   ·have:=Int.mul_neg_of_neg_of_pos h hb
    omega
   ·exact h
  have hq:0<=a/b:=Int.ediv_nonneg ha (by omega)
  have h2:=Int.mul_ediv_add_emod a b
  have h3:((a/b).natAbs*b.natAbs:Nat)=(b*(a/b)).natAbs:=by
   rw[Int.natAbs_mul,Nat.mul_comm]
  rw[h3]
  have h4:0<=b*(a/b):=Int.mul_nonneg (by omega) hq
  omega
 rcases Int.lt_or_le 0 b with h | h
 ·rw[Int.fdiv_eq_ediv_of_nonneg a (by omega)]
  exact pos a b h
 ·have h':0 < -b:=by omega
  have e:a.fdiv b=(-a)/(-b):=by
   rw[← Int.fdiv_eq_ediv_of_nonneg (-a) (by omega:0<=-b),Int.neg_fdiv_neg]
  obtain⟨p1,p2,p3⟩:=pos (-a) (-b) h'
  have e2:-a-(-a)/(-b)*(-b)=-(a-a.fdiv b*b):=by
   rw[← e,Int.mul_neg]
   omega
  rw[e2] at p1 p2 p3
  rw[← e] at p3
  simp only[Int.natAbs_neg,Int.neg_mul_neg] at p1 p2 p3
  exact⟨p1,p2,p3⟩
structure St (a b:Int) (r s t r' s' t':Int):Prop where
 c0:r=s*a+t*b
 c1:r'=s'*a+t'*b
 dv:∀ d:Int,d∣r->d∣r'->d∣a/\d∣b
 bd:s'.natAbs*r.natAbs+s.natAbs*r'.natAbs<=b.natAbs
 sg:s'=0\/0<=r*r'
 b0:s.natAbs<=b.natAbs+1
 b1:s'.natAbs<=b.natAbs+1
 d0:t.natAbs<=a.natAbs+(b.natAbs+1)*a.natAbs+b.natAbs+1
 d1:t'.natAbs<=a.natAbs+(b.natAbs+1)*a.natAbs+b.natAbs+1
 m0:r.natAbs<=a.natAbs+b.natAbs
 m1:r'.natAbs<=b.natAbs
theorem start(a b:Int):St a b a 1 0 b 0 1 where
 c0:=by omega
 c1:=by omega
 dv:=fun d h1 h2=>⟨h1,h2⟩
 bd:=by simp
 sg:=.inl rfl
 b0:=by omega
 b1:=by omega
 d0:=by simp
 d1:=by omega
 m0:=by omega
 m1:=by omega
theorem turn{a b r s t r' s' t':Int}(h:St a b r s t r' s' t')(h0:r'≠0) :
  St a b r' s' t' (r-r.fdiv r'*r') (s-r.fdiv r'*s') (t-r.fdiv r'*t')/\(r-r.fdiv r'*r').natAbs<r'.natAbs:=by
 obtain⟨f1,f2,f3⟩:=sX r r' h0
 generalize hq:r.fdiv r'=q at *
 have hb:b≠0:=by
  intro z
  have:=h.m1
  omega
 have hr':1<=r'.natAbs:=by omega
 have c1':r-q*r'=(s-q*s')*a+(t-q*t')*b:=by
  rw[h.c0,h.c1,Int.sub_mul,Int.sub_mul,Int.mul_add,Int.mul_assoc,Int.mul_assoc]
  omega
 have bd':(s-q*s').natAbs*r'.natAbs+s'.natAbs*(r-q*r').natAbs<=b.natAbs:=by
  have vX:(s-q*s').natAbs<=s.natAbs+q.natAbs*s'.natAbs:=by
   rw[← Int.natAbs_mul]
   omega
  have hbd:=h.bd
  rcases h.sg with z | z
  ·subst z
   simp only[Int.mul_zero,Int.sub_zero,Int.natAbs_zero,Nat.zero_mul,Nat.zero_add,Nat.add_zero] at hbd ⊢
   exact hbd
  ·have e:=f3 z
   have k1:(s-q*s').natAbs*r'.natAbs<=(s.natAbs+q.natAbs*s'.natAbs)*r'.natAbs:=Nat.mul_le_mul_right _ vX
   have k2:(s.natAbs+q.natAbs*s'.natAbs)*r'.natAbs+s'.natAbs*(r-q*r').natAbs=s'.natAbs*r.natAbs+s.natAbs*r'.natAbs:=by
    rw[e,Nat.add_mul,Nat.mul_add,Nat.mul_comm q.natAbs s'.natAbs,Nat.mul_assoc]
    omega
   omega
 have b1':(s-q*s').natAbs<=b.natAbs:=by
  have:(s-q*s').natAbs*1<=(s-q*s').natAbs*r'.natAbs:=Nat.mul_le_mul_left _ hr'
  omega
 have mm:(r-q*r').natAbs<=b.natAbs:=by
  have:=h.m1
  omega
 have d1':(t-q*t').natAbs<=a.natAbs+(b.natAbs+1)*a.natAbs+b.natAbs+1:=by
  have e:(t-q*t')*b=(r-q*r')-(s-q*s')*a:=by omega
  have e1:((t-q*t')*b).natAbs<=(r-q*r').natAbs+((s-q*s')*a).natAbs:=by omega
  rw[Int.natAbs_mul,Int.natAbs_mul] at e1
  have k1:(t-q*t').natAbs*1<=(t-q*t').natAbs*b.natAbs:=Nat.mul_le_mul_left _ (by omega)
  have k2:(s-q*s').natAbs*a.natAbs<=(b.natAbs+1)*a.natAbs:=Nat.mul_le_mul_right _ (by omega)
  omega
 refine⟨⟨h.c1,c1',fun d e1 e2=>?_,bd',?_,h.b1,by omega,h.d1,d1',?_,mm⟩,f1⟩
 ·refine h.dv d ?_ e1
  have e3:d∣q*r':=Int.dvd_trans e1 (Int.dvd_mul_left _ _)
  have e4:=Int.dvd_add e2 e3
  rwa [Int.sub_add_cancel] at e4
 ·exact .inr (by rw[Int.mul_comm];exact f2)
 ·have:=h.m1
  omega
theorem done{a b r s t s' t':Int}(h:St a b r s t 0 s' t'):r∣a/\r∣b:=h.dv r (Int.dvd_refl r) (Int.dvd_zero r)
end Eu
namespace Lc
def BN(ns:List Nat):Nat:=ns.foldl Nat.lcm 1
theorem zN:∀ (ns:List Nat) (m:Nat),m∣ns.foldl Nat.lcm m/\(∀ n∈ns,n∣ns.foldl Nat.lcm m)/\(∀ k,m∣k->(∀ n∈ns,n∣k)->ns.foldl Nat.lcm m∣k)
 | [],m=>⟨Nat.dvd_refl m,(fun _ h=>nomatch h),fun k h _=>h⟩
 | n::ns,m=>by
  obtain⟨h1,h2,h3⟩:=zN ns (Nat.lcm m n)
  refine⟨Nat.dvd_trans (Nat.dvd_lcm_left m n) h1,fun x hx=>?_,fun k hm hk=>?_⟩
  ·rcases List.mem_cons.mp hx with e | hx
   ·rw[e];exact Nat.dvd_trans (Nat.dvd_lcm_right m n) h1
   ·exact h2 x hx
  ·exact h3 k (Nat.lcm_dvd hm (hk n List.mem_cons_self)) fun x hx=>hk x (List.mem_cons_of_mem _ hx)
theorem lcm_dvd{ns:List Nat}{n:Nat}(h:n∈ns):n∣BN ns:=(zN ns 1).2.1 n h
theorem oG:∀ (ns:List Nat) (m:Nat),0<m->(∀ n∈ns,0<n)->0<ns.foldl Nat.lcm m
 | [],m,h,_=>h
 | n::ns,m,h,hp=>oG ns (Nat.lcm m n) (Nat.lcm_pos h (hp n List.mem_cons_self)) fun x hx=>hp x (List.mem_cons_of_mem _ hx)
theorem lcm_pos{ns:List Nat}(h:∀ n∈ns,0<n):0<BN ns:=oG ns 1 (by decide) h
theorem q_(B:Nat):∀ (ns:List Nat) (m k:Nat),0<m->m<=2^k->(∀ n∈ns,0<n/\n<=2^B)->ns.foldl Nat.lcm m<=2^(k+B*ns.length)
 | [],m,k,_,h,_=>by simpa using h
 | n::ns,m,k,h0,h,hp=>by
  have hn:=hp n List.mem_cons_self
  have h1:Nat.lcm m n<=2^(k+B):=by
   have:Nat.lcm m n<=m*n:=Nat.le_of_dvd (Nat.mul_pos h0 hn.1) (Nat.lcm_dvd (Nat.dvd_mul_right m n) (Nat.dvd_mul_left n m))
   rw[Nat.pow_add]
   exact Nat.le_trans this (Nat.mul_le_mul h hn.2)
  have h2:=q_ B ns (Nat.lcm m n) (k+B) (Nat.lcm_pos h0 hn.1) h1 fun x hx=>hp x (List.mem_cons_of_mem _ hx)
  have e:k+B*(n::ns).length=k+B+B*ns.length:=by
   rw[List.length_cons,Nat.mul_succ];omega
  rw[e]
  exact h2
theorem En(m n:Nat):m/Nat.gcd m n*n=Nat.lcm m n:=by
 unfold Nat.lcm
 rw[Nat.div_mul_right_comm (Nat.gcd_dvd_left m n)]
end Lc
namespace Rg
abbrev bN:=Nat->Int
def aP(s:bN)(D:Nat->bN)(d:Nat):Int:=if D d d=0 then s d else D d d
def G(n:Nat)(s:bN)(D:Nat->bN):Nat->Nat->bN->Prop
 | 0,_,v=>∀ i,i<n->s i∣v i
 | k+1,d,v=>aP s D d∣v d/\G n s D k (d+1) fun i=>v i-v d/aP s D d*D d i
def U(i:Nat)(c:Int):bN:=fun j=>if j=i then c else 0
section
variable{n:Nat}{s:bN}{D:Nat->bN}
theorem G.ext:∀ {k d:Nat} {v w:bN},d+k=n->(∀ i,i<n->v i=w i)->G n s D k d v->G n s D k d w
 | 0,d,v,w,_,e,h=>fun i hi=>by rw[← e i hi];exact h i hi
 | k+1,d,v,w,hn,e,h=>by
  have ed:=e d (by omega)
  refine⟨by rw[← ed];exact h.1,G.ext (by omega) (fun i hi=>?_) h.2⟩
  rw[e i hi,ed]
theorem G.add:∀ {k d:Nat} {v w:bN},d+k=n->G n s D k d v->G n s D k d w->G n s D k d fun i=>v i+w i
 | 0,d,v,w,_,h,h'=>fun i hi=>Int.dvd_add (h i hi) (h' i hi)
 | k+1,d,v,w,hn,h,h'=>by
  refine⟨Int.dvd_add h.1 h'.1,G.ext (by omega) (fun i hi=>?_) (G.add (by omega) h.2 h'.2)⟩
  show _=v i+w i-(v d+w d)/aP s D d*D d i
  rw[Int.add_ediv_of_dvd_left h.1,Int.add_mul]
  omega
theorem G.mul(c:Int):∀ {k d:Nat} {v:bN},d+k=n->G n s D k d v->G n s D k d fun i=>c*v i
 | 0,d,v,_,h=>fun i hi=>Int.dvd_trans (h i hi) (Int.dvd_mul_left _ _)
 | k+1,d,v,hn,h=>by
  refine⟨Int.dvd_trans h.1 (Int.dvd_mul_left _ _),G.ext (by omega) (fun i hi=>?_) (G.mul c (by omega) h.2)⟩
  show _=c*v i-c*v d/aP s D d*D d i
  rw[Int.mul_ediv_assoc c h.1,Int.mul_sub,Int.mul_assoc]
theorem G.zero:∀ {k d:Nat},d+k=n->G n s D k d fun _=>0
 | 0,d,_=>fun i _=>Int.dvd_zero _
 | k+1,d,hn=>⟨Int.dvd_zero _,G.ext (by omega) (fun i hi=>by simp) (G.zero (k:=k) (d:=d+1) (by omega))⟩
theorem G.skip{v:bN}:∀ {j k d:Nat},d+(j+k)=n->(∀ i,d<=i->i<d+j->v i=0)->G n s D k (d+j) v->G n s D (j+k) d v
 | 0,k,d,_,_,h=>by rw[Nat.zero_add];exact h
 | j+1,k,d,hn,hz,h=>by
  rw[show j+1+k=(j+k)+1 by omega]
  have z:=hz d (Nat.le_refl _) (by omega)
  refine⟨by rw[z];exact Int.dvd_zero _,G.ext (v:=v) (by omega) (fun i hi=>by rw[z];simp) (G.skip (by omega) (fun i h1 h2=>hz i (by omega) (by omega)) (by rw[show d+1+j=d+(j+1) by omega];exact h))⟩
end
structure Good (n:Nat) (s:bN) (D:Nat->bN):Prop where
 sp:∀ i,i<n->0<s i
 iG:∀ d,d<n->∀ i,i<n->0<=D d i/\D d i<s i
 vX:∀ d,d<n->∀ i,i<d->D d i=0
 dv:∀ d,d<n->aP s D d∣s d
 Le:∀ d k,d+(k+1)=n->G n s D k (d+1) fun i=>s d/aP s D d*D d i
section
variable{n:Nat}{s:bN}{D:Nat->bN}
theorem Good.pos(g:Good n s D){d:Nat}(h:d<n):0<aP s D d/\aP s D d<=s d:=by
 have h1:=g.iG d h d h
 have h2:=g.sp d h
 unfold aP
 split <;> omega
theorem Good.diag(g:Good n s D){d:Nat}(h:d<n):s d∣D d d-aP s D d:=by
 unfold aP
 split
 ·rename_i z;rw[z];exact⟨-1,by omega⟩
 ·rw[Int.sub_self];exact Int.dvd_zero _
theorem Good.turn(g:Good n s D):∀ {k d i:Nat} (c:Int),d+k=n->i<n->G n s D k d (U i (c*s i))
 | 0,d,i,c,_,hi=>fun j hj=>by
  unfold U
  split
  ·rename_i z;rw[z];exact Int.dvd_mul_left _ _
  ·exact Int.dvd_zero _
 | k+1,d,i,c,hn,hi=>by
  have hd:d<n:=by omega
  by_cases z:i=d
  ·subst z
   have dv:=g.dv i hi
   refine⟨by show _∣U i _ i;rw[U,if_pos rfl];exact Int.dvd_trans dv (Int.dvd_mul_left _ _),?_⟩
   refine G.ext (by omega) (fun j hj=>?_) (G.add (by omega) (g.turn (k:=k) (d:=i+1) (i:=i) c (by omega) hi) (G.mul (-c) (by omega) (g.Le i k hn)))
   show U i (c*s i) j+-c*(s i/aP s D i*D i j)=U i (c*s i) j-U i (c*s i) i/aP s D i*D i j
   rw[show U i (c*s i) i=c*s i by rw[U,if_pos rfl],Int.mul_ediv_assoc c dv,Int.neg_mul,Int.mul_assoc]
   omega
  ·have u0:U i (c*s i) d=0:=by rw[U,if_neg (Ne.symm z)]
   refine⟨by rw[u0];exact Int.dvd_zero _,G.ext (by omega) (fun j hj=>?_) (g.turn (k:=k) (d:=d+1) (i:=i) c (by omega) hi)⟩
   rw[u0];simp
theorem G.yS{k d:Nat}{v w:bN}(ht:∀ i c,i<n->G n s D k d (U i (c*s i)))(hn:d+k=n)(h:∀ i,i<n->s i∣w i-v i)(hv:G n s D k d v):G n s D k d w:=by
 have key:∀ m,m<=n->G n s D k d fun i=>if i<m then w i else v i:=by
  intro m
  induction m with
  | zero=>intro _;exact G.ext hn (fun i _=>by simp) hv
  | succ m ih =>
   intro hm
   obtain⟨c,hc⟩:=h m (by omega)
   refine G.ext hn (fun i hi=>?_) (G.add hn (ih (by omega)) (ht m c (by omega)))
   show (if i<m then w i else v i)+U m (c*s m) i=if i<m+1 then w i else v i
   unfold U
   by_cases z:i=m
   ·subst z
    rw[if_neg (by omega),if_pos rfl,if_pos (by omega),Int.mul_comm c]
    omega
   ·rw[if_neg z]
    by_cases q:i<m
    ·rw[if_pos q,if_pos (by omega)];omega
    ·rw[if_neg q,if_neg (by omega)];omega
 exact G.ext hn (fun i hi=>by simp[hi]) (key n (Nat.le_refl _))
theorem Good.yS(g:Good n s D){k d:Nat}{v w:bN}(hn:d+k=n)(h:∀ i,i<n->s i∣w i-v i)(hv:G n s D k d v):G n s D k d w :=
 G.yS (fun i c hi=>g.turn c hn hi) hn h hv
theorem Good.own(g:Good n s D){d k:Nat}(hn:d+(k+1)=n):G n s D (k+1) d (D d):=by
 have hd:d<n:=by omega
 by_cases z:D d d=0
 ·have e:aP s D d=s d:=by unfold aP;rw[if_pos z]
  have c:=g.Le d k hn
  rw[e] at c
  refine⟨by rw[z];exact Int.dvd_zero _,G.ext (by omega) (fun i hi=>?_) c⟩
  rw[z,Int.ediv_self (by have:=g.sp d hd;omega)]
  simp
 ·have e:aP s D d=D d d:=by unfold aP;rw[if_neg z]
  refine⟨by rw[e];exact Int.dvd_refl _,G.ext (by omega) (fun i hi=>?_) (G.zero (k:=k) (d:=d+1) (by omega))⟩
  rw[e,Int.ediv_self z];omega
theorem Good.row(g:Good n s D){d:Nat}(hd:d<n):∀ {k e:Nat},e+k=n->e<=d->G n s D k e (D d):=by
 intro k e hn he
 have h:=g.own (d:=d) (k:=n-d-1) (by omega)
 have:=G.skip (n:=n) (s:=s) (D:=D) (v:=D d) (j:=d-e) (k:=n-d-1+1) (d:=e) (by omega) (fun i h1 h2=>g.vX d hd i (by omega)) (by rw[show e+(d-e)=d by omega];exact h)
 rw[show d-e+(n-d-1+1)=k by omega] at this
 exact this
end
structure Tk (n:Nat) (s:bN) (D D' L:Nat->bN) (u v g:Nat->Int):Prop where
 gp:∀ d,d<n->0<g d
 bz:∀ d,d<n->u d*aP s D d+v d*L d d=g d
 g1:∀ d,d<n->g d∣aP s D d
 g2:∀ d,d<n->g d∣L d d
 Ks:∀ d,d<n->∀ i,i<n->D' d i=(u d*D d i+v d*L d i)%s i
 Kp:∀ d,d<n->∀ i,i<n->L (d+1) i=(aP s D d/g d*L d i+-(L d d/g d)*D d i)%s i
 l0:∀ i,i<n->0<=L 0 i/\L 0 i<s i
section
variable{n:Nat}{s:bN}{D D' L:Nat->bN}{u v g:Nat->Int}
theorem d_(a b:Int):b∣a%b-a:=⟨-(a/b),by have:=Int.emod_def a b;rw[Int.mul_neg];omega⟩
theorem AV(a b:Int):b∣a-a%b:=⟨a/b,by have:=Int.emod_def a b;omega⟩
theorem Tk.kept(t:Tk n s D D' L u v g)(G:Good n s D):∀ d,d<=n->∀ i,i<n->0<=L d i/\L d i<s i:=by
 intro d hd i hi
 cases d with
 | zero=>exact t.l0 i hi
 | succ d =>
  rw[t.Kp d (by omega) i hi]
  have:=G.sp i hi
  exact⟨Int.emod_nonneg _ (by omega),Int.emod_lt_of_pos _ this⟩
theorem nR{a b:Int}(h0:0<=a)(h1:a<b)(h:b∣a):a=0:=by
 obtain⟨c,rfl⟩:=h
 rcases Int.lt_or_le 0 c with hc | hc
 ·have:b*1<=b*c:=Int.mul_le_mul_of_nonneg_left hc (by omega)
  omega
 ·have:b*c<=0:=Int.mul_nonpos_of_nonneg_of_nonpos (by omega) hc
  omega
theorem Tk.zero(t:Tk n s D D' L u v g)(G:Good n s D):∀ d,d<=n->∀ i,i<d->L d i=0:=by
 intro d
 induction d with
 | zero=>intro _ i hi;omega
 | succ d ih =>
  intro hd i hi
  have hdn:d<n:=by omega
  have k:=t.kept G (d+1) hd i (by omega)
  refine nR k.1 k.2 ?_
  rw[t.Kp d hdn i (by omega)]
  rcases Nat.lt_or_ge i d with h | h
  ·rw[ih (by omega) i h,G.vX d hdn i h]
   simp
  ·obtain rfl:i=d:=by omega
   refine Int.dvd_trans ?_ (Int.dvd_refl _)
   obtain⟨c,hc⟩:=G.diag hdn
   obtain⟨a,ha⟩:=t.g1 i hdn
   obtain⟨b,hb⟩:=t.g2 i hdn
   have gp:=t.gp i hdn
   have e1:aP s D i/g i=a:=by rw[ha];exact Int.mul_ediv_cancel_left a (by omega)
   have e2:L i i/g i=b:=by rw[hb];exact Int.mul_ediv_cancel_left b (by omega)
   rw[e1,e2]
   have e3:a*L i i+-b*D i i=s i*(-b*c):=by
    have:D i i=aP s D i+s i*c:=by omega
    rw[this,ha,hb];grind
   rw[e3,Int.mul_emod_right]
   exact Int.dvd_zero _
theorem Tk.step(t:Tk n s D D' L u v g)(G:Good n s D){d:Nat}(hd:d<n):aP s D' d=g d:=by
 obtain⟨c,hc⟩:=G.diag hd
 have gp:=t.gp d hd
 have sp:=G.sp d hd
 have st:=G.pos hd
 have le:g d<=aP s D d:=Int.le_of_dvd st.1 (t.g1 d hd)
 have e:D' d d=g d%s d:=by
  rw[t.Ks d hd d hd,← t.bz d hd]
  have:D d d=aP s D d+s d*c:=by omega
  rw[this,show u d*(aP s D d+s d*c)+v d*L d d=(u d*aP s D d+v d*L d d)+s d*(u d*c) by grind,Int.add_mul_emod_self_left]
 unfold aP
 rw[e]
 by_cases z:g d=s d
 ·rw[z,Int.emod_self,if_pos rfl]
 ·rw[Int.emod_eq_of_lt (by omega) (by omega),if_neg (by omega)]
theorem Tk.main(t:Tk n s D D' L u v g)(Gd:Good n s D):∀ k d,d+k=n->(∀ w,G n s D k d w->G n s D' k d w)/\G n s D' k d (L d)
 | 0,d,hn=>by
  refine⟨fun w h=>h,fun i hi=>?_⟩
  rw[t.zero Gd d (by omega) i (by omega)];exact Int.dvd_zero _
 | k+1,d,hn=>by
  obtain⟨i1,i2⟩:=t.main Gd k (d+1) (by omega)
  have hd:d<n:=by omega
  have turn:∀ i c,i<n->G n s D' k (d+1) (U i (c*s i)):=fun i c hi=>i1 _ (Gd.turn c (by omega) hi)
  have st:=t.step Gd hd
  have gp:=t.gp d hd
  obtain⟨a,ha⟩:=t.g1 d hd
  obtain⟨b,hb⟩:=t.g2 d hd
  have e1:aP s D d/g d=a:=by rw[ha];exact Int.mul_ediv_cancel_left a (by omega)
  have e2:L d d/g d=b:=by rw[hb];exact Int.mul_ediv_cancel_left b (by omega)
  have bz:u d*a+v d*b=1:=by
   have:=t.bz d hd
   rw[ha,hb,show u d*(g d*a)+v d*(g d*b)=g d*(u d*a+v d*b) by grind] at this
   have h2:g d*(u d*a+v d*b)=g d*1:=by omega
   exact Int.eq_of_mul_eq_mul_left (by omega) h2
  have w1:∀ i,i<n->∃ c,D' d i=u d*D d i+v d*L d i+s i*c:=fun i hi=>by
   obtain⟨c,hc⟩:=d_ (u d*D d i+v d*L d i) (s i)
   exact⟨c,by rw[t.Ks d hd i hi];omega⟩
  have w2:∀ i,i<n->∃ c,L (d+1) i=a*L d i+-b*D d i+s i*c:=fun i hi=>by
   obtain⟨c,hc⟩:=d_ (a*L d i+-b*D d i) (s i)
   exact⟨c,by rw[t.Kp d hd i hi,e1,e2];omega⟩
  constructor
  ·intro w h
   obtain⟨h1,h2⟩:=h
   refine⟨by rw[st];exact Int.dvd_trans (t.g1 d hd) h1,?_⟩
   obtain⟨q,hq⟩:=h1
   have sp:=(Gd.pos hd).1
   have q1:w d/aP s D d=q:=by rw[hq];exact Int.mul_ediv_cancel_left q (by omega)
   have q2:w d/aP s D' d=q*a:=by
    rw[st,hq,ha,show g d*a*q=g d*(q*a) by grind];exact Int.mul_ediv_cancel_left _ (by omega)
   rw[q2]
   rw[q1] at h2
   refine G.yS turn (by omega) (fun i hi=>?_) (G.add (by omega) (i1 _ h2) (G.mul (q*-(v d)) (by omega) i2))
   obtain⟨c1,hc1⟩:=w1 i hi
   obtain⟨c2,hc2⟩:=w2 i hi
   refine⟨q*(v d*c2-a*c1),?_⟩
   rw[hc1,hc2];grind
  ·refine⟨by rw[st];exact t.g2 d hd,?_⟩
   rw[st,e2]
   refine G.yS turn (by omega) (fun i hi=>?_) (G.mul (u d) (by omega) i2)
   obtain⟨c1,hc1⟩:=w1 i hi
   obtain⟨c2,hc2⟩:=w2 i hi
   refine⟨-(b*c1)-u d*c2,?_⟩
   rw[hc1,hc2];grind
theorem Tk.good(t:Tk n s D D' L u v g)(Gd:Good n s D):Good n s D' where
 sp:=Gd.sp
 iG:=fun d hd i hi=>by
  rw[t.Ks d hd i hi]
  have:=Gd.sp i hi
  exact⟨Int.emod_nonneg _ (by omega),Int.emod_lt_of_pos _ this⟩
 vX:=fun d hd i hi=>by
  rw[t.Ks d hd i (by omega),Gd.vX d hd i hi,t.zero Gd d (by omega) i hi];simp
 dv:=fun d hd=>by
  rw[t.step Gd hd];exact Int.dvd_trans (t.g1 d hd) (Gd.dv d hd)
 Le:=fun d k hn=>by
  have hd:d<n:=by omega
  have h1:=(t.main Gd (k+1) d hn).1 _ (Gd.turn (i:=d) 1 hn hd)
  have h2:=(t.main Gd k (d+1) (by omega)).1 _ (Gd.turn (i:=d) 1 (by omega) hd)
  have h3:=h1.2
  have ud:U d (1*s d) d=s d:=by rw[U,if_pos rfl,Int.one_mul]
  rw[ud] at h3
  refine G.ext (by omega) (fun i hi=>?_) (G.add (by omega) h2 (G.mul (-1) (by omega) h3))
  show U d (1*s d) i+-1*(U d (1*s d) i-s d/aP s D' d*D' d i)=_
  omega
end
end Rg
namespace Rg
section
variable{n:Nat}{s:bN}{D D':Nat->bN}
theorem Good.EI(Gd:Good n s D)(iG:∀ d,d<n->∀ i,i<n->0<=D' d i/\D' d i<s i)(vX:∀ d,d<n->∀ i,i<d->D' d i=0)(dv:∀ d,d<n->aP s D' d∣s d)
  (h:∀ k d,d+k=n->∀ w,G n s D k d w->G n s D' k d w):Good n s D' where
 sp:=Gd.sp
 iG:=iG
 vX:=vX
 dv:=dv
 Le:=fun d k hn=>by
  have hd:d<n:=by omega
  have h1:=h (k+1) d hn _ (Gd.turn (i:=d) 1 hn hd)
  have h2:=h k (d+1) (by omega) _ (Gd.turn (i:=d) 1 (by omega) hd)
  have h3:=h1.2
  have ud:U d (1*s d) d=s d:=by rw[U,if_pos rfl,Int.one_mul]
  rw[ud] at h3
  refine G.ext (by omega) (fun i hi=>?_) (G.add (by omega) h2 (G.mul (-1) (by omega) h3))
  show U d (1*s d) i+-1*(U d (1*s d) i-s d/aP s D' d*D' d i)=_
  omega
structure Dn (n:Nat) (s:bN) (D:Nat->bN) (f:Nat) (W:Nat->bN):Prop where
 w0:∀ i,i<n->0<=W f i/\W f i<s i
 ws:∀ d,f<=d->d<n->∀ i,i<n->W (d+1) i=(1*W d i+-(W d d/aP s D d)*D d i)%s i
variable{f:Nat}{W:Nat->bN}
theorem Dn.kept(h:Dn n s D f W)(Gd:Good n s D):∀ d,f<=d->d<=n->∀ i,i<n->0<=W d i/\W d i<s i:=by
 intro d hf hd i hi
 rcases Nat.lt_or_ge f d with q | q
 ·obtain⟨e,rfl⟩:∃ e,d=e+1:=⟨d-1,by omega⟩
  rw[h.ws e (by omega) (by omega) i hi]
  have:=Gd.sp i hi
  exact⟨Int.emod_nonneg _ (by omega),Int.emod_lt_of_pos _ this⟩
 ·obtain rfl:d=f:=by omega
  exact h.w0 i hi
theorem Dn.ahead(h:Dn n s D f W)(Gd:Good n s D){d i:Nat}(hf:f<=d)(hd:d<n)(hi:i<d):W (d+1) i=W d i:=by
 have k:=h.kept Gd d hf (by omega) i (by omega)
 rw[h.ws d hf hd i (by omega),Gd.vX d hd i hi,Int.mul_zero,Int.add_zero,Int.one_mul,Int.emod_eq_of_lt k.1 k.2]
theorem Dn.at_(h:Dn n s D f W)(Gd:Good n s D){d:Nat}(hf:f<=d)(hd:d<n):W (d+1) d=W d d%aP s D d:=by
 have k:=h.kept Gd d hf (by omega) d hd
 have p:=Gd.pos hd
 rw[h.ws d hf hd d hd]
 have e:=Int.emod_def (W d d) (aP s D d)
 have q0:=Int.emod_nonneg (W d d) (show aP s D d≠0 by omega)
 have q1:=Int.emod_lt_of_pos (W d d) p.1
 by_cases z:D d d=0
 ·have st:aP s D d=s d:=by unfold aP;rw[if_pos z]
  rw[z,st,Int.emod_eq_of_lt k.1 k.2,Int.mul_zero,Int.add_zero,Int.one_mul,Int.emod_eq_of_lt k.1 k.2]
 ·have st:aP s D d=D d d:=by unfold aP;rw[if_neg z]
  rw[← st,show 1*W d d+-(W d d/aP s D d)*aP s D d=W d d%aP s D d by rw[e];grind]
  exact Int.emod_eq_of_lt q0 (by omega)
theorem Dn.low(h:Dn n s D f W)(Gd:Good n s D):∀ d,f<=d->d<=n->∀ e,f<=e->e<d->0<=W d e/\W d e<aP s D e:=by
 intro d
 induction d with
 | zero=>intro _ _ e _ he;omega
 | succ d ih =>
  intro hf hd e he hed
  rcases Nat.lt_or_ge e d with q | q
  ·rw[h.ahead Gd (by omega) (by omega) q];exact ih (by omega) (by omega) e he q
  ·obtain rfl:e=d:=by omega
   have p:=Gd.pos (show e<n by omega)
   rw[h.at_ Gd he (by omega)]
   exact⟨Int.emod_nonneg _ (by omega),Int.emod_lt_of_pos _ p.1⟩
theorem Dn.front(h:Dn n s D f W)(Gd:Good n s D):∀ d,f<=d->d<=n->∀ i,i<f->W d i=W f i:=by
 intro d
 induction d with
 | zero=>intro h1 _ i hi;omega
 | succ d ih =>
  intro hf hd i hi
  rcases Nat.lt_or_ge d f with q | q
  ·rw[show d+1=f by omega]
  ·rw[h.ahead Gd q (by omega) (by omega)];exact ih q (by omega) i hi
theorem Dn.away(h:Dn n s D f W)(Gd:Good n s D):∀ d,f<=d->d<=n->∀ k,f+k=n->G n s D k f fun i=>W f i-W d i:=by
 intro d
 induction d with
 | zero =>
  intro hf _ k hn
  obtain rfl:f=0:=by omega
  exact G.ext hn (fun i _=>by omega) (G.zero hn)
 | succ d ih =>
  intro hf hd k hn
  rcases Nat.lt_or_ge d f with q | q
  ·rw[show d+1=f by omega]
   exact G.ext hn (fun i _=>by omega) (G.zero hn)
  ·refine Gd.yS hn (fun i hi=>?_) (G.add hn (ih q (by omega) k hn) (G.mul (W d d/aP s D d) hn (Gd.row (show d<n by omega) hn q)))
   rw[h.ws d q (by omega) i hi]
   have:=AV (1*W d i+-(W d d/aP s D d)*D d i) (s i)
   obtain⟨c,hc⟩:=this
   exact⟨c,by rw[← hc];grind⟩
theorem G.small(Gd:Good n s D):∀ k d (v:bN),d+k=n->(∀ i,i<n->0<=v i/\v i<s i)->(∀ i,d<=i->i<n->v i<aP s D i)->G n s D k d v->∀ i,i<n->v i=0
 | 0,d,v,hn,h0,_,g,i,hi=>nR (h0 i hi).1 (h0 i hi).2 (g i hi)
 | k+1,d,v,hn,h0,h1,g,i,hi=>by
  have z:v d=0:=nR (h0 d (by omega)).1 (h1 d (Nat.le_refl _) (by omega)) g.1
  refine G.small Gd k (d+1) v (by omega) h0 (fun j hj=>h1 j (by omega)) (G.ext (by omega) (fun j hj=>?_) g.2) i hi
  rw[z];simp
theorem wz(Gd:Good n s D)(W:Nat->Nat->bN)(hW:∀ d,d<n->Dn n s D (d+1) (W d))(h0:∀ d,d<n->∀ i,i<n->W d (d+1) i=D d i)(hD:∀ d,d<n->∀ i,i<n->D' d i=W d n i) :
  Good n s D'/\(∀ d,d<n->aP s D' d=aP s D d)/\(∀ d,d<n->∀ e,d<e->e<n->D' d e<aP s D e)/\(∀ d,d<n->D' d d=0->∀ i,i<n->D' d i=0)/\(∀ k d,d+k=n->∀ w,G n s D k d w->G n s D' k d w):=by
 have dg:∀ d,d<n->∀ i,i<=d->D' d i=D d i:=fun d hd i hi=>by
  rw[hD d hd i (by omega),(hW d hd).front Gd n (by omega) (Nat.le_refl _) i (by omega),h0 d hd i (by omega)]
 have st:∀ d,d<n->aP s D' d=aP s D d:=fun d hd=>by
  unfold aP;rw[dg d hd d (Nat.le_refl _)]
 have incl:∀ k d,d+k=n->∀ w,G n s D k d w->G n s D' k d w:=by
  intro k
  induction k with
  | zero=>intro d _ w h;exact h
  | succ k ih =>
   intro d hn w h
   have hd:d<n:=by omega
   refine⟨by rw[st d hd];exact h.1,ih (d+1) (by omega) _ ?_⟩
   rw[st d hd]
   refine G.ext (by omega) (fun i hi=>?_) (G.add (by omega) h.2 (G.mul (w d/aP s D d) (by omega) ((hW d hd).away Gd n (by omega) (Nat.le_refl _) k (by omega))))
   show w i-w d/aP s D d*D d i+w d/aP s D d*(W d (d+1) i-W d n i)=_
   rw[h0 d hd i hi,hD d hd i hi];grind
 have good:Good n s D':=Gd.EI (fun d hd i hi=>by rw[hD d hd i hi];exact(hW d hd).kept Gd n (by omega) (Nat.le_refl _) i hi) (fun d hd i hi=>by rw[dg d hd i (by omega)];exact Gd.vX d hd i hi) (fun d hd=>by rw[st d hd];exact Gd.dv d hd) incl
 have lt:∀ d,d<n->∀ e,d<e->e<n->D' d e<aP s D e:=fun d hd e he hen=>by
  rw[hD d hd e hen];exact((hW d hd).low Gd n (by omega) (Nat.le_refl _) e (by omega) hen).2
 refine⟨good,st,lt,fun d hd z=>?_,incl⟩
 have h1:=good.own (d:=d) (k:=n-d-1) (by omega)
 have h2:=h1.2
 refine G.small good (n-d-1) (d+1) (D' d) (by omega) (good.iG d hd) (fun i h1 h2=>by rw[st i h2];exact lt d hd i (by omega) h2) (G.ext (by omega) (fun i hi=>?_) h2)
 rw[z];simp
end
def bp:Nat->(Nat->Int)->Int
 | 0,_=>0
 | m+1,f=>bp m f+f m
theorem hU(a b:Int)(f g h:Nat->Int):∀ m,(∀ l,l<m->h l=a*f l+b*g l)->bp m h=a*bp m f+b*bp m g
 | 0,_=>by simp[bp]
 | m+1,e=>by
  rw[bp,bp,bp,hU a b f g h m fun l hl=>e l (by omega),e m (by omega)];grind
theorem fG{f g:Nat->Int}:∀ {m:Nat},(∀ l,l<m->f l=g l)->bp m f=bp m g
 | 0,_=>rfl
 | m+1,e=>by rw[bp,bp,fG fun l hl=>e l (by omega),e m (by omega)]
theorem jg:∀ m,bp m (fun _=>0)=0
 | 0=>rfl
 | m+1=>by rw[bp,jg m];rfl
theorem ff(k:Nat)(a:Int):∀ m,k<m->∀ f:Nat->Int,(∀ l,l<m->f l=if l=k then a else 0)->bp m f=a
 | 0,h,_,_=>by omega
 | m+1,h,f,e=>by
  rw[bp]
  by_cases z:k=m
  ·subst z
   rw[fG (g:=fun _=>0) fun l hl=>by rw[e l (by omega),if_neg (by omega)],jg,e k (by omega),if_pos rfl];omega
  ·rw[ff k a m (by omega) f fun l hl=>e l (by omega),e m (by omega),if_neg (by omega)];omega
def Led(n:Nat)(s:bN)(m:Nat)(A:Nat->bN)(v P:bN):Prop:=∀ i,i<n->s i∣v i-bp m fun l=>P l*A l i
theorem Led.mix{n m:Nat}{s:bN}{A:Nat->bN}{v w x P Q R:bN}{a b:Int}(h1:Led n s m A v P)(h2:Led n s m A w Q)(hx:∀ i,i<n->s i∣x i-(a*v i+b*w i))(hR:∀ l,l<m->R l=a*P l+b*Q l):Led n s m A x R:=fun i hi=>by
 obtain⟨c1,e1⟩:=h1 i hi
 obtain⟨c2,e2⟩:=h2 i hi
 obtain⟨c3,e3⟩:=hx i hi
 rw[hU a b (fun l=>P l*A l i) (fun l=>Q l*A l i) (fun l=>R l*A l i) m fun l hl=>by rw[hR l hl];grind]
 exact⟨a*c1+b*c2+c3,by grind⟩
def bb:Nat->(Nat->Int)->Int
 | 0,_=>1
 | m+1,f=>bb m f*f m
theorem tH{f g h:Nat->Int}:∀ {m:Nat},(∀ l,l<m->f l=g l*h l)->bb m f=bb m g*bb m h
 | 0,_=>rfl
 | m+1,e=>by rw[bb,bb,bb,tH fun l hl=>e l (by omega),e m (by omega)];grind
theorem i9{f g:Nat->Int}:∀ {m:Nat},(∀ l,l<m->f l=g l)->bb m f=bb m g
 | 0,_=>rfl
 | m+1,e=>by rw[bb,bb,i9 fun l hl=>e l (by omega),e m (by omega)]
theorem lE{f:Nat->Int}:∀ {m:Nat},(∀ l,l<m->0<f l)->0<bb m f
 | 0,_=>(by decide:(0:Int)<1)
 | m+1,e=>Int.mul_pos (lE fun l hl=>e l (by omega)) (e m (by omega))
end Rg
namespace Rg
def vf(xs:List Int):bN:=fun i=>xs.getD i 0
theorem aN{xs:List Int}{i:Nat}(h:i<xs.length):vf xs i=xs[i]:=by
 unfold vf;rw[List.getD_eq_getElem?_getD,List.getElem?_eq_getElem h];rfl
theorem ya{xs:List Int}{i:Nat}(h:xs.length<=i):vf xs i=0:=by
 unfold vf;rw[List.getD_eq_getElem?_getD,List.getElem?_eq_none h];rfl
def oX(xs:List Int)(a:Int)(ys:List Int)(b:Int):List Int:=(xs.zip ys).map fun z=>a*z.1+b*z.2
def Ai(xs sizes:List Int):List Int:=(xs.zip sizes).map fun z=>z.1%z.2
theorem bI{xs ys:List Int}{a b:Int}:(oX xs a ys b).length=min xs.length ys.length:=by simp[oX]
theorem i8{xs ys:List Int}:(Ai xs ys).length=min xs.length ys.length:=by simp[Ai]
theorem e7{xs ys:List Int}{a b:Int}{i:Nat}(h1:i<xs.length)(h2:i<ys.length):vf (oX xs a ys b) i=a*vf xs i+b*vf ys i:=by
 rw[aN (by rw[bI];omega),aN h1,aN h2]
 simp[oX]
theorem ji{xs ys:List Int}{i:Nat}(h1:i<xs.length)(h2:i<ys.length):vf (Ai xs ys) i=vf xs i%vf ys i:=by
 rw[aN (by rw[i8];omega),aN h1,aN h2]
 simp[Ai]
theorem Cu{xs ys:List Int}(hl:xs.length=ys.length)(h:∀ i,i<xs.length->vf xs i=vf ys i):xs=ys:=by
 refine List.ext_getElem hl fun i h1 h2=>?_
 have:=h i h1
 rwa [aN h1,aN h2] at this
theorem mv(n:Nat)(i:Nat):vf (List.replicate n 0) i=0:=by
 rcases Nat.lt_or_ge i n with h | h
 ·rw[aN (by simpa using h)];simp
 ·rw[ya (by simpa using h)]
def Bd(B:Nat)(xs:List Int):Prop:=∀ x∈xs,x.natAbs<2^B
theorem Bd.mono{B C:Nat}{xs:List Int}(h:Bd B xs)(hc:B<=C):Bd C xs:=fun x hx=>Nat.lt_of_lt_of_le (h x hx) (Nat.pow_le_pow_right (by decide) hc)
theorem Bd.vf{B:Nat}{xs:List Int}(h:Bd B xs)(i:Nat):(vf xs i).natAbs<2^B:=by
 rcases Nat.lt_or_ge i xs.length with q | q
 ·rw[aN q];exact h _ (List.getElem_mem q)
 ·rw[ya q];exact Nat.two_pow_pos B
theorem yF{a b:Int}{A B:Nat}(ha:a.natAbs<2^A)(hb:b.natAbs<2^B):(a*b).natAbs<2^(A+B):=by
 rw[Int.natAbs_mul,Nat.pow_add]
 have h0:0<2^A:=Nat.two_pow_pos A
 have h1:0<2^B:=Nat.two_pow_pos B
 exact Nat.mul_lt_mul_of_lt_of_le ha (Nat.le_of_lt hb) h1
theorem HL{a b:Int}{A:Nat}(ha:a.natAbs<2^A)(hb:b.natAbs<2^A):(a+b).natAbs<2^(A+1):=by
 rw[Nat.pow_succ];omega
theorem Bd.mix{A B:Nat}{xs ys:List Int}{a b:Int}(hx:Bd B xs)(hy:Bd B ys)(ha:a.natAbs<2^A)(hb:b.natAbs<2^A):Bd (A+B+1) (oX xs a ys b):=by
 intro z hz
 obtain⟨w,hw,rfl⟩:=List.mem_map.mp hz
 have:=List.of_mem_zip (a:=w.1) (b:=w.2) hw
 exact HL (yF ha (hx _ this.1)) (yF hb (hy _ this.2))
abbrev Row:=List Int×List Int
def row(rows:List Row)(d:Nat):Row:=rows.getD d ([],[])
def DD(rows:List Row):Nat->bN:=fun d=>vf (row rows d).1
def PP(rows:List Row):Nat->bN:=fun d=>vf (row rows d).2
structure Wf (n m:Nat) (rows:List Row):Prop where
 len:rows.length=n
 l1:∀ r∈rows,r.1.length=n
 l2:∀ r∈rows,r.2.length=m
theorem jz{rows:List Row}{d:Nat}(h:d<rows.length):row rows d=rows[d]:=by
 unfold row;rw[List.getD_eq_getElem?_getD,List.getElem?_eq_getElem h];rfl
theorem Wf.rQ{n m:Nat}{rows:List Row}(w:Wf n m rows){d:Nat}(h:d<n):(row rows d).1.length=n:=by
 rw[jz (by rw[w.len];exact h)];exact w.l1 _ (List.getElem_mem _)
theorem Wf.at2{n m:Nat}{rows:List Row}(w:Wf n m rows){d:Nat}(h:d<n):(row rows d).2.length=m:=by
 rw[jz (by rw[w.len];exact h)];exact w.l2 _ (List.getElem_mem _)
def rP(sizes:List Int)(r:Row)(a:Int)(q:Row)(b:Int):Row:=(Ai (oX r.1 a q.1 b) sizes,oX r.2 a q.2 b)
def aA(c:Int->Int->Int×Int)(sizes:List Int)(rows:List Row)(left:Row):Nat->Row
 | 0=>left
 | d+1 =>
  let l:=aA c sizes rows left d
  let st:=aP (vf sizes) (DD rows) d
  let nt:=vf l.1 d
  rP sizes l (st/(Int.gcd st nt:Nat)) (row rows d) (-(nt/(Int.gcd st nt:Nat)))
def dE(c:Int->Int->Int×Int)(sizes:List Int)(rows:List Row)(left:Row)(d:Nat):Row :=
 let l:=aA c sizes rows left d
 let st:=aP (vf sizes) (DD rows) d
 let nt:=vf l.1 d
 rP sizes (row rows d) (c st nt).1 l (c st nt).2
def cq(c:Int->Int->Int×Int)(sizes:List Int)(rows:List Row)(left:Row)(n:Nat):List Row:=(List.range n).map (dE c sizes rows left)
section
variable{c:Int->Int->Int×Int}{sizes:List Int}{rows:List Row}{left:Row}{n m:Nat}
theorem cP(w:Wf n m rows)(hs:sizes.length=n)(h1:left.1.length=n)(h2:left.2.length=m):∀ d,d<=n->(aA c sizes rows left d).1.length=n/\(aA c sizes rows left d).2.length=m
 | 0,_=>⟨h1,h2⟩
 | d+1,hd=>by
  obtain⟨i1,i2⟩:=cP w hs h1 h2 d (by omega)
  have e1:=w.rQ (d:=d) (by omega);have e2:=w.at2 (d:=d) (by omega)
  simp only[aA,rP]
  rw[i8,bI,bI]
  exact⟨by omega,by omega⟩
theorem ly{d:Nat}(h:d<n):row (cq c sizes rows left n) d=dE c sizes rows left d:=by
 rw[jz (by simp[cq,h])];simp[cq]
theorem DI(w:Wf n m rows)(hs:sizes.length=n)(h1:left.1.length=n)(h2:left.2.length=m):Wf n m (cq c sizes rows left n):=by
 have key:∀ d,d<n->(dE c sizes rows left d).1.length=n/\(dE c sizes rows left d).2.length=m:=fun d hd=>by
  obtain⟨i1,i2⟩:=cP (c:=c) w hs h1 h2 d (by omega)
  have e1:=w.rQ (d:=d) hd;have e2:=w.at2 (d:=d) hd
  simp only[dE,rP]
  rw[i8,bI,bI]
  exact⟨by omega,by omega⟩
 refine⟨by simp[cq],fun r hr=>?_,fun r hr=>?_⟩
 ·obtain⟨d,hd,rfl⟩:=List.mem_map.mp hr
  exact(key d (List.mem_range.mp hd)).1
 ·obtain⟨d,hd,rfl⟩:=List.mem_map.mp hr
  exact(key d (List.mem_range.mp hd)).2
theorem gC{a b:Int}(h:0<a):0<(Int.gcd a b:Int):=by
 have:=Int.gcd_pos_of_ne_zero_left b (show a≠0 by omega);omega
theorem K7(w:Wf n m rows)(hs:sizes.length=n)(h1:left.1.length=n)(h2:left.2.length=m)(Gd:Good n (vf sizes) (DD rows))(h0:∀ i,i<n->0<=vf left.1 i/\vf left.1 i<vf sizes i)
  (hc:∀ d,d<n->(c (aP (vf sizes) (DD rows) d) (vf (aA c sizes rows left d).1 d)).1*aP (vf sizes) (DD rows) d+(c (aP (vf sizes) (DD rows) d) (vf (aA c sizes rows left d).1 d)).2*vf (aA c sizes rows left d).1 d=(Int.gcd (aP (vf sizes) (DD rows) d) (vf (aA c sizes rows left d).1 d):Nat)) :
  Tk n (vf sizes) (DD rows) (DD (cq c sizes rows left n)) (fun d=>vf (aA c sizes rows left d).1) (fun d=>(c (aP (vf sizes) (DD rows) d) (vf (aA c sizes rows left d).1 d)).1) (fun d=>(c (aP (vf sizes) (DD rows) d) (vf (aA c sizes rows left d).1 d)).2) (fun d=>(Int.gcd (aP (vf sizes) (DD rows) d) (vf (aA c sizes rows left d).1 d):Nat)) where
 gp:=fun d hd=>gC (Gd.pos hd).1
 bz:=hc
 g1:=fun d hd=>Int.gcd_dvd_left ..
 g2:=fun d hd=>Int.gcd_dvd_right ..
 Ks:=fun d hd i hi=>by
  obtain⟨i1,i2⟩:=cP (c:=c) w hs h1 h2 d (by omega)
  have e1:=w.rQ (d:=d) hd
  show vf (row (cq c sizes rows left n) d).1 i=_
  rw[ly hd]
  simp only[dE,rP]
  rw[ji (by rw[bI];omega) (by omega),e7 (by omega) (by omega)]
  rfl
 Kp:=fun d hd i hi=>by
  obtain⟨i1,i2⟩:=cP (c:=c) w hs h1 h2 d (by omega)
  have e1:=w.rQ (d:=d) hd
  simp only[aA,rP]
  rw[ji (by rw[bI];omega) (by omega),e7 (by omega) (by omega)]
  rfl
 l0:=h0
end
end Rg
namespace Rg
section
variable{c:Int->Int->Int×Int}{sizes:List Int}{rows:List Row}{left:Row}{n m k:Nat}{A:Nat->bN}
def CB(c:Int->Int->Int×Int):Prop:=∀ a b:Int,0<a->a<=360->0<=b->b<=360->(c a b).1*a+(c a b).2*b=(Int.gcd a b:Nat)/\(c a b).1.natAbs<2^20/\(c a b).2.natAbs<2^20
theorem kI{a b:Int}(h:0<a)(h2:a<=360):0<a/(Int.gcd a b:Nat)/\a/(Int.gcd a b:Nat)<=360:=by
 have g:=gC (b:=b) h
 obtain⟨q,hq⟩:((Int.gcd a b:Nat):Int)∣a:=Int.gcd_dvd_left ..
 have e:a/(Int.gcd a b:Nat)=q:=by
  have:((Int.gcd a b:Nat):Int)≠0:=by omega
  exact Int.ediv_eq_of_eq_mul_right this hq
 rw[e]
 have q0:0<q:=by
  rcases Int.lt_or_le 0 q with z | z
  ·exact z
  ·have:=Int.mul_nonpos_of_nonneg_of_nonpos (Int.le_of_lt g) z;omega
 refine⟨q0,?_⟩
 have:1*q<=(Int.gcd a b:Nat)*q:=Int.mul_le_mul_of_nonneg_right (by omega) (by omega)
 omega
theorem mG{a b:Int}(h:0<a)(h1:0<=b)(h2:b<=360):0<=b/(Int.gcd a b:Nat)/\b/(Int.gcd a b:Nat)<=360:=by
 have g:=gC (b:=b) h
 exact⟨Int.ediv_nonneg h1 (by omega),Int.le_trans (Int.ediv_le_self _ h1) h2⟩
def Zf(k m:Nat)(P:bN):Prop:=∀ l,k<=l->l<m->P l=0
structure St (n m:Nat) (sizes:List Int) (A:Nat->bN) (k:Nat) (rows:List Row):Prop where
 wf:Wf n m rows
 hs:sizes.length=n
 sm:∀ i,i<n->vf sizes i<=360
 gd:Good n (vf sizes) (DD rows)
 led:∀ d,d<n->Led n (vf sizes) m A (DD rows d) (PP rows d)
 zf:∀ d,d<n->Zf k m (PP rows d)
 bd:∀ d,d<n->Bd (150*k+1) (row rows d).2
 cl:∀ l,l<k->G n (vf sizes) (DD rows) n 0 (A l)
structure Lv (n m:Nat) (sizes:List Int) (A:Nat->bN) (k:Nat) (left:Row):Prop where
 l1:left.1.length=n
 l2:left.2.length=m
 km:k<m
 at_:∀ i,i<n->vf left.1 i=A k i
 iG:∀ i,i<n->0<=A k i/\A k i<vf sizes i
 un:∀ l,l<m->vf left.2 l=if l=k then 1 else 0
theorem k9(h:St n m sizes A k rows)(L:Lv n m sizes A k left):∀ d,d<=n->∀ i,i<n->0<=vf (aA c sizes rows left d).1 i/\vf (aA c sizes rows left d).1 i<vf sizes i
 | 0,_,i,hi=>by show 0<=vf left.1 i/\vf left.1 i<vf sizes i;rw[L.at_ i hi];exact L.iG i hi
 | d+1,hd,i,hi=>by
  obtain⟨i1,i2⟩:=cP (c:=c) h.wf h.hs L.l1 L.l2 d (by omega)
  have e1:=h.wf.rQ (d:=d) (by omega)
  have hs:=h.hs
  simp only[aA,rP]
  rw[ji (by rw[bI];omega) (by omega)]
  have:=h.gd.sp i hi
  exact⟨Int.emod_nonneg _ (by omega),Int.emod_lt_of_pos _ this⟩
theorem St.tk(h:St n m sizes A k rows)(L:Lv n m sizes A k left)(cb:CB c):Tk n (vf sizes) (DD rows) (DD (cq c sizes rows left n)) (fun d=>vf (aA c sizes rows left d).1) (fun d=>(c (aP (vf sizes) (DD rows) d) (vf (aA c sizes rows left d).1 d)).1) (fun d=>(c (aP (vf sizes) (DD rows) d) (vf (aA c sizes rows left d).1 d)).2) (fun d=>(Int.gcd (aP (vf sizes) (DD rows) d) (vf (aA c sizes rows left d).1 d):Nat)) :=
 K7 h.wf h.hs L.l1 L.l2 h.gd (fun i hi=>by rw[L.at_ i hi];exact L.iG i hi) fun d hd=>by
  have p:=h.gd.pos hd
  have q:=k9 (c:=c) h L d (by omega) d hd
  have s:=h.sm d hd
  exact(cb _ _ p.1 (by omega) q.1 (by omega)).1
theorem qp(h:St n m sizes A k rows)(L:Lv n m sizes A k left):∀ d,d<=n->Led n (vf sizes) m A (vf (aA c sizes rows left d).1) (vf (aA c sizes rows left d).2)
 | 0,_=>fun i hi=>by
  show vf sizes i∣vf left.1 i-bp m fun l=>vf left.2 l*A l i
  rw[L.at_ i hi,ff k (A k i) m L.km (fun l=>vf left.2 l*A l i) fun l hl=>by
   rw[L.un l hl]
   by_cases z:l=k
   ·subst z;rw[if_pos rfl,if_pos rfl,Int.one_mul]
   ·rw[if_neg z,if_neg z,Int.zero_mul]]
  rw[Int.sub_self];exact Int.dvd_zero _
 | d+1,hd=>by
  obtain⟨i1,i2⟩:=cP (c:=c) h.wf h.hs L.l1 L.l2 d (by omega)
  have e1:=h.wf.rQ (d:=d) (by omega);have e2:=h.wf.at2 (d:=d) (by omega)
  have hs:=h.hs
  refine Led.mix (a:=aP (vf sizes) (DD rows) d/(Int.gcd (aP (vf sizes) (DD rows) d) (vf (aA c sizes rows left d).1 d):Nat)) (b:=-(vf (aA c sizes rows left d).1 d/(Int.gcd (aP (vf sizes) (DD rows) d) (vf (aA c sizes rows left d).1 d):Nat))) (qp h L d (by omega)) (h.led d (by omega)) (fun i hi=>?_) fun l hl=>?_
  ·simp only[aA,rP]
   rw[ji (by rw[bI];omega) (by omega),e7 (by omega) (by omega)]
   exact d_ _ _
  ·simp only[aA,rP]
   rw[e7 (by omega) (by omega)];rfl
theorem vA(h:St n m sizes A k rows)(L:Lv n m sizes A k left):∀ d,d<=n->Zf (k+1) m (vf (aA c sizes rows left d).2)/\vf (aA c sizes rows left d).2 k=bb d fun e=>aP (vf sizes) (DD rows) e/(Int.gcd (aP (vf sizes) (DD rows) e) (vf (aA c sizes rows left e).1 e):Nat)
 | 0,_=>⟨fun l h1 h2=>by show vf left.2 l=0;rw[L.un l h2,if_neg (by omega)],by show vf left.2 k=1;rw[L.un k L.km,if_pos rfl]⟩
 | d+1,hd=>by
  obtain⟨i1,i2⟩:=cP (c:=c) h.wf h.hs L.l1 L.l2 d (by omega)
  have e2:=h.wf.at2 (d:=d) (by omega)
  obtain⟨j1,j2⟩:=vA h L d (by omega)
  have z:=h.zf d (by omega)
  have km:=L.km
  constructor
  ·intro l h1 h2
   simp only[aA,rP]
   rw[e7 (by omega) (by omega),j1 l h1 h2,show vf (row rows d).2 l=0 from z l (by omega) h2];simp
  ·rw[bb,← j2]
   simp only[aA,rP]
   rw[e7 (by omega) (by omega),show vf (row rows d).2 k=0 from z k (Nat.le_refl _) km]
   grind
theorem pE(h:St n m sizes A k rows)(L:Lv n m sizes A k left)(hn:n<=6):∀ d,d<=n->Bd (150*k+1+11*d) (aA c sizes rows left d).2
 | 0,_=>fun x hx=>by
  have hx:x∈left.2:=hx
  obtain⟨i,hi,rfl⟩:=List.mem_iff_getElem.mp hx
  have hm:i<m:=by rw[← L.l2];exact hi
  have e:=L.un i hm
  rw[aN hi] at e
  show (left.2[i]).natAbs<_
  rw[e]
  have:2^1<=2^(150*k+1+11*0):=Nat.pow_le_pow_right (by decide) (by omega)
  refine Nat.lt_of_lt_of_le ?_ this
  split
  ·decide
  ·decide
 | d+1,hd=>by
  have p:=h.gd.pos (show d<n by omega)
  have s:=h.sm d (by omega)
  have q:=k9 (c:=c) h L d (by omega) d (by omega)
  have a1:=kI (b:=vf (aA c sizes rows left d).1 d) p.1 (by omega)
  have a2:=mG (b:=vf (aA c sizes rows left d).1 d) p.1 q.1 (by omega)
  have:=Bd.mix (A:=9+1) (pE h L hn d (by omega)) ((h.bd d (by omega)).mono (show 150*k+1<=150*k+1+11*d by omega)) (a:=aP (vf sizes) (DD rows) d/(Int.gcd (aP (vf sizes) (DD rows) d) (vf (aA c sizes rows left d).1 d):Nat)) (b:=-(vf (aA c sizes rows left d).1 d/(Int.gcd (aP (vf sizes) (DD rows) d) (vf (aA c sizes rows left d).1 d):Nat))) (by omega) (by omega)
  exact this.mono (by omega)
theorem St.next(h:St n m sizes A k rows)(L:Lv n m sizes A k left)(cb:CB c)(hn:n<=6):St n m sizes A (k+1) (cq c sizes rows left n):=by
 have T:=h.tk L cb
 have hs:=h.hs
 refine⟨DI h.wf h.hs L.l1 L.l2,h.hs,h.sm,T.good h.gd,fun d hd=>?_,fun d hd=>?_,fun d hd=>?_,fun l hl=>?_⟩
 ·obtain⟨i1,i2⟩:=cP (c:=c) h.wf h.hs L.l1 L.l2 d (by omega)
  have e1:=h.wf.rQ (d:=d) hd;have e2:=h.wf.at2 (d:=d) hd
  unfold DD PP
  rw[ly hd]
  refine Led.mix (a:=(c (aP (vf sizes) (DD rows) d) (vf (aA c sizes rows left d).1 d)).1) (b:=(c (aP (vf sizes) (DD rows) d) (vf (aA c sizes rows left d).1 d)).2) (h.led d hd) (qp (c:=c) h L d (by omega)) (fun i hi=>?_) fun l hl=>?_
  ·simp only[dE,rP]
   rw[ji (by rw[bI];omega) (by omega),e7 (by omega) (by omega)]
   exact d_ _ _
  ·simp only[dE,rP]
   rw[e7 (by omega) (by omega)];rfl
 ·obtain⟨i1,i2⟩:=cP (c:=c) h.wf h.hs L.l1 L.l2 d (by omega)
  have e2:=h.wf.at2 (d:=d) hd
  intro l h1 h2
  unfold PP
  rw[ly hd]
  simp only[dE,rP]
  rw[e7 (by omega) (by omega),(vA (c:=c) h L d (by omega)).1 l h1 h2,show vf (row rows d).2 l=0 from h.zf d hd l (by omega) h2];simp
 ·rw[ly hd]
  have p:=h.gd.pos hd
  have s:=h.sm d hd
  have q:=k9 (c:=c) h L d (by omega) d hd
  have b:=cb (aP (vf sizes) (DD rows) d) (vf (aA c sizes rows left d).1 d) p.1 (by omega) q.1 (by omega)
  have:=Bd.mix (A:=20) ((h.bd d hd).mono (show 150*k+1<=150*k+1+11*d by omega)) (pE (c:=c) h L hn d (by omega)) b.2.1 b.2.2
  exact this.mono (by omega)
 ·rcases Nat.lt_or_ge l k with q | q
  ·exact(T.main h.gd n 0 (by omega)).1 _ (h.cl l q)
  ·obtain rfl:l=k:=by omega
   exact G.ext (by omega) (fun i hi=>L.at_ i hi) (T.main h.gd n 0 (by omega)).2
end
end Rg
namespace Rg
def aO(idle:List (List Int))(k:Nat)(P:List Int):Nat->List Int
 | 0=>P
 | c+1 =>
  let z:=aO idle k P c
  let r:=idle.getD (k-1-c) []
  oX z 1 r (-(vf z (k-1-c)/vf r (k-1-c)))
def II(idle:List (List Int)):Nat->bN:=fun j=>vf (idle.getD j [])
structure CY (n m:Nat) (s:bN) (A:Nat->bN) (k:Nat) (idle:List (List Int)):Prop where
 len:idle.length=k
 l2:∀ j,j<k->(idle.getD j []).length=m
 pos:∀ j,j<k->0<II idle j j
 le:∀ j,j<k->II idle j j<2^60
 zero:∀ j,j<k->∀ l,j<l->l<m->II idle j l=0
 nf:∀ j,j<k->∀ l,l<j->0<=II idle j l/\II idle j l<II idle l l
 vH:∀ j,j<k->Led n s m A (fun _=>0) (II idle j)
section
variable{n m k:Nat}{s:bN}{A:Nat->bN}{idle:List (List Int)}{P:List Int}
theorem CY.bd(h:CY n m s A k idle){j:Nat}(hj:j<k)(hm:k<=m):Bd 60 (idle.getD j []):=fun x hx=>by
 obtain⟨l,hl,rfl⟩:=List.mem_iff_getElem.mp hx
 rw[h.l2 j hj] at hl
 have e:II idle j l=(idle.getD j [])[l]'(by rw[h.l2 j hj];exact hl):=aN _
 rw[← e]
 rcases Nat.lt_or_ge l j with q | q
 ·have h1:=h.nf j hj l q
  have h2:=h.le l (by omega)
  omega
 ·rcases Nat.lt_or_ge j l with q2 | q2
  ·rw[h.zero j hj l q2 hl];exact Nat.two_pow_pos _
  ·obtain rfl:l=j:=by omega
   have h1:=h.pos l hj;have h2:=h.le l hj
   omega
theorem span_len(h:CY n m s A k idle)(hP:P.length=m):∀ c,c<=k->(aO idle k P c).length=m
 | 0,_=>hP
 | c+1,hc=>by
  simp only[aO]
  rw[bI,span_len h hP c (by omega),h.l2 _ (by omega)];omega
theorem pK(h:CY n m s A k idle)(hP:P.length=m){c l:Nat}(hc:c<k)(hl:l<m):vf (aO idle k P (c+1)) l=vf (aO idle k P c) l-vf (aO idle k P c) (k-1-c)/II idle (k-1-c) (k-1-c)*II idle (k-1-c) l:=by
 simp only[aO]
 rw[e7 (by rw[span_len h hP c (by omega)];exact hl) (by rw[h.l2 _ (by omega)];exact hl)]
 unfold II
 grind
theorem vP(h:CY n m s A k idle)(hP:P.length=m):∀ c,c<=k->∀ l,k<=l->l<m->vf (aO idle k P c) l=vf P l
 | 0,_,_,_,_=>rfl
 | c+1,hc,l,h1,h2=>by
  rw[pK h hP (by omega) h2,h.zero _ (by omega) l (by omega) h2,vP h hP c (by omega) l h1 h2];simp
theorem ze(h:CY n m s A k idle)(hP:P.length=m)(hm:k<=m):∀ c,c<=k->∀ l,k-c<=l->l<k->0<=vf (aO idle k P c) l/\vf (aO idle k P c) l<II idle l l
 | 0,_,l,h1,h2=>by omega
 | c+1,hc,l,h1,h2=>by
  rw[pK h hP (by omega) (by omega)]
  rcases Nat.lt_or_ge (k-1-c) l with q | q
  ·rw[h.zero _ (by omega) l q (by omega),Int.mul_zero,Int.sub_zero]
   exact ze h hP hm c (by omega) l (by omega) h2
  ·obtain rfl:l=k-1-c:=by omega
   have p:=h.pos (k-1-c) (by omega)
   have e:=Int.emod_def (vf (aO idle k P c) (k-1-c)) (II idle (k-1-c) (k-1-c))
   rw[Int.mul_comm (vf (aO idle k P c) (k-1-c)/_),← e]
   exact⟨Int.emod_nonneg _ (by omega),Int.emod_lt_of_pos _ p⟩
theorem xI(h:CY n m s A k idle)(hP:P.length=m){v:bN}(hv:Led n s m A v (vf P)):∀ c,c<=k->Led n s m A v (vf (aO idle k P c))
 | 0,_=>hv
 | c+1,hc=>by
  refine Led.mix (a:=1) (b:=-(vf (aO idle k P c) (k-1-c)/II idle (k-1-c) (k-1-c))) (xI h hP hv c (by omega)) (h.vH (k-1-c) (by omega)) (fun i hi=>?_) fun l hl=>?_
  ·rw[Int.mul_zero,Int.add_zero,Int.one_mul,Int.sub_self];exact Int.dvd_zero _
  ·rw[pK h hP (by omega) hl];grind
theorem zX(h:CY n m s A k idle)(hP:P.length=m)(hm:k<=m){B:Nat}(hB:60<=B)(hb:Bd B P):∀ c,c<=k->Bd (B+62*c) (aO idle k P c)
 | 0,_=>hb
 | c+1,hc=>by
  have ih:=zX h hP hm hB hb c (by omega)
  intro x hx
  obtain⟨l,hl,rfl⟩:=List.mem_iff_getElem.mp hx
  rw[span_len h hP (c+1) hc] at hl
  rw[← aN,pK h hP (by omega) hl]
  have p:=h.pos (k-1-c) (by omega)
  have q1:(vf (aO idle k P c) (k-1-c)/II idle (k-1-c) (k-1-c)).natAbs<2^(B+62*c+1):=by
   have h1:=ih.vf (k-1-c)
   have h2:=Int.natAbs_ediv_le_natAbs (vf (aO idle k P c) (k-1-c)) (II idle (k-1-c) (k-1-c))
   rw[Nat.pow_succ];omega
  have q2:(II idle (k-1-c) l).natAbs<2^60:=(h.bd (j:=k-1-c) (by omega) hm).vf l
  have q3:=yF q1 q2
  have q4:=ih.vf l
  have q5:2^(B+62*c)<=2^(B+62*c+1+60):=Nat.pow_le_pow_right (by decide) (by omega)
  have q6:(2:Nat)^(B+62*(c+1))=2^(B+62*c+1+60)*2:=by rw[← Nat.pow_succ];congr 1
  rw[q6];omega
end
section
variable{c:Int->Int->Int×Int}{sizes:List Int}{rows:List Row}{left:Row}{n m k:Nat}{A:Nat->bN}
theorem Tk.order{s:bN}{D D' L:Nat->bN}{u v g:Nat->Int}(t:Tk n s D D' L u v g)(Gd:Good n s D):∀ (k d:Nat) (x:Int),d+k=n->G n s D k d (fun i=>x*L d i)->bb n (fun e=>aP s D e/g e)∣x*bb d (fun e=>aP s D e/g e)
 | 0,d,x,hn,h=>by
  obtain rfl:d=n:=by omega
  exact Int.dvd_mul_left _ _
 | k+1,d,x,hn,h=>by
  have hd:d<n:=by omega
  obtain⟨a,ha⟩:=t.g1 d hd
  obtain⟨b,hb⟩:=t.g2 d hd
  have gp:=t.gp d hd
  have sp:=(Gd.pos hd).1
  have e1:aP s D d/g d=a:=by rw[ha];exact Int.mul_ediv_cancel_left a (by omega)
  have e2:L d d/g d=b:=by rw[hb];exact Int.mul_ediv_cancel_left b (by omega)
  have bz:u d*a+v d*b=1:=by
   have:=t.bz d hd
   rw[ha,hb,show u d*(g d*a)+v d*(g d*b)=g d*(u d*a+v d*b) by grind] at this
   have h2:g d*(u d*a+v d*b)=g d*1:=by omega
   exact Int.eq_of_mul_eq_mul_left (by omega) h2
  obtain⟨q,hq⟩:=h.1
  have hax:a∣x:=by
   have h3:g d*(x*b)=g d*(a*q):=by
    have:x*L d d=aP s D d*q:=hq
    rw[hb,ha] at this;grind
   have h4:x*b=a*q:=Int.eq_of_mul_eq_mul_left (by omega) h3
   exact⟨u d*x+v d*q,by
    have:x=x*(u d*a+v d*b):=by rw[bz,Int.mul_one]
    rw[this]
    have:x*(u d*a+v d*b)=a*(u d*x)+v d*(x*b):=by grind
    rw[this,h4];grind⟩
  obtain⟨y,hy⟩:=hax
  have hq2:q=b*y:=by
   have h3:g d*(a*q)=g d*(a*(b*y)):=by
    have:x*L d d=aP s D d*q:=hq
    rw[hb,ha,hy] at this;grind
   have ap:a≠0:=by intro z;rw[z,Int.mul_zero] at ha;omega
   exact Int.eq_of_mul_eq_mul_left ap (Int.eq_of_mul_eq_mul_left (by omega) h3)
  have h2:=h.2
  have q1:x*L d d/aP s D d=q:=by
   show x*L d d/aP s D d=q
   rw[show x*L d d=aP s D d*q from hq];exact Int.mul_ediv_cancel_left q (by omega)
  have:=t.order Gd k (d+1) y (by omega) (Gd.yS (by omega) (fun i hi=>?_) h2)
  ·rw[bb,e1] at this
   rw[hy,show a*y*bb d (fun e=>aP s D e/g e)=y*(bb d (fun e=>aP s D e/g e)*a) by grind]
   exact this
  ·show s i∣y*L (d+1) i-(x*L d i-x*L d d/aP s D d*D d i)
   rw[q1,t.Kp d hd i hi,e1,e2]
   obtain⟨z,hz⟩:=d_ (a*L d i+-b*D d i) (s i)
   refine⟨y*z,?_⟩
   have:(a*L d i+-b*D d i)%s i=a*L d i+-b*D d i+s i*z:=by omega
   rw[this,hy,hq2];grind
theorem G.sum(Gd:Good n (vf sizes) (DD rows)){P:bN}:∀ k',(∀ l,l<k'->G n (vf sizes) (DD rows) n 0 (A l))->G n (vf sizes) (DD rows) n 0 (fun i=>bp k' fun l=>P l*A l i)
 | 0,_=>G.zero (by omega)
 | k'+1,h=>G.ext (by omega) (fun i _=>rfl) (G.add (by omega) (G.sum Gd k' fun l hl=>h l (by omega)) (G.mul (P k') (by omega) (h k' (by omega))))
end
end Rg
namespace Rg
def oV(m k:Nat):List Int:=(List.range m).map fun l=>if l=k then 1 else 0
theorem xw{m k l:Nat}(h:l<m):vf (oV m k) l=if l=k then 1 else 0:=by
 rw[aN (by simp[oV,h])];simp[oV]
def AA(Ls:List (List Int)):Nat->bN:=fun l=>vf (Ls.getD l [])
def bG(Ls:List (List Int))(m k:Nat):Row:=(Ls.getD k [],oV m k)
def RK(c:Int->Int->Int×Int)(sizes:List Int)(Ls:List (List Int))(n m:Nat):Nat->List Row×List (List Int)
 | 0=>(List.replicate n (List.replicate n 0,List.replicate m 0),[])
 | k+1 =>
  (cq c sizes (RK c sizes Ls n m k).1 (bG Ls m k) n,(RK c sizes Ls n m k).2++[aO (RK c sizes Ls n m k).2 k (aA c sizes (RK c sizes Ls n m k).1 (bG Ls m k) n).2 k])
structure KP (n m:Nat) (sizes:List Int) (Ls:List (List Int)):Prop where
 len:Ls.length=m
 at_:∀ l,l<m->(Ls.getD l []).length=n
 iG:∀ l,l<m->∀ i,i<n->0<=AA Ls l i/\AA Ls l i<vf sizes i
structure CO (n m:Nat) (sizes:List Int) (Ls:List (List Int)) (k:Nat) (r:List Row×List (List Int)):Prop where
 st:St n m sizes (AA Ls) k r.1
 vH:CY n m (vf sizes) (AA Ls) k r.2
 pr:bb k (fun j=>II r.2 j j)*bb n (aP (vf sizes) (DD r.1))=bb n (vf sizes)
 ord:∀ j,j<k->∀ P:bN,Zf (j+1) m P->Led n (vf sizes) m (AA Ls) (fun _=>0) P->II r.2 j j∣P j
section
variable{c:Int->Int->Int×Int}{sizes:List Int}{Ls:List (List Int)}{n m k:Nat}
theorem iN{idle:List (List Int)}{x:List Int}{j:Nat}(h:j<idle.length):II (idle++[x]) j=II idle j:=by
 unfold II
 rw[List.getD_eq_getElem?_getD,List.getElem?_append_left h,← List.getD_eq_getElem?_getD]
theorem kz{idle:List (List Int)}{x:List Int}:II (idle++[x]) idle.length=vf x:=by
 unfold II
 rw[List.getD_eq_getElem?_getD,List.getElem?_append_right (Nat.le_refl _)];simp
theorem D4{idle:List (List Int)}{x:List Int}{j:Nat}(h:j<idle.length):(idle++[x]).getD j []=idle.getD j []:=by
 rw[List.getD_eq_getElem?_getD,List.getElem?_append_left h,← List.getD_eq_getElem?_getD]
theorem C0{idle:List (List Int)}{x:List Int}:(idle++[x]).getD idle.length []=x:=by
 rw[List.getD_eq_getElem?_getD,List.getElem?_append_right (Nat.le_refl _)];simp
theorem rL{f:Nat->Int}{k:Nat}:∀ {m:Nat},k<m->(∀ l,k<l->l<m->f l=0)->bp m f=bp k f+f k
 | 0,h,_=>by omega
 | m+1,h,e=>by
  rw[bp]
  by_cases z:k=m
  ·subst z;rfl
  ·rw[rL (m:=m) (by omega) fun l h1 h2=>e l h1 (by omega),e m (by omega) (by omega)];omega
theorem vK:∀ {n:Nat} {f:Nat->Int},(∀ i,i<n->0<f i/\f i<=360)->bb n f<=360^n
 | 0,f,_=>by simp[bb]
 | n+1,f,h=>by
  rw[bb,Int.pow_succ]
  exact Int.mul_le_mul (vK fun i hi=>h i (by omega)) (h n (by omega)).2 (by have:=(h n (by omega)).1;omega) (Int.pow_nonneg (by decide))
theorem NU{n:Nat}(h:n<=6):(360:Int)^n<=360^6:=by
 have:n=0\/n=1\/n=2\/n=3\/n=4\/n=5\/n=6:=by omega
 rcases this with rfl | rfl | rfl | rfl | rfl | rfl | rfl <;> decide
theorem CO.next{r:List Row×List (List Int)}(h:CO n m sizes Ls k r)(LL:KP n m sizes Ls)(cb:CB c)(hn:n<=6)(hk:k<m) :
  CO n m sizes Ls (k+1) (cq c sizes r.1 (bG Ls m k) n,r.2++[aO r.2 k (aA c sizes r.1 (bG Ls m k) n).2 k]):=by
 have L:Lv n m sizes (AA Ls) k (bG Ls m k):=⟨LL.at_ k hk,by simp[bG,oV],hk,fun i hi=>rfl,LL.iG k hk,fun l hl=>xw hl⟩
 have T:=h.st.tk L cb
 have ll:=cP (c:=c) h.st.wf h.st.hs L.l1 L.l2 n (Nat.le_refl _)
 have zf:=vA (c:=c) h.st L n (Nat.le_refl _)
 have led:=qp (c:=c) h.st L n (Nat.le_refl _)
 have l0:=T.zero h.st.gd n (Nat.le_refl _)
 have il:r.2.length=k:=h.vH.len
 have out:=vP h.vH ll.2 k (Nat.le_refl _)
 have jk:vf (aO r.2 k (aA c sizes r.1 (bG Ls m k) n).2 k) k=bb n fun e=>aP (vf sizes) (DD r.1) e/(Int.gcd (aP (vf sizes) (DD r.1) e) (vf (aA c sizes r.1 (bG Ls m k) e).1 e):Nat):=by
  rw[out k (Nat.le_refl _) hk];exact zf.2
 have pos:∀ e,e<n->0<aP (vf sizes) (DD r.1) e/(Int.gcd (aP (vf sizes) (DD r.1) e) (vf (aA c sizes r.1 (bG Ls m k) e).1 e):Nat):=fun e he=>by
  have p:=h.st.gd.pos he
  have s:=h.st.sm e he
  exact(kI p.1 (by omega)).1
 have pr:bb (k+1) (fun j=>II (r.2++[aO r.2 k (aA c sizes r.1 (bG Ls m k) n).2 k]) j j)*bb n (aP (vf sizes) (DD (cq c sizes r.1 (bG Ls m k) n)))=bb n (vf sizes):=by
  rw[bb,show II (r.2++[aO r.2 k (aA c sizes r.1 (bG Ls m k) n).2 k]) k=vf (aO r.2 k (aA c sizes r.1 (bG Ls m k) n).2 k) by rw[← il];exact kz]
  rw[i9 (g:=fun j=>II r.2 j j) fun j hj=>by rw[iN (by omega)],← h.pr,jk]
  rw[i9 (g:=fun d=>((Int.gcd (aP (vf sizes) (DD r.1) d) (vf (aA c sizes r.1 (bG Ls m k) d).1 d):Nat):Int)) fun d hd=>T.step h.st.gd hd]
  rw[tH (f:=aP (vf sizes) (DD r.1)) (g:=fun d=>((Int.gcd (aP (vf sizes) (DD r.1) d) (vf (aA c sizes r.1 (bG Ls m k) d).1 d):Nat):Int)) (h:=fun e=>aP (vf sizes) (DD r.1) e/(Int.gcd (aP (vf sizes) (DD r.1) e) (vf (aA c sizes r.1 (bG Ls m k) e).1 e):Nat)) fun d hd=>(Int.mul_ediv_cancel' (Int.gcd_dvd_left ..)).symm]
  grind
 have jpos:0<vf (aO r.2 k (aA c sizes r.1 (bG Ls m k) n).2 k) k:=by rw[jk];exact lE pos
 have St':=h.st.next L cb hn
 have jle:vf (aO r.2 k (aA c sizes r.1 (bG Ls m k) n).2 k) k<2^60:=by
  have b:bb n (vf sizes)<=360^n:=vK fun i hi=>⟨h.st.gd.sp i hi,h.st.sm i hi⟩
  have b2:(360:Int)^n<=360^6:=NU hn
  have b3:(360:Int)^6<2^60:=by decide
  rw[bb,show II (r.2++[aO r.2 k (aA c sizes r.1 (bG Ls m k) n).2 k]) k=vf (aO r.2 k (aA c sizes r.1 (bG Ls m k) n).2 k) by rw[← il];exact kz] at pr
  have p1:0<bb k (fun j=>II (r.2++[aO r.2 k (aA c sizes r.1 (bG Ls m k) n).2 k]) j j):=lE fun j hj=>by rw[iN (by omega)];exact h.vH.pos j hj
  have p2:0<bb n (aP (vf sizes) (DD (cq c sizes r.1 (bG Ls m k) n))):=lE fun d hd=>(St'.gd.pos hd).1
  generalize bb k (fun j=>II (r.2++[aO r.2 k (aA c sizes r.1 (bG Ls m k) n).2 k]) j j)=a at *
  generalize bb n (aP (vf sizes) (DD (cq c sizes r.1 (bG Ls m k) n)))=b' at *
  generalize vf (aO r.2 k (aA c sizes r.1 (bG Ls m k) n).2 k) k=x at *
  have e1:1*x<=a*x:=Int.mul_le_mul_of_nonneg_right (by omega) (by omega)
  have e2:a*x*1<=a*x*b':=Int.mul_le_mul_of_nonneg_left (by omega) (by omega)
  omega
 refine⟨St',⟨by simp[il],fun j hj=>?_,fun j hj=>?_,fun j hj=>?_,fun j hj l h1 h2=>?_,fun j hj l hl=>?_,fun j hj=>?_⟩,pr,fun j hj P hz hP=>?_⟩
 all_goals
  rcases Nat.lt_or_ge j k with q | q
 ·rw[D4 (by omega)];exact h.vH.l2 j q
 ·obtain rfl:j=r.2.length:=by omega
  rw[C0];exact span_len h.vH ll.2 k (Nat.le_refl _)
 ·rw[iN (by omega)];exact h.vH.pos j q
 ·obtain rfl:j=r.2.length:=by omega
  rw[kz,il];exact jpos
 ·rw[iN (by omega)];exact h.vH.le j q
 ·obtain rfl:j=r.2.length:=by omega
  rw[kz,il];exact jle
 ·rw[iN (by omega)];exact h.vH.zero j q l h1 h2
 ·obtain rfl:j=r.2.length:=by omega
  rw[kz,out l (by omega) h2];exact zf.1 l (by omega) h2
 ·rw[iN (by omega),iN (by omega)];exact h.vH.nf j q l hl
 ·obtain rfl:j=r.2.length:=by omega
  rw[kz,iN (by omega)];exact ze h.vH ll.2 (by omega) k (Nat.le_refl _) l (by omega) (by omega)
 ·rw[iN (by omega)];exact h.vH.vH j q
 ·obtain rfl:j=r.2.length:=by omega
  rw[kz]
  refine xI h.vH ll.2 (fun i hi=>?_) k (Nat.le_refl _)
  have:=led i hi
  rw[show vf (aA c sizes r.1 (bG Ls m k) n).1 i=0 from l0 i hi] at this
  exact this
 ·rw[iN (by omega)];exact h.ord j q P hz hP
 ·obtain rfl:j=k:=by omega
  rw[show II (r.2++[aO r.2 j (aA c sizes r.1 (bG Ls m j) n).2 j]) j=vf (aO r.2 j (aA c sizes r.1 (bG Ls m j) n).2 j) by rw[← il];exact kz,jk]
  have:=T.order h.st.gd n 0 (P j) (by omega) ?_
  ·rwa [bb,Int.mul_one] at this
  ·refine h.st.gd.yS (by omega) (fun i hi=>?_) (G.mul (-1) (by omega) (G.sum (A:=AA Ls) (P:=P) h.st.gd j h.st.cl))
   have e:=hP i hi
   rw[rL hk fun l h1 h2=>by rw[hz l (by omega) h2,Int.zero_mul]] at e
   obtain⟨x,hx⟩:=e
   have hx:(0:Int)-(bp j (fun l=>P l*AA Ls l i)+P j*AA Ls j i)=vf sizes i*x:=hx
   show vf sizes i∣P j*AA Ls j i - -1*bp j fun l=>P l*AA Ls l i
   exact⟨-x,by rw[Int.mul_neg];omega⟩
theorem CO.start(hs:sizes.length=n)(hp:∀ i,i<n->0<vf sizes i/\vf sizes i<=360):CO n m sizes Ls 0 (List.replicate n (List.replicate n 0,List.replicate m 0),[]):=by
 have rw0:∀ d,d<n->row (List.replicate n (List.replicate n 0,List.replicate m 0)) d=(List.replicate n 0,List.replicate m 0):=fun d hd=>by
  rw[jz (by simpa using hd)];simp
 have D0:∀ d,d<n->∀ i,DD (List.replicate n (List.replicate n 0,List.replicate m 0)) d i=0:=fun d hd i=>by
  unfold DD;rw[rw0 d hd];exact mv n i
 have P0:∀ d,d<n->∀ i,PP (List.replicate n (List.replicate n 0,List.replicate m 0)) d i=0:=fun d hd i=>by
  unfold PP;rw[rw0 d hd];exact mv m i
 have st:∀ d,d<n->aP (vf sizes) (DD (List.replicate n (List.replicate n 0,List.replicate m 0))) d=vf sizes d:=fun d hd=>by
  unfold aP;rw[if_pos (D0 d hd d)]
 refine⟨⟨⟨by simp,fun r hr=>by rw[List.eq_of_mem_replicate hr];simp,fun r hr=>by rw[List.eq_of_mem_replicate hr];simp⟩,hs,fun i hi=>(hp i hi).2,⟨fun i hi=>(hp i hi).1,fun d hd i hi=>?_,fun d hd i hi=>D0 d hd i,fun d hd=>by rw[st d hd];exact Int.dvd_refl _,fun d k hn=>?_⟩,fun d hd i hi=>?_,fun d hd l _ _=>P0 d hd l,fun d hd=>?_,fun l hl=>by omega⟩,⟨rfl,fun j hj=>by omega,fun j hj=>by omega,fun j hj=>by omega,fun j hj=>by omega,fun j hj=>by omega,fun j hj=>by omega⟩,?_,fun j hj=>by omega⟩
 ·rw[D0 d hd i];have:=(hp i hi).1;omega
 ·exact G.ext (by omega) (fun i hi=>by rw[D0 d (by omega) i,Int.mul_zero]) (G.zero (by omega))
 ·rw[D0 d hd i,fG (g:=fun _=>0) fun l hl=>by rw[P0 d hd l,Int.zero_mul],jg];exact Int.dvd_zero _
 ·rw[rw0 d hd]
  intro x hx
  rw[List.eq_of_mem_replicate hx];exact Nat.two_pow_pos _
 ·rw[bb,Int.one_mul];exact i9 fun d hd=>st d hd
theorem CO.all(hs:sizes.length=n)(hp:∀ i,i<n->0<vf sizes i/\vf sizes i<=360)(LL:KP n m sizes Ls)(cb:CB c)(hn:n<=6):∀ k,k<=m->CO n m sizes Ls k (RK c sizes Ls n m k)
 | 0,_=>CO.start hs hp
 | k+1,hk=>(CO.all hs hp LL cb hn k (by omega)).next LL cb hn (by omega)
end
end Rg
namespace Rg
section
variable{n:Nat}{s:bN}{D:Nat->bN}
theorem AX{a b:Int}(h:b∣a)(h1:-b<a)(h2:a<b):a=0:=by
 obtain⟨c,rfl⟩:=h
 rcases Int.lt_trichotomy c 0 with q | q | q
 ·have:b*c<=b*(-1):=Int.mul_le_mul_of_nonneg_left (by omega) (by omega)
  omega
 ·rw[q,Int.mul_zero]
 ·have:b*1<=b*c:=Int.mul_le_mul_of_nonneg_left (by omega) (by omega)
  omega
end
end Rg
namespace Rg
def eU(n:Nat)(s:bN)(Q:Int)(w v:bN):Int:=bp n fun i=>w i*v i*(Q/s i)
section
variable{n:Nat}{s:bN}{D:Nat->bN}{Q:Int}{w v u:bN}
theorem mR(a b:Int){x:bN}(h:∀ i,i<n->x i=a*v i+b*u i):eU n s Q w x=a*eU n s Q w v+b*eU n s Q w u :=
 hU a b _ _ _ n fun i hi=>by rw[h i hi];grind
theorem wU{f:Nat->Int}{q:Int}:∀ {m:Nat},(∀ l,l<m->q∣f l)->q∣bp m f
 | 0,_=>Int.dvd_zero _
 | m+1,h=>Int.dvd_add (wU fun l hl=>h l (by omega)) (h m (by omega))
theorem w6(hq:∀ i,i<n->s i∣Q)(h:∀ i,i<n->s i∣v i):Q∣eU n s Q w v:=wU fun i hi=>by
 obtain⟨c,hc⟩:=h i hi
 obtain⟨e,he⟩:=hq i hi
 by_cases z:s i=0
 ·rw[hc,z];simp
 ·rw[hc,he,Int.mul_ediv_cancel_left _ z]
  exact⟨w i*c,by grind⟩
theorem wY(hq:∀ i,i<n->s i∣Q)(h:∀ i,i<n->s i∣v i-u i):Q∣eU n s Q w v-eU n s Q w u:=by
 have:=mR (s:=s) (Q:=Q) (w:=w) (n:=n) 1 (-1) (v:=v) (u:=u) (x:=fun i=>v i-u i) fun i _=>by omega
 have h2:=w6 (w:=w) hq h
 rw[this] at h2
 rw[show eU n s Q w v-eU n s Q w u=1*eU n s Q w v+-1*eU n s Q w u by omega]
 exact h2
theorem Eb(hq:∀ i,i<n->s i∣Q):∀ (k d:Nat) (v:bN),d+k=n->(∀ b,d<=b->b<n->Q∣eU n s Q w (D b))->G n s D k d v->Q∣eU n s Q w v
 | 0,d,v,_,_,g=>w6 hq g
 | k+1,d,v,hn,hD,g=>by
  have h1:=Eb hq k (d+1) _ (by omega) (fun b h1 h2=>hD b (by omega) h2) g.2
  have h2:=hD d (Nat.le_refl _) (by omega)
  have e:=mR (s:=s) (Q:=Q) (w:=w) (n:=n) 1 (v d/aP s D d) (v:=fun i=>v i-v d/aP s D d*D d i) (u:=D d) (x:=v) fun i _=>by omega
  rw[e]
  exact Int.dvd_add (Int.dvd_trans h1 (Int.dvd_mul_left _ _)) (Int.dvd_trans h2 (Int.dvd_mul_left _ _))
theorem Fy{c:Nat}(hc:c<n){x:Int}{w':bN}(h0:w c=0)(h1:w' c=x)(h2:∀ i,i<n->i≠c->w' i=w i):eU n s Q w' v=eU n s Q w v+x*v c*(Q/s c):=by
 have e1:eU n s Q w' v=1*eU n s Q w v+1*bp n fun i=>if i=c then x*v c*(Q/s c) else 0:=hU 1 1 _ _ _ n fun i hi=>by
  by_cases z:i=c
  ·rw[z,h1,h0];simp
  ·rw[h2 i hi z];simp[z]
 have e2:=ff c (x*v c*(Q/s c)) n hc (fun i=>if i=c then x*v c*(Q/s c) else 0) fun _ _=>rfl
 rw[e1,e2];omega
theorem xA(h:∀ i,i<n->w i*v i=0):eU n s Q w v=0:=by
 unfold eU
 rw[fG (g:=fun _=>0) fun i hi=>by rw[h i hi];simp,jg]
def cU(s:bN)(D:Nat->bN)(d:Nat):Int:=s d/aP s D d
theorem fu(g:Good n s D){d:Nat}(h:d<n):cU s D d*aP s D d=s d/\0<cU s D d/\cU s D d<=s d:=by
 have p:=g.pos h
 obtain⟨c,hc⟩:=g.dv d h
 have e:cU s D d=c:=by unfold cU;rw[hc,Int.mul_ediv_cancel_left _ (by omega)]
 have sp:=g.sp d h
 have c0:0<c:=by
  rcases Int.lt_trichotomy c 0 with q | q | q
  ·have:=Int.mul_neg_of_pos_of_neg p.1 q;omega
  ·rw[q] at hc;omega
  ·exact q
 refine⟨by rw[e,hc,Int.mul_comm],by omega,?_⟩
 rw[e]
 have:1*c<=aP s D d*c:=Int.mul_le_mul_of_nonneg_right (by omega) (by omega)
 omega
structure Wk (n:Nat) (s:bN) (D:Nat->bN) (Q:Int) (dial a:Nat) (w:bN):Prop where
 LS:∀ i,dial<i->i<n->w i=0
 at_:w dial=cU s D dial%s dial
 ah:∀ i,a<=i->i<dial->0<=w i/\w i<cU s D i
 no:∀ i,i<a->w i=0
 kill:∀ b,a<=b->b<n->Q∣eU n s Q w (D b)
theorem Wk.start(g:Good n s D)(hq:∀ i,i<n->s i∣Q){dial:Nat}(hd:dial<n){w:bN}(h:∀ i,i<n->w i=if i=dial then cU s D dial%s dial else 0):Wk n s D Q dial dial w where
 LS:=fun i h1 h2=>by rw[h i h2,if_neg (by omega)]
 at_:=by rw[h dial hd,if_pos rfl]
 ah:=fun i h1 h2=>by omega
 no:=fun i hi=>by rw[h i (by omega),if_neg (by omega)]
 kill:=fun b h1 h2=>by
  by_cases z:b=dial
  ·subst z
   obtain⟨f1,f2,f3⟩:=fu g h2
   obtain⟨e,he⟩:=hq b h2
   obtain⟨x,hx⟩:=g.diag h2
   obtain⟨y,hy⟩:=d_ (cU s D b) (s b)
   have sp:=g.sp b h2
   have e1:eU n s Q w (D b)=1*bp n (fun i=>if i=b then (cU s D b%s b)*D b b*(Q/s b) else 0)+0*0:=by
    have:=hU 1 0 (fun i=>if i=b then (cU s D b%s b)*D b b*(Q/s b) else 0) (fun _=>0) (fun i=>w i*D b i*(Q/s i)) n fun i hi=>by
     rw[h i hi]
     by_cases z:i=b
     ·subst z;simp
     ·simp[z]
    rw[show eU n s Q w (D b)=bp n fun i=>w i*D b i*(Q/s i) from rfl,this];omega
   rw[e1,ff b _ n h2 _ fun _ _=>rfl,he,Int.mul_ediv_cancel_left _ (by omega)]
   have hy':cU s D b%s b=cU s D b+s b*y:=by omega
   have hx':D b b=aP s D b+s b*x:=by omega
   refine⟨1+cU s D b*x+y*D b b,?_⟩
   rw[hy',hx']
   generalize cU s D b=F at *
   generalize aP s D b=T at *
   generalize s b=S at *
   subst f1
   grind
  ·rw[xA fun i hi=>?_]
   ·exact Int.dvd_zero _
   ·rcases Nat.lt_or_ge i b with q | q
    ·rw[g.vX b h2 i q];simp
    ·rw[h i hi,if_neg (by omega)];simp
theorem Wk.next(g:Good n s D)(hQ:0<Q)(hq:∀ i,i<n->s i∣Q){dial c:Nat}(hd:dial<n){w w':bN}(W:Wk n s D Q dial (c+1) w)(hc:c<dial)(h1:w' c=-(eU n s Q w (D c)%Q/(Q/cU s D c))%cU s D c)(h2:∀ i,i<n->i≠c->w' i=w i):Wk n s D Q dial c w':=by
 obtain⟨f1,f2,f3⟩:=fu g (show c<n by omega)
 obtain⟨e,he⟩:=hq c (by omega)
 have sp:=g.sp c (by omega)
 have sh:Q/cU s D c=aP s D c*e:=by
  rw[he,← f1,Int.mul_assoc,Int.mul_ediv_cancel_left _ (by omega)]
 have hs:Q/s c=e:=by rw[he,Int.mul_ediv_cancel_left _ (by omega)]
 have fQ:cU s D c*(aP s D c*e)=Q:=by rw[← Int.mul_assoc,f1,he]
 have sh0:0<aP s D c*e:=by
  rcases Int.lt_trichotomy (aP s D c*e) 0 with q | q | q
  ·have:=Int.mul_neg_of_pos_of_neg f2 q;omega
  ·rw[q] at fQ;omega
  ·exact q
 have cl:=g.Le c (n-(c+1)) (by omega)
 have k1:=Eb (w:=w) hq (n-(c+1)) (c+1) _ (by omega) (fun b h1 h2=>W.kill b h1 h2) cl
 rw[mR (s:=s) (Q:=Q) (w:=w) (n:=n) (cU s D c) 0 (v:=D c) (u:=D c) (x:=fun i=>s c/aP s D c*D c i) fun i _=>by unfold cU;omega] at k1
 obtain⟨x,hx⟩:=k1
 have dv:(aP s D c*e)∣eU n s Q w (D c):=⟨x,by
  have:cU s D c*eU n s Q w (D c)=cU s D c*(aP s D c*e*x):=by
   rw[← Int.mul_assoc,fQ];omega
  exact Int.eq_of_mul_eq_mul_left (by omega) this⟩
 have ed:=Int.emod_def (eU n s Q w (D c)) Q
 have dv2:(aP s D c*e)∣eU n s Q w (D c)%Q:=by
  rw[ed]
  exact Int.dvd_sub dv (Int.dvd_trans ⟨cU s D c,by rw[Int.mul_comm];exact fQ.symm⟩ (Int.dvd_mul_right _ _))
 obtain⟨q,hq'⟩:=dv2
 rw[sh] at h1
 have eq1:eU n s Q w (D c)%Q/(aP s D c*e)=q:=by rw[hq',Int.mul_ediv_cancel_left _ (by omega)]
 rw[eq1] at h1
 obtain⟨y,hy⟩:=d_ (-q) (cU s D c)
 obtain⟨z,hz⟩:=g.diag (show c<n by omega)
 refine⟨fun i a b=>?_,?_,fun i a b=>?_,fun i a=>?_,fun b a1 a2=>?_⟩
 ·rw[h2 i b (by omega)];exact W.LS i a b
 ·rw[h2 dial hd (by omega)];exact W.at_
 ·by_cases q2:i=c
  ·rw[q2,h1]
   exact⟨Int.emod_nonneg _ (by omega),Int.emod_lt_of_pos _ f2⟩
  ·rw[h2 i (by omega) q2];exact W.ah i (by omega) b
 ·rw[h2 i (by omega) (by omega)];exact W.no i (by omega)
 ·rw[Fy (w:=w) (show c<n by omega) (W.no c (by omega)) rfl h2]
  by_cases q2:b=c
  ·subst q2
   rw[hs]
   have e1:w' b=-q+cU s D b*y:=by omega
   have e2:D b b=aP s D b+s b*z:=by omega
   have e3:eU n s Q w (D b)=Q*(eU n s Q w (D b)/Q)+aP s D b*e*q:=by omega
   refine⟨eU n s Q w (D b)/Q+y+w' b*z,?_⟩
   rw[e2]
   generalize eU n s Q w (D b)/Q=p at *
   rw[e3,e1]
   generalize cU s D b=F at *
   generalize aP s D b=T at *
   generalize s b=S at *
   subst f1
   rw[he]
   grind
  ·rw[g.vX b a2 c (by omega)]
   simp only[Int.mul_zero,Int.zero_mul,Int.add_zero]
   exact W.kill b (by omega) a2
end
end Rg
namespace Rg
section
variable{n:Nat}{s:bN}{D:Nat->bN}{Q:Int}
theorem nq(w v:bN):eU n s Q w v=eU n s Q v w:=fG fun i _=>by rw[Int.mul_comm (w i)]
theorem JP{u:bN}(g:Good n s D){d:Nat}(hd:d<n)(z:∀ i,d<i->i<n->u i=0):eU n s Q u (D d)=u d*D d d*(Q/s d) :=
 ff d _ n hd _ fun i hi=>by
  by_cases e:i=d
  ·rw[e];simp
  ·rcases Nat.lt_or_ge i d with q | q
   ·rw[g.vX d hd i q];simp[e]
   ·rw[z i (by omega) hi];simp[e]
theorem Ax(hQ:0<Q){x:Int}(hx:0<x)(h:x∣Q):0<Q/x/\Q=x*(Q/x):=by
 obtain⟨c,hc⟩:=h
 have e:Q/x=c:=by rw[hc,Int.mul_ediv_cancel_left _ (by omega)]
 refine⟨?_,by rw[e];exact hc⟩
 rw[e]
 rcases Int.lt_trichotomy c 0 with q | q | q
 ·have:=Int.mul_neg_of_pos_of_neg hx q;omega
 ·rw[q] at hc;omega
 ·exact q
theorem FK{u:bN}(g:Good n s D)(hQ:0<Q)(hq:∀ i,i<n->s i∣Q){d:Nat}(hd:d<n)(z:∀ i,d<i->i<n->u i=0)(k:Q∣eU n s Q u (D d)):cU s D d∣u d:=by
 obtain⟨f1,f2,f3⟩:=fu g hd
 have p:=g.pos hd
 by_cases h0:D d d=0
 ·have e1:aP s D d=s d:=by unfold aP;rw[if_pos h0]
  have e2:cU s D d=1:=by
   have:cU s D d*s d=1*s d:=by rw[e1] at f1;omega
   exact Int.eq_of_mul_eq_mul_right (by have:=g.sp d hd;omega) this
  rw[e2];exact Int.one_dvd _
 ·have e1:D d d=aP s D d:=by unfold aP;rw[if_neg h0]
  rw[JP g hd z,e1] at k
  obtain⟨e0,eq⟩:=Ax hQ (g.sp d hd) (hq d hd)
  obtain⟨c,hc⟩:=k
  generalize Q/s d=e at *
  refine⟨c,?_⟩
  have:aP s D d*e*u d=aP s D d*e*(cU s D d*c):=by
   rw[eq,← f1] at hc
   grind
  exact Int.eq_of_mul_eq_mul_left (by have:=Int.mul_pos p.1 e0;omega) this
variable{W:Nat->bN}
theorem z7(g:Good n s D)(hW:∀ d,d<n->Wk n s D Q d 0 (W d)){t r:bN}(ht:∀ d,d<n->0<=t d/\t d<aP s D d)(hr:∀ d,d<n->0<=r d/\r d<aP s D d)(h:∀ i,i<n->s i∣bp n fun d=>(t d-r d)*W d i):∀ c,c<=n->∀ d,n-c<=d->d<n->t d=r d
 | 0,_,d,h1,h2=>by omega
 | c+1,hc,d,h1,h2=>by
  have ih:=z7 g hW ht hr h c (by omega)
  by_cases z:n-c<=d
  ·exact ih d z h2
  ·obtain⟨f1,f2,f3⟩:=fu g h2
   have e:bp n (fun e=>(t e-r e)*W e d)=(t d-r d)*W d d:=ff d _ n h2 _ fun e he=>by
    by_cases q:e=d
    ·rw[q];simp
    ·rcases Nat.lt_or_ge e d with q' | q'
     ·rw[(hW e he).LS d q' h2];simp[q]
     ·rw[ih e (by omega) he];simp[q]
   have k:=h d h2
   rw[e,(hW d h2).at_] at k
   have a1:=ht d h2;have a2:=hr d h2
   have k2:s d∣(t d-r d)*cU s D d:=by
    have:=Int.emod_add_mul_ediv (cU s D d) (s d)
    have e3:(t d-r d)*cU s D d=(t d-r d)*(cU s D d%s d)+s d*((t d-r d)*(cU s D d/s d)):=by grind
    rw[e3]
    exact Int.dvd_add k ⟨_,rfl⟩
   obtain⟨x,hx⟩:=k2
   have e4:t d-r d=aP s D d*x:=by
    have:cU s D d*(t d-r d)=cU s D d*(aP s D d*x):=by rw[← f1] at hx;grind
    exact Int.eq_of_mul_eq_mul_left (by omega) this
   have x0:x=0:=by
    rcases Int.lt_trichotomy x 0 with q | q | q
    ·have:aP s D d*x<=aP s D d*(-1):=Int.mul_le_mul_of_nonneg_left (by omega) (by omega)
     omega
    ·exact q
    ·have:aP s D d*1<=aP s D d*x:=Int.mul_le_mul_of_nonneg_left (by omega) (by omega)
     omega
   rw[x0] at e4
   omega
structure Wr (n:Nat) (s:bN) (D:Nat->bN) (Q:Int) (W:Nat->bN) (u:bN) (c:Nat) (L t:bN):Prop where
 iG:∀ i,i<n->0<=L i/\L i<s i
 z:∀ i,n-c<=i->i<n->L i=0
 st:∀ b,b<n->Q∣eU n s Q L (D b)
 tr:∀ d,n-c<=d->d<n->0<=t d/\t d<aP s D d
 z0:∀ d,d<n-c->t d=0
 eq:∀ i,i<n->s i∣u i-(L i+bp n fun d=>t d*W d i)
theorem Wr.start{u t:bN}(h:∀ i,i<n->0<=u i/\u i<s i)(k:∀ b,b<n->Q∣eU n s Q u (D b))(t0:∀ d,d<n->t d=0):Wr n s D Q W u 0 u t where
 iG:=h
 z:=fun i h1 h2=>by omega
 st:=k
 tr:=fun d h1 h2=>by omega
 z0:=fun d hd=>t0 d (by omega)
 eq:=fun i hi=>by
  rw[fG (g:=fun _=>0) fun d hd=>by rw[t0 d hd];simp,jg]
  exact⟨0,by omega⟩
theorem Wr.next(g:Good n s D)(hQ:0<Q)(hq:∀ i,i<n->s i∣Q)(hW:∀ d,d<n->Wk n s D Q d 0 (W d)){u L t L' t':bN}{c d:Nat}(h:Wr n s D Q W u c L t)(hd:d+c+1=n)
  (e1:t' d=L d/cU s D d) (e2:∀ i,i<n->i≠d->t' i=t i) (e3:∀ i,i<n->L' i=(L i+-(L d/cU s D d)*W d i)%s i):Wr n s D Q W u (c+1) L' t':=by
 have dn:d<n:=by omega
 obtain⟨f1,f2,f3⟩:=fu g dn
 have sp:=g.sp d dn
 have wd:=hW d dn
 obtain⟨q,hq'⟩:=FK g hQ hq dn (fun i h1 h2=>h.z i (by omega) h2) (h.st d dn)
 have eq:L d/cU s D d=q:=by rw[hq',Int.mul_ediv_cancel_left _ (by omega)]
 rw[eq] at e1 e3
 have l0:=h.iG d dn
 have q0:0<=q:=by
  rcases(show q<0\/0<=q by omega) with z | z
  ·have:=Int.mul_neg_of_pos_of_neg f2 z;omega
  ·exact z
 have q1:q<aP s D d:=by
  rcases(show q<(aP s D d)\/(aP s D d)<=q by omega) with z | z
  ·exact z
  ·have:cU s D d*aP s D d<=cU s D d*q:=Int.mul_le_mul_of_nonneg_left z (by omega)
   omega
 have e3':∀ i,i<n->s i∣L' i-(L i+-q*W d i):=fun i hi=>by
  rw[e3 i hi]
  have:=Int.emod_def (L i+-q*W d i) (s i)
  exact⟨-((L i+-q*W d i)/s i),by rw[this];grind⟩
 have lr:∀ i,i<n->0<=L' i/\L' i<s i:=fun i hi=>by
  have:=g.sp i hi
  rw[e3 i hi]
  exact⟨Int.emod_nonneg _ (by omega),Int.emod_lt_of_pos _ this⟩
 refine⟨lr,fun i h1 h2=>?_,fun b hb=>?_,fun e h1 h2=>?_,fun e he=>?_,fun i hi=>?_⟩
 ·by_cases z:i=d
  ·subst z
   rw[e3 i dn,wd.at_]
   rcases Int.lt_or_eq_of_le f3 with y | y
   ·rw[Int.emod_eq_of_lt (by omega) y,hq']
    have:cU s D i*q+-q*cU s D i=0:=by grind
    rw[this];simp
   ·have:q=0:=by
     rcases(show 0<q\/q<=0 by omega) with z | z
     ·have:cU s D i*1<=cU s D i*q:=Int.mul_le_mul_of_nonneg_left (by omega) (by omega)
      omega
     ·omega
    rw[hq',this];simp
  ·rw[e3 i h2,h.z i (by omega) h2,wd.LS i (by omega) h2];simp
 ·have c1:=wY (n:=n) (s:=s) (Q:=Q) (w:=D b) hq e3'
  have l1:=mR (n:=n) (s:=s) (Q:=Q) (w:=D b) 1 (-q) (v:=L) (u:=W d) (x:=fun i=>L i+-q*W d i) fun i _=>by omega
  rw[nq]
  have k1:=h.st b hb
  have k2:=wd.kill b (Nat.zero_le _) hb
  rw[nq] at k1 k2
  have:=Int.dvd_add c1 (show Q∣eU n s Q (D b) (fun i=>L i+-q*W d i) by
   rw[l1];exact Int.dvd_add (Int.dvd_mul_of_dvd_right k1) (Int.dvd_mul_of_dvd_right k2))
  rw[Int.sub_add_cancel] at this
  exact this
 ·by_cases z:e=d
  ·subst z;rw[e1];exact⟨q0,q1⟩
  ·rw[e2 e h2 z];exact h.tr e (by omega) h2
 ·rw[e2 e (by omega) (by omega)];exact h.z0 e (by omega)
 ·have e5:bp n (fun e=>t' e*W e i)=1*bp n (fun e=>t e*W e i)+1*bp n (fun e=>if e=d then q*W d i else 0):=hU 1 1 _ _ _ n fun e he=>by
   by_cases z:e=d
   ·rw[z,e1,h.z0 d (by omega)];simp
   ·rw[e2 e he z];simp[z]
  rw[ff d (q*W d i) n dn (fun e=>if e=d then q*W d i else 0) fun _ _=>rfl] at e5
  obtain⟨x,hx⟩:=h.eq i hi
  obtain⟨y,hy⟩:=e3' i hi
  refine⟨x-y,?_⟩
  rw[Int.mul_sub,← hx,← hy,e5]
  have:-q*W d i=-(q*W d i):=Int.neg_mul _ _
  omega
theorem zK(hq:∀ i,i<n->s i∣Q){m:Nat}{A:Nat->bN}{P v w:bN}(hA:∀ l,l<m->Q∣eU n s Q w (A l))(h:∀ i,i<n->s i∣v i-bp m fun l=>P l*A l i):Q∣eU n s Q w v:=by
 have c1:=wY (n:=n) (s:=s) (Q:=Q) (w:=w) hq h
 have key:∀ k,k<=m->Q∣eU n s Q w (fun i=>bp k fun d=>P d*A d i):=fun k=>by
  induction k with
  | zero =>
   intro _
   rw[xA fun i _=>by simp[bp]];exact Int.dvd_zero _
  | succ k ih =>
   intro hm
   have l1:=mR (n:=n) (s:=s) (Q:=Q) (w:=w) 1 (P k) (v:=fun i=>bp k fun d=>P d*A d i) (u:=A k) (x:=fun i=>bp (k+1) fun d=>P d*A d i) fun i _=>by simp[bp]
   rw[l1]
   exact Int.dvd_add (Int.dvd_mul_of_dvd_right (ih (by omega))) (Int.dvd_mul_of_dvd_right (hA k (by omega)))
 have:=Int.dvd_add c1 (key m (Nat.le_refl _))
 rw[Int.sub_add_cancel] at this
 exact this
theorem B0(hq:∀ i,i<n->s i∣Q)(hW:∀ d,d<n->Wk n s D Q d 0 (W d)){t u:bN}(h:∀ i,i<n->s i∣u i-bp n fun d=>t d*W d i){b:Nat}(hb:b<n):Q∣eU n s Q u (D b):=by
 rw[nq]
 exact zK hq (fun d hd=>by rw[nq];exact(hW d hd).kill b (Nat.zero_le _) hb) h
end
end Rg
namespace xK
open PySem L2 PyProof.Rows Rg
local macro_rules | `(tactic| dsimp? [$ts,*])=>`(tactic| simp only[bf,av,mj,ao,xx,wG,retS,aW,r0,kP,mz,ar,M.aT,M.bind_some,M.bind_none,M.Cr,M.bind_assoc,aa,aj,ai,ae,ak,F2,F5,HV,JL,Iy,Jb,Jk,Jn,HU,HY,J5,IT,Jr,Ic,JH,Jy,dR,iI,Su,Bb,Fj,Ak,TY,Ad,j4,KN,jo,FT,itemsOf,j_,Gp,E9,Br,FQ,Fz,D8,BI,Dq,FE,Fv,CQ,qN,Ed,cZ,cV,zF,IC,List.length_cons,List.length_nil,List.map_cons,List.map_nil,List.cons_append,List.nil_append,List.replicate,List.getElem?_cons_zero,List.getElem?_cons_succ,List.getElem?_nil,List.set_cons_zero,List.set_cons_succ,List.set_nil,Nat.reduceAdd,Nat.reduceSub,if_true,if_false,Bool.not_true,Bool.not_false,Bool.false_eq_true,ite_true,ite_false,reduceIte,reduceCtorEq,Nat.sub_self,mq,cO,cK,Option.map_some,Option.map_none,vI,HR,I_,EJ,FZ,EN,JT,E3,F8,Fn,lK,List.any_cons,List.any_nil,String.reduceBEq,Bool.or_false,Bool.or_true,Bool.true_or,Bool.false_or,Bool.and_true,Bool.and_false,Bool.true_and,Bool.false_and,FR,F_,HK,J3,EM,F7,FD,Gi,C1,El,jb,sE,List.foldl_cons,List.foldl_nil,rS,aw trivial,$(⟨ts.elemsAndSeps⟩),*])
theorem ua(i:Int):dM [.int i]=M.ok (.bl true):=by rfl
theorem Ef(b:Bool):dM [.bl b]=M.ok (.bl false):=by rfl
theorem zS{α:Type}{inj:α->PV}{h:α->Bool}{p:PV}(xs:List α)(n:Int)(hp:p=.tup (xs.map inj)\/p=.lst (xs.map inj))(H:∀ a∈xs,dM [inj a]=M.ok (.bl (h a)))(hz:xs.length<=sizeLine):je [p,.int n]=M.ok (.bl (decide ((xs.length:Int)=n)&&xs.all h)):=by
 have key:bK (cH 0) none (ai dM (ae (aa 0) ak)) (xs.map inj) [none]=M.ok (xs.map fun a=>.bl (h a)):=iK xs fun a ha=>by dsimp? [H a ha]
 have key2:sG [.lst (xs.map fun a=>.bl (h a))]=M.ok (.bl (xs.all h)):=by
  have:=qh (xs.map h)
  rw[List.map_map] at this
  rw[show (fun a=>PV.bl (h a))=PV.bl∘h from rfl,this]
  simp[List.all_map]
 unfold je i7
 rcases hp with rfl | rfl
 all_goals
  dsimp? [List.length_map]
  by_cases e:(xs.length:Int)=n
  ·simp only[e,decide_true,Bool.not_true,M.aT,Bool.false_eq_true,if_false,xx,Bool.true_and]
   dsimp? [List.length_map,aw hz,key,key2]
  ·simp only[e,decide_false,Bool.not_false,M.aT,if_true,wG,Bool.false_and]
   dsimp? []
theorem BV(xs:List Int)(n:Int)(hz:xs.length<=sizeLine):je [tI xs,.int n]=M.ok (.bl (decide ((xs.length:Int)=n))):=by
 exact(zS (p:=tI xs) (h:=fun _=>true) xs n (.inl rfl) (fun a _=>ua a) hz).trans (by rw[List.all_eq_true.mpr fun _ _=>rfl,Bool.and_true])
theorem within_int(x a b:Int):cX [.int x,.int a,.int b]=M.ok (.bl (decide (a<=x/\x<=b))):=by
 unfold cX c6
 dsimp? [ua]
 by_cases h:a<=x
 ·simp only[h,decide_true,if_true,true_and];dsimp? []
 ·simp only[h,decide_false,false_and];dsimp? []
theorem r6(xs:List Int)(h1:1<=xs.length)(h6:xs.length<=6)(hx:∀ x∈xs,2<=x/\x<=360):gv [lI xs]=M.ok .cz:=by
 unfold gv eh
 have a1:¬ (6:Int)<xs.length:=by omega
 have a2:¬ (xs.length:Int)=0:=by omega
 dsimp? [a1,a2,decide_false,BG]
 refine dP xs.zipIdx (fun zs env=>(∃ b c,env=[some (.sh (lI xs)),b,c])/\∀ z∈zs,2<=z.1/\z.1<=360) ⟨⟨_,_,rfl⟩,fun z hz=>hx z.1 (List.fst_mem_of_mem_zipIdx hz)⟩ ?_ ?_
 ·rintro⟨a,i⟩ r env ⟨⟨b,c,rfl⟩,hz⟩
  have ha:=hz (a,i) List.mem_cons_self
  refine⟨_,[some (.sh (lI xs)),some (.sh (.int i)),some (.sh (.int a))],rfl,?_,⟨_,_,rfl⟩,fun z hz'=>hz z (List.mem_cons_of_mem _ hz')⟩
  dsimp? [within_int,ha,and_self,decide_true]
 ·rintro env' ⟨⟨b,c,rfl⟩,_⟩;rfl
theorem qi(n:Nat)(xs:List (List Int))(h8:xs.length<=8)(hx:∀ x∈xs,x.length=n)(hn:n<=100):fA [.lst (xs.map tI),.int n]=M.ok .cz:=by
 unfold fA dA
 have a1:¬ (8:Int)<xs.length:=by omega
 dsimp? [a1,decide_false,List.length_map,uj]
 refine dP xs.zipIdx (fun zs env=>(∃ b c,env=[some (.sh (.lst (xs.map tI))),some (.sh (.int n)),b,c])/\∀ z∈zs,z.1.length=n) ⟨⟨_,_,rfl⟩,fun z hz=>hx z.1 (List.fst_mem_of_mem_zipIdx hz)⟩ ?_ ?_
 ·rintro⟨a,i⟩ r env ⟨⟨b,c,rfl⟩,hz⟩
  have ha:a.length=n:=hz (a,i) List.mem_cons_self
  refine⟨_,[some (.sh (.lst (xs.map tI))),some (.sh (.int n)),some (.sh (.int i)),some (.sh (tI a))],rfl,?_,⟨_,_,rfl⟩,fun z hz'=>hz z (List.mem_cons_of_mem _ hz')⟩
  dsimp? [BV a n (aJ (by omega)),ha,decide_true]
 ·rintro env' ⟨⟨b,c,rfl⟩,_⟩;rfl
theorem mW(n:Nat)(p:PV):(List.replicate n [p]).flatten=List.replicate n p:=by
 induction n with
 | zero=>rfl
 | succ n ih=>rw[List.replicate_succ,List.flatten_cons,ih];rfl
theorem mul_one(p:PV)(n:Nat)(h8:n<=1000):bR (.tup [p]) (.int (n:Int))=M.ok (.tup (List.replicate n p)):=by
 have h2:[p].length*(n:Int).toNat<=sizeLine:=by
  rw[Int.toNat_natCast]
  exact aJ (by show 1*n<=1000;omega)
 have h3:(n:Int)<2^63:=Int.lt_of_le_of_lt (Int.ofNat_le.mpr h8) (by decide)
 have h4:-(2^63)<=(n:Int):=Int.le_trans (by decide) (Int.natCast_nonneg n)
 rw[bR,aw ⟨rfl,h4,h3,h2⟩,Int.toNat_natCast,mW]
theorem lx(xs:List PV)(h8:xs.length<=8):gm [.lst xs,.cz]=M.ok (tI (List.replicate xs.length 1)):=by
 unfold gm eQ
 dsimp? [Cb,tZ,mul_one (.int 1) xs.length (by omega)]
 rw[tI,List.map_replicate]
def yY(xs sizes:List Int):List Int:=(xs.zip sizes).map fun z=>z.1%z.2
theorem qF(p q:PV)(xs sizes:List Int)(hp:cy p=some (xs.map PV.int))(hq:cy q=some (sizes.map PV.int))(hs:∀ s∈sizes,0<s)(hz:xs.length<=1000):jw [p,q]=M.ok (tI (yY xs sizes)):=by
 have key:bK (bA 0 1) none (aj bZ (aa 0) (aa 1)) ((xs.zip sizes).map fun z=>.tup [.int z.1,.int z.2]) [none,none]=M.ok ((xs.zip sizes).map fun z=>.int (z.1%z.2)):=by
  refine iP (p:=fun z:Int×Int=>PV.int z.1) (q:=fun z:Int×Int=>PV.int z.2) (xs.zip sizes) fun z hz=>?_
  have:=hs z.2 (List.of_mem_zip (a:=z.1) (b:=z.2) hz).2
  dsimp? [aF this]
 unfold jw jl
 have hl:(xs.zip sizes).length<=sizeLine:=by rw[List.length_zip];exact aJ (Nat.le_trans (Nat.min_le_left _ _) hz)
 dsimp? [c8 xs sizes hp hq,List.length_map,aw hl,key]
 rw[tI,yY,List.map_map];rfl
theorem yA(a b c:PV):aM (.tup [a,b,c]) (.int 0)=M.ok a:=bQ (j:=0) rfl rfl
theorem JF(a b c:PV):aM (.tup [a,b,c]) (.int 1)=M.ok b:=bQ (j:=1) rfl rfl
theorem Hm(a b c:PV):aM (.tup [a,b,c]) (.int 2)=M.ok c:=bQ (j:=2) rfl rfl
theorem t5(a b:Int)(ha:a.natAbs<2^60)(hb:b.natAbs<2^60):∃ s t,fO [.int a,.int b]=M.ok (.tup [.int (Int.gcd a b),.int s,.int t])/\s*a+t*b=Int.gcd a b/\s.natAbs<=b.natAbs+1/\t.natAbs<=a.natAbs+(b.natAbs+1)*a.natAbs+b.natAbs+1:=by
 let J:af->Prop:=fun env=>∃ r s t r' s' t' x y,env=[some (.sh (.int a)),some (.sh (.int b)),some (.sh ((PV.tup [PV.int r,PV.int s,PV.int t]))),some (.sh ((PV.tup [PV.int r',PV.int s',PV.int t']))),x,y]/\Eu.St a b r s t r' s' t'
 let m:af->Nat:=fun env=>match env with
  | [_,_,_,some (.sh (.tup [.int r,_,_])),_,_]=>r.natAbs
  | _=>0
 have hk:(b.natAbs+1)*a.natAbs<=2^60*2^60:=Nat.mul_le_mul (by omega) (by omega)
 have hk2:(2:Nat)^60*2^60=2^120:=by decide
 have start:J [some (.sh (.int a)),some (.sh (.int b)),some (.sh ((PV.tup [PV.int a,PV.int 1,PV.int 0]))),some (.sh ((PV.tup [PV.int b,PV.int 0,PV.int 1]))),none,none]:=⟨_,_,_,_,_,_,_,_,rfl,Eu.start a b⟩
 have loop:=tq (u:=dR (aj xq (aj aM (aa 3) (fun _=>M.ok (.int 0))) (fun _=>M.ok (.int 0)))) (b:=(ao (aW 4 (aj bj (aj aM (aa 2) (fun _=>M.ok (.int 0))) (aj aM (aa 3) (fun _=>M.ok (.int 0)))))
  (ao (aW 5 (i6 (ae (aj l7 (aj aM (aa 2) (fun _=>M.ok (.int 0))) (aj bR (aa 4) (aj aM (aa 3) (fun _=>M.ok (.int 0))))) (ae (aj l7 (aj aM (aa 2) (fun _=>M.ok (.int 1))) (aj bR (aa 4) (aj aM (aa 3) (fun _=>M.ok (.int 1))))) (ae (aj l7 (aj aM (aa 2) (fun _=>M.ok (.int 2))) (aj bR (aa 4) (aj aM (aa 3) (fun _=>M.ok (.int 2))))) ak)))))
  (ao (aW 2 (aa 3))
  (ao (aW 3 (aa 5))
  ar))))) J m ?_ _ start
 ·obtain⟨env',e1,⟨r,s,t,r',s',t',x,y,rfl,st⟩,e2⟩:=loop
  have hr':r'=0:=by
   revert e2
   dsimp? [yA]
   intro e2
   have:(!decide (r'=0))=false:=by injection e2 with e2;injection e2
   simpa using this
  subst hr'
  obtain⟨d1,d2⟩:=Eu.done st
  have hg:(r.natAbs:Int)=Int.gcd a b:=by
   have h1:r.natAbs∣Int.gcd a b:=Int.dvd_gcd (Int.natAbs_dvd.mpr d1) (Int.natAbs_dvd.mpr d2)
   have h2:((Int.gcd a b:Nat):Int)∣r:=by
    rw[st.c0]
    exact Int.dvd_add (Int.dvd_trans (Int.gcd_dvd_left ..) (Int.dvd_mul_left _ _)) (Int.dvd_trans (Int.gcd_dvd_right ..) (Int.dvd_mul_left _ _))
   have h3:Int.gcd a b∣r.natAbs:=Int.ofNat_dvd_left.mp h2
   rw[Nat.dvd_antisymm h1 h3]
  unfold fO jd
  dsimp? []
  rw[e1]
  dsimp? [yA,JF,Hm]
  by_cases hneg:r<0
  ·refine⟨-s,-t,?_,?_,by rw[Int.natAbs_neg];exact st.b0,by rw[Int.natAbs_neg];exact st.d0⟩
   ·simp only[hneg,decide_true,if_true];dsimp? []
    rw[show -r=(Int.gcd a b:Int) by omega]
   ·have:=st.c0
    rw[Int.neg_mul,Int.neg_mul];omega
  ·refine⟨s,t,?_,?_,st.b0,st.d0⟩
   ·simp only[hneg,decide_false,Bool.false_eq_true,if_false];dsimp? []
    rw[show r=(Int.gcd a b:Int) by omega]
   ·have:=st.c0;omega
 ·rintro env ⟨r,s,t,r',s',t',x,y,rfl,st⟩
  by_cases h0:r'=0
  ·refine .inl ?_
   dsimp? [yA]
   simp[h0]
  ·refine .inr ⟨?_,?_⟩
   ·dsimp? [yA]
    simp[h0]
   ·obtain⟨st2,lt⟩:=Eu.turn st h0
    have b1:=st.m1;have b0:=st.m0;have c1:=st.b1;have c2:=st.d1;have c3:=st2.m1
    have q1:(r.fdiv r').natAbs<=r.natAbs+1:=by
     obtain⟨f1,f2,f3⟩:=Eu.sX r r' h0
     generalize r.fdiv r'=q at *
     have e:q*r'=r-(r-q*r'):=by omega
     have e2:(q*r').natAbs<=r.natAbs+(r-q*r').natAbs:=by omega
     rw[Int.natAbs_mul] at e2
     have:q.natAbs*1<=q.natAbs*r'.natAbs:=Nat.mul_le_mul_left _ (by omega)
     rcases Nat.lt_or_ge (r.natAbs+1) q.natAbs with h | h
     ·have h5:(r.natAbs+2)*r'.natAbs<=q.natAbs*r'.natAbs:=Nat.mul_le_mul_right _ (by omega)
      have h6:r.natAbs*1<=r.natAbs*r'.natAbs:=Nat.mul_le_mul_left _ (by omega)
      rw[Nat.add_mul] at h5
      omega
     ·exact h
    have q2:(r.fdiv r').natAbs<2^200:=by omega
    refine⟨[some (.sh (.int a)),some (.sh (.int b)),some (.sh ((PV.tup [PV.int r',PV.int s',PV.int t']))),some (.sh ((PV.tup [PV.int (r-r.fdiv r'*r'),PV.int (s-r.fdiv r'*s'),PV.int (t-r.fdiv r'*t')]))),some (.sh (.int (r.fdiv r'))),some (.sh ((PV.tup [PV.int (r-r.fdiv r'*r'),PV.int (s-r.fdiv r'*s'),PV.int (t-r.fdiv r'*t')])))],?_,⟨_,_,_,_,_,_,_,_,rfl,st2⟩,lt⟩
    dsimp? [yA,JF,Hm,tP h0 (Nat.lt_of_lt_of_le (show r'.natAbs<2^200 by omega) (Nat.pow_le_pow_right (by decide) (by decide))),aZ (k:=200) (l:=200) q2 (show r'.natAbs<2^200 by omega),aZ (k:=200) (l:=200) q2 (show s'.natAbs<2^200 by omega),aZ (k:=200) (l:=200) q2 (show t'.natAbs<2^200 by omega)]
def R(sizes:List Int):Int:=(Lc.BN (sizes.map Int.toNat):Nat)
structure Sz (sizes:List Int):Prop where
 h1:1<=sizes.length
 h6:sizes.length<=6
 hx:∀ x∈sizes,2<=x/\x<=360
theorem wK{sizes:List Int}(h:Sz sizes):0<R sizes:=by
 refine Int.ofNat_lt.mpr (Lc.lcm_pos fun n hn=>?_)
 obtain⟨x,hx,rfl⟩:=List.mem_map.mp hn
 have:=h.hx x hx;omega
theorem LI{sizes:List Int}(h:Sz sizes):R sizes<2^60:=by
 have h1:=Lc.q_ 9 (sizes.map Int.toNat) 1 0 (by decide) (by decide) fun n hn=>by
  obtain⟨x,hx,rfl⟩:=List.mem_map.mp hn
  have:=h.hx x hx;omega
 have h2:(2:Nat)^(0+9*(sizes.map Int.toNat).length)<=2^54:=Nat.pow_le_pow_right (by decide) (by rw[List.length_map];have:=h.h6;omega)
 have h3:Lc.BN (sizes.map Int.toNat)<=2^54:=Nat.le_trans h1 h2
 unfold R;omega
theorem KU{sizes:List Int}(h:Sz sizes){x:Int}(hx:x∈sizes):x∣R sizes:=by
 have h1:=Lc.lcm_dvd (ns:=sizes.map Int.toNat) (List.mem_map.mpr ⟨x,hx,rfl⟩)
 have h2:=Int.ofNat_dvd.mpr h1
 rw[Int.toNat_of_nonneg (by have:=h.hx x hx;omega)] at h2
 exact h2
structure Acc (sizes r:List Int) (acc:Nat):Prop where
 pos:0<acc
 le:acc<=2^(9*(6-r.length))
 len:r.length<=6
 val:(r.map Int.toNat).foldl Nat.lcm acc=Lc.BN (sizes.map Int.toNat)
 iG:∀ x∈r,2<=x/\x<=360
theorem Acc.start{sizes:List Int}(h:Sz sizes):Acc sizes sizes 1:=⟨by decide,Nat.one_le_two_pow,h.h6,rfl,h.hx⟩
theorem Acc.lt{sizes r:List Int}{acc:Nat}(h:Acc sizes r acc):acc<2^60:=by
 have h2:(2:Nat)^(9*(6-r.length))<=2^54:=Nat.pow_le_pow_right (by decide) (by omega)
 have:=h.le;omega
theorem Acc.turn{sizes r:List Int}{x:Int}{acc:Nat}(h:Acc sizes (x::r) acc):Acc sizes r (Nat.lcm acc x.toNat)/\(acc:Int)/(Int.gcd acc x:Nat)*x=(Nat.lcm acc x.toNat:Nat)/\(acc:Int)/(Int.gcd acc x:Nat)<=acc/\0<Int.gcd acc x:=by
 have hx:=h.iG x List.mem_cons_self
 have hp:=h.pos
 obtain⟨n,rfl⟩:=Int.eq_ofNat_of_zero_le (show 0<=x by omega)
 have hg:Int.gcd (acc:Int) (n:Int)=Nat.gcd acc n:=rfl
 refine⟨⟨Nat.lcm_pos hp (by omega),?_,?_,h.val,fun y hy=>h.iG y (List.mem_cons_of_mem _ hy)⟩,?_,?_,?_⟩
 ·have h1:Nat.lcm acc n<=acc*n:=Nat.le_of_dvd (Nat.mul_pos hp (by omega)) (Nat.lcm_dvd (Nat.dvd_mul_right ..) (Nat.dvd_mul_left ..))
  have h2:acc*n<=2^(9*(6-(r.length+1)))*2^9:=Nat.mul_le_mul h.le (by omega)
  have hl:r.length+1<=6:=h.len
  rw[← Nat.pow_add,show 9*(6-(r.length+1))+9=9*(6-r.length) by omega] at h2
  exact Nat.le_trans h1 h2
 ·have hl:r.length+1<=6:=h.len
  omega
 ·rw[hg,Int.toNat_natCast,← Lc.En];norm_cast
 ·rw[hg]
  exact Int.ofNat_le.mpr (Nat.div_le_self acc (Nat.gcd acc n))
 ·rw[hg];exact Nat.gcd_pos_of_pos_left _ hp
theorem ik(sizes:List Int)(h:Sz sizes):fq [lI sizes]=M.ok (.int (R sizes)):=by
 unfold fq dC
 dsimp? []
 refine dP sizes (fun r env=>∃ acc x,env=[some (.sh (lI sizes)),some (.sh (.int (acc:Nat))),x]/\Acc sizes r acc) ⟨1,_,rfl,.start h⟩ ?_ ?_
 ·rintro a r env ⟨acc,x,rfl,A⟩
  obtain⟨A2,e1,e2,e3⟩:=A.turn
  have l1:=A.lt
  have ha:=A.iG a List.mem_cons_self
  obtain⟨s,t,ec,_,_,_⟩:=t5 (acc:Int) a (by omega) (by omega)
  have g1:Int.gcd acc a<=acc:=Nat.le_of_dvd A.pos (Int.ofNat_dvd.mp (Int.gcd_dvd_left ..))
  have d0:0<=(acc:Int)/(Int.gcd acc a:Nat):=Int.ediv_nonneg (by omega) (by omega)
  refine⟨_,[some (.sh (lI sizes)),some (.sh (.int (Nat.lcm acc a.toNat:Nat))),some (.sh (.int a))],rfl,?_,_,_,rfl,A2⟩
  dsimp? [ec,yA,aH (i:=(acc:Int)) (show (0:Int)<(Int.gcd acc a:Nat) by omega) (show ((Int.gcd acc a:Nat):Int)<2^64 by omega),aZ (k:=64) (l:=64) (show ((acc:Int)/(Int.gcd acc a:Nat)).natAbs<2^64 by omega) (show a.natAbs<2^64 by omega),e1]
 ·rintro env' ⟨acc,x,rfl,A⟩
  dsimp? []
  have:=A.val
  rw[R,← this];rfl
def pZ(sizes:List Int)(levers:List (List Int)):List (Str×PV):=[("dial_sizes", tI sizes),("lever_settings", .tup (levers.map tI)),("lever_prices", tI (List.replicate levers.length 1)),("least_round", .int (R sizes))]
def dU(sizes:List Int)(levers:List (List Int)):PV:=.obj ay (pZ sizes levers)
structure Hb (sizes xs:List Int):Prop where
 len:xs.length=sizes.length
 iG:∀ z∈xs.zip sizes,0<=z.1/\z.1<z.2
theorem Ds{sizes xs:List Int}(h:Hb sizes xs):yY xs sizes=xs:=by
 obtain⟨hl,hr⟩:=h
 unfold yY
 induction xs generalizing sizes with
 | nil=>rfl
 | cons x r ih =>
  cases sizes with
  | nil=>cases hl
  | cons s t =>
   have h1:=hr (x,s) (by simp)
   rw[List.zip_cons_cons,List.map_cons,ih (Nat.succ.inj hl) fun z hz=>hr z (by rw[List.zip_cons_cons];exact List.mem_cons_of_mem _ hz)]
   rw[show ((x,s):Int×Int).1%((x,s):Int×Int).2=x from Int.emod_eq_of_lt h1.1 h1.2]
theorem v8(f:Str)(p:PV):∀ fs:List (Str×PV),(uA f p fs).length<=fs.length+1
 | []=>by simp[uA]
 | (g,q)::r=>by
  have:=v8 f p r
  unfold uA
  split
  ·simp
  ·simp;omega
theorem jB{f:Str}{p:PV}{fs:List (Str×PV)}{n:Nat}(h:fs.length<=n):(uA f p fs).length<=n+1:=Nat.le_trans (v8 f p fs) (by omega)
theorem jH(a C:Addr)(f:Str)(p:PV)(fs:List (Str×PV))(r:af)(h:fs.length<1000):CI 0 C f p (some (.bd a C fs)::r)=M.ok (.nx (some (.bd a C (uA f p fs))::r)):=by
 show cJ _ _=_
 rw[aw ⟨rfl,h⟩];rfl
theorem Gq(sizes:List Int)(levers:List (List Int))(h:Sz sizes)(h8:levers.length<=8)(hl:∀ l∈levers,l.length=sizes.length):jW ay ic [.cz] [lI sizes,.lst (levers.map tI)]=M.ok (dU sizes (levers.map fun l=>yY l sizes)):=by
 have key:∀ a,ic a ([lI sizes,.lst (levers.map tI)]++[.cz])=M.ok (pZ sizes (levers.map fun l=>yY l sizes)):=by
  intro a
  have e1:bK (cH 0) none (ai jw (ae (aa 0) (ae (aa 1) ak))) (levers.map tI) [none,some (.sh (lI sizes))]=M.ok (levers.map fun l=>tI (yY l sizes)):=by
   refine iK levers fun l hm=>?_
   have hs:=hl l hm
   have:=qF (tI l) (lI sizes) l sizes rfl rfl (fun s hs=>by have:=h.hx s hs;omega) (by rw[hs];have:=h.h6;omega)
   dsimp? [this]
  unfold ic jt
  simp only[vB]
  rw[aw (show ([lI sizes,PV.lst (levers.map tI)]++[PV.cz]).length+1=4 from rfl)]
  simp only[Bk,Ba]
  dsimp? [r6 sizes h.h1 h.h6 h.hx,qi sizes.length levers h8 hl (by have:=h.h6;omega),mn,List.length_map,aw (aJ (show levers.length<=1000 by omega)),e1,lx _ (show (levers.map tI).length<=8 by rw[List.length_map];exact h8),ik sizes h]
  rw[jH _ _ _ _ _ _ (by simp)]
  dsimp? [mn,List.length_map,aw (aJ (show levers.length<=1000 by omega)),e1,lx _ (show (levers.map tI).length<=8 by rw[List.length_map];exact h8),ik sizes h]
  rw[jH _ _ _ _ _ _ (Nat.lt_of_le_of_lt (jB (Nat.zero_le 0)) (by decide))]
  dsimp? [mn,List.length_map,aw (aJ (show levers.length<=1000 by omega)),e1,lx _ (show (levers.map tI).length<=8 by rw[List.length_map];exact h8),ik sizes h]
  rw[jH _ _ _ _ _ _ (Nat.lt_of_le_of_lt (jB (jB (Nat.zero_le 0))) (by decide))]
  dsimp? [mn,List.length_map,aw (aJ (show levers.length<=1000 by omega)),e1,lx _ (show (levers.map tI).length<=8 by rw[List.length_map];exact h8),ik sizes h]
  rw[jH _ _ _ _ _ _ (Nat.lt_of_le_of_lt (jB (jB (jB (Nat.zero_le 0)))) (by decide))]
  dsimp? []
  show cJ _ _=_
  rw[aw ⟨rfl,rfl⟩]
  rw[pZ,List.map_map,List.length_map]
  rfl
 unfold jW
 rw[DY key];rfl
theorem DS(sizes:List Int)(levers:List (List Int)):(pZ sizes levers).lookup (Str.ofString "dial_sizes")=some (tI sizes):=rfl
theorem As(sizes:List Int)(levers:List (List Int)):(pZ sizes levers).lookup (Str.ofString "lever_settings")=some (.tup (levers.map tI)):=rfl
theorem Ei(sizes:List Int)(levers:List (List Int)):(pZ sizes levers).lookup (Str.ofString "least_round")=some (.int (R sizes)):=rfl
theorem Li(sizes:List Int)(levers:List (List Int)):(pZ sizes levers).lookup (Str.ofString "sizes")=none:=rfl
theorem Km(sizes:List Int)(levers:List (List Int)):(pZ sizes levers).lookup (Str.ofString "levers")=none:=rfl
theorem wt(sizes:List Int)(levers:List (List Int)):aS [dU sizes levers]=M.ok (tI sizes):=by
 unfold aS aU
 dsimp? [iZ,dU,beq_self_eq_true,DS]
theorem tX(sizes:List Int)(levers:List (List Int)):bg [dU sizes levers]=M.ok (.tup (levers.map tI)):=by
 unfold bg bx
 dsimp? [iZ,dU,beq_self_eq_true,As]
theorem uo{g:af->M PV}{env:af}{sizes:List Int}{levers:List (List Int)}(h:g env=M.ok (dU sizes levers)):bD ay "sizes" aS g ak env=M.ok (tI sizes):=by
 have:=wt sizes levers
 rw[bD,h,M.aT]
 show cJ _ (M.bind (ak env) _)=_
 rw[aw ⟨rfl,Li sizes levers⟩]
 exact this
theorem qm{g:af->M PV}{env:af}{sizes:List Int}{levers:List (List Int)}(h:g env=M.ok (dU sizes levers)):bD ay "levers" bg g ak env=M.ok (.tup (levers.map tI)):=by
 have:=tX sizes levers
 rw[bD,h,M.aT]
 show cJ _ (M.bind (ak env) _)=_
 rw[aw ⟨rfl,Km sizes levers⟩]
 exact this
def uV(sizes xs:List Int):Bool:=decide ((xs.length:Int)=sizes.length)&&(xs.zip sizes).all fun z=>decide (0<=z.1/\z.1<z.2)
theorem zA{sizes xs:List Int}:uV sizes xs=true ↔ Hb sizes xs:=by
 unfold uV
 constructor
 ·intro h
  simp only[Bool.and_eq_true,decide_eq_true_eq,List.all_eq_true] at h
  exact⟨by omega,h.2⟩
 ·intro h
  simp only[Bool.and_eq_true,decide_eq_true_eq,List.all_eq_true]
  exact⟨by rw[h.len],h.iG⟩
theorem Ek(x s:Int):∀ env:af,env=[some (.sh (.int x)),some (.sh (.int s))]->jo EA ED (fun _=>M.ok (.int 0)) (aa 0) (aa 1) env=M.ok (.bl (decide (0<=x/\x<s))):=by
 rintro env rfl
 dsimp? []
 by_cases h:0<=x
 ·simp only[h,decide_true,if_true,true_and]
  try dsimp? []
 ·simp only[h,decide_false,false_and]
  try dsimp? []
theorem Jm{α:Type}(h:α->Bool)(xs:List α):sG [.lst (xs.map fun a=>.bl (h a))]=M.ok (.bl (xs.all h)):=by
 have:=qh (xs.map h)
 rw[List.map_map] at this
 rw[show (fun a=>PV.bl (h a))=PV.bl∘h from rfl,this]
 simp[List.all_map]
section
variable{sizes:List Int}{levers:List (List Int)}
theorem qE(h:Sz sizes)(xs:List Int)(hz:xs.length<=1000):aR [dU sizes levers,tI xs]=M.ok (.bl (uV sizes xs)):=by
 have key:bK (bA 0 1) none (jo EA ED (fun _=>M.ok (.int 0)) (aa 0) (aa 1)) ((xs.zip sizes).map fun z=>.tup [.int z.1,.int z.2]) [none,none]=M.ok ((xs.zip sizes).map fun z=>.bl (decide (0<=z.1/\z.1<z.2))) :=
  iP (p:=fun z:Int×Int=>PV.int z.1) (q:=fun z:Int×Int=>PV.int z.2) (xs.zip sizes) fun z hz=>Ek z.1 z.2 _ rfl
 have hl:(xs.zip sizes).length<=sizeLine:=by rw[List.length_zip];exact aJ (Nat.le_trans (Nat.min_le_left _ _) hz)
 unfold aR ck
 dsimp? [uo (sizes:=sizes) (levers:=levers) (g:=aa 0) (env:=[some (.sh (dU sizes levers)),some (.sh (tI xs)),none]) rfl,BV xs sizes.length (aJ hz)]
 unfold uV
 by_cases e:(xs.length:Int)=sizes.length
 ·simp only[e,decide_true,Bool.not_true,Bool.false_eq_true,if_false,Bool.true_and]
  dsimp? [c8 (p:=tI xs) (q:=tI sizes) xs sizes rfl rfl,List.length_map,aw hl,key,Jm]
 ·simp only[e,decide_false,Bool.not_false,if_true,Bool.false_and]
  dsimp? []
theorem pJ(h:Sz sizes){xs:List Int}(hs:Hb sizes xs):bh [dU sizes levers,tI xs]=M.ok .cz:=by
 unfold bh bB
 dsimp? [qE (levers:=levers) h xs (by rw[hs.len];have:=h.h6;omega),zA.mpr hs]
end
theorem lA{xs ys:List Int}{z:Int×Int}(h:z∈xs.zip ys):z.1∈xs/\z.2∈ys:=List.of_mem_zip (a:=z.1) (b:=z.2) h
theorem pG{sizes xs:List Int}(h:Sz sizes)(hs:Hb sizes xs){x:Int}(hx:x∈xs):0<=x/\x<360:=by
 obtain⟨i,hi,rfl⟩:=List.mem_iff_getElem.mp hx
 have hj:i<sizes.length:=by rw[← hs.len];exact hi
 have:=hs.iG (xs[i],sizes[i]) (by
  rw[List.mem_iff_getElem]
  exact⟨i,by rw[List.length_zip];omega,by rw[List.getElem_zip]⟩)
 have h2:=h.hx sizes[i] (List.getElem_mem hj)
 exact⟨this.1,by have:=this.2;simp only at this;omega⟩
theorem vh(xs sizes:List Int):yY xs sizes=Ai xs sizes:=rfl
noncomputable def cf(a b:Int):Int×Int:=open Classical in if h:∃ p:Int×Int,fO [.int a,.int b]=M.ok (.tup [.int (Int.gcd a b),.int p.1,.int p.2])/\p.1*a+p.2*b=Int.gcd a b/\p.1.natAbs<=b.natAbs+1/\p.2.natAbs<=a.natAbs+(b.natAbs+1)*a.natAbs+b.natAbs+1 then h.choose else (0,0)
theorem GP(a b:Int)(ha:a.natAbs<2^60)(hb:b.natAbs<2^60):fO [.int a,.int b]=M.ok (.tup [.int (Int.gcd a b),.int (cf a b).1,.int (cf a b).2])/\(cf a b).1*a+(cf a b).2*b=Int.gcd a b/\(cf a b).1.natAbs<=b.natAbs+1/\(cf a b).2.natAbs<=a.natAbs+(b.natAbs+1)*a.natAbs+b.natAbs+1:=by
 have h:∃ p:Int×Int,fO [.int a,.int b]=M.ok (.tup [.int (Int.gcd a b),.int p.1,.int p.2])/\p.1*a+p.2*b=Int.gcd a b/\p.1.natAbs<=b.natAbs+1/\p.2.natAbs<=a.natAbs+(b.natAbs+1)*a.natAbs+b.natAbs+1:=by
  obtain⟨s,t,h⟩:=t5 a b ha hb
  exact⟨(s,t),h⟩
 unfold cf
 rw[dif_pos h]
 exact h.choose_spec
theorem De:CB cf:=fun a b h1 h2 h3 h4=>by
 obtain⟨_,e,b1,b2⟩:=GP a b (by omega) (by omega)
 refine⟨e,by omega,?_⟩
 have:(b.natAbs+1)*a.natAbs<=361*360:=Nat.mul_le_mul (by omega) (by omega)
 omega
def mk(r:Row):PV:=.tup [tI r.1,tI r.2]
theorem xB(r:Row):aM (mk r) (.int 0)=M.ok (tI r.1):=bQ (p:=mk r) (j:=0) rfl rfl
theorem GQ(r:Row):aM (mk r) (.int 1)=M.ok (tI r.2):=bQ (p:=mk r) (j:=1) rfl rfl
theorem iC{xs:List Int}{i:Nat}(h:i<xs.length):aM (tI xs) (.int (i:Int))=M.ok (.int (vf xs i)) :=
 bQ (p:=tI xs) rfl (by rw[List.getElem?_map,List.getElem?_eq_getElem h,aN h];rfl)
theorem p9{rows:List Row}{d:Nat}(h:d<rows.length):aM (.lst (rows.map mk)) (.int (d:Int))=M.ok (mk (row rows d)) :=
 bQ (p:=.lst (rows.map mk)) rfl (by rw[List.getElem?_map,List.getElem?_eq_getElem h,jz h];rfl)
theorem qD{A B:Nat}(p q:PV)(xs ys:List Int)(a b:Int)(hp:cy p=some (xs.map PV.int))(hq:cy q=some (ys.map PV.int))(hx:Bd B xs)(hy:Bd B ys)(ha:a.natAbs<2^A)(hb:b.natAbs<2^A)(hB:B<=9000)(hA:A<=9000)(hz:xs.length<=1000):k8 [p,.int a,q,.int b]=M.ok (tI (oX xs a ys b)):=by
 have key:bK (bA 0 1) none (aj cj (aj bR (aa 2) (aa 0)) (aj bR (aa 3) (aa 1))) ((xs.zip ys).map fun z=>.tup [.int z.1,.int z.2]) [none,none,some (.sh (.int a)),some (.sh (.int b))]=M.ok ((xs.zip ys).map fun z=>.int (a*z.1+b*z.2)):=by
  refine iP (p:=fun z:Int×Int=>PV.int z.1) (q:=fun z:Int×Int=>PV.int z.2) (xs.zip ys) fun z hz=>?_
  have m:=List.of_mem_zip (a:=z.1) (b:=z.2) hz
  dsimp? [aZ (k:=A) (l:=B) ha (hx _ m.1) hA hB,aZ (k:=A) (l:=B) hb (hy _ m.2) hA hB]
 have hl:(xs.zip ys).length<=sizeLine:=by rw[List.length_zip];exact aJ (Nat.le_trans (Nat.min_le_left _ _) hz)
 unfold k8 lz
 dsimp? [c8 xs ys hp hq,List.length_map,aw hl,key]
 rw[tI,oX,List.map_map];rfl
theorem xR{A B:Nat}{sizes:List Int}{r q:Row}{a b:Int}(hs:∀ s∈sizes,0<s)(h1:Bd B r.1)(h2:Bd B r.2)(h3:Bd B q.1)(h4:Bd B q.2)(ha:a.natAbs<2^A)(hb:b.natAbs<2^A)(hB:B<=9000)(hA:A<=9000)(z1:r.1.length<=100)(z2:r.2.length<=100):dh [tI sizes,mk r,.int a,mk q,.int b]=M.ok (mk (rP sizes r a q b)):=by
 unfold dh dk
 dsimp? [xB,GQ,qD (tI r.1) (tI q.1) r.1 q.1 a b rfl rfl h1 h3 ha hb hB hA (by omega),qD (tI r.2) (tI q.2) r.2 q.2 a b rfl rfl h2 h4 ha hb hB hA (by omega),qF (tI (oX r.1 a q.1 b)) (tI sizes) (oX r.1 a q.1 b) sizes rfl rfl hs (by rw[bI];omega)]
 rfl
theorem vx{sizes:List Int}{rows:List Row}{n m d:Nat}(w:Wf n m rows)(hs:sizes.length=n)(hd:d<n):cW [tI sizes,.lst (rows.map mk),.int (d:Int)]=M.ok (.int (aP (vf sizes) (DD rows) d)):=by
 unfold cW da
 have e1:=w.rQ hd
 dsimp? [p9 (rows:=rows) (d:=d) (by rw[w.len];exact hd),xB,iC (xs:=(row rows d).1) (i:=d) (by omega)]
 unfold aP
 by_cases z:DD rows d d=0
 ·have z':vf (row rows d).1 d=0:=z
  simp only[z',z,decide_true,if_true]
  dsimp? [iC (xs:=sizes) (i:=d) (by omega)]
 ·have z':¬ vf (row rows d).1 d=0:=z
  simp only[z',z,decide_false,Bool.false_eq_true,if_false]
  dsimp? []
  rfl
theorem drop_cons{α:Type}{xs:List α}{d:Nat}{a:α}{r:List α}(h:xs.drop d=a::r):d<xs.length/\xs[d]?=some a/\xs.drop (d+1)=r:=by
 have hd:d<xs.length:=by
  rcases Nat.lt_or_ge d xs.length with q | q
  ·exact q
  ·rw[List.drop_eq_nil_of_le q] at h;cases h
 rw[List.drop_eq_getElem_cons hd] at h
 injection h with h1 h2
 exact⟨hd,by rw[List.getElem?_eq_getElem hd,h1],h2⟩
theorem k_(env:af):lZ ak env=M.ok []:=by
 simp only[lZ,ak,M.aT]
 exact if_pos (Nat.zero_le _)
theorem zt{i:Nat}{f:af->M PV}{env:af}{xs:List PV}{p:PV}(h:env[i]?=some (some (.ow xs)))(hf:f env=M.ok p)(hz:xs.length<1000):pB i f env=M.ok (.nx (env.set i (some (.ow (xs++[p]))))):=by
 unfold pB
 rw[h]
 show M.bind (f env) _=_
 rw[hf,M.aT,if_pos (nV (Nat.le_of_lt hz))]
theorem uY{n:Nat}{sizes xs:List Int}(hl:xs.length=n)(h:∀ i,i<n->0<=vf xs i/\vf xs i<vf sizes i)(hs:∀ i,i<n->vf sizes i<=360):Bd 9 xs:=fun x hx=>by
 obtain⟨i,hi,rfl⟩:=List.mem_iff_getElem.mp hx
 have h1:=h i (by omega);have h2:=hs i (by omega)
 rw[aN hi] at h1
 omega
theorem Ca{a b:Int}(h1:-1000<=a)(h2:a<=1000)(h3:-1000<=b)(h4:b<=1000):AF [.int a,.int b]=M.ok ((List.range (b-a).toNat).map fun (i:Nat)=>.int (a+(i:Int))):=by
 have h:-(2^62)<=a/\a<2^62/\-(2^62)<=b/\b<2^62:=by omega
 show cJ (-(2^62)<=a/\a<2^62/\-(2^62)<=b/\b<2^62) _=_
 rw[aw h]
section
variable{n m k:Nat}{sizes:List Int}{A:Nat->bN}{rows:List Row}{left:Row}
theorem St.Ce(h:St n m sizes A k rows){d:Nat}(hd:d<n):Bd 9 (row rows d).1:=uY (h.wf.rQ hd) (fun i hi=>h.gd.iG d hd i hi) h.sm
theorem BQ(h:St n m sizes A k rows):∀ s∈sizes,0<s:=fun s hs=>by
 obtain⟨i,hi,rfl⟩:=List.mem_iff_getElem.mp hs
 have:=h.gd.sp i (by rw[← h.hs];exact hi)
 rwa [aN hi] at this
theorem Er(h:St n m sizes A k rows)(L:Lv n m sizes A k left)(hn:n<=6)(hm:m<=8):jh [tI sizes,.lst (rows.map mk),mk left]=M.ok (.tup [.lst ((cq cf sizes rows left n).map mk),tI (aA cf sizes rows left n).2]):=by
 have rl:=h.wf.len
 have hkm:=L.km
 unfold jh gK
 dsimp? [k_,uj]
 refine dP rows.zipIdx (fun zs env=>∃ d x4 x5 x6 x7 x8,d<=n/\rows.zipIdx.drop d=zs/\env=[some (.sh (tI sizes)),some (.sh (.lst (rows.map mk))),some (.sh (mk (aA cf sizes rows left d))),some (.ow ((cq cf sizes rows left d).map mk)),x4,x5,x6,x7,x8]) ⟨0,none,none,none,none,none,Nat.zero_le _,rfl,rfl⟩ ?_ ?_
 ·rintro⟨a,i⟩ zs env ⟨d,x4,x5,x6,x7,x8,hd,hdr,rfl⟩
  obtain⟨h1,h2,h3⟩:=drop_cons hdr
  rw[List.length_zipIdx,rl] at h1
  have h4:a=row rows d/\i=d:=by
   rw[List.getElem?_zipIdx] at h2
   rw[jz (by rw[rl];exact h1)]
   rw[List.getElem?_eq_getElem (by rw[rl];exact h1)] at h2
   simp at h2
   exact⟨h2.1.symm,h2.2.symm⟩
  obtain⟨rfl,rfl⟩:=h4
  have ll:=cP (c:=cf) h.wf h.hs L.l1 L.l2 i (by omega)
  have lk:=k9 (c:=cf) h L i (by omega)
  have lb:=pE (c:=cf) h L hn i (by omega)
  have st:=h.gd.pos h1
  have sm:=h.sm i h1
  have nt:=lk i h1
  have e1:=h.wf.rQ h1;have e2:=h.wf.at2 h1
  generalize hst:aP (vf sizes) (DD rows) i=st' at *
  generalize hnt:vf (aA cf sizes rows left i).1 i=nt' at *
  obtain⟨c1,c2,c3,c4⟩:=GP st' nt' (by omega) (by omega)
  have cb:=De st' nt' st.1 (by omega) nt.1 (by omega)
  have gp:=gC (b:=nt') st.1
  have gl:(Int.gcd st' nt':Int)<=st':=Int.le_of_dvd st.1 (Int.gcd_dvd_left ..)
  have a1:=kI (b:=nt') st.1 (by omega)
  have a2:=mG (b:=nt') st.1 nt.1 (by omega)
  have B1:Bd 1300 (row rows i).1:=(St.Ce h h1).mono (by omega)
  have B2:Bd 1300 (row rows i).2:=(h.bd i h1).mono (by omega)
  have B3:Bd 1300 (aA cf sizes rows left i).1:=(uY ll.1 lk h.sm).mono (by omega)
  have B4:Bd 1300 (aA cf sizes rows left i).2:=lb.mono (by omega)
  have w1:=xR (A:=20) (sizes:=sizes) (BQ h) B1 B2 B3 B4 cb.2.1 cb.2.2 (by decide) (by decide) (by omega) (by omega)
  have w2:=xR (A:=20) (sizes:=sizes) (a:=st'/(Int.gcd st' nt':Nat)) (b:=-(nt'/(Int.gcd st' nt':Nat))) (BQ h) B3 B4 B1 B2 (by omega) (by omega) (by decide) (by decide) (by omega) (by omega)
  have ew:dE cf sizes rows left i=rP sizes (row rows i) (cf st' nt').1 (aA cf sizes rows left i) (cf st' nt').2:=by
   simp only[dE,hst,hnt]
  have el:aA cf sizes rows left (i+1)=rP sizes (aA cf sizes rows left i) (st'/(Int.gcd st' nt':Nat)) (row rows i) (-(nt'/(Int.gcd st' nt':Nat))):=by
   simp only[aA,hst,hnt]
  refine⟨_,[some (.sh (tI sizes)),some (.sh (.lst (rows.map mk))),some (.sh (mk (aA cf sizes rows left (i+1)))),some (.ow ((cq cf sizes rows left (i+1)).map mk)),some (.sh (.int i)),some (.sh (mk (row rows i))),some (.sh (.int st')),some (.sh (.int nt')),some (.sh (.tup [.int (Int.gcd st' nt'),.int (cf st' nt').1,.int (cf st' nt').2]))],rfl,?_,i+1,_,_,_,_,_,by omega,h3,rfl⟩
  have sok:=vx h.wf h.hs h1
  rw[hst] at sok
  have nok:=iC (xs:=(aA cf sizes rows left i).1) (i:=i) (by omega)
  rw[hnt] at nok
  dsimp? [sok,xB,nok,c1]
  rw[zt (i:=3) rfl (p:=mk (dE cf sizes rows left i)) (by dsimp? [JF,Hm,w1,ew]) (by simp[cq];omega)]
  dsimp? [yA,aH (i:=st') gp (by omega),aH (i:=nt') gp (by omega),w2,el]
  rw[cq,cq,List.range_succ,List.map_append,List.map_append]
  rfl
 ·rintro env ⟨d,x4,x5,x6,x7,x8,hd,hdr,rfl⟩
  have hdn:d=n:=by
   have:=congrArg List.length hdr
   rw[List.length_drop,List.length_zipIdx,rl] at this
   simp at this
   omega
  subst hdn
  dsimp? [GQ]
def bu(sizes:List Int)(rows:List Row)(r:Row)(f:Nat):Nat->Row
 | 0=>r
 | c+1 =>
  let l:=bu sizes rows r f c
  rP sizes l 1 (row rows (f+c)) (-(vf l.1 (f+c)/aP (vf sizes) (DD rows) (f+c)))
theorem lC(h:St n m sizes A k rows){r:Row}{f:Nat}(h1:r.1.length=n)(h2:r.2.length=m):∀ c,f+c<=n->(bu sizes rows r f c).1.length=n/\(bu sizes rows r f c).2.length=m
 | 0,_=>⟨h1,h2⟩
 | c+1,hc=>by
  obtain⟨i1,i2⟩:=lC h (f:=f) h1 h2 c (by omega)
  have e1:=h.wf.rQ (d:=f+c) (by omega);have e2:=h.wf.at2 (d:=f+c) (by omega)
  have hs:=h.hs
  simp only[bu,rP]
  rw[i8,bI,bI]
  exact⟨by omega,by omega⟩
theorem vc(h:St n m sizes A k rows){r:Row}{f:Nat}(h1:r.1.length=n)(h2:r.2.length=m)(h0:∀ i,i<n->0<=vf r.1 i/\vf r.1 i<vf sizes i):Dn n (vf sizes) (DD rows) f (fun d=>vf (bu sizes rows r f (d-f)).1) where
 w0:=fun i hi=>by rw[Nat.sub_self];exact h0 i hi
 ws:=fun d hf hd i hi=>by
  obtain⟨c,rfl⟩:∃ c,d=f+c:=⟨d-f,by omega⟩
  obtain⟨i1,i2⟩:=lC h (f:=f) h1 h2 c (by omega)
  have e1:=h.wf.rQ (d:=f+c) (by omega)
  have hs:=h.hs
  show vf (bu sizes rows r f (f+c+1-f)).1 i=_
  rw[show f+c+1-f=c+1 by omega,show f+c-f=c by omega]
  simp only[bu,rP]
  rw[ji (by rw[bI];omega) (by omega),e7 (by omega) (by omega)]
  rfl
theorem zo(h:St n m sizes A k rows){r:Row}{f:Nat}(h1:r.1.length=n)(h2:r.2.length=m){P₀:bN}{B:bN}(hl:Led n (vf sizes) m A (fun i=>vf r.1 i-B i) (fun l=>vf r.2 l-P₀ l)):∀ c,f+c<=n->Led n (vf sizes) m A (fun i=>vf (bu sizes rows r f c).1 i-B i) (fun l=>vf (bu sizes rows r f c).2 l-P₀ l)
 | 0,_=>hl
 | c+1,hc=>by
  obtain⟨i1,i2⟩:=lC h (f:=f) h1 h2 c (by omega)
  have e1:=h.wf.rQ (d:=f+c) (by omega);have e2:=h.wf.at2 (d:=f+c) (by omega)
  have hs:=h.hs
  refine Led.mix (a:=1) (b:=-(vf (bu sizes rows r f c).1 (f+c)/aP (vf sizes) (DD rows) (f+c))) (zo h (f:=f) h1 h2 hl c (by omega)) (h.led (f+c) (by omega)) (fun i hi=>?_) fun l hl=>?_
  ·simp only[bu,rP]
   rw[ji (by rw[bI];omega) (by omega),e7 (by omega) (by omega)]
   obtain⟨z,hz⟩:=d_ (1*vf (bu sizes rows r f c).1 i+-(vf (bu sizes rows r f c).1 (f+c)/aP (vf sizes) (DD rows) (f+c))*vf (row rows (f+c)).1 i) (vf sizes i)
   refine⟨z,?_⟩
   rw[← hz]
   unfold DD
   grind
  ·simp only[bu,rP]
   rw[e7 (by omega) (by omega)]
   unfold PP
   grind
theorem yj(h:St n m sizes A k rows){r:Row}{f B:Nat}(h1:r.1.length=n)(h2:r.2.length=m)(h0:∀ i,i<n->0<=vf r.1 i/\vf r.1 i<vf sizes i)(hB:150*k+1<=B)(hb:Bd B r.2):∀ c,f+c<=n->Bd (B+11*c) (bu sizes rows r f c).2
 | 0,_=>hb
 | c+1,hc=>by
  have k0:=(vc h (f:=f) h1 h2 h0).kept h.gd (f+c) (by omega) (by omega) (f+c) (by omega)
  rw[show f+c-f=c by omega] at k0
  have sm:=h.sm (f+c) (by omega)
  have p:=h.gd.pos (d:=f+c) (by omega)
  have q:=Int.ediv_le_self (aP (vf sizes) (DD rows) (f+c)) k0.1
  have q0:=Int.ediv_nonneg k0.1 (Int.le_of_lt p.1)
  have:=Bd.mix (A:=10) (yj h (f:=f) h1 h2 h0 hB hb c (by omega)) ((h.bd (f+c) (by omega)).mono (show 150*k+1<=B+11*c by omega)) (a:=1) (b:=-(vf (bu sizes rows r f c).1 (f+c)/aP (vf sizes) (DD rows) (f+c))) (by decide) (by omega)
  exact this.mono (by omega)
theorem yJ(h:St n m sizes A k rows){r:Row}{f B:Nat}(hn:n<=6)(hm:m<=8)(h1:r.1.length=n)(h2:r.2.length=m)(h0:∀ i,i<n->0<=vf r.1 i/\vf r.1 i<vf sizes i)(hB:150*k+1<=B)(hB2:B<=8000)(hb:Bd B r.2)(hf:f<=n):gD [tI sizes,.lst (rows.map mk),mk r,.int (f:Int)]=M.ok (mk (bu sizes rows r f (n-f))):=by
 have hs:=h.hs
 have rl:=h.wf.len
 unfold gD gE
 have iG:AF [.int (f:Int),.int (sizes.length:Int)]=M.ok ((List.range (n-f)).map fun (i:Nat)=>.int ((f+i:Nat):Int)):=by
  rw[Ca (by omega) (by omega) (by omega) (by omega),hs,show ((n:Int)-(f:Int)).toNat=n-f by omega]
  simp
 dsimp? [iG]
 refine dP (List.range (n-f)) (fun zs env=>∃ c x4 x5,c<=n-f/\(List.range (n-f)).drop c=zs/\env=[some (.sh (tI sizes)),some (.sh (.lst (rows.map mk))),some (.sh (mk (bu sizes rows r f c))),some (.sh (.int (f:Int))),x4,x5]) ⟨0,none,none,Nat.zero_le _,rfl,rfl⟩ ?_ ?_
 ·rintro i zs env ⟨c,x4,x5,hc,hdr,rfl⟩
  obtain⟨c1,c2,c3⟩:=drop_cons hdr
  rw[List.length_range] at c1
  obtain rfl:i=c:=by
   rw[List.getElem?_range c1] at c2;exact(Option.some.inj c2).symm
  have hfc:f+i<n:=by omega
  have ll:=lC h (f:=f) h1 h2 i (by omega)
  have lk:=(vc h (f:=f) h1 h2 h0).kept h.gd (f+i) (by omega) (by omega)
  rw[show f+i-f=i by omega] at lk
  have k0:=lk (f+i) hfc
  have sm:=h.sm (f+i) hfc
  have p:=h.gd.pos hfc
  have e1:=h.wf.rQ hfc;have e2:=h.wf.at2 hfc
  have B1:Bd 8200 (row rows (f+i)).1:=(St.Ce h hfc).mono (by omega)
  have B2:Bd 8200 (row rows (f+i)).2:=(h.bd _ hfc).mono (by omega)
  have B3:Bd 8200 (bu sizes rows r f i).1:=(uY ll.1 lk h.sm).mono (by omega)
  have B4:Bd 8200 (bu sizes rows r f i).2:=(yj h (f:=f) h1 h2 h0 hB hb i (by omega)).mono (by omega)
  have q:=Int.ediv_le_self (aP (vf sizes) (DD rows) (f+i)) k0.1
  have q0:=Int.ediv_nonneg k0.1 (Int.le_of_lt p.1)
  have w:=xR (A:=20) (sizes:=sizes) (a:=1) (b:=-(vf (bu sizes rows r f i).1 (f+i)/aP (vf sizes) (DD rows) (f+i))) (BQ h) B3 B4 B1 B2 (by decide) (by omega) (by decide) (by decide) (by omega) (by omega)
  refine⟨_,[some (.sh (tI sizes)),some (.sh (.lst (rows.map mk))),some (.sh (mk (bu sizes rows r f (i+1)))),some (.sh (.int (f:Int))),some (.sh (.int ((f+i:Nat):Int))),some (.sh (.int (vf (bu sizes rows r f i).1 (f+i)/aP (vf sizes) (DD rows) (f+i))))],rfl,?_,i+1,_,_,by omega,c3,rfl⟩
  dsimp? [xB,iC (xs:=(bu sizes rows r f i).1) (i:=f+i) (by omega),vx h.wf h.hs hfc,aH (i:=vf (bu sizes rows r f i).1 (f+i)) p.1 (by omega),p9 (rows:=rows) (d:=f+i) (by omega),w]
  rfl
 ·rintro env ⟨c,x4,x5,hc,hdr,rfl⟩
  have:c=n-f:=by
   have:=congrArg List.length hdr
   rw[List.length_drop,List.length_range] at this
   simp at this
   omega
  subst this
  dsimp? []
end
theorem Ft(m k:Nat)(hm:m<=1000):jP [.int (m:Int),.int (k:Int)]=M.ok (tI (oV m k)):=by
 have key:bK (cH 0) none (Ad (dR (aj xu (aa 0) (aa 1))) (fun _=>M.ok (.int 1)) (fun _=>M.ok (.int 0))) ((List.range m).map fun (i:Nat)=>.int (i:Int)) [none,some (.sh (.int (k:Int)))]=M.ok ((List.range m).map fun (i:Nat)=>.int (if i=k then 1 else 0)):=by
  refine iK (inj:=fun (i:Nat)=>PV.int (i:Int)) (List.range m) fun i hi=>?_
  dsimp? []
  by_cases z:i=k
  ·subst z;simp only[decide_true,if_true]
  ·have z':¬ (i:Int)=(k:Int):=by omega
   simp only[z,z',decide_false,Bool.false_eq_true,if_false]
 unfold jP g9
 dsimp? [kf (n:=(m:Int)) (by omega) (by omega),Int.toNat_natCast,List.length_map,List.length_range,aw (aJ hm),key]
 rw[tI,oV,List.map_map];rfl
theorem t7{n:Int}(h:0<=n):Builtin.Range.rangeSize (n-1) (-1) (-1)=n:=by
 unfold Builtin.Range.rangeSize
 rw[if_neg (by decide)]
 split
 ·rw[show -(-1:Int)=1 from rfl,Int.ediv_one];omega
 ·omega
theorem EH{n:Int}(h:0<=n)(h2:n<=1000):C3 (n-1) (-1) (-1)=true:=by
 unfold C3 Builtin.Range.small
 have f:∀ x:Int,-(2^40)<x->x<2^40->Builtin.Range.rangeFitsLong x=true:=fun x h1 h2=>by
  unfold Builtin.Range.rangeFitsLong
  simp only[Bool.and_eq_true,decide_eq_true_eq]
  omega
 simp only[t7 h,f (n-1) (by omega) (by omega),f (-1) (by decide) (by decide),f n (by omega) (by omega),f (n-1+n*-1) (by omega) (by omega),Bool.and_true,Bool.true_and,Bool.and_self,Bool.and_eq_true,decide_eq_true_eq]
 refine⟨by decide,?_⟩
 rw[if_neg (by decide),f (-1+(-1+1)) (by decide) (by decide),Bool.or_true]
theorem qw(k:Nat)(hk:k<=1000):yt [.int ((k:Int)-1),.int (-1),.int (-1)]=M.ok ((List.range k).map fun (i:Nat)=>.int ((k:Int)-1+(i:Int)*-1)):=by
 show cJ (C3 ((k:Int)-1) (-1) (-1)=true) _=_
 rw[aw (EH (by omega) (by omega)),t7 (by omega),Int.toNat_natCast]
theorem Fo{idle:List (List Int)}{j:Nat}(h:j<idle.length):aM (.lst (idle.map tI)) (.int (j:Int))=M.ok (tI (idle.getD j [])) :=
 bQ (p:=.lst (idle.map tI)) rfl (by rw[List.getElem?_map,List.getElem?_eq_getElem h,List.getD_eq_getElem?_getD,List.getElem?_eq_getElem h];rfl)
theorem DU{n m k B:Nat}{s:bN}{A:Nat->bN}{idle:List (List Int)}{P:List Int}(h:CY n m s A k idle)(hP:P.length=m)(hm:m<=8)(hk:k<=m)(hB:60<=B)(hB2:B<=8000)(hb:Bd B P):jn [tI P,.lst (idle.map tI)]=M.ok (tI (aO idle k P k)):=by
 have il:=h.len
 unfold jn gM
 dsimp? [List.length_map,il,qw k (by omega)]
 refine dP (List.range k) (fun zs env=>∃ c x2 x3,c<=k/\(List.range k).drop c=zs/\env=[some (.sh (tI (aO idle k P c))),some (.sh (.lst (idle.map tI))),x2,x3]) ⟨0,none,none,Nat.zero_le _,rfl,rfl⟩ ?_ ?_
 ·rintro i zs env ⟨c,x2,x3,hc,hdr,rfl⟩
  obtain⟨c1,c2,c3⟩:=drop_cons hdr
  rw[List.length_range] at c1
  obtain rfl:i=c:=by
   rw[List.getElem?_range c1] at c2;exact(Option.some.inj c2).symm
  have hj:k-1-i<k:=by omega
  have ej:(k:Int)-1+(i:Int)*-1=((k-1-i:Nat):Int):=by omega
  have sl:=span_len h hP i (by omega)
  have rl:=h.l2 (k-1-i) hj
  have p:=h.pos (k-1-i) hj
  have pl60:=h.le (k-1-i) hj
  have zb:=zX h hP hk hB hb i (by omega)
  have B1:Bd 8600 (aO idle k P i):=zb.mono (by omega)
  have B2:Bd 8600 (idle.getD (k-1-i) []):=(h.bd hj hk).mono (by omega)
  have q:(-(vf (aO idle k P i) (k-1-i)/vf (idle.getD (k-1-i) []) (k-1-i))).natAbs<2^8600:=by
   rw[Int.natAbs_neg]
   exact Nat.lt_of_le_of_lt (Int.natAbs_ediv_le_natAbs ..) (B1.vf _)
  have w:=qD (A:=8600) (tI (aO idle k P i)) (tI (idle.getD (k-1-i) [])) (aO idle k P i) (idle.getD (k-1-i) []) 1 (-(vf (aO idle k P i) (k-1-i)/vf (idle.getD (k-1-i) []) (k-1-i))) rfl rfl B1 B2 (Nat.one_lt_two_pow (by decide)) q (by decide) (by decide) (by omega)
  refine⟨_,[some (.sh (tI (aO idle k P (i+1)))),some (.sh (.lst (idle.map tI))),some (.sh (.int ((k-1-i:Nat):Int))),some (.sh (tI (idle.getD (k-1-i) [])))],rfl,?_,i+1,_,_,by omega,c3,rfl⟩
  rw[ej]
  dsimp? [Fo (idle:=idle) (j:=k-1-i) (by omega),iC (xs:=aO idle k P i) (i:=k-1-i) (by omega),iC (xs:=idle.getD (k-1-i) []) (i:=k-1-i) (by omega),aH (i:=vf (aO idle k P i) (k-1-i)) (j:=vf (idle.getD (k-1-i) []) (k-1-i)) p (by show II idle (k-1-i) (k-1-i)<2^64;omega),w]
  rfl
 ·rintro env ⟨c,x2,x3,hc,hdr,rfl⟩
  have:c=k:=by
   have:=congrArg List.length hdr
   rw[List.length_drop,List.length_range] at this
   simp at this
   omega
  subst this
  dsimp? []
section
variable{sizes:List Int}{Ls:List (List Int)}
theorem Ar(h:sizes.length<=6):ky [dU sizes Ls]=M.ok (tI (List.replicate sizes.length 0)):=by
 unfold ky kQ
 dsimp? [uo (sizes:=sizes) (levers:=Ls) (g:=aa 0) (env:=[some (.sh (dU sizes Ls))]) rfl,mul_one (.int 0) sizes.length (by omega)]
 rw[tI,List.map_replicate]
theorem wx(hm:Ls.length<=8)(xs:List Int):e_ [dU sizes Ls,tI xs]=M.ok (mk (xs,List.replicate Ls.length 0)):=by
 unfold e_ fe
 dsimp? [qm (sizes:=sizes) (levers:=Ls) (g:=aa 0) (env:=[some (.sh (dU sizes Ls)),some (.sh (tI xs))]) rfl,List.length_map,mul_one (.int 0) Ls.length (by omega)]
 rw[mk,tI,tI,List.map_replicate]
theorem Gs(hm:Ls.length<=8){k:Nat}(hk:k<Ls.length):fy [dU sizes Ls,.int (k:Int)]=M.ok (mk (bG Ls Ls.length k)):=by
 have e:aM (.tup (Ls.map tI)) (.int (k:Int))=M.ok (tI (Ls.getD k [])):=bQ (p:=.tup (Ls.map tI)) rfl (by rw[List.getElem?_map,List.getElem?_eq_getElem hk,List.getD_eq_getElem?_getD,List.getElem?_eq_getElem hk];rfl)
 unfold fy dB
 dsimp? [qm (sizes:=sizes) (levers:=Ls) (g:=aa 0) (env:=[some (.sh (dU sizes Ls)),some (.sh (.int (k:Int))),none]) rfl,List.length_map,e,Ft Ls.length k (by omega)]
 rfl
end
theorem xc:∀ xs:List Int,rJ (tI xs)=true:=by
 intro xs
 have:∀ ys:List Int,nX (ys.map PV.int)=true:=by
  intro ys
  induction ys with
  | nil=>rfl
  | cons a r ih=>simp[nX,rJ,ih]
 exact this xs
theorem Kv(x y:PV):aM (.tup [x,y]) (.int 0)=M.ok x:=bQ (j:=0) rfl rfl
theorem Kk(x y:PV):aM (.tup [x,y]) (.int 1)=M.ok y:=bQ (j:=1) rfl rfl
def nP(sizes:List Int)(rows:List Row)(n:Nat):List Row:=(List.range n).map fun d=>bu sizes rows (row rows d) (d+1) (n-(d+1))
def Ao(V:PV)(rows:List Row)(idle:List (List Int)):List (Str×PV):=[("vault", V),("made_rows", .lst (rows.map mk)),("idle_rows", .lst (idle.map tI))]
section
variable{sizes:List Int}{Ls:List (List Int)}
theorem CL(hn1:1<=sizes.length)(hn:sizes.length<=6)(hm:Ls.length<=8)(hp:∀ i,i<sizes.length->0<vf sizes i/\vf sizes i<=360)(LL:KP sizes.length Ls.length sizes Ls) :
  jW aB fg [] [dU sizes Ls]=M.ok (.obj aB (Ao (dU sizes Ls) (nP sizes (RK cf sizes Ls sizes.length Ls.length Ls.length).1 sizes.length) (RK cf sizes Ls sizes.length Ls.length Ls.length).2)):=by
 have all:=fun k hk=>CO.all (c:=cf) rfl hp LL De hn k hk
 have key:∀ a,fg a ([dU sizes Ls]++[])=M.ok (Ao (dU sizes Ls) (nP sizes (RK cf sizes Ls sizes.length Ls.length Ls.length).1 sizes.length) (RK cf sizes Ls sizes.length Ls.length Ls.length).2):=by
  intro a
  have e1:bK (cH 0) none (ai e_ (ae (aa 1) (ae (ai ky (ae (aa 1) ak)) ak))) (sizes.map PV.int) [none,some (.sh (dU sizes Ls))]=M.ok ((List.replicate sizes.length ((List.replicate sizes.length (0:Int)),(List.replicate Ls.length (0:Int)))).map mk):=by
   rw[iK (h:=fun _=>mk (List.replicate sizes.length 0,List.replicate Ls.length 0)) sizes fun x _=>by dsimp? [Ar (Ls:=Ls) hn,wx (sizes:=sizes) hm (List.replicate sizes.length 0)]]
   congr 1
   rw[List.map_const',List.map_replicate]
  have e2:bK (bA 0 1) none (ai gD (ae (aa 2) (ae (aa 3) (ae (aa 1) (ae (aj cj (aa 0) (fun _=>M.ok (.int 1))) ak))))) ((RK cf sizes Ls sizes.length Ls.length Ls.length).1.zipIdx.map fun z=>.tup [.int (z.2:Int),mk z.1]) [none,none,some (.sh (tI sizes)),some (.sh (.lst ((RK cf sizes Ls sizes.length Ls.length Ls.length).1.map mk)))]=M.ok ((nP sizes (RK cf sizes Ls sizes.length Ls.length Ls.length).1 sizes.length).map mk):=by
   have I:=all Ls.length (Nat.le_refl _)
   generalize RK cf sizes Ls sizes.length Ls.length Ls.length=rk at *
   have rl:=I.st.wf.len
   rw[iP (p:=fun z:Row×Nat=>PV.int (z.2:Int)) (q:=fun z:Row×Nat=>mk z.1) (h:=fun z:Row×Nat=>mk (bu sizes rk.1 z.1 (z.2+1) (sizes.length-(z.2+1)))) rk.1.zipIdx fun z hz=>?_]
   ·congr 1
    rw[nP,List.map_map]
    refine List.ext_getElem (by simp[rl]) fun i h1 h2=>?_
    have hi:i<rk.1.length:=by simpa using h1
    simp[jz hi]
   ·obtain⟨i,hi,e⟩:=List.mem_iff_getElem.mp hz
    rw[List.length_zipIdx] at hi
    rw[List.getElem_zipIdx] at e
    have ez:z=(row rk.1 i,i):=by rw[← e,jz hi];simp
    subst ez
    have hin:i<sizes.length:=by omega
    have:=yJ (f:=i+1) (B:=150*Ls.length+1) I.st hn hm (I.st.wf.rQ hin) (I.st.wf.at2 hin) (fun j hj=>I.st.gd.iG i hin j hj) (Nat.le_refl _) (by omega) (I.st.bd i hin) (by omega)
    rw[show ((i+1:Nat):Int)=(i:Int)+1 by omega] at this
    dsimp? [this]
  have zl:sizes.length<=sizeLine:=aJ (by omega)
  have I:=all Ls.length (Nat.le_refl _)
  have rl:=I.st.wf.len
  unfold fg jy
  simp only[vB]
  rw[aw (show ([dU sizes Ls]++([]:List PV)).length+1=2 from rfl)]
  simp only[Bk,Ba]
  dsimp? [uo (sizes:=sizes) (levers:=Ls) (g:=aa 1) (env:=[some (.bd a aB []),some (.sh (dU sizes Ls)),none,none,none,none,none]) rfl,List.length_map,aw zl,e1,k_,qm (sizes:=sizes) (levers:=Ls) (g:=aa 1) (env:=[some (.bd a aB []),some (.sh (dU sizes Ls)),some (.sh (tI sizes)),some (.sh (.lst ((List.replicate sizes.length ((List.replicate sizes.length (0:Int)),(List.replicate Ls.length (0:Int)))).map mk))),some (.ow []),none,none]) rfl,kf (n:=(Ls.length:Int)) (by omega) (by omega),Int.toNat_natCast]
  refine dP (List.range Ls.length) (fun zs env=>∃ k x5 x6,k<=Ls.length/\(List.range Ls.length).drop k=zs/\env=[some (.bd a aB []),some (.sh (dU sizes Ls)),some (.sh (tI sizes)),some (.sh (.lst ((RK cf sizes Ls sizes.length Ls.length k).1.map mk))),some (.ow ((RK cf sizes Ls sizes.length Ls.length k).2.map tI)),x5,x6]) ⟨0,none,none,Nat.zero_le _,rfl,rfl⟩ ?_ ?_
  ·rintro i zs env ⟨k,x5,x6,hk,hdr,rfl⟩
   obtain⟨c1,c2,c3⟩:=drop_cons hdr
   rw[List.length_range] at c1
   obtain rfl:i=k:=by
    rw[List.getElem?_range c1] at c2;exact(Option.some.inj c2).symm
   have J:=all i hk
   have L:Lv sizes.length Ls.length sizes (AA Ls) i (bG Ls Ls.length i):=⟨LL.at_ i c1,by simp[bG,oV],c1,fun j hj=>rfl,LL.iG i c1,fun l hl=>xw hl⟩
   have tk:=Er J.st L hn hm
   have ll:=cP (c:=cf) J.st.wf J.st.hs L.l1 L.l2 sizes.length (Nat.le_refl _)
   have lb:=pE (c:=cf) J.st L hn sizes.length (Nat.le_refl _)
   have sp:=DU (B:=1400) J.vH ll.2 hm (by omega) (by decide) (by decide) (lb.mono (by omega))
   have il:=J.vH.len
   refine⟨_,[some (.bd a aB []),some (.sh (dU sizes Ls)),some (.sh (tI sizes)),some (.sh (.lst ((RK cf sizes Ls sizes.length Ls.length (i+1)).1.map mk))),some (.ow ((RK cf sizes Ls sizes.length Ls.length (i+1)).2.map tI)),some (.sh (.int (i:Int))),some (.sh (.tup [.lst ((cq cf sizes (RK cf sizes Ls sizes.length Ls.length i).1 (bG Ls Ls.length i) sizes.length).map mk),tI (aA cf sizes (RK cf sizes Ls sizes.length Ls.length i).1 (bG Ls Ls.length i) sizes.length).2]))],rfl,?_,i+1,_,_,by omega,c3,rfl⟩
   dsimp? [Gs (sizes:=sizes) hm c1,tk,Kv]
   rw[zt (i:=4) rfl (p:=tI (aO (RK cf sizes Ls sizes.length Ls.length i).2 i (aA cf sizes (RK cf sizes Ls sizes.length Ls.length i).1 (bG Ls Ls.length i) sizes.length).2 i)) (by
    dsimp? [qM,ownAt,Kk,sp]
    exact aw (xc _)) (by simp[il];omega)]
   dsimp? [RK,List.map_append]
  ·rintro env ⟨k,x5,x6,hk,hdr,rfl⟩
   have:k=Ls.length:=by
    have:=congrArg List.length hdr
    rw[List.length_drop,List.length_range] at this
    simp at this
    omega
   subst this
   dsimp? [mn]
   rw[jH _ _ _ _ _ _ (by simp)]
   dsimp? [mn,uj,List.length_map,List.length_zipIdx,rl,aw zl,e2]
   rw[jH _ _ _ _ _ _ (Nat.lt_of_le_of_lt (jB (Nat.zero_le 0)) (by decide))]
   dsimp? [mn]
   rw[jH _ _ _ _ _ _ (Nat.lt_of_le_of_lt (jB (jB (Nat.zero_le 0))) (by decide))]
   dsimp? []
   show cJ _ _=_
   rw[aw ⟨rfl,rfl⟩]
   rfl
 unfold jW
 rw[DY key];rfl
end
section
variable{n m:Nat}{sizes:List Int}{A:Nat->bN}{rows:List Row}
theorem mF{d:Nat}(h:d<n):row (nP sizes rows n) d=bu sizes rows (row rows d) (d+1) (n-(d+1)):=by
 rw[jz (by simp[nP,h])];simp[nP]
theorem HC(h:St n m sizes A m rows)(hn:n<=6)(hA:∀ i,A m i=0):St n m sizes A (m+1) (nP sizes rows n):=by
 have hl:∀ d,d<n->(bu sizes rows (row rows d) (d+1) (n-(d+1))).1.length=n/\(bu sizes rows (row rows d) (d+1) (n-(d+1))).2.length=m:=fun d hd=>lC h (h.wf.rQ hd) (h.wf.at2 hd) _ (by omega)
 have lg:=wz (D':=DD (nP sizes rows n)) h.gd (fun d e=>vf (bu sizes rows (row rows d) (d+1) (e-(d+1))).1) (fun d hd=>vc h (h.wf.rQ hd) (h.wf.at2 hd) fun i hi=>h.gd.iG d hd i hi) (fun d hd i hi=>by
  show vf (bu sizes rows (row rows d) (d+1) (d+1-(d+1))).1 i=_
  rw[Nat.sub_self];rfl) fun d hd i hi=>by
  unfold DD;rw[mF hd]
 refine⟨⟨by simp[nP],fun r hr=>?_,fun r hr=>?_⟩,h.hs,h.sm,lg.1,fun d hd=>?_,fun d hd l h1 h2=>by omega,fun d hd=>?_,fun l hl=>?_⟩
 ·obtain⟨d,hd,rfl⟩:=List.mem_map.mp hr
  exact(hl d (List.mem_range.mp hd)).1
 ·obtain⟨d,hd,rfl⟩:=List.mem_map.mp hr
  exact(hl d (List.mem_range.mp hd)).2
 ·unfold DD PP
  rw[mF hd]
  have:=zo h (f:=d+1) (h.wf.rQ hd) (h.wf.at2 hd) (P₀:=fun _=>0) (B:=fun _=>0) (by
   have q:=h.led d hd
   intro i hi
   have:=q i hi
   simp only[Int.sub_zero];exact this) (n-(d+1)) (by omega)
  intro i hi
  have:=this i hi
  simp only[Int.sub_zero] at this
  exact this
 ·rw[mF hd]
  exact(yj h (f:=d+1) (h.wf.rQ hd) (h.wf.at2 hd) (fun i hi=>h.gd.iG d hd i hi) (Nat.le_refl _) (h.bd d hd) (n-(d+1)) (by omega)).mono (by omega)
 ·rcases Nat.lt_or_ge l m with q | q
  ·exact lg.2.2.2.2 n 0 (by omega) _ (h.cl l q)
  ·obtain rfl:l=m:=by omega
   exact G.ext (by omega) (fun i _=>(hA i).symm) (G.zero (by omega))
end
def zC(sizes:List Int)(Ls:List (List Int))(R:List Row)(idle:List (List Int)):PV:=.obj aB (Ao (dU sizes Ls) R idle)
section
variable{sizes:List Int}{Ls:List (List Int)}{R:List Row}{idle:List (List Int)}
theorem QG:(Ao (dU sizes Ls) R idle).lookup (Str.ofString "vault")=some (dU sizes Ls):=rfl
theorem QN:(Ao (dU sizes Ls) R idle).lookup (Str.ofString "made_rows")=some (.lst (R.map mk)):=rfl
end
section
variable{sizes:List Int}{Ls:List (List Int)}{R:List Row}{idle:List (List Int)}
end
def qK(sizes xs ys:List Int)(t:Int):List Int:=(xs.zip (ys.zip sizes)).map fun z=>(z.1+t*z.2.1)%z.2.2
theorem vN{sizes xs ys:List Int}{t:Int}(h1:xs.length=sizes.length)(h2:ys.length=sizes.length):(qK sizes xs ys t).length=sizes.length:=by
 simp[qK];omega
theorem BK{sizes xs ys:List Int}{t:Int}{i:Nat}(h1:xs.length=sizes.length)(h2:ys.length=sizes.length)(hi:i<sizes.length):vf (qK sizes xs ys t) i=(vf xs i+t*vf ys i)%vf sizes i:=by
 rw[aN (by rw[vN h1 h2];exact hi),aN (by omega),aN (by omega),aN hi]
 simp[qK]
theorem xF(p:PV)(n:Nat)(h8:n<=1000):bR (.lst [p]) (.int (n:Int))=M.ok (.lst (List.replicate n p)):=by
 have h2:[p].length*(n:Int).toNat<=sizeLine:=by
  rw[Int.toNat_natCast]
  exact aJ (by show 1*n<=1000;omega)
 have h3:(n:Int)<2^63:=Int.lt_of_le_of_lt (Int.ofNat_le.mpr h8) (by decide)
 have h4:-(2^63)<=(n:Int):=Int.le_trans (by decide) (Int.natCast_nonneg n)
 rw[bR,aw ⟨h4,h3,h2⟩,Int.toNat_natCast,mW]
theorem GD{n:Nat}{a b:Int}(h:b∈List.replicate n a):b=a:=List.eq_of_mem_replicate h
theorem pick(l:List Int)(c:Int)(n:Nat)(hn:l.length=n)(h0:0<n):∃ x,x∈l/\aM (.lst (l.map PV.int)) (.int (c%(n:Int)))=M.ok (.int x):=by
 have h1:0<=c%(n:Int):=Int.emod_nonneg _ (by omega)
 have h2:c%(n:Int)<n:=Int.emod_lt_of_pos _ (by omega)
 obtain⟨j,hj⟩:=Int.eq_ofNat_of_zero_le h1
 have hj':j<l.length:=by omega
 refine⟨l[j],List.getElem_mem _,?_⟩
 rw[hj]
 exact bQ (p:=.lst (l.map PV.int)) (j:=j) rfl (by rw[List.getElem?_map,List.getElem?_eq_getElem hj'];rfl)
theorem two{c:Int}:c%2=0\/c%2=1:=by omega
theorem mr{xs:List Int}{i:Nat}(h:i<xs.length):aM (lI xs) (.int (i:Int))=M.ok (.int (vf xs i)) :=
 bQ (p:=lI xs) rfl (by rw[List.getElem?_map,List.getElem?_eq_getElem h,aN h];rfl)
theorem getD_at{α β:Type}(f:α->β){xs:List α}{a:α}{b:β}{l:Nat}(h:l<xs.length):(xs.map f).getD l b=f (xs.getD l a):=by
 rw[List.getD_eq_getElem?_getD,List.getD_eq_getElem?_getD,List.getElem?_map,List.getElem?_eq_getElem h];rfl
theorem getD_mem{α:Type}{xs:List α}{a:α}{l:Nat}(h:l<xs.length):xs.getD l a∈xs:=by
 rw[List.getD_eq_getElem?_getD,List.getElem?_eq_getElem h];exact List.getElem_mem h
theorem D7{sizes:List Int}{raw:List (List Int)}(S:Sz sizes)(hr:∀ l∈raw,l.length=sizes.length/\Bd 200 l):KP sizes.length raw.length sizes (raw.map fun l=>yY l sizes)/\∀ l,l<raw.length->∀ i,i<sizes.length->AA (raw.map fun l=>yY l sizes) l i=vf (raw.getD l []) i%vf sizes i:=by
 have e:∀ l,l<raw.length->∀ i,i<sizes.length->AA (raw.map fun l=>yY l sizes) l i=vf (raw.getD l []) i%vf sizes i:=fun l hl i hi=>by
  unfold AA
  rw[getD_at (a:=[]) _ hl,vh,ji (by rw[(hr _ (getD_mem hl)).1];exact hi) hi]
 refine⟨⟨by simp,fun l hl=>?_,fun l hl i hi=>?_⟩,e⟩
 ·rw[getD_at (a:=[]) _ hl,vh,i8,(hr _ (getD_mem hl)).1];omega
 ·rw[e l hl i hi]
  have:=S.hx _ (List.getElem_mem hi)
  rw[← aN hi] at this
  exact⟨Int.emod_nonneg _ (by omega),Int.emod_lt_of_pos _ (by omega)⟩
theorem kv{sizes:List Int}(S:Sz sizes):∀ i,i<sizes.length->0<vf sizes i/\vf sizes i<=360:=fun i hi=>by
 have:=S.hx _ (List.getElem_mem hi)
 rw[← aN hi] at this
 omega
theorem oj{sizes xs:List Int}(h:xs.length=sizes.length)(h0:∀ i,i<sizes.length->0<=vf xs i/\vf xs i<vf sizes i):Hb sizes xs:=⟨h,fun z hz=>by
 obtain⟨i,hi,rfl⟩:=List.mem_iff_getElem.mp hz
 rw[List.length_zip] at hi
 have:=h0 i (by omega)
 rw[aN (by omega),aN (by omega)] at this
 simpa using this⟩
def eX(ns:List Int)(a b:Nat):List Int:=(ns.drop (HT.de ns.length 0 (some (a:Int)))).take (HT.de ns.length ns.length (some (b:Int))-HT.de ns.length 0 (some (a:Int)))
theorem zw(ns:List Int)(a b:Nat):J6 (.kS (ns.map PV.int)) (some (a:Int)) (some (b:Int))=M.ok (.lst ((eX ns a b).map PV.int)):=by
 show M.ok (PV.lst (nI (ns.map PV.int) _ _))=_
 rw[nI,eX,List.map_take,List.map_drop,List.length_map]
theorem t4(ns:List Int)(a b:Nat):(eX ns a b).length<=b-a:=by
 unfold eX
 rw[List.length_take,List.length_drop,HT.pL,HT.pL]
 omega
theorem rF{xs:List Int}{z:Int×Nat}(h:z∈xs.zipIdx):z.2<xs.length:=by
 obtain⟨i,hi,rfl⟩:=List.mem_iff_getElem.mp h
 simp at hi ⊢;exact hi
theorem I0(Ls:List (List Int))(i:Nat):AA Ls Ls.length i=0:=by
 unfold AA
 rw[List.getD_eq_getElem?_getD,List.getElem?_eq_none (Nat.le_refl _)]
 exact ya (Nat.zero_le _)
section
variable{sizes:List Int}{Ls:List (List Int)}{R:List Row}{idle:List (List Int)}{A:Nat->bN}{k:Nat}
theorem Cq{m:Str}{sem:List PV->M PV}{x:M (List PV)}(h:(Ao (dU sizes Ls) R idle).lookup m=none):s_ aB m sem (zC sizes Ls R idle) x=x.bind fun ps=>sem (zC sizes Ls R idle::ps):=la h
theorem Q7:FN (fun c=>c==aB) "vault" (zC sizes Ls R idle)=M.ok (dU sizes Ls):=vQ (beq_self_eq_true _) QG
theorem SH:FN (fun c=>c==aB) "made_rows" (zC sizes Ls R idle)=M.ok (.lst (R.map mk)):=vQ (beq_self_eq_true _) QN
theorem G9:s_ ay "sizes" aS (dU sizes Ls) (M.ok [])=M.ok (tI sizes):=(la (fl:=pZ sizes Ls) rfl).trans (wt sizes Ls)
def lst(sizes:List Int)(Ls:List (List Int))(R:List Row)(xs:List Int):List Int:=(bu sizes R (xs,List.replicate Ls.length 0) 0 sizes.length).1
def dc(sizes:List Int)(R:List Row):List Int:=(List.range sizes.length).map fun d=>aP (vf sizes) (DD R) d
theorem bc:(dc sizes R).length=sizes.length:=by simp[dc]
theorem iz{i:Nat}(h:i<sizes.length):vf (dc sizes R) i=aP (vf sizes) (DD R) i:=by
 rw[aN (by rw[bc];exact h)];simp[dc]
theorem qC(S:Sz sizes)(h:St sizes.length Ls.length sizes A k R):cR [zC sizes Ls R idle]=M.ok (tI (dc sizes R)):=by
 have l6:=S.h6
 have key:bK (cH 0) none (ai cW (ae (aa 2) (ae (iZ (fun c=>c==aB) "made_rows" (aa 1)) (ae (aa 0) ak)))) ((List.range sizes.length).map fun (i:Nat)=>.int (i:Int)) [none,some (.sh (zC sizes Ls R idle)),some (.sh (tI sizes))]=M.ok ((List.range sizes.length).map fun d=>.int (aP (vf sizes) (DD R) d)):=by
  refine iK (inj:=fun (i:Nat)=>PV.int (i:Int)) (List.range sizes.length) fun i hi=>?_
  dsimp? [pI,SH,vx h.wf h.hs (List.mem_range.mp hi)]
 unfold cR cw
 dsimp? [pI,Q7,cF,G9,kf (n:=(sizes.length:Int)) (by omega) (by omega),Int.toNat_natCast,List.length_map,List.length_range,aw (aJ (show sizes.length<=1000 by omega)),key]
 rw[tI,dc,List.map_map];rfl
theorem ET(xs:List PV):aR [dU sizes Ls,.lst xs]=M.ok (.bl false):=by
 unfold aR ck
 dsimp? [cF,G9]
theorem Fp:aR [dU sizes Ls,.cz]=M.ok (.bl false):=by
 unfold aR ck
 dsimp? [cF,G9]
theorem yE(S:Sz sizes){xs:List Int}(hz:xs.length<=1000)(h:uV sizes xs=false):aR [dU sizes Ls,tI xs]=M.ok (.bl false):=by
 rw[qE S xs hz,h]
theorem FA(S:Sz sizes)(n:Nat)(hn:n<=1000)(b:Bool)(h:1<=n):aR [dU sizes Ls,.tup (List.replicate n (.bl b))]=M.ok (.bl false):=by
 have r:=zS (p:=.tup (List.replicate n (.bl b))) (inj:=PV.bl) (h:=fun _=>false) (List.replicate n b) sizes.length (.inl (by rw[List.map_replicate])) (fun a _=>Ef a) (by rw[List.length_replicate];exact aJ hn)
 have e:((List.replicate n b).all fun _=>false)=false:=by
  cases n with
  | zero=>omega
  | succ n=>rfl
 rw[e,Bool.and_false] at r
 unfold aR ck
 dsimp? [cF,G9,r]
theorem DK{p:PV}(h:aR [dU sizes Ls,p]=M.ok (.bl false)):bh [dU sizes Ls,p]=some (.error (aI,none)):=by
 unfold bh bB
 dsimp? [h,my,aw (aJ (show 1<=1000 by decide))]
end
section
variable{sizes:List Int}{raw Ls:List (List Int)}{R:List Row}{k:Nat}
theorem Dj(S:Sz sizes):∀ s∈sizes,0<s:=fun s hs=>by have:=S.hx s hs;omega
theorem E8{F F':List Int}(h:F.length=sizes.length)(h':F'.length=sizes.length)(k:∀ i,i<sizes.length->0<=vf F i/\vf F i<vf sizes i)(k':∀ i,i<sizes.length->0<=vf F' i/\vf F' i<vf sizes i)(d:∀ i,i<sizes.length->vf sizes i∣vf F i-vf F' i):F=F' :=
 Cu (h.trans h'.symm) fun i hi=>by
  have:=k i (by omega);have:=k' i (by omega)
  have:=AX (d i (by omega)) (by omega) (by omega)
  omega
theorem mB(S:Sz sizes){F:List Int}(h:F.length=sizes.length)(k:∀ i,i<sizes.length->0<=vf F i/\vf F i<vf sizes i):Bd 200 F:=fun x hx=>by
 obtain⟨i,hi,rfl⟩:=List.mem_iff_getElem.mp hx
 have h2:=k i (by omega)
 rw[aN hi] at h2
 have:=kv S i (by omega)
 omega
theorem xS(S:Sz sizes){xs ys:List Int}{t:Int}(h1:xs.length=sizes.length)(h2:ys.length=sizes.length):(qK sizes xs ys t).length=sizes.length/\(∀ i,i<sizes.length->0<=vf (qK sizes xs ys t) i/\vf (qK sizes xs ys t) i<vf sizes i)/\∀ i,i<sizes.length->vf sizes i∣vf (qK sizes xs ys t) i-(vf xs i+t*vf ys i) :=
 ⟨vN h1 h2,fun i hi=>by
  rw[BK h1 h2 hi]
  have:=kv S i hi
  exact⟨Int.emod_nonneg _ (by omega),Int.emod_lt_of_pos _ (by omega)⟩,fun i hi=>by rw[BK h1 h2 hi];exact d_ _ _⟩
structure w8 (ns:List Int) (sizes:List Int) (raw Ls:List (List Int)) (R:List Row) (idle:List (List Int)):Prop where
 S:Sz sizes
 hr:∀ l∈raw,l.length=sizes.length/\Bd 200 l
 eL:Ls=raw.map fun l=>yY l sizes
 hm:raw.length=Ls.length
 m8:Ls.length<=8
 eA:∀ l,l<raw.length->∀ i,i<sizes.length->AA Ls l i=vf (raw.getD l []) i%vf sizes i
 LL:KP sizes.length Ls.length sizes Ls
 st:St sizes.length Ls.length sizes (AA Ls) (Ls.length+1) R
 I:CY sizes.length Ls.length (vf sizes) (AA Ls) Ls.length idle
 pr:bb Ls.length (fun j=>II idle j j)*bb sizes.length (aP (vf sizes) (DD R))=bb sizes.length (vf sizes)
 ord:∀ j,j<Ls.length->∀ P:bN,Zf (j+1) Ls.length P->Led sizes.length (vf sizes) Ls.length (AA Ls) (fun _=>0) P->II idle j j∣P j
 low:∀ d,d<sizes.length->∀ e,d<e->e<sizes.length->DD R d e<aP (vf sizes) (DD R) e
 nul:∀ d,d<sizes.length->DD R d d=0->∀ i,i<sizes.length->DD R d i=0
 Oi:jW ay ic [.cz] [lI sizes,.lst (raw.map tI)]=M.ok (dU sizes Ls)
 Mb:jW aB fg [] [dU sizes Ls]=M.ok (zC sizes Ls R idle)
theorem w8.get(ns:List Int){sizes:List Int}(S:Sz sizes){raw:List (List Int)}(r8:raw.length<=8)(hr:∀ l∈raw,l.length=sizes.length/\Bd 200 l):∃ Ls R idle,w8 ns sizes raw Ls R idle:=by
 have l6:=S.h6
 have sp:=kv S
 obtain⟨LL,eA⟩:=D7 S hr
 have Oi:=Gq sizes raw S r8 fun l h=>(hr l h).1
 have hm:raw.length=(raw.map fun l=>yY l sizes).length:=by simp
 generalize hLs:(raw.map fun l=>yY l sizes)=Ls at *
 rw[hm] at LL r8
 have K:=CO.all (c:=cf) rfl sp LL De l6 Ls.length (Nat.le_refl _)
 have Mb:=CL S.h1 l6 r8 sp LL
 generalize RK cf sizes Ls sizes.length Ls.length Ls.length=rk at *
 have h:=K.st
 have hl:∀ d,d<sizes.length->(bu sizes rk.1 (row rk.1 d) (d+1) (sizes.length-(d+1))).1.length=sizes.length:=fun d hd=>(lC h (h.wf.rQ hd) (h.wf.at2 hd) _ (by omega)).1
 have lg:=wz (D':=DD (nP sizes rk.1 sizes.length)) h.gd (fun d e=>vf (bu sizes rk.1 (row rk.1 d) (d+1) (e-(d+1))).1) (fun d hd=>vc h (h.wf.rQ hd) (h.wf.at2 hd) fun i hi=>h.gd.iG d hd i hi) (fun d hd i hi=>by
  show vf (bu sizes rk.1 (row rk.1 d) (d+1) (d+1-(d+1))).1 i=_
  rw[Nat.sub_self];rfl) (fun d hd i hi=>by unfold DD;rw[mF hd])
 refine⟨Ls,nP sizes rk.1 sizes.length,rk.2,S,hr,hLs.symm,hm,r8,eA,LL,HC K.st l6 (I0 Ls),K.vH,?_,K.ord,?_,?_,Oi,Mb⟩
 ·rw[i9 (f:=aP (vf sizes) (DD (nP sizes rk.1 sizes.length))) (g:=aP (vf sizes) (DD rk.1)) lg.2.1]
  exact K.pr
 ·intro d hd e h1 h2
  rw[lg.2.1 e h2]
  exact lg.2.2.1 d hd e h1 h2
 ·exact lg.2.2.2.1
end
theorem Aw(sizes:List Int)(levers:List (List Int)):cC [dU sizes levers]=M.ok (.int (R sizes)):=by
 unfold cC cD
 dsimp? [iZ,dU,beq_self_eq_true,Ei]
theorem SG{sizes:List Int}{Ls:List (List Int)}:s_ ay "around" cC (dU sizes Ls) (M.ok [])=M.ok (.int (R sizes)):=(la (fl:=pZ sizes Ls) rfl).trans (Aw sizes Ls)
def BD(sizes ws xs:List Int):Int:=((((ws.zip sizes).map fun z=>z.1*(R sizes/z.2)).zip xs).map fun z=>z.1*z.2).sum%R sizes
theorem rm{sizes:List Int}(h:Sz sizes){s:Int}(hs:s∈sizes):0<=R sizes/s/\R sizes/s<2^60:=by
 have h1:=wK h;have h2:=LI h;have h3:=h.hx s hs
 refine⟨Int.ediv_nonneg (by omega) (by omega),Int.lt_of_le_of_lt (Int.ediv_le_self s (by omega)) h2⟩
theorem CW{sizes:List Int}(h:Sz sizes){w s:Int}(hw:0<=w/\w<360)(hs:s∈sizes):(w*(R sizes/s)).natAbs<2^80:=by
 have h1:=rm h hs
 rw[Int.natAbs_mul]
 have:w.natAbs*(R sizes/s).natAbs<=2^9*2^60:=Nat.mul_le_mul (by omega) (by omega)
 exact Nat.lt_of_le_of_lt this (by decide)
theorem xt{sizes:List Int}{levers:List (List Int)}(h:Sz sizes){ws xs:List Int}(hw:Hb sizes ws)(hs:Hb sizes xs):lF [dU sizes levers,tI ws,tI xs]=M.ok (.int (BD sizes ws xs)):=by
 have l6:=h.h6
 have k1:bK (bA 0 1) none (aj bR (aa 0) (aj bj (aa 2) (aa 1))) ((ws.zip sizes).map fun z=>.tup [.int z.1,.int z.2]) [none,none,some (.sh (.int (R sizes)))]=M.ok ((ws.zip sizes).map fun z=>.int (z.1*(R sizes/z.2))):=by
  refine iP (p:=fun z:Int×Int=>PV.int z.1) (q:=fun z:Int×Int=>PV.int z.2) (ws.zip sizes) fun z hz=>?_
  obtain⟨m1,m2⟩:=lA hz
  have a1:=h.hx z.2 m2;have a2:=pG h hw m1;have a3:=rm h m2
  dsimp? [aH (i:=R sizes) (show 0<z.2 by omega) (show z.2<2^64 by omega),aZ (k:=64) (l:=64) (show z.1.natAbs<2^64 by omega) (show (R sizes/z.2).natAbs<2^64 by omega)]
 have z1:(ws.zip sizes).length<=sizeLine:=by rw[List.length_zip];exact aJ (Nat.le_trans (Nat.min_le_right _ _) (by omega))
 let us:=(ws.zip sizes).map fun z=>z.1*(R sizes/z.2)
 have k2:bK (bA 0 1) none (aj bR (aa 0) (aa 1)) ((us.zip xs).map fun z=>.tup [.int z.1,.int z.2]) [none,none]=M.ok ((us.zip xs).map fun z=>.int (z.1*z.2)):=by
  refine iP (p:=fun z:Int×Int=>PV.int z.1) (q:=fun z:Int×Int=>PV.int z.2) (us.zip xs) fun z hz=>?_
  obtain⟨m1,m2⟩:=lA hz
  obtain⟨y,hy,e⟩:=List.mem_map.mp m1
  obtain⟨n1,n2⟩:=lA hy
  have a1:=CW h (pG h hw n1) n2
  rw[e] at a1
  have a2:=pG h hs m2
  dsimp? [aZ (k:=80) (l:=64) a1 (show z.2.natAbs<2^64 by omega)]
 have z2:(us.zip xs).length<=sizeLine:=by rw[List.length_zip];exact aJ (Nat.le_trans (Nat.min_le_right _ _) (by rw[hs.len];omega))
 have k3:jK [.lst ((ws.zip sizes).map fun z=>.int (z.1*(R sizes/z.2))),tI xs,.int (R sizes)]=M.ok (.int (BD sizes ws xs)):=by
  have e0:cy (.lst ((ws.zip sizes).map fun z=>PV.int (z.1*(R sizes/z.2))))=some (us.map PV.int):=by
   rw[qN,List.map_map];rfl
  have e1:wc [.lst ((us.zip xs).map fun z=>PV.int (z.1*z.2))]=M.ok (.int ((us.zip xs).map fun z=>z.1*z.2).sum):=by
   have:=vS ((us.zip xs).map fun z=>z.1*z.2)
   rw[List.map_map] at this
   exact this
  unfold jK hX
  dsimp? [c8 (q:=tI xs) us xs e0 rfl,List.length_map,aw z2,k2,e1,aF (wK h)]
  rfl
 unfold lF lp
 dsimp? [pJ (levers:=levers) h hw,pJ (levers:=levers) h hs,cF,SG,G9,c8 (p:=tI ws) (q:=tI sizes) ws sizes rfl rfl,List.length_map,aw z1,k1,k3]
theorem xo(xs:List Int):∀ m,m<=xs.length->(xs.take m).sum=bp m (vf xs)
 | 0,_=>by simp[bp]
 | m+1,h=>by
  rw[bp,← xo xs m (by omega),List.take_succ_eq_append_getElem (by omega),List.sum_append,aN (by omega)];simp
theorem xi(xs:List Int):xs.sum=bp xs.length (vf xs):=by
 rw[← xo xs _ (Nat.le_refl _),List.take_length]
theorem zU{sizes ws xs:List Int}(h1:ws.length=sizes.length)(h2:xs.length=sizes.length):BD sizes ws xs=eU sizes.length (vf sizes) (R sizes) (vf ws) (vf xs)%R sizes:=by
 unfold BD eU
 rw[xi]
 have hl:((((ws.zip sizes).map fun z=>z.1*(R sizes/z.2)).zip xs).map fun z=>z.1*z.2).length=sizes.length:=by simp;omega
 rw[hl]
 congr 1
 refine fG fun i hi=>?_
 rw[aN (by rw[hl];exact hi),aN (by omega),aN (by omega),aN (by omega)]
 simp only[List.getElem_map,List.getElem_zip]
 rw[Int.mul_assoc,Int.mul_comm (R sizes/_),← Int.mul_assoc]
section
variable{ns:List Int}{sizes:List Int}{raw Ls:List (List Int)}{T:List Row}{idle:List (List Int)}
theorem D9(S:Sz sizes):∀ i,i<sizes.length->vf sizes i∣R sizes:=fun i hi=>by rw[aN hi];exact KU S (List.getElem_mem hi)
def oy(sizes:List Int)(T:List Row):List Int:=(sizes.zip (dc sizes T)).map fun z=>z.1/z.2
theorem kB:(oy sizes T).length=sizes.length:=by simp[oy,bc]
theorem uk{i:Nat}(h:i<sizes.length):vf (oy sizes T) i=cU (vf sizes) (DD T) i:=by
 have e:=iz (R:=T) h
 rw[aN (by rw[bc];exact h)] at e
 rw[aN (by rw[kB];exact h)]
 simp only[oy,List.getElem_map,List.getElem_zip]
 rw[e,← aN h];rfl
theorem HQ{n j:Nat}(h:j<n):BB n (j:Int)=some j:=by
 unfold BB;rw[if_pos (by omega),if_pos (by omega)];simp
theorem pT{i j:Nat}{xs:List Int}{v:Int}{env:af}(h:j<xs.length):GN i (xs.map PV.int) (.int v) env (.int (j:Int))=M.ok (.nx (env.set i (some (.ow ((xs.set j v).map PV.int))))):=by
 show (match BB (xs.map PV.int).length (j:Int) with | some j=>_ | none=>_)=_
 rw[List.length_map,HQ h,List.map_set]
theorem jQ{xs:List Int}{j i:Nat}{v:Int}(h:i<xs.length):vf (xs.set j v) i=if i=j then v else vf xs i:=by
 rw[aN (by rw[List.length_set];exact h),List.getElem_set,aN h]
 by_cases z:i=j
 ·rw[if_pos z,if_pos z.symm]
 ·rw[if_neg z,if_neg (Ne.symm z)]
theorem B6(x:Int):AN (M.ok (.int x))=M.ok (.int x):=Eq.trans rfl rfl
theorem yX(Q:w8 ns sizes raw Ls T idle){d:Nat}(hd:d<sizes.length):j0 (aX [zC sizes Ls T idle,.int (d:Int)]) fun p=>∃ W:List Int,p=tI W/\W.length=sizes.length/\(∀ i,i<sizes.length->0<=vf W i/\vf W i<vf sizes i)/\Wk sizes.length (vf sizes) (DD T) (R sizes) d 0 (vf W):=by
 have l6:=Q.S.h6
 have l1:=Q.S.h1
 have g:=Q.st.gd
 have rl:=Q.st.wf.len
 have qd:=D9 Q.S
 have q0:=wK Q.S
 have q1:=LI Q.S
 have so:=qC (idle:=idle) Q.S Q.st
 have fl:∀ i,i<sizes.length->0<cU (vf sizes) (DD T) i/\cU (vf sizes) (DD T) i<=vf sizes i/\vf sizes i<=360:=fun i hi=>⟨(fu g hi).2.1,(fu g hi).2.2,(kv Q.S i hi).2⟩
 have key:bK (bA 0 1) none (aj bj (aa 0) (aa 1)) ((sizes.zip (dc sizes T)).map fun z=>.tup [.int z.1,.int z.2]) [none,none]=M.ok ((sizes.zip (dc sizes T)).map fun z=>.int (z.1/z.2)):=by
  refine iP (p:=fun z:Int×Int=>PV.int z.1) (q:=fun z:Int×Int=>PV.int z.2) (sizes.zip (dc sizes T)) fun z hz=>?_
  obtain⟨i,hi,e⟩:=List.mem_iff_getElem.mp (lA hz).2
  rw[bc] at hi
  have e2:=iz (R:=T) hi
  rw[aN (by rw[bc];exact hi),e] at e2
  have p:=g.pos hi
  have:=kv Q.S i hi
  dsimp? [aH (i:=z.1) (j:=z.2) (by omega) (by omega)]
 have zl:(sizes.zip (dc sizes T)).length<=sizeLine:=by rw[List.length_zip];exact aJ (Nat.le_trans (Nat.min_le_left _ _) (by omega))
 have ef:PV.lst ((sizes.zip (dc sizes T)).map fun z=>PV.int (z.1/z.2))=lI (oy sizes T):=by rw[lI,oy,List.map_map];rfl
 have wi:cX [.int (d:Int),.int 0,.int ((sizes.length:Int)-1)]=M.ok (.bl true):=by
  rw[within_int,decide_eq_true (by omega)]
 have e0:v9 (.lst [.int 0]) (.int (sizes.length:Int))=M.ok ((List.replicate sizes.length 0).map PV.int):=by
  rw[v9,aw ⟨by omega,by omega,by rw[Int.toNat_natCast];exact aJ (by show 1*sizes.length<=1000;omega)⟩,Int.toNat_natCast,mW,List.map_replicate]
 unfold aX br
 dsimp? [pI,Q7,cF,G9,wi,Cq (m := "steps") rfl,so,c8 (p:=tI sizes) (q:=tI (dc sizes T)) sizes (dc sizes T) rfl rfl,List.length_map,aw zl,key,ef,DC,e0,H0,ownAt,mr (xs:=oy sizes T) (i:=d) (by rw[kB];exact hd),uk hd,iC (xs:=sizes) (i:=d) hd,aF (i:=cU (vf sizes) (DD T) d) (j:=vf sizes d) (by have:=fl d hd;omega),pT (i:=4) (xs:=List.replicate sizes.length 0) (j:=d) (by simp;exact hd),qw d (by omega)]
 refine j0.loop (xs:=List.range d) (inj:=fun (i:Nat)=>.int ((d:Int)-1+(i:Int)*-1)) (fun zs env=>∃ (c:Nat) (W:List Int) (y5 y6 y7:Option SV),env=[some (.sh (zC sizes Ls T idle)),some (.sh (.int (d:Int))),some (.sh (tI sizes)),some (.sh (lI (oy sizes T))),some (.ow (W.map PV.int)),y5,y6,y7]/\c<=d/\zs=(List.range d).drop c/\W.length=sizes.length/\(∀ i,i<sizes.length->0<=vf W i/\vf W i<vf sizes i)/\Wk sizes.length (vf sizes) (DD T) (R sizes) d (d-c) (vf W)) ⟨0,_,_,_,_,rfl,by omega,rfl,by simp,fun i hi=>?_,Wk.start g qd hd fun i hi=>?_⟩ ?_ ?_
 ·rw[jQ (by simp;exact hi),mv]
  have:=fl i hi
  split
  ·rename_i z;subst z;exact⟨Int.emod_nonneg _ (by omega),Int.emod_lt_of_pos _ (by omega)⟩
  ·omega
 ·rw[jQ (by simp;exact hi),mv]
 ·rintro k r env ⟨c,W,y5,y6,y7,rfl,hc,hz,Wl,W0,Wt⟩
  obtain⟨c1,c2,c3⟩:=drop_cons hz.symm
  rw[List.length_range] at c1
  have ek:k=c:=by rw[List.getElem?_range c1] at c2;exact(Option.some.inj c2).symm
  subst ek
  obtain⟨a,ha⟩:∃ a,a=d-1-k:=⟨_,rfl⟩
  have ea:((d:Int)-1+(k:Int)*-1)=(a:Int):=by omega
  have an:a<sizes.length:=by omega
  have fa:=fl a an
  have r1:=Q.st.wf.rQ an
  have rk:∀ i,i<sizes.length->0<=vf (row T a).1 i/\vf (row T a).1 i<vf sizes i:=fun i hi=>g.iG a an i hi
  have we:=xt (levers:=Ls) Q.S (oj Wl W0) (oj r1 rk)
  rw[zU Wl r1] at we
  have eq:vf (row T a).1=DD T a:=rfl
  rw[eq] at we
  have p0:0<=eU sizes.length (vf sizes) (R sizes) (vf W) (DD T a)%R sizes:=Int.emod_nonneg _ (by omega)
  have p1:eU sizes.length (vf sizes) (R sizes) (vf W) (DD T a)%R sizes<R sizes:=Int.emod_lt_of_pos _ q0
  have fR:cU (vf sizes) (DD T) a∣R sizes:=Int.dvd_trans ⟨_,(fu g an).1.symm⟩ (qd a an)
  have s0:0<R sizes/cU (vf sizes) (DD T) a:=by
   obtain⟨x,hx⟩:=fR
   rw[hx,Int.mul_ediv_cancel_left _ (by omega)]
   rcases Int.lt_trichotomy x 0 with q | q | q
   ·have:=Int.mul_neg_of_pos_of_neg fa.1 q;omega
   ·rw[q] at hx;omega
   ·exact q
  have s1:R sizes/cU (vf sizes) (DD T) a<=R sizes:=Int.ediv_le_self _ (by omega)
  have tw:PV.tup (W.map PV.int)=tI W:=rfl
  dsimp? [cH,ea,qM,ownAt,rS,pI,Q7,tw,SH,p9 (rows:=T) (d:=a) (by omega),xB,we,B6,cF,SG,mr (xs:=oy sizes T) (i:=a) (by rw[kB];exact an),uk an,aH (i:=R sizes) (j:=cU (vf sizes) (DD T) a) (by omega) (by omega),aH (i:=eU sizes.length (vf sizes) (R sizes) (vf W) (DD T a)%R sizes) (j:=R sizes/cU (vf sizes) (DD T) a) (by omega) (by omega),aF (i:=-(eU sizes.length (vf sizes) (R sizes) (vf W) (DD T a)%R sizes/(R sizes/cU (vf sizes) (DD T) a))) (j:=cU (vf sizes) (DD T) a) (by omega),H0,pT (i:=4) (xs:=W) (j:=a) (by omega)]
  refine⟨_,rfl,k+1,_,_,_,_,rfl,by omega,c3.symm,by simpa using Wl,fun i hi=>?_,?_⟩
  ·rw[jQ (by omega)]
   split
   ·rename_i z;subst z
    have h1:=Int.emod_nonneg (-(eU sizes.length (vf sizes) (R sizes) (vf W) (DD T i)%R sizes/(R sizes/cU (vf sizes) (DD T) i))) (show cU (vf sizes) (DD T) i≠0 by omega)
    have h2:=Int.emod_lt_of_pos (-(eU sizes.length (vf sizes) (R sizes) (vf W) (DD T i)%R sizes/(R sizes/cU (vf sizes) (DD T) i))) fa.1
    omega
   ·exact W0 i hi
  ·rw[show d-(k+1)=a by omega]
   refine Wk.next g q0 qd hd (w:=vf W) (by rw[show a+1=d-k by omega];exact Wt) (by omega) ?_ fun i hi hne=>?_
   ·rw[jQ (by omega),if_pos rfl]
   ·rw[jQ (by omega),if_neg hne]
 ·rintro env ⟨c,W,y5,y6,y7,rfl,hc,hz,Wl,W0,Wt⟩
  have:c=d:=by
   have:=congrArg List.length hz
   rw[List.length_drop,List.length_range] at this
   simp at this;omega
  subst this
  rw[Nat.sub_self] at Wt
  exact⟨_,rfl,W,rfl,Wl,W0,Wt⟩
end
theorem Kr(ns:List Int):∃ c,ij [.kS (ns.map PV.int),.int 0]=M.ok (.int c):=by
 unfold ij fP
 by_cases h:0<ns.length
 ·refine⟨ns[0],?_⟩
  have h':(0:Int)<((ns.length:Nat):Int):=by omega
  have e:aM (.kS (ns.map PV.int)) (.int 0)=M.ok (.int ns[0]):=bQ (p:=.kS (ns.map PV.int)) (xs:=ns.map PV.int) (j:=0) (x:=.int ns[0]) rfl (by rw[List.getElem?_map,List.getElem?_eq_getElem h];rfl)
  dsimp? [List.length_map,h',decide_true,e]
 ·have h':¬ (0:Int)<((ns.length:Nat):Int):=by omega
  refine⟨(0+2)*104729%65537,?_⟩
  dsimp? [List.length_map,h',decide_false,aZ (i:=0+2) (j:=104729) (k:=31) (l:=31) (by decide) (by decide),aF (i:=(0+2)*104729) (j:=65537) (by decide)]
theorem vg(c:Int)(k:Nat)(hk:k<=100):∃ x,bS [.int c,.int (k:Int)]=M.ok (.int x)/\0<=x/\x<2147483579:=by
 obtain⟨a,ea,a0⟩:∃ a,bZ (.int (c%2147483647*48271+7919*(k:Int)+13)) (.int 2147483629)=M.ok (.int a)/\0<=a/\a<2147483629:=⟨_,aF (by decide),Int.emod_nonneg _ (by decide),Int.emod_lt_of_pos _ (by decide)⟩
 obtain⟨b,eb,b0⟩:∃ b,bZ (.int (a*a+104729*(k:Int)+7)) (.int 2147483587)=M.ok (.int b)/\0<=b/\b<2147483587:=⟨_,aF (by decide),Int.emod_nonneg _ (by decide),Int.emod_lt_of_pos _ (by decide)⟩
 refine⟨b*b%2147483579,?_,Int.emod_nonneg _ (by decide),Int.emod_lt_of_pos _ (by decide)⟩
 unfold bS dG
 dsimp? [aF (i:=c) (j:=2147483647) (by decide),aZ (i:=c%2147483647) (j:=48271) (k:=32) (l:=31) (by omega) (by decide),aZ (i:=7919) (j:=(k:Int)) (k:=31) (l:=31) (by decide) (by omega),ea,aZ (i:=a) (j:=a) (k:=32) (l:=32) (by omega) (by omega),aZ (i:=104729) (j:=(k:Int)) (k:=31) (l:=31) (by decide) (by omega),eb,aZ (i:=b) (j:=b) (k:=32) (l:=32) (by omega) (by omega),aF (i:=b*b) (j:=2147483579) (by decide)]
theorem nJ(c:Int)(p:PV)(bases:List Int)(hp:cy p=some (bases.map PV.int))(hb:∀ b∈bases,0<b/\b<2^60)(hl:bases.length<=100):∃ xs:List Int,bO [.int c,p]=M.ok (tI xs)/\xs.length=bases.length/\∀ z∈xs.zip bases,0<=z.1/\z.1<z.2:=by
 suffices h:j0 (bO [.int c,p]) fun q=>∃ xs:List Int,q=tI xs/\xs.length=bases.length/\∀ z∈xs.zip bases,0<=z.1/\z.1<z.2 by
  obtain⟨_,e,xs,rfl,q⟩:=h
  exact⟨xs,e,q⟩
 unfold bO cv
 dsimp? [k_,hp]
 refine j0.loop (xs:=bases) (inj:=PV.int) (fun r env=>∃ (d xs:List Int) (left:Int) (y:Option SV),env=[some (.sh (.int left)),some (.sh p),some (.ow (xs.map PV.int)),y]/\bases=d++r/\xs.length=d.length/\∀ z∈xs.zip d,0<=z.1/\z.1<z.2) ⟨[],[],c,none,rfl,rfl,rfl,fun _ h=>nomatch h⟩ ?_ ?_
 ·rintro b r env ⟨d,xs,left,y,rfl,hd,hx,hz⟩
  have hbb:=hb b (by rw[hd];simp)
  have dl:d.length<=100:=by
   have:=congrArg List.length hd
   rw[List.length_append] at this;omega
  dsimp? [cH,uG,ownAt,aF (i:=left) hbb.1,vi (xs:=xs.map PV.int) (show (xs.map PV.int).length<1000 by simp;omega),tV,aH (i:=left) hbb.1 (show b<2^64 by omega)]
  refine⟨_,rfl,d++[b],xs++[left%b],left/b,_,rfl,by rw[hd];simp,by simp[hx],fun z hz'=>?_⟩
  rw[List.zip_append hx] at hz'
  rcases List.mem_append.mp hz' with q | q
  ·exact hz z q
  ·rw[List.zip_cons_cons,List.zip_nil_left] at q
   rw[List.mem_singleton.mp q]
   exact⟨Int.emod_nonneg _ (by omega),Int.emod_lt_of_pos _ hbb.1⟩
 ·rintro env ⟨d,xs,left,y,rfl,hd,hx,hz⟩
  rw[List.append_nil] at hd
  subst hd
  dsimp? []
  exact⟨_,rfl,xs,rfl,hx,hz⟩
theorem ER(c:Int):∃ x,dS [.int c]=M.ok (.int x)/\2<=x/\x<=360:=by
 obtain⟨v,hv,ev⟩:=pick [2,3,4,6,8,9,12] (c/3) 7 rfl (by decide)
 obtain⟨w,hw,ew⟩:=pick [1,2,5,10,30] (c/21) 5 rfl (by decide)
 rw[show ((7:Nat):Int)=7 from rfl] at ev
 rw[show ((5:Nat):Int)=5 from rfl] at ew
 have v1:2<=v/\v<=12:=by simp at hv;omega
 have w1:1<=w/\w<=30:=by simp at hw;omega
 unfold dS fD
 by_cases h:c%3=0
 ·refine⟨2+c/3%359,?_,by omega,by omega⟩
  dsimp? [aF (i:=c) (j:=3) (by decide),h,decide_true,aH (i:=c) (j:=3) (by decide) (by decide),aF (i:=c/3) (j:=359) (by decide)]
 ·refine⟨v*w,?_,?_,?_⟩
  ·simp only[List.map_cons,List.map_nil] at ev ew
   dsimp? [aF (i:=c) (j:=3) (by decide),h,decide_false,aH (i:=c) (j:=3) (by decide) (by decide),aF (i:=c/3) (j:=7) (by decide),ev,aH (i:=c) (j:=21) (by decide) (by decide),aF (i:=c/21) (j:=5) (by decide),ew,aZ (i:=v) (j:=w) (k:=31) (l:=31) (by omega) (by omega)]
  ·have:2*1<=v*w:=Int.mul_le_mul v1.1 w1.1 (by decide) (by omega)
   omega
  ·have:v*w<=12*30:=Int.mul_le_mul v1.2 w1.2 (by omega) (by decide)
   omega
theorem Bs(c:Int):j0 (gc [.int c]) fun p=>∃ xs:List Int,p=lI xs/\Sz xs:=by
 unfold gc eO
 dsimp? [aF (i:=c) (j:=2) (by decide)]
 rcases two (c:=c) with h | h
 ·obtain⟨m,em,m1,m6⟩:∃ m:Nat,1+c/2%6=(m:Int)/\1<=m/\m<=6:=⟨(1+c/2%6).toNat,by omega,by omega,by omega⟩
  simp only[h,decide_true]
  obtain⟨xs,ex,xl,xb⟩:=nJ (c/12) (.lst (List.replicate m (.int 359))) (List.replicate m 359) (by rw[List.map_replicate];rfl) (fun b hb=>by rw[GD hb];decide) (by simp;omega)
  rw[List.length_replicate] at xl
  dsimp? [aH (i:=c) (j:=2) (by decide) (by decide),aF (i:=c/2) (j:=6) (by decide),em,aH (i:=c) (j:=12) (by decide) (by decide),xF (.int 359) m (by omega),ex,List.length_map,aw (aJ (show xs.length<=1000 by omega)),iK (f:=aj cj (fun _=>M.ok (.int 2)) (aa 0)) (inj:=PV.int) (h:=fun x=>.int (2+x)) (rest:=[]) (x0:=none) xs fun a _=>by dsimp? []]
  refine⟨_,rfl,xs.map (2+·),by rw[lI,List.map_map];rfl,by simp;omega,by simp;omega,fun x hx=>?_⟩
  obtain⟨y,hy,rfl⟩:=List.mem_map.mp hx
  obtain⟨i,hi,rfl⟩:=List.mem_iff_getElem.mp hy
  have:=xb (xs[i],359) (List.mem_iff_getElem.mpr ⟨i,by simp;omega,by simp⟩)
  simp at this;omega
 ·simp only[h,show ¬ (1:Int)=0 by decide,decide_false]
  obtain⟨v,hv,ev⟩:=pick [1,2,3,4,2,3,5,6] (c/2) 8 rfl (by decide)
  rw[show ((8:Nat):Int)=8 from rfl] at ev
  simp only[List.map_cons,List.map_nil] at ev
  obtain⟨m,rfl,m1,m6⟩:∃ m:Nat,v=(m:Int)/\1<=m/\m<=6:=⟨v.toNat,by simp at hv;omega,by simp at hv;omega,by simp at hv;omega⟩
  have ex:∀ k:Nat,∃ x:Int,k<=100->(∃ y,bS [.int (c/16),.int (k:Int)]=M.ok (.int y)/\dS [.int y]=M.ok (.int x))/\2<=x/\x<=360:=fun k=>by
   by_cases hk:k<=100
   ·obtain⟨y,ey,_⟩:=vg (c/16) k hk
    obtain⟨x,e,q⟩:=ER y
    exact⟨x,fun _=>⟨⟨y,ey,e⟩,q⟩⟩
   ·exact⟨0,fun h=>(hk h).elim⟩
  obtain⟨f,hf⟩:=Classical.skolem.mp ex
  have key:bK (cH 0) none (ai dS (ae (ai bS (ae (aj bj (aa 1) (fun _=>M.ok (.int 16))) (ae (aa 0) ak))) ak)) ((List.range m).map fun (i:Nat)=>.int (i:Int)) [none,some (.sh (.int c))]=M.ok ((List.range m).map fun k=>.int (f k)):=by
   refine iK (inj:=fun (i:Nat)=>PV.int (i:Int)) (List.range m) fun i hi=>?_
   have:=List.mem_range.mp hi
   obtain⟨⟨y,e1,e2⟩,_⟩:=hf i (by omega)
   dsimp? [aH (i:=c) (j:=16) (by decide) (by decide),e1,e2]
  dsimp? [aH (i:=c) (j:=2) (by decide) (by decide),aF (i:=c/2) (j:=8) (by decide),ev,kf (n:=(m:Int)) (by omega) (by omega),Int.toNat_natCast,List.length_map,List.length_range,aw (aJ (show m<=1000 by omega)),key]
  refine⟨_,rfl,(List.range m).map f,by rw[lI,List.map_map];rfl,by simp;omega,by simp;omega,fun x hx=>?_⟩
  obtain⟨k,hk,rfl⟩:=List.mem_map.mp hx
  have:=List.mem_range.mp hk
  exact(hf k (by omega)).2
theorem Ji{xs ys:List Int}(hl:xs.length=ys.length)(h:∀ z∈xs.zip ys,0<=z.1/\z.1<z.2):∀ i,i<ys.length->0<=vf xs i/\vf xs i<vf ys i:=fun i hi=>by
 have:=h (xs[i]'(by omega),ys[i]) (List.mem_iff_getElem.mpr ⟨i,by simp;omega,by simp⟩)
 rw[aN (by omega),aN hi]
 exact this
theorem A0{sizes:List Int}(S:Sz sizes)(c:Int):j0 (dq [.int c,lI sizes]) fun p=>∃ xs:List Int,p=tI xs/\xs.length=sizes.length/\∀ z∈xs.zip sizes,0<=z.1/\z.1<z.2:=by
 have l6:=S.h6
 unfold dq dY
 dsimp? [aF (i:=c) (j:=2) (by decide)]
 rcases two (c:=c) with h | h
 ·simp only[h,decide_true]
  obtain⟨xs,ex,xl,xb⟩:=nJ (c/2) (lI sizes) sizes rfl (fun b hb=>by have:=S.hx b hb;omega) (by omega)
  dsimp? [aH (i:=c) (j:=2) (by decide) (by decide),ex]
  exact⟨_,rfl,xs,rfl,xl,xb⟩
 ·simp only[h,show ¬ (1:Int)=0 by decide,decide_false]
  obtain⟨v,hv,ev⟩:=pick [1,2,3,6,12,30] (c/2) 6 rfl (by decide)
  rw[show ((6:Nat):Int)=6 from rfl] at ev
  simp only[List.map_cons,List.map_nil] at ev
  have v1:1<=v/\v<=30:=by simp at hv;omega
  dsimp? [aH (i:=c) (j:=2) (by decide) (by decide),aF (i:=c/2) (j:=6) (by decide),ev,k_,BG]
  refine j0.loop (xs:=sizes.zipIdx) (inj:=fun z=>.tup [.int (z.2:Int),.int z.1]) (fun r env=>∃ (d ss:List Int) (y4 y5 y6:Option SV),env=[some (.sh (.int c)),some (.sh (lI sizes)),some (.sh (.int v)),some (.ow (ss.map PV.int)),y4,y5,y6]/\sizes=d++r.map (·.1)/\ss.length=d.length/\(∀ z∈ss.zip d,0<=z.1/\z.1<z.2)/\∀ z∈r,z∈sizes.zipIdx) ⟨[],[],_,_,_,rfl,by simp,rfl,(fun _ h=>nomatch h),fun z h=>h⟩ ?_ ?_
  ·rintro⟨s,i⟩ r env ⟨d,ss,y4,y5,y6,rfl,hd,hl,hz,hm⟩
   have hi:=rF (hm (s,i) List.mem_cons_self)
   have hs:=S.hx s (by rw[hd];simp)
   obtain⟨x,ex,x0,x1⟩:=vg (c/12) i (by omega)
   have dl:d.length<=6:=by
    have:=congrArg List.length hd
    simp at this;omega
   have b1:(x/4*v).natAbs<2^62:=by
    rw[Int.natAbs_mul]
    have:(x/4).natAbs*v.natAbs<=2^30*2^5:=Nat.mul_le_mul (by omega) (by omega)
    exact Nat.lt_of_le_of_lt this (by decide)
   have m0:0<=x/4*v%s/\x/4*v%s<s:=⟨Int.emod_nonneg _ (by omega),Int.emod_lt_of_pos _ (by omega)⟩
   obtain⟨o,eo,ho⟩:∃ o:Int,zq [.bl (decide (0<x%4))]=M.ok (.int o)/\(o=0\/o=1):=by
    by_cases q:0<x%4
    ·exact⟨1,by rw[decide_eq_true q];rfl,.inr rfl⟩
    ·exact⟨0,by rw[decide_eq_false q];rfl,.inl rfl⟩
   dsimp? [bA,aH (i:=c) (j:=12) (by decide) (by decide),ex,uG,ownAt,aH (i:=x) (j:=4) (by decide) (by decide),aZ (i:=x/4) (j:=v) (k:=31) (l:=31) (by omega) (by omega),aF (i:=x/4*v) (j:=s) (by omega),aF (i:=x) (j:=4) (by decide),eo,aZ (i:=x/4*v%s) (j:=o) (k:=31) (l:=31) (by omega) (by omega),vi (xs:=ss.map PV.int) (show (ss.map PV.int).length<1000 by simp;omega),tV]
   refine⟨_,rfl,d++[s],ss++[x/4*v%s*o],_,_,_,rfl,by rw[hd];simp,by simp[hl],fun z hz'=>?_,fun z h=>hm z (List.mem_cons_of_mem _ h)⟩
   rw[List.zip_append hl] at hz'
   rcases List.mem_append.mp hz' with q | q
   ·exact hz z q
   ·rw[List.zip_cons_cons,List.zip_nil_left] at q
    rw[List.mem_singleton.mp q]
    rcases ho with rfl | rfl <;> simp <;> omega
  ·rintro env ⟨d,ss,y4,y5,y6,rfl,hd,hl,hz,_⟩
   rw[List.map_nil,List.append_nil] at hd
   subst hd
   dsimp? []
   exact⟨_,rfl,ss,rfl,hl,hz⟩
section
variable{ns:List Int}{sizes:List Int}{raw Ls:List (List Int)}{T:List Row}{idle:List (List Int)}
theorem S0:s_ ay "levers" bg (dU sizes Ls) (M.ok [])=M.ok (.tup (Ls.map tI)):=(la (fl:=pZ sizes Ls) rfl).trans (tX sizes Ls)
def ad(sizes xs ys:List Int)(t:Int):List Int:=yY ((xs.zip ys).map fun z=>z.1+t*z.2) sizes
theorem CV{xs ys:List Int}{t:Int}(S:Sz sizes)(h1:xs.length=sizes.length)(h2:ys.length=sizes.length):(ad sizes xs ys t).length=sizes.length/\∀ i,i<sizes.length->vf (ad sizes xs ys t) i=(vf xs i+t*vf ys i)%vf sizes i:=by
 have hl:((xs.zip ys).map fun z=>z.1+t*z.2).length=sizes.length:=by simp;omega
 refine⟨by rw[ad,vh,i8,hl];simp,fun i hi=>?_⟩
 rw[ad,vh,ji (by rw[hl];exact hi) hi,aN (by rw[hl];exact hi),aN (xs:=xs) (by omega),aN (xs:=ys) (by omega)]
 simp
theorem Aj{xs ys:List Int}{t:Int}(S:Sz sizes)(h1:xs.length=sizes.length)(hy:Bd 200 ys)(ht:t.natAbs<2^200):pH [dU sizes Ls,tI xs,tI ys,.int t]=M.ok (tI (ad sizes xs ys t)):=by
 have l6:=S.h6
 have k1:bK (bA 0 1) none (aj cj (aa 0) (aj bR (aa 2) (aa 1))) ((xs.zip ys).map fun z=>.tup [.int z.1,.int z.2]) [none,none,some (.sh (.int t))]=M.ok ((xs.zip ys).map fun z=>.int (z.1+t*z.2)):=by
  refine iP (p:=fun z:Int×Int=>PV.int z.1) (q:=fun z:Int×Int=>PV.int z.2) (xs.zip ys) fun z hz=>?_
  dsimp? [aZ (k:=200) (l:=200) ht (hy _ (lA hz).2)]
 have z1:(xs.zip ys).length<=sizeLine:=by rw[List.length_zip];exact aJ (Nat.le_trans (Nat.min_le_left _ _) (by omega))
 have e0:cy (.lst ((xs.zip ys).map fun z=>PV.int (z.1+t*z.2)))=some (((xs.zip ys).map fun z=>z.1+t*z.2).map PV.int):=by
  rw[qN,List.map_map];rfl
 have r:=qF (.lst ((xs.zip ys).map fun z=>PV.int (z.1+t*z.2))) (tI sizes) _ sizes e0 rfl (Dj S) (by rw[List.length_map,List.length_zip];omega)
 unfold pH mQ
 dsimp? [c8 (p:=tI xs) (q:=tI ys) xs ys rfl rfl,List.length_map,aw z1,k1,cF,G9,r]
 rfl
structure Ws (sizes:List Int) (T:List Row) (d:Nat) (W:List Int):Prop where
 len:W.length=sizes.length
 iG:∀ i,i<sizes.length->0<=vf W i/\vf W i<vf sizes i
 wk:Wk sizes.length (vf sizes) (DD T) (R sizes) d 0 (vf W)
structure Wa (sizes:List Int) (Ls:List (List Int)) (T:List Row) (idle:List (List Int)) (Wd:List (List Int)):Prop where
 len:Wd.length=sizes.length
 at_:∀ d,d<sizes.length->Ws sizes T d (Wd.getD d [])
 ev:∀ d:Nat,d<sizes.length->aX [zC sizes Ls T idle,.int (d:Int)]=M.ok (tI (Wd.getD d []))
theorem wC(Q:w8 ns sizes raw Ls T idle):∃ Wd,Wa sizes Ls T idle Wd/\bK (cH 0) none (bD aB "weights_at" aX (aa 1) (ae (aa 0) ak)) ((List.range sizes.length).map fun (i:Nat)=>.int (i:Int)) [none,some (.sh (zC sizes Ls T idle))]=M.ok (Wd.map tI):=by
 have ex:∀ d:Nat,∃ W:List Int,d<sizes.length->aX [zC sizes Ls T idle,.int (d:Int)]=M.ok (tI W)/\Ws sizes T d W:=fun d=>by
  by_cases hd:d<sizes.length
  ·obtain⟨_,e,W,rfl,w1,w2,w3⟩:=yX Q hd
   exact⟨W,fun _=>⟨e,w1,w2,w3⟩⟩
  ·exact⟨[],fun h=>(hd h).elim⟩
 obtain⟨f,hf⟩:=Classical.skolem.mp ex
 have ge:∀ d,d<sizes.length->((List.range sizes.length).map f).getD d []=f d:=fun d hd=>by
  rw[List.getD_eq_getElem?_getD,List.getElem?_map,List.getElem?_range hd];rfl
 refine⟨(List.range sizes.length).map f,⟨by simp,fun d hd=>?_,fun d hd=>?_⟩,?_⟩
 ·rw[ge d hd];exact(hf d hd).2
 ·rw[ge d hd];exact(hf d hd).1
 ·rw[List.map_map]
  refine iK (inj:=fun (i:Nat)=>PV.int (i:Int)) (List.range sizes.length) fun i hi=>?_
  dsimp? [cF,Cq (m := "weights_at") rfl,(hf i (List.mem_range.mp hi)).1]
  rfl
def WV(Wd:List (List Int)):Nat->bN:=fun d=>vf (Wd.getD d [])
def Sl(sizes:List Int)(Ls:List (List Int))(u:List Int):Prop:=∀ l,l<Ls.length->R sizes∣eU sizes.length (vf sizes) (R sizes) (vf u) (AA Ls l)
theorem Sl.LN(Q:w8 ns sizes raw Ls T idle){u:List Int}(h:Sl sizes Ls u):∀ b,b<sizes.length->R sizes∣eU sizes.length (vf sizes) (R sizes) (vf u) (DD T b):=fun b hb =>
 zK (D9 Q.S) h (Q.st.led b hb)
theorem Sl.of(Q:w8 ns sizes raw Ls T idle){u:List Int}(h:∀ b,b<sizes.length->R sizes∣eU sizes.length (vf sizes) (R sizes) (vf u) (DD T b)):Sl sizes Ls u:=fun l hl =>
 Eb (D9 Q.S) sizes.length 0 _ (by omega) (fun b _ hb=>h b hb) (Q.st.cl l (by omega))
theorem tJ(Q:w8 ns sizes raw Ls T idle){u:List Int}(hl:u.length=sizes.length)(h0:∀ i,i<sizes.length->0<=vf u i/\vf u i<vf sizes i):∃ b:Bool,cT [dU sizes Ls,tI u]=M.ok (.bl b)/\(b=true ↔ Sl sizes Ls u):=by
 have m8:=Q.m8
 have key:bK (cH 0) none (aj xu (ai lF (ae (aa 1) (ae (aa 2) (ae (aa 0) ak)))) (fun _=>M.ok (.int 0))) (Ls.map tI) [none,some (.sh (dU sizes Ls)),some (.sh (tI u))]=M.ok (Ls.map fun l=>.bl (decide (BD sizes u l=0))):=by
  refine iK (inj:=tI) Ls fun l hm=>?_
  obtain⟨k,hk,ek⟩:=List.mem_iff_getElem.mp hm
  have eg:Ls.getD k []=l:=by rw[List.getD_eq_getElem?_getD,List.getElem?_eq_getElem hk,Option.getD_some,ek]
  have a1:=Q.LL.at_ k hk
  have a2:=Q.LL.iG k hk
  unfold AA at a2
  rw[eg] at a1 a2
  dsimp? [xt (levers:=Ls) Q.S (oj hl h0) (oj a1 a2)]
 have e1:sG [.lst (Ls.map fun l=>PV.bl (decide (BD sizes u l=0)))]=M.ok (.bl ((Ls.map fun l=>decide (BD sizes u l=0)).all id)):=by
  have:=qh (Ls.map fun l=>decide (BD sizes u l=0))
  rw[List.map_map] at this
  exact this
 refine⟨(Ls.map fun l=>decide (BD sizes u l=0)).all id,?_,?_⟩
 ·unfold cT b_
  dsimp? [cF,S0,List.length_map,aw (aJ (show Ls.length<=1000 by omega)),key,e1]
 ·rw[List.all_eq_true]
  have at_:∀ k (hk:k<Ls.length),BD sizes u Ls[k]=eU sizes.length (vf sizes) (R sizes) (vf u) (AA Ls k)%R sizes:=fun k hk=>by
   have eg:Ls.getD k []=Ls[k]:=by rw[List.getD_eq_getElem?_getD,List.getElem?_eq_getElem hk,Option.getD_some]
   have a1:=Q.LL.at_ k hk
   rw[eg] at a1
   rw[zU hl a1]
   unfold AA
   rw[eg]
  constructor
  ·intro h k hk
   have:=h (decide (BD sizes u Ls[k]=0)) (List.mem_map.mpr ⟨_,List.getElem_mem hk,rfl⟩)
   rw[at_ k hk] at this
   exact Int.dvd_of_emod_eq_zero (by simpa using this)
  ·intro h b hb
   obtain⟨l,hm,rfl⟩:=List.mem_map.mp hb
   obtain⟨k,hk,rfl⟩:=List.mem_iff_getElem.mp hm
   rw[at_ k hk]
   simpa using Int.emod_eq_zero_of_dvd (h k hk)
theorem qO(Q:w8 ns sizes raw Ls T idle){Wd:List (List Int)}(wa:Wa sizes Ls T idle Wd){u:List Int}(hl:u.length=sizes.length)(h0:∀ i,i<sizes.length->0<=vf u i/\vf u i<vf sizes i)(h:Sl sizes Ls u):j0 (bW [dU sizes Ls,tI u]) fun p=>∃ t:List Int,p=tI t/\t.length=sizes.length/\(∀ d,d<sizes.length->0<=vf t d/\vf t d<aP (vf sizes) (DD T) d)/\∀ i,i<sizes.length->vf sizes i∣vf u i-bp sizes.length fun d=>vf t d*WV Wd d i:=by
 have l6:=Q.S.h6
 have l1:=Q.S.h1
 have g:=Q.st.gd
 have qd:=D9 Q.S
 have q0:=wK Q.S
 obtain⟨b,eb,hb⟩:=tJ Q hl h0
 obtain rfl:=hb.mpr h
 have so:=qC (idle:=idle) Q.S Q.st
 have hW:∀ d,d<sizes.length->Wk sizes.length (vf sizes) (DD T) (R sizes) d 0 (WV Wd d):=fun d hd=>(wa.at_ d hd).wk
 have fl:∀ i,i<sizes.length->0<cU (vf sizes) (DD T) i/\cU (vf sizes) (DD T) i<=vf sizes i/\vf sizes i<=360:=fun i hi=>⟨(fu g hi).2.1,(fu g hi).2.2,(kv Q.S i hi).2⟩
 have key:bK (bA 0 1) none (aj bj (aa 0) (aa 1)) ((sizes.zip (dc sizes T)).map fun z=>.tup [.int z.1,.int z.2]) [none,none]=M.ok ((sizes.zip (dc sizes T)).map fun z=>.int (z.1/z.2)):=by
  refine iP (p:=fun z:Int×Int=>PV.int z.1) (q:=fun z:Int×Int=>PV.int z.2) (sizes.zip (dc sizes T)) fun z hz=>?_
  obtain⟨i,hi,e⟩:=List.mem_iff_getElem.mp (lA hz).2
  rw[bc] at hi
  have e2:=iz (R:=T) hi
  rw[aN (by rw[bc];exact hi),e] at e2
  have p:=g.pos hi
  have:=kv Q.S i hi
  dsimp? [aH (i:=z.1) (j:=z.2) (by omega) (by omega)]
 have zl:(sizes.zip (dc sizes T)).length<=sizeLine:=by rw[List.length_zip];exact aJ (Nat.le_trans (Nat.min_le_left _ _) (by omega))
 have ef:PV.lst ((sizes.zip (dc sizes T)).map fun z=>PV.int (z.1/z.2))=lI (oy sizes T):=by rw[lI,oy,List.map_map];rfl
 have e0:v9 (.lst [.int 0]) (.int (sizes.length:Int))=M.ok ((List.replicate sizes.length 0).map PV.int):=by
  rw[v9,aw ⟨by omega,by omega,by rw[Int.toNat_natCast];exact aJ (by show 1*sizes.length<=1000;omega)⟩,Int.toNat_natCast,mW,List.map_replicate]
 unfold bW dN
 dsimp? [pJ (levers:=Ls) Q.S (oj hl h0),eb,Q.Mb,cF,G9,Cq (m := "steps") rfl,so,c8 (p:=tI sizes) (q:=tI (dc sizes T)) sizes (dc sizes T) rfl rfl,List.length_map,aw zl,key,ef,kB,DC,e0,qw sizes.length (by omega)]
 refine j0.loop (xs:=List.range sizes.length) (inj:=fun (i:Nat)=>.int ((sizes.length:Int)-1+(i:Int)*-1)) (fun zs env=>∃ (c:Nat) (t L:List Int) (y6:Option SV),env=[some (.sh (dU sizes Ls)),some (.sh (tI u)),some (.sh (zC sizes Ls T idle)),some (.sh (lI (oy sizes T))),some (.ow (t.map PV.int)),some (.sh (tI L)),y6]/\c<=sizes.length/\zs=(List.range sizes.length).drop c/\t.length=sizes.length/\L.length=sizes.length/\Wr sizes.length (vf sizes) (DD T) (R sizes) (WV Wd) (vf u) c (vf L) (vf t)) ⟨0,List.replicate sizes.length 0,u,_,rfl,by omega,rfl,by simp,hl,Wr.start h0 (h.LN Q) fun d hd=>mv _ _⟩ ?_ ?_
 ·rintro k r env ⟨c,t,L,y6,rfl,hc,hz,tl,Ll,wr⟩
  obtain⟨c1,c2,c3⟩:=drop_cons hz.symm
  rw[List.length_range] at c1
  have ek:k=c:=by rw[List.getElem?_range c1] at c2;exact(Option.some.inj c2).symm
  subst ek
  obtain⟨a,ha⟩:∃ a,a=sizes.length-1-k:=⟨_,rfl⟩
  have ea:((sizes.length:Int)-1+(k:Int)*-1)=(a:Int):=by omega
  have an:a<sizes.length:=by omega
  have fa:=fl a an
  have w:=wa.at_ a an
  have La:=wr.iG a an
  have q1:(vf L a/cU (vf sizes) (DD T) a).natAbs<2^60:=by
   have h1:0<=vf L a/cU (vf sizes) (DD T) a:=Int.ediv_nonneg La.1 (by omega)
   have h2:vf L a/cU (vf sizes) (DD T) a<=vf L a:=Int.ediv_le_self _ La.1
   omega
  have wb:=mB Q.S w.len w.iG
  have pa:=Aj (Ls:=Ls) (xs:=L) (ys:=Wd.getD a []) (t:=-(vf L a/cU (vf sizes) (DD T) a)) Q.S Ll wb (by omega)
  have eat:aM (.lst ((t.set a (vf L a/cU (vf sizes) (DD T) a)).map PV.int)) (.int (a:Int))=M.ok (.int (vf L a/cU (vf sizes) (DD T) a)):=by
   have:=mr (xs:=t.set a (vf L a/cU (vf sizes) (DD T) a)) (i:=a) (by rw[List.length_set];omega)
   rw[jQ (by omega),if_pos rfl] at this
   exact this
  have tw:∀ xs:List Int,AN (M.ok (tI xs))=M.ok (tI xs):=fun xs=>aw (xc xs)
  dsimp? [cH,ea,H0,ownAt,iC (xs:=L) (i:=a) (by omega),mr (xs:=oy sizes T) (i:=a) (by rw[kB];exact an),uk an,aH (i:=vf L a) (j:=cU (vf sizes) (DD T) a) (by omega) (by omega),pT (i:=4) (xs:=t) (j:=a) (by omega),qM,rS,cF,Cq (m := "weights_at") rfl,wa.ev a an,eat,pa,tw]
  obtain⟨ad1,ad2⟩:=CV (t:=-(vf L a/cU (vf sizes) (DD T) a)) Q.S Ll w.len
  refine⟨_,rfl,k+1,_,_,_,rfl,by omega,c3.symm,by simpa using tl,ad1,wr.next g q0 qd hW (d:=a) (by omega) ?_ (fun i hi hne=>?_) ad2⟩
  ·rw[jQ (by omega),if_pos rfl]
  ·rw[jQ (by omega),if_neg hne]
 ·rintro env ⟨c,t,L,y6,rfl,hc,hz,tl,Ll,wr⟩
  have:c=sizes.length:=by
   have:=congrArg List.length hz
   rw[List.length_drop,List.length_range] at this
   simp at this;omega
  subst this
  dsimp? []
  refine⟨_,rfl,t,rfl,tl,fun d hd=>wr.tr d (by omega) hd,fun i hi=>?_⟩
  have:=wr.eq i hi
  rw[wr.z i (by omega) hi,Int.zero_add] at this
  exact this
theorem yh(Q:w8 ns sizes raw Ls T idle){u:List Int}(hl:u.length=sizes.length)(h0:∀ i,i<sizes.length->0<=vf u i/\vf u i<vf sizes i)(h:¬ Sl sizes Ls u):bW [dU sizes Ls,tI u]=M.ok .cz:=by
 obtain⟨b,eb,hb⟩:=tJ Q hl h0
 have:b=false:=by
  cases b with
  | false=>rfl
  | true=>exact(h (hb.mp rfl)).elim
 subst this
 unfold bW dN
 dsimp? [pJ (levers:=Ls) Q.S (oj hl h0),eb]
theorem xC{p:PV}(h:aR [dU sizes Ls,p]=M.ok (.bl false)):bW [dU sizes Ls,p]=some (.error (aI,none)):=by
 unfold bW dN
 dsimp? [DK h]
end
theorem E5(i j:Nat)(env:af)(p q:PV):Kg i j env [p,q]=M.ok (.nx ((env.set i (some (.sh p))).set j (some (.sh q)))):=rfl
theorem BY(sizes:List Int)(h:Sz sizes):gz [lI sizes]=M.ok (.int (R sizes)):=by
 unfold gz eR
 dsimp? []
 refine dP sizes (fun r env=>∃ acc x y z,env=[some (.sh (lI sizes)),some (.sh (.int (acc:Nat))),x,y,z]/\Acc sizes r acc) ⟨1,_,_,_,rfl,.start h⟩ ?_ ?_
 ·rintro a r env ⟨acc,x,y,z,rfl,A⟩
  obtain⟨A2,e1,e2,e3⟩:=A.turn
  have l1:=A.lt
  have ha:=A.iG a List.mem_cons_self
  have g1:Int.gcd acc a<=acc:=Nat.le_of_dvd A.pos (Int.ofNat_dvd.mp (Int.gcd_dvd_left ..))
  have d0:0<=(acc:Int)/(Int.gcd acc a:Nat):=Int.ediv_nonneg (by omega) (by omega)
  refine⟨_,[some (.sh (lI sizes)),some (.sh (.int (Nat.lcm acc a.toNat:Nat))),some (.sh (.int a)),some (.sh (.int (Int.gcd acc a:Nat))),some (.sh (.int 0))],rfl,?_,_,_,_,_,rfl,A2⟩
  dsimp? []
  refine yx (fun env=>∃ p q:Nat,env=[some (.sh (lI sizes)),some (.sh (.int (acc:Nat))),some (.sh (.int a)),some (.sh (.int p)),some (.sh (.int q))]/\Nat.gcd p q=Int.gcd acc a) (fun env=>match env with
   | [_,_,_,_,some (.sh (.int q))]=>q.toNat
   | _=>0) ⟨acc,a.toNat,by rw[Int.toNat_of_nonneg (by omega)],?_⟩ ?_ ?_
  ·obtain⟨n,rfl⟩:=Int.eq_ofNat_of_zero_le (show 0<=a by omega)
   rfl
  ·rintro env ⟨p,q,rfl,hg⟩
   by_cases h0:(0:Int)<q
   ·refine .inr ⟨by dsimp? [h0,decide_true],[some (.sh (lI sizes)),some (.sh (.int (acc:Nat))),some (.sh (.int a)),some (.sh (.int q)),some (.sh (.int ((p%q:Nat):Int)))],?_,⟨q,p%q,rfl,?_⟩,?_⟩
    ·dsimp? [JD,E5,aF (i:=(p:Int)) h0]
     rfl
    ·rw[← hg,Nat.gcd_comm p q,Nat.gcd_rec q p,Nat.gcd_comm]
    ·show ((p%q:Nat):Int).toNat<(q:Int).toNat
     have:=Nat.mod_lt p (show 0<q by omega)
     omega
   ·exact .inl (by dsimp? [h0,decide_false])
  ·rintro env' ⟨p,q,rfl,hg⟩ hu
   have hq:q=0:=by
    revert hu
    dsimp? []
    intro hu
    have:decide ((0:Int)<q)=false:=by injection hu with hu;injection hu
    simp at this
    exact this
   subst hq
   rw[Nat.gcd_zero_right] at hg
   subst hg
   dsimp? [aH (i:=(acc:Int)) (show (0:Int)<(Int.gcd acc a:Nat) by omega) (show ((Int.gcd acc a:Nat):Int)<2^64 by omega),aZ (k:=64) (l:=64) (show ((acc:Int)/(Int.gcd acc a:Nat)).natAbs<2^64 by omega) (show a.natAbs<2^64 by omega),e1]
   rfl
 ·rintro env' ⟨acc,x,y,z,rfl,A⟩
  dsimp? []
  have:=A.val
  rw[R,← this];rfl
section
variable{ns:List Int}{sizes:List Int}{raw Ls:List (List Int)}{T:List Row}{idle:List (List Int)}
theorem Bi{W ys:List Int}(S:Sz sizes)(Wl:W.length=sizes.length)(W0:∀ x∈W,0<=x/\x<360)(yl:ys.length=sizes.length)(yb:Bd 200 ys):gA [tI W,tI ys,lI sizes]=M.ok (.int (eU sizes.length (vf sizes) (R sizes) (vf W) (vf ys)%R sizes)):=by
 have l6:=S.h6
 let tm:Int×Int×Int->Int:=fun z=>z.1*z.2.1*(R sizes/z.2.2)
 have et:((W.zip (ys.zip sizes)).map tm).sum=eU sizes.length (vf sizes) (R sizes) (vf W) (vf ys):=by
  have hl:((W.zip (ys.zip sizes)).map tm).length=sizes.length:=by simp;omega
  rw[xi,hl]
  refine fG fun i hi=>?_
  rw[aN (by rw[hl];exact hi),aN (by omega),aN (by omega),aN (by omega)]
  simp[tm]
 rw[← et]
 have k1:bK (oK 0 1 2) none (aj bR (aj bR (aa 0) (aa 1)) (aj bj (aa 3) (aa 2))) ((W.zip (ys.zip sizes)).map fun z=>.tup [.int z.1,.int z.2.1,.int z.2.2]) [none,none,none,some (.sh (.int (R sizes)))]=M.ok ((W.zip (ys.zip sizes)).map fun z=>.int (tm z)):=by
  refine D6 (p:=fun z:Int×Int×Int=>PV.int z.1) (q:=fun z:Int×Int×Int=>PV.int z.2.1) (s:=fun z:Int×Int×Int=>PV.int z.2.2) (W.zip (ys.zip sizes)) fun z hz=>?_
  obtain⟨m1,m2⟩:=List.of_mem_zip (a:=z.1) (b:=z.2) hz
  obtain⟨m3,m4⟩:=List.of_mem_zip (a:=z.2.1) (b:=z.2.2) m2
  have a1:=W0 _ m1;have a2:=yb _ m3;have a3:=rm S m4;have a4:=S.hx _ m4
  have a5:(z.1*z.2.1).natAbs<2^210:=by
   rw[Int.natAbs_mul]
   have:z.1.natAbs*z.2.1.natAbs<=2^9*2^200:=Nat.mul_le_mul (by omega) (by omega)
   exact Nat.lt_of_le_of_lt this (by decide)
  dsimp? [aH (i:=R sizes) (j:=z.2.2) (by omega) (by omega),aZ (k:=64) (l:=200) (show z.1.natAbs<2^64 by omega) a2,aZ (k:=210) (l:=64) a5 (show (R sizes/z.2.2).natAbs<2^64 by omega)]
  rfl
 have z1:(W.zip (ys.zip sizes)).length<=sizeLine:=by rw[List.length_zip];exact aJ (Nat.le_trans (Nat.min_le_left _ _) (by omega))
 have e1:wc [.lst ((W.zip (ys.zip sizes)).map fun z=>PV.int (tm z))]=M.ok (.int ((W.zip (ys.zip sizes)).map tm).sum):=by
  have:=vS ((W.zip (ys.zip sizes)).map tm)
  rw[List.map_map] at this
  exact this
 unfold gA eI
 dsimp? [BY sizes S,xH (p:=tI W) (q:=tI ys) (r:=lI sizes) W ys sizes rfl rfl rfl,List.length_map,aw z1,k1,e1,aF (i:=((W.zip (ys.zip sizes)).map tm).sum) (j:=R sizes) (wK S)]
theorem EU(S:Sz sizes){W:List Int}(hl:W.length=sizes.length)(h:∀ i,i<sizes.length->0<=vf W i/\vf W i<vf sizes i):∀ x∈W,0<=x/\x<360:=fun x hx=>by
 obtain⟨i,hi,rfl⟩:=List.mem_iff_getElem.mp hx
 have a:=h i (by omega)
 have b:=kv S i (by omega)
 rw[aN hi] at a
 omega
theorem BZ(Q:w8 ns sizes raw Ls T idle){u:List Int}(hl:u.length=sizes.length)(h0:∀ i,i<sizes.length->0<=vf u i/\vf u i<vf sizes i):j0 (gy [tI u,.lst (Ls.map tI),lI sizes]) fun p=>∃ b:Bool,p=.bl b/\(b=true ↔ Sl sizes Ls u):=by
 unfold gy eE
 dsimp? []
 refine j0.Kx (xs:=Ls) (inj:=tI) (fun zs env=>∃ (c:Nat) (y3:Option SV),env=[some (.sh (tI u)),some (.sh (.lst (Ls.map tI))),some (.sh (lI sizes)),y3]/\zs=Ls.drop c/\∀ l,l<c->l<Ls.length->R sizes∣eU sizes.length (vf sizes) (R sizes) (vf u) (AA Ls l)) ⟨0,_,rfl,rfl,fun l h=>by omega⟩ ?_ ?_
 ·rintro z r env ⟨c,y3,rfl,hz,hd⟩
  obtain⟨c1,c2,c3⟩:=drop_cons hz.symm
  rw[List.getElem?_eq_getElem c1] at c2
  have c2:=Option.some.inj c2
  have eg:Ls.getD c []=z:=by rw[List.getD_eq_getElem?_getD,List.getElem?_eq_getElem c1,Option.getD_some,c2]
  have a1:=Q.LL.at_ c c1
  have a2:=Q.LL.iG c c1
  have eA:vf z=AA Ls c:=by unfold AA;rw[eg]
  rw[← eA] at a2
  rw[eg] at a1
  have lw:=Bi (ys:=z) Q.S hl (EU Q.S hl h0) a1 (mB Q.S a1 a2)
  rw[eA] at lw
  by_cases e:eU sizes.length (vf sizes) (R sizes) (vf u) (AA Ls c)%R sizes=0
  ·dsimp? [cH,lw,e,decide_true]
   refine⟨_,rfl,c+1,_,rfl,c3.symm,fun l h1 h2=>?_⟩
   rcases Nat.lt_succ_iff_lt_or_eq.mp h1 with q | q
   ·exact hd l q h2
   ·subst q;exact Int.dvd_of_emod_eq_zero e
  ·dsimp? [cH,lw,e,decide_false]
   exact⟨_,rfl,⟨_,rfl,false,rfl,⟨fun h=>(by cases h),fun h=>(e (Int.emod_eq_zero_of_dvd (h c c1))).elim⟩⟩⟩
 ·rintro env ⟨c,y3,rfl,hz,hd⟩
  have hc:Ls.length<=c:=by
   have:=congrArg List.length hz
   rw[List.length_drop] at this
   simp at this;omega
  dsimp? []
  exact⟨_,rfl,true,rfl,⟨fun _ l hl=>hd l (by omega) hl,fun _=>rfl⟩⟩
theorem zQ(Q:w8 ns sizes raw Ls T idle){Wd:List (List Int)}(wa:Wa sizes Ls T idle Wd){t:List Int}(tl:t.length=sizes.length)(tb:∀ d,d<sizes.length->0<=vf t d/\vf t d<aP (vf sizes) (DD T) d):j0 (dJ [.lst (Wd.map tI),tI t,lI sizes]) fun p=>∃ F:List Int,p=tI F/\F.length=sizes.length/\(∀ i,i<sizes.length->0<=vf F i/\vf F i<vf sizes i)/\∀ i,i<sizes.length->vf sizes i∣vf F i-bp sizes.length fun d=>vf t d*WV Wd d i:=by
 have l6:=Q.S.h6
 have wl:=wa.len
 have er:PV.lst (List.replicate sizes.length (.int 0))=lI (List.replicate sizes.length 0):=by rw[lI,List.map_replicate]
 unfold dJ gW
 dsimp? [xF (.int 0) sizes.length (by omega),er,c8 (p:=.lst (Wd.map tI)) (q:=tI t) (f:=tI) (g:=PV.int) Wd t rfl rfl]
 refine j0.loop (xs:=Wd.zip t) (inj:=fun z=>.tup [tI z.1,.int z.2]) (fun zs env=>∃ (c:Nat) (F:List Int) (y4 y5:Option SV),env=[some (.sh (.lst (Wd.map tI))),some (.sh (tI t)),some (.sh (lI sizes)),some (.sh (lI F)),y4,y5]/\zs=(Wd.zip t).drop c/\c<=sizes.length/\F.length=sizes.length/\(∀ i,i<sizes.length->0<=vf F i/\vf F i<vf sizes i)/\∀ i,i<sizes.length->vf sizes i∣vf F i-bp c fun d=>vf t d*WV Wd d i) ⟨0,List.replicate sizes.length 0,_,_,rfl,rfl,by omega,by simp,fun i hi=>by have:=kv Q.S i hi;rw[mv];omega,fun i hi=>⟨0,by rw[mv];simp[bp]⟩⟩ ?_ ?_
 ·rintro z r env ⟨c,F,y4,y5,rfl,hz,hc,Fl,F0,Fd⟩
  obtain⟨c1,c2,c3⟩:=drop_cons hz.symm
  have c1':c<sizes.length:=by rw[List.length_zip] at c1;omega
  rw[List.getElem?_eq_getElem c1] at c2
  have c2:=Option.some.inj c2
  rw[List.getElem_zip] at c2
  have w:=wa.at_ c c1'
  have eW:Wd.getD c []=z.1:=by rw[List.getD_eq_getElem?_getD,List.getElem?_eq_getElem (by omega),Option.getD_some,← c2]
  have et:vf t c=z.2:=by rw[aN (by omega),← c2]
  rw[eW] at w
  have wb:=mB Q.S w.len w.iG
  have tc:=tb c c1'
  have p:=Q.st.gd.pos c1'
  have sv:=kv Q.S c c1'
  obtain⟨k1,k2,k3⟩:=xS Q.S (xs:=F) (ys:=z.1) (t:=z.2) Fl w.len
  have kc:bK (oK 0 1 2) none (aj bZ (aj cj (aa 0) (aj bR (aa 3) (aa 1))) (aa 2)) ((F.zip (z.1.zip sizes)).map fun z=>.tup [.int z.1,.int z.2.1,.int z.2.2]) [none,none,none,some (.sh (.int z.2))]=M.ok ((F.zip (z.1.zip sizes)).map fun y=>.int ((y.1+z.2*y.2.1)%y.2.2)):=by
   refine D6 (p:=fun z:Int×Int×Int=>PV.int z.1) (q:=fun z:Int×Int×Int=>PV.int z.2.1) (s:=fun z:Int×Int×Int=>PV.int z.2.2) (F.zip (z.1.zip sizes)) fun y hy=>?_
   obtain⟨m1,m2⟩:=List.of_mem_zip (a:=y.1) (b:=y.2) hy
   obtain⟨m3,m4⟩:=List.of_mem_zip (a:=y.2.1) (b:=y.2.2) m2
   dsimp? [aZ (k:=200) (l:=200) (show z.2.natAbs<2^200 by omega) (wb _ m3),aF (i:=y.1+z.2*y.2.1) (Dj Q.S _ m4)]
  have z1:(F.zip (z.1.zip sizes)).length<=sizeLine:=by rw[List.length_zip];exact aJ (Nat.le_trans (Nat.min_le_left _ _) (by omega))
  have ek:PV.lst ((F.zip (z.1.zip sizes)).map fun y=>PV.int ((y.1+z.2*y.2.1)%y.2.2))=lI (qK sizes F z.1 z.2):=by rw[lI,qK,List.map_map];rfl
  dsimp? [bA,xH (p:=lI F) (q:=tI z.1) (r:=lI sizes) F z.1 sizes rfl rfl rfl,List.length_map,aw z1,kc,ek]
  refine⟨_,rfl,c+1,qK sizes F z.1 z.2,_,_,rfl,c3.symm,by omega,k1,k2,fun i hi=>?_⟩
  obtain⟨x,hx⟩:=Fd i hi
  obtain⟨y,hy⟩:=k3 i hi
  refine⟨x+y,?_⟩
  have e:WV Wd c i=vf z.1 i:=by unfold WV;rw[eW]
  rw[bp,et,e,Int.mul_add,← hx,← hy]
  omega
 ·rintro env ⟨c,F,y4,y5,rfl,hz,hc,Fl,F0,Fd⟩
  have ec:c=sizes.length:=by
   have:=congrArg List.length hz
   rw[List.length_drop,List.length_zip] at this
   simp at this;omega
  subst ec
  dsimp? []
  exact⟨_,rfl,F,rfl,Fl,F0,Fd⟩
theorem zO{t:List Int}:ib [tI t,tI t]=M.ok (.bl true):=by
 refine j0.eq ?_
 unfold ib fH
 dsimp? [decide_true,c8 (p:=tI t) (q:=tI t) t t rfl rfl]
 refine j0.loop (xs:=t.zip t) (inj:=fun z=>.tup [.int z.1,.int z.2]) (fun zs env=>∃ (y2 y3:Option SV),env=[some (.sh (tI t)),some (.sh (tI t)),y2,y3]/\∀ z∈zs,z.1=z.2) ⟨_,_,rfl,fun z hz=>by
  obtain⟨i,hi,rfl⟩:=List.mem_iff_getElem.mp hz
  simp⟩ ?_ ?_
 ·rintro⟨a,b⟩ r env ⟨y2,y3,rfl,hz⟩
  have h:=hz (a,b) List.mem_cons_self
  simp only at h
  subst h
  dsimp? [bA,decide_true]
  exact⟨_,rfl,_,_,rfl,fun z h=>hz z (List.mem_cons_of_mem _ h)⟩
 ·rintro env ⟨y2,y3,rfl,_⟩
  dsimp? []
  exact⟨_,rfl,rfl⟩
theorem Ci{t:List Int}(tl:t.length=sizes.length)(tb:∀ d,d<sizes.length->0<=vf t d/\vf t d<aP (vf sizes) (DD T) d):eK [tI t,tI (dc sizes T)]=M.ok (.bl true):=by
 refine j0.eq ?_
 unfold eK dZ
 dsimp? [tl,bc,decide_true,c8 (p:=tI t) (q:=tI (dc sizes T)) t (dc sizes T) rfl rfl]
 refine j0.loop (xs:=t.zip (dc sizes T)) (inj:=fun z=>.tup [.int z.1,.int z.2]) (fun zs env=>∃ (y2 y3:Option SV),env=[some (.sh (tI t)),some (.sh (tI (dc sizes T))),y2,y3]/\∀ z∈zs,0<=z.1/\z.1<z.2) ⟨_,_,rfl,fun z hz=>by
  obtain⟨i,hi,rfl⟩:=List.mem_iff_getElem.mp hz
  rw[List.length_zip] at hi
  have hi':i<sizes.length:=by omega
  have:=tb i hi'
  rw[← iz (R:=T) hi',aN (by omega),aN (by rw[bc];exact hi')] at this
  simpa using this⟩ ?_ ?_
 ·rintro⟨a,b⟩ r env ⟨y2,y3,rfl,hz⟩
  have h:=hz (a,b) List.mem_cons_self
  dsimp? [bA,h.1,h.2,decide_true]
  exact⟨_,rfl,_,_,rfl,fun z h=>hz z (List.mem_cons_of_mem _ h)⟩
 ·rintro env ⟨y2,y3,rfl,_⟩
  dsimp? []
  exact⟨_,rfl,rfl⟩
end
section
variable{ns:List Int}{sizes:List Int}{raw Ls:List (List Int)}{T:List Row}{idle:List (List Int)}
theorem SU:rR fj fw aI=some true:=by decide
theorem TQ:Af (fun _=>false) (rR gx gg) (rR dr dm) (.exc aI none)=M.ok (.bl true):=by
 show fF ((rR dr dm aI).map .bl)=_
 rw[show rR dr dm aI=some true by decide];rfl
theorem Od:Af (fun _=>false) (rR ju jO) (rR fc eZ) (.exc aI none)=M.ok (.bl false):=by
 show fF ((rR fc eZ aI).map .bl)=_
 rw[show rR fc eZ aI=some false by decide];rfl
theorem SW:Ld Ra (.exc aI none)=M.ok (.bl true):=aw (by decide)
theorem xZ{p:PV}(h:aR [dU sizes Ls,p]=M.ok (.bl false)):eJ [dU sizes Ls,p]=M.ok (.bl true):=by
 unfold eJ cY
 dsimp? [FU,xC h,yI,x9,SU,HF,Dh,uS,TQ,Od,IE,SW]
theorem zx(xs:List Int)(k:Nat):J6 (tI xs) none (some (k:Int))=M.ok (tI (xs.take k)):=by
 show M.ok (PV.tup (nI (xs.map PV.int) none (some (k:Int))))=_
 rw[nI,HT.v7,HT.pL,List.drop_zero,Nat.sub_zero,tI,List.length_map,List.map_take,← List.take_take,List.take_of_length_le (l:=xs.map PV.int) (by simp)]
theorem pM(xs:List Int)(k:Nat):J6 (tI xs) (some ((k:Int)+1)) none=M.ok (tI (xs.drop (k+1))):=by
 show M.ok (PV.tup (nI (xs.map PV.int) (some ((k:Int)+1)) none))=_
 rw[show ((k:Int)+1)=((k+1:Nat):Int) by omega,nI,HT.v7,HT.pL,tI,List.length_map,List.map_drop]
 rcases Nat.le_total (k+1) xs.length with h | h
 ·rw[Nat.min_eq_left h,List.take_of_length_le (by rw[List.length_drop,List.length_map];omega)]
 ·rw[Nat.min_eq_right h,List.drop_of_length_le (by rw[List.length_map];omega),List.drop_of_length_le (by rw[List.length_map];omega)];simp
theorem C7(xs ys:List Int)(h:xs.length+ys.length<=1000):cj (tI xs) (tI ys)=M.ok (tI (xs++ys)):=by
 rw[tI,tI,cj,aw (aJ (by simp;omega)),tI,List.map_append]
theorem C4(xs:List Int)(k:Nat)(x:Int)(h:k<xs.length):xs.take k++[x]++xs.drop (k+1)=xs.set k x:=by
 rw[List.set_eq_take_append_cons_drop,if_pos h];simp
theorem Cn{xs:List Int}(h:xs.length≠sizes.length):uV sizes xs=false:=by
 unfold uV
 rw[decide_eq_false (by omega),Bool.false_and]
theorem xn{xs:List Int}{k:Nat}{x:Int}(h1:k<xs.length)(h2:k<sizes.length)(h:¬ (0<=x/\x<vf sizes k)):uV sizes (xs.set k x)=false:=by
 cases e:uV sizes (xs.set k x) with
 | false=>rfl
 | true =>
  have q:=zA.mp e
  have:=q.iG (x,sizes[k]) (List.mem_iff_getElem.mpr ⟨k,by simp;omega,by simp⟩)
  rw[← aN h2] at this
  exact(h this).elim
theorem six{l:List PV}{c:Int}(h:l.length=6):∃ (i:Nat) (hi:i<6),aM (.lst l) (.int (c%6))=M.ok (l[i]'(by omega)):=by
 obtain⟨j,hj⟩:=Int.eq_ofNat_of_zero_le (show 0<=c%6 by omega)
 have hj':j<6:=by omega
 exact⟨j,hj',by rw[hj];exact bQ (p:=.lst l) (j:=j) rfl (List.getElem?_eq_getElem _)⟩
theorem O9:E6 (.int 10) (.int 9)=M.ok (.int (10^9)):=by
 show cJ (decide ((0:Int)<=9/\(9:Int)<=1000000/\(10:Int).natAbs<2^64)=true) _=_
 exact aw (by decide)
theorem B_(S:Sz sizes)(c:Int){u:List Int}(hl:u.length=sizes.length):∃ p,gf [.int c,tI u,lI sizes]=M.ok p/\aR [dU sizes Ls,p]=M.ok (.bl false):=by
 have l6:=S.h6
 have l1:=S.h1
 obtain⟨k,hk⟩:=Int.eq_ofNat_of_zero_le (Int.emod_nonneg (c/6) (show (sizes.length:Int)≠0 by omega))
 have hk':k<sizes.length:=by have:=Int.emod_lt_of_pos (c/6) (show 0<(sizes.length:Int) by omega);omega
 have em:bZ (.int (c/6)) (.int (sizes.length:Int))=M.ok (.int (k:Int)):=by rw[aF (by omega),hk]
 obtain⟨j,hj,ej⟩:=six (l:=[lI u,tI (u++[0]),tI (u.set k (vf sizes k)),.cz,.tup (List.replicate sizes.length (.bl true)),tI (u.set k (-1-c/6%10^9))]) (c:=c) rfl
 have bad:aR [dU sizes Ls,[lI u,tI (u++[0]),tI (u.set k (vf sizes k)),.cz,.tup (List.replicate sizes.length (.bl true)),tI (u.set k (-1-c/6%10^9))][j]]=M.ok (.bl false):=by
  have:j=0\/j=1\/j=2\/j=3\/j=4\/j=5:=by omega
  rcases this with rfl | rfl | rfl | rfl | rfl | rfl
  ·exact ET _
  ·exact yE S (by simp;omega) (Cn (by simp;omega))
  ·exact yE S (by simp;omega) (xn (by omega) hk' (by omega))
  ·exact Fp
  ·exact FA S _ (by omega) _ l1
  ·exact yE S (by simp;omega) (xn (by omega) hk' (by omega))
 refine⟨_,?_,bad⟩
 have a1:∀ x:Int,cj (tI (u.take k)) (.tup [.int x])=M.ok (tI (u.take k++[x])):=fun x=>C7 (u.take k) [x] (by simp;omega)
 have a2:∀ x:Int,cj (tI (u.take k++[x])) (tI (u.drop (k+1)))=M.ok (tI (u.set k x)):=fun x=>by
  rw[C7 _ _ (by simp;omega),C4 u k x (by omega)]
 have a3:cj (tI u) (.tup [.int 0])=M.ok (tI (u++[0])):=C7 u [0] (by simp;omega)
 unfold gf eD
 dsimp? [show PV.lst (u.map PV.int)=lI u from rfl,aH (i:=c) (j:=6) (by decide) (by decide),em,a3,eN,qc,du,Ag,zx u k,pM u k,mr (xs:=sizes) (i:=k) hk',a1,a2,mul_one (.bl true) sizes.length (by omega),lZ]
 rw[if_pos (aJ (show 5<=1000 by decide))]
 dsimp? [uG,ownAt,eN,qc,du,Ag,zx u k,pM u k,aH (i:=c) (j:=6) (by decide) (by decide),O9,aF (i:=c/6) (j:=10^9) (by decide),a1,a2,vi (i:=4) (xs:=[lI u,tI (u++[0]),tI (u.set k (vf sizes k)),.cz,.tup (List.replicate sizes.length (.bl true))]) (show 5<1000 by decide),aF (i:=c) (j:=6) (by decide)]
 rw[ej];rfl
theorem DA(Q:w8 ns sizes raw Ls T idle)(a:Int):∃ t:List Int,t.length=sizes.length/\(∀ d,d<sizes.length->0<=vf t d/\vf t d<aP (vf sizes) (DD T) d)/\bO [.int (a/2),tI (dc sizes T)]=M.ok (tI t):=by
 have l6:=Q.S.h6
 obtain⟨xs,ex,xl,xb⟩:=nJ (a/2) (tI (dc sizes T)) (dc sizes T) rfl (fun b hb=>by
  obtain⟨i,hi,rfl⟩:=List.mem_iff_getElem.mp hb
  rw[bc] at hi
  have p:=Q.st.gd.pos hi
  have s:=kv Q.S i hi
  rw[← aN (by rw[bc];exact hi),iz hi]
  omega) (by rw[bc];omega)
 refine⟨xs,by rw[xl,bc],fun d hd=>?_,ex⟩
 have:=Ji xl xb d (by rw[bc];exact hd)
 rw[iz hd] at this
 exact this
theorem A_(Q:w8 ns sizes raw Ls T idle)(a:Int):∃ t:List Int,t.length=sizes.length/\(∀ d,d<sizes.length->0<=vf t d/\vf t d<aP (vf sizes) (DD T) d)/\bK (bA 0 1) none (aj bZ (ai bS (ae (aa 2) (ae (aj cj (fun _=>M.ok (.int 30)) (aa 0)) ak))) (aa 1)) ((dc sizes T).zipIdx.map fun z=>.tup [.int (z.2:Int),.int z.1]) [none,none,some (.sh (.int a))]=M.ok (t.map PV.int):=by
 have l6:=Q.S.h6
 have ex:∀ k:Nat,∃ x:Int,k<=100->bS [.int a,.int (k:Int)]=M.ok (.int x):=fun k=>by
  by_cases hk:k<=100
  ·obtain⟨y,ey,_⟩:=vg a k hk
   exact⟨y,fun _=>ey⟩
  ·exact⟨0,fun h=>(hk h).elim⟩
 obtain⟨f,hf⟩:=Classical.skolem.mp ex
 have ps:∀ i,i<sizes.length->0<aP (vf sizes) (DD T) i:=fun i hi=>(Q.st.gd.pos hi).1
 refine⟨(dc sizes T).zipIdx.map fun z=>f (30+z.2)%z.1,by simp[bc],fun d hd=>?_,?_⟩
 ·rw[aN (by simp[bc];exact hd)]
  simp only[List.getElem_map,List.getElem_zipIdx,Nat.zero_add]
  rw[← aN (by rw[bc];exact hd),iz hd]
  have:=ps d hd
  exact⟨Int.emod_nonneg _ (by omega),Int.emod_lt_of_pos _ this⟩
 ·rw[List.map_map]
  refine iP (p:=fun z:Int×Nat=>PV.int (z.2:Int)) (q:=fun z:Int×Nat=>PV.int z.1) (dc sizes T).zipIdx fun z hz=>?_
  have hi:=rF hz
  rw[bc] at hi
  have ez:z.1=aP (vf sizes) (DD T) z.2:=by
   have:=(List.mem_zipIdx hz).2.2
   rw[← iz hi,aN (by rw[bc];exact hi)]
   simpa using this
  have:=ps z.2 hi
  have e:=hf (30+z.2) (by omega)
  rw[Int.natCast_add,show ((30:Nat):Int)=30 from rfl] at e
  dsimp? [e,aF (i:=f (30+z.2)) (j:=z.1) (by omega)]
  rfl
theorem vR(Q:w8 ns sizes raw Ls T idle){Wd:List (List Int)}(wa:Wa sizes Ls T idle Wd){t F:List Int}(tl:t.length=sizes.length)(tb:∀ d,d<sizes.length->0<=vf t d/\vf t d<aP (vf sizes) (DD T) d)(Fl:F.length=sizes.length)(F0:∀ i,i<sizes.length->0<=vf F i/\vf F i<vf sizes i)(Fd:∀ i,i<sizes.length->vf sizes i∣vf F i-bp sizes.length fun d=>vf t d*WV Wd d i):bW [dU sizes Ls,tI F]=M.ok (tI t):=by
 have hW:∀ d,d<sizes.length->Wk sizes.length (vf sizes) (DD T) (R sizes) d 0 (WV Wd d):=fun d hd=>(wa.at_ d hd).wk
 have sl:Sl sizes Ls F:=Sl.of Q fun b hb=>B0 (D9 Q.S) hW Fd hb
 obtain⟨_,e,t',rfl,tl',tb',Fd'⟩:=qO Q wa Fl F0 sl
 have et:t'=t:=Cu (tl'.trans tl.symm) fun i hi=>by
  refine z7 Q.st.gd hW tb' tb (fun i hi=>?_) sizes.length (Nat.le_refl _) i (by omega) (by omega)
  have e1:bp sizes.length (fun d=>(vf t' d-vf t d)*WV Wd d i)=1*bp sizes.length (fun d=>vf t' d*WV Wd d i)+(-1)*bp sizes.length (fun d=>vf t d*WV Wd d i):=hU 1 (-1) _ _ _ _ fun d _=>by grind
  rw[e1]
  obtain⟨x,hx⟩:=Fd i hi
  obtain⟨y,hy⟩:=Fd' i hi
  exact⟨x-y,by rw[Int.mul_sub,← hx,← hy];omega⟩
 rw[e,et]
theorem Dx(Q:w8 ns sizes raw Ls T idle){Wd:List (List Int)}(wa:Wa sizes Ls T idle Wd){t F:List Int}(tl:t.length=sizes.length)(tb:∀ d,d<sizes.length->0<=vf t d/\vf t d<aP (vf sizes) (DD T) d)(Fl:F.length=sizes.length)(F0:∀ i,i<sizes.length->0<=vf F i/\vf F i<vf sizes i)(Fd:∀ i,i<sizes.length->vf sizes i∣vf F i-bp sizes.length fun d=>vf t d*WV Wd d i):dJ [.lst (Wd.map tI),tI t,lI sizes]=M.ok (tI F):=by
 obtain⟨_,e,F',rfl,Fl',F0',Fd'⟩:=zQ Q wa tl tb
 rw[e,E8 Fl' Fl F0' F0 fun i hi=>by
  obtain⟨x,hx⟩:=Fd i hi
  obtain⟨y,hy⟩:=Fd' i hi
  exact⟨y-x,by rw[Int.mul_sub,← hx,← hy];omega⟩]
end
theorem Ap(xs:List Int)(h:xs.length<=100):cj (.lst [.int 0]) (.lst (xs.map PV.int))=M.ok (.lst ((0::xs).map PV.int)):=by
 rw[cj,aw (aJ (by simp;omega))];rfl
theorem Kt(p:PV)(h:p=.cz):nu p .cz=M.ok (.bl false):=by subst h;rfl
theorem IA(ns:List Int):t_ [.kS (ns.map PV.int)]=M.ok (.bl true):=by
 obtain⟨c0,ec⟩:=Kr ns
 obtain⟨_,es,sizes,rfl,S⟩:=Bs c0
 have l6:=S.h6
 have l1:=S.h1
 have exL:∀ c:Int,∃ xs:List Int,dq [.int c,lI sizes]=M.ok (tI xs)/\xs.length=sizes.length/\∀ z∈xs.zip sizes,0<=z.1/\z.1<z.2:=fun c=>by
  obtain⟨_,e,xs,rfl,q⟩:=A0 S c
  exact⟨xs,e,q⟩
 obtain⟨f,hf⟩:=Classical.skolem.mp exL
 have s8:=t4 ns 1 9
 have kl:bK (cH 0) none (ai dq (ae (aa 0) (ae (aa 1) ak))) ((eX ns 1 9).map PV.int) [none,some (.sh (lI sizes))]=M.ok ((eX ns 1 9).map fun c=>tI (f c)):=by
  refine iK (inj:=PV.int) (eX ns 1 9) fun c _=>?_
  dsimp? [(hf c).1]
 have em:(eX ns 1 9).map (fun c=>tI (f c))=((eX ns 1 9).map f).map tI:=by rw[List.map_map];rfl
 have hk:∀ l∈(eX ns 1 9).map f,Hb sizes l:=fun l hl=>by
  obtain⟨c,_,rfl⟩:=List.mem_map.mp hl
  exact⟨(hf c).2.1,(hf c).2.2⟩
 have hr:∀ l∈(eX ns 1 9).map f,l.length=sizes.length/\Bd 200 l:=fun l hl=>⟨(hk l hl).len,fun x hx=>by have:=pG S (hk l hl) hx;omega⟩
 obtain⟨Ls,T,idle,Q⟩:=w8.get ns S (raw:=(eX ns 1 9).map f) (by simp;omega) hr
 have eL:(eX ns 1 9).map f=Ls:=by
  rw[Q.eL]
  exact((List.map_congr_left fun l hl=>Ds (hk l hl)).trans (List.map_id _)).symm
 rw[eL] at em
 have Q':w8 ns sizes Ls Ls T idle:=by rw[eL] at Q;exact Q
 clear Q hr hk
 have Q:=Q'
 obtain⟨Wd,wa,ew⟩:=wC Q
 have so:=qC (idle:=idle) S Q.st
 refine j0.eq ?_
 unfold t_ C_
 dsimp? [ec,es,eN,du,Ag,show J6 (.kS (ns.map PV.int)) (some 1) (some 9)=M.ok (.lst ((eX ns 1 9).map PV.int)) from zw ns 1 9,List.length_map,aw (aJ (show (eX ns 1 9).length<=1000 by omega)),kl,em,Q.Oi,Q.Mb,cF,Cq (m := "steps") rfl,so,kf (n:=(sizes.length:Int)) (by omega) (by omega),Int.toNat_natCast,List.length_range,aw (aJ (show sizes.length<=1000 by omega)),ew,show J6 (.kS (ns.map PV.int)) (some 1) (some 24)=M.ok (.lst ((eX ns 1 24).map PV.int)) from zw ns 1 24,Ap (eX ns 1 24) (by have:=t4 ns 1 24;omega)]
 refine j0.loop (xs:=0::eX ns 1 24) (inj:=PV.int) (fun zs env=>∃ (y7 y8 y9 y10 y11 y12 y13:Option SV),env=[some (.sh (.kS (ns.map PV.int))),some (.sh (lI sizes)),some (.sh (.lst (Ls.map tI))),some (.sh (dU sizes Ls)),some (.sh (zC sizes Ls T idle)),some (.sh (tI (dc sizes T))),some (.sh (.lst (Wd.map tI))),y7,y8,y9,y10,y11,y12,y13]) ⟨_,_,_,_,_,_,_,rfl⟩ ?_ ?_
 ·rintro a r env ⟨y7,y8,y9,y10,y11,y12,y13,rfl⟩
  obtain⟨t1,t1l,t1b,et1⟩:=DA Q a
  obtain⟨t2,t2l,t2b,et2⟩:=A_ Q a
  obtain⟨t,tl,tb,ht⟩:∃ t:List Int,t.length=sizes.length/\(∀ d,d<sizes.length->0<=vf t d/\vf t d<aP (vf sizes) (DD T) d)/\t=if a%2=1 then t2 else t1:=by
   by_cases h:a%2=1
   ·exact⟨t2,t2l,t2b,by rw[if_pos h]⟩
   ·exact⟨t1,t1l,t1b,by rw[if_neg h]⟩
  obtain⟨_,eF,F,rfl,Fl,F0,Fd⟩:=zQ Q wa tl tb
  have w1:=vR Q wa tl tb Fl F0 Fd
  obtain⟨pb,eo,bad⟩:=B_ (Ls:=Ls) S a Fl
  have rf:=xZ bad
  obtain⟨k,hk⟩:=Int.eq_ofNat_of_zero_le (Int.emod_nonneg a (show (sizes.length:Int)≠0 by omega))
  have hk':k<sizes.length:=by have:=Int.emod_lt_of_pos a (show 0<(sizes.length:Int) by omega);omega
  have ek:bZ (.int a) (.int (sizes.length:Int))=M.ok (.int (k:Int)):=by rw[aF (by omega),hk]
  have sk:=S.hx _ (List.getElem_mem hk')
  rw[← aN hk'] at sk
  obtain⟨x,ex,x0,x1⟩:=vg a 40 (by decide)
  rw[show ((40:Nat):Int)=40 from rfl] at ex
  obtain⟨v,hv⟩:∃ v,v=(vf F k+(1+x%(vf sizes k-1)))%vf sizes k:=⟨_,rfl⟩
  have v0:0<=v/\v<vf sizes k:=by rw[hv];exact⟨Int.emod_nonneg _ (by omega),Int.emod_lt_of_pos _ (by omega)⟩
  have ul:(F.set k v).length=sizes.length:=by simpa using Fl
  have u0:∀ i,i<sizes.length->0<=vf (F.set k v) i/\vf (F.set k v) i<vf sizes i:=fun i hi=>by
   rw[jQ (by omega)]
   split
   ·rename_i z;subst z;exact v0
   ·exact F0 i hi
  have a1:cj (tI (F.take k)) (.tup [.int v])=M.ok (tI (F.take k++[v])):=C7 (F.take k) [v] (by simp;omega)
  have a2:cj (tI (F.take k++[v])) (tI (F.drop (k+1)))=M.ok (tI (F.set k v)):=by
   rw[C7 _ _ (by simp;omega),C4 F k v (by omega)]
  obtain⟨_,est,b,rfl,hb⟩:=BZ Q ul u0
  have em2:bZ (.int (vf F k+(1+x%(vf sizes k-1)))) (.int (vf sizes k))=M.ok (.int v):=by rw[hv];exact aF (by omega)
  have zl:(dc sizes T).zipIdx.length<=sizeLine:=by rw[List.length_zipIdx,bc];exact aJ (by omega)
  have pw:∃ p,bW [dU sizes Ls,tI (F.set k v)]=M.ok p/\((b=false/\p=.cz)\/(b=true/\∃ t':List Int,p=tI t'/\eK [tI t',tI (dc sizes T)]=M.ok (.bl true)/\dJ [.lst (Wd.map tI),tI t',lI sizes]=M.ok (tI (F.set k v)))):=by
   by_cases sl:Sl sizes Ls (F.set k v)
   ·obtain⟨_,e,t',rfl,tl',tb',Fd'⟩:=qO Q wa ul u0 sl
    exact⟨_,e,.inr ⟨hb.mpr sl,t',rfl,Ci tl' tb',Dx Q wa tl' tb' ul u0 Fd'⟩⟩
   ·exact⟨_,yh Q ul u0 sl,.inl ⟨by
     cases b with
     | false=>rfl
     | true=>exact(sl (hb.mp rfl)).elim,rfl⟩⟩
  obtain⟨p,ew2,hp⟩:=pw
  by_cases h2:a%2=1
  ·rw[if_pos h2] at ht
   subst ht
   dsimp? [cH,aH (i:=a) (j:=2) (by decide) (by decide),et1,aF (i:=a) (j:=2) (by decide),h2,decide_true,Jg,List.length_map,aw zl,et2,show PV.tup (t.map PV.int)=tI t from rfl,eF,w1,zO,eo,rf,ek,ex,mr (xs:=sizes) (i:=k) hk',aF (i:=x) (j:=vf sizes k-1) (by omega),eN,qc,du,Ag,zx F k,pM F k,iC (xs:=F) (i:=k) (by omega),em2,a1,a2,ew2,est]
   rcases hp with ⟨rfl,rfl⟩ | ⟨rfl,t',rfl,be,su⟩
   ·dsimp? [Kt .cz rfl]
    exact⟨_,rfl,_,_,_,_,_,_,_,rfl⟩
   ·dsimp? [be,su,BJ,decide_true]
    exact⟨_,rfl,_,_,_,_,_,_,_,rfl⟩
  ·rw[if_neg h2] at ht
   subst ht
   dsimp? [cH,aH (i:=a) (j:=2) (by decide) (by decide),et1,aF (i:=a) (j:=2) (by decide),h2,decide_false,eF,w1,zO,eo,rf,ek,ex,mr (xs:=sizes) (i:=k) hk',aF (i:=x) (j:=vf sizes k-1) (by omega),eN,qc,du,Ag,zx F k,pM F k,iC (xs:=F) (i:=k) (by omega),em2,a1,a2,ew2,est]
   rcases hp with ⟨rfl,rfl⟩ | ⟨rfl,t',rfl,be,su⟩
   ·dsimp? [Kt .cz rfl]
    exact⟨_,rfl,_,_,_,_,_,_,_,rfl⟩
   ·dsimp? [be,su,BJ,decide_true]
    exact⟨_,rfl,_,_,_,_,_,_,_,rfl⟩
 ·rintro env ⟨y7,y8,y9,y10,y11,y12,y13,rfl⟩
  dsimp? []
  exact⟨_,rfl,rfl⟩
end xK
theorem PySem.Challenge.cw_dialvault_k43_still_weights_written_holds : PySem.Challenge.rw_dialvault_k43_still_weights_written.Holds :=
  xK.hold HD.said fun ns _ _ => xK.IA ns
end